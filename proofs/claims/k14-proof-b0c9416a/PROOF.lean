import PyProof.Rows.All
import Wide.All
import OpenK.AllK
import Wide.FinOn
import PySem.Syntax
import Lean
import PyProof.EqAt
import PyProof.EqKinds
import PyProof.TupleCall
import PyProof.TupleKey
import PyProof.DictRoadsH
import Wide.Seal
import KE.KDictList
import KE.KSortAsk
import PyProof.ListMulAny
import PyProof.FactsAll.tuple_2
import PyProof.NeData
import PyProof.P3In
import KE.KSortTup
import PyProof.EnumFor
import PyProof.EnumMake
import PyProof.Rows.EnumRows
import PyProof.CompFree
import KE.KMinKey
import KE.KBoundM
import KE.KSuperObj
import PyProof.Rows.CallKwBuiltin
import PySem.Challenge.RW_anywait_k14_whole_times_as_great
set_option linter.all false
set_option Elab.async false
set_option maxRecDepth 100000
set_option maxHeartbeats 0
set_option compiler.extract_closed false
set_option bootstrap.genMatcherCode false
abbrev QQq:=PySem.W.Frag
abbrev QQz:=List (PySem.Addr×PySem.Obj)
abbrev QZq:=PySem.Value→PySem.Shared→Prop
abbrev QZz:=PySem.Str→Option PySem.Value
def QJq:=@Option.bind_eq_some_iff
def QJz:=@Option.map_eq_some_iff
def QYq:=@List.mem_cons_of_mem
def QYz:=@List.mem_cons_self
def QXq:=@List.getElem?_eq_getElem
def QXz:=@List.mem_append
def QWq:=@PySem.Heap.get?_push_of_some
def QWz:=@List.mem_append_left
def QVq:=@List.mem_append_right
def QVz:=@Nat.le_refl
def QUq:=@Bool.and_eq_true
def QUz:=@decide_eq_true_eq
def QTq:=@List.length_append
def QTz:=@PySem.wpAny_bind
def QKq:=@PySem.wpAny_pure
def QKz:=@PySem.wpAny_mono
def QGq:=@PySem.wpAny_field
def QGz:=@PySem.wpAny_holding
def Qqq:=@PySem.Heap.lt_size
def Qqz:=@PySem.Heap.get?_push_size
def Qzq:=@PySem.wpAny_call_entry
def Qzz:=@PySem.wpAny_newObj_type
def Qjq:=@Bool.false_ne_true
def Qjz:=@List.size_toArray
def Qyq:=@List.map_cons
def Qyz:=@Bool.false_eq_true
def Qxq:=@List.getElem?_set_ne
def Qxz:=@List.getElem?_set_self
def Qwq:=@List.getElem?_append_left
def Qwz:=@Nat.lt_of_lt_of_le
def Qvq:=@Nat.ne_of_lt
def Qvz:=@List.length_map
def QAq:=@List.not_mem_nil
def QAz:=@List.length_cons
def QBq:=@List.mem_of_getElem?
def QBz:=@List.mem_cons
def QCq:=@List.getElem?_eq_some_iff
def QCz:=@List.mem_map
def QDq:=@List.mem_singleton
def QDz:=@Option.some.inj
def QEq:=@decide_eq_false
def QEz:=@List.getElem?_map
def QFq:=@Option.bind_some
def QFz:=@List.lookup_cons
def QHq:=@Nat.zero_le
def QHz:=@List.getElem?_append_right
noncomputable section
section
namespace L2
open PySem
def dg(s:Stmt):Arguments:=match s with
 |.FunctionDef _ a _ _ _ _ _ _ _ _=>a
 |_=>{posonlyargs:=[],args:=[],vararg:=none,kwonlyargs:=[],kw_defaults:=[],kwarg:=none,defaults:=[]}
def bY(s:Stmt):List Stmt:=match s with
 |.FunctionDef _ _ b _ _ _ _ _ _ _=>b
 |_=>[]
def ao(s:Stmt):Scope:=match s with
 |.FunctionDef _ _ _ _ _ _ sc _ _ _=>sc
 |_=>{kind:=.function,names:=[],isGenerator:=false,isCoroutine:=false}
end L2
end
section
namespace Tx
open PySem PySem.W L2 PyProof.Rows
theorem w0w:PySem.Challenge.rw_anywait_k14_whole_times_as_great.wellSaid=true:=by kernel_rfl
def top(i:Nat):Stmt:=PySem.Challenge.pw_anywait_k14_whole_times_as_great.main.body.getD i (.Pass ⟨0,0,0,0⟩)
abbrev s0:Stmt:=top 16
abbrev s1:Stmt:=top 17
abbrev s2:Stmt:=top 18
abbrev s3:Stmt:=top 19
abbrev s4:Stmt:=top 20
abbrev s5:Stmt:=top 21
abbrev s6:Stmt:=top 22
abbrev s7:Stmt:=top 23
abbrev s8:Stmt:=top 24
abbrev s9:Stmt:=top 25
abbrev s10:Stmt:=top 26
abbrev s11:Stmt:=top 27
abbrev s12:Stmt:=top 28
abbrev s13:Stmt:=top 29
abbrev s14:Stmt:=top 30
abbrev s15:Stmt:=top 31
abbrev s16:Stmt:=top 32
abbrev s17:Stmt:=top 35
abbrev s18:Stmt:=top 36
abbrev s19:Stmt:=top 37
abbrev s20:Stmt:=top 39
abbrev s21:Stmt:=top 40
abbrev s22:Stmt:=top 41
abbrev s23:Stmt:=top 42
abbrev s24:Stmt:=top 43
abbrev s25:Stmt:=top 48
abbrev s26:Stmt:=top 49
abbrev s27:Stmt:=top 52
abbrev s28:Stmt:=top 53
abbrev s29:Stmt:=top 54
abbrev s30:Stmt:=top 55
abbrev s31:Stmt:=top 56
abbrev s32:Stmt:=top 57
abbrev s33:Stmt:=top 58
abbrev s34:Stmt:=top 59
abbrev s35:Stmt:=top 60
abbrev s36:Stmt:=top 61
abbrev s37:Stmt:=top 62
abbrev s38:Stmt:=top 63
abbrev s39:Stmt:=top 64
abbrev s40:Stmt:=top 65
abbrev s41:Stmt:=top 47
def top2(j:Nat):Stmt:=match top 50 with|.ClassDef _ _ _ b _ _ _ _ _ _ _=>b.getD j (.Pass ⟨0,0,0,0⟩)|s=>s
abbrev s90:Stmt:=top2 0
abbrev s91:Stmt:=top2 1
abbrev s92:Stmt:=top2 2
abbrev s93:Stmt:=top2 4
def gE(P:Params)(x:Str)(i:Nat)(v:Value):DictEntry:=⟨PyData.keyHash P x,.str x i,v⟩
def fO(x:Str)(st:Stmt)(m:Value)(c:Addr):Obj:=⟨.type "function",none,.func (PySem.W.fnOf x x (dg st) (bY st) (ao st) .none .none .none m none (.ref c) .none), #[]⟩
def fQ0(x q:Str)(st:Stmt)(m:Value)(c:Addr):Obj:=⟨.type "function",none,.func (PySem.W.fnOf x q (dg st) (bY st) (ao st) .none .none .none m none (.ref c) .none), #[]⟩
noncomputable def cQ(x y:Str)(a:Nat)(l n:Int)(r s:Nat)(u v:Value)(t:Nat)(q:Int)(z:Nat):Obj:=⟨.type "code",none,.fields #[.str x a,.str y (a+1),.str "/claim/cut.py" (a+2),.int l 0,.int n 0,.int 0 0,.int 0 0,.int 3 0,.ref r,.bool true,.int 181 0,.ref s,.none,u,v,.ref t,.int q 0,.int l 0,.str "/claim/cut.py" z], #[]⟩
noncomputable def cO(x:Str)(a:Nat)(l n:Int)(r s:Nat)(u v:Value)(t:Nat)(q:Int)(z:Nat):Obj:=⟨.type "code",none,.fields #[.str x a,.str x (a+1),.str "/claim/cut.py" (a+2),.int l 0,.int n 0,.int 0 0,.int 0 0,.int 3 0,.ref r,.bool true,.int 181 0,.ref s,.none,u,v,.ref t,.int q 0,.int l 0,.str "/claim/cut.py" z], #[]⟩
def lL:Value:=.str "anywait.nets" 278
def Qo:Value:=.str "anywait.stands" 457
def ZG:Value:=.str "anywait.talks" 433
def Ga:Value:=.str "anywait.waits" 498
def oK:Value:=.str "law_anywait_k14_whole_times_as_great" 595
noncomputable def o83:Obj:=⟨.type "tuple",none,.seq #[.str "input" 284,.str "gate" 285,.str "start" 286,.str "out" 287,.str "state" 288,.str "same" 289,.str "not" 290,.str "and" 291,.str "or" 292,.str "both" 293,.str "held" 294,.str "table" 295,.str "on" 296,.str "off" 297], #[]⟩
noncomputable def Kf(P:Params):QQq:=[(3,⟨.type "dict",none,.dict #[gE P "__name__" 165 (.str "law_anywait_k14_whole_times_as_great" 595),gE P "__doc__" 166 .none,gE P "__package__" 167 .none,gE P "__loader__" 168 (.builtin "__main__.__loader__#opaque"),gE P "__spec__" 169 .none,gE P "__annotations__" 170 (.ref 6),gE P "__builtins__" 171 (.ref 4),gE P "__file__" 173 (.str "/claim/cut.py" 172),gE P "__cached__" 174 .none,gE P "_wall" 193 (.ref 21),gE P "WaitError" 213 (.ref 31),gE P "NoNet" 229 (.ref 44),gE P "NoTalk" 245 (.ref 56),gE P "NoWaits" 261 (.ref 68),gE P "NoNumber" 277 (.ref 80),gE P "LETTERS" 281 (.str "abcdefghijklmnopqrstuvwxyz" 280),gE P "LONGEST_NAME" 283 (.int 6 282),gE P "WORDS" 298 (.ref 83),gE P "MOST_INPUTS" 300 (.int 3 299),gE P "MOST_GATES" 302 (.int 5 301),gE P "MOST_WIRES" 304 (.int 4 303),gE P "MOST_TABLE_WIRES" 306 (.int 8 305),gE P "DEEPEST_HELD" 308 (.int 3 307),gE P "checked" 315 (.ref 90),gE P "is_net" 321 (.ref 95),gE P "has_parts" 327 (.ref 100),gE P "is_tuple" 336 (.ref 107),gE P "is_number" 345 (.ref 114),gE P "is_name" 351 (.ref 119),gE P "are_unlike" 357 (.ref 124),gE P "is_row" 363 (.ref 129),gE P "is_wire" 371 (.ref 136),gE P "are_wires" 377 (.ref 141),gE P "are_rows" 383 (.ref 146),gE P "is_kind" 394 (.ref 153),gE P "is_held" 403 (.ref 160),gE P "wire_names" 409 (.ref 165),gE P "waiting_gates" 415 (.ref 170),gE P "told" 421 (.ref 175),gE P "told_held" 432 (.ref 182),gE P "MOST_STATES" 436 (.int 12 435),gE P "checked_talk" 444 (.ref 189),gE P "is_talk" 450 (.ref 194),gE P "is_state" 456 (.ref 199),gE P "first_stand" 465 (.ref 206),gE P "steps_at" 471 (.ref 211),gE P "is_unasked" 480 (.ref 218),gE P "led_to" 491 (.ref 225),gE P "changed" 497 (.ref 230),gE P "LONGEST_WAIT" 501 (.int 99 500),gE P "MOST_CHANGES" 503 (.int 200 502),gE P "timed" 514 (.ref 237),gE P "check_waits" 520 (.ref 242),gE P "since_when" 526 (.ref 247),gE P "Going" 594 (.ref 292),gE P "_law_cell_at" 604 (.ref 303),gE P "_law_mixed" 614 (.ref 310),gE P "_law_next" 623 (.ref 317),gE P "_law_some" 635 (.ref 324),gE P "_law_table" 641 (.ref 329),gE P "_law_kind" 653 (.ref 336),gE P "_law_net" 659 (.ref 341),gE P "_law_talk" 665 (.ref 346),gE P "_law_ring" 671 (.ref 351),gE P "_law_chain" 685 (.ref 358),gE P "_law_meeting" 699 (.ref 365),gE P "_law_spoilt_kind" 705 (.ref 370),gE P "_law_case" 717 (.ref 377),gE P "law" 723 (.ref 382)] 69, #[]⟩),
 (90,fO "checked" s0 lL 89),
 (89,cO "checked" 309 24 1 84 85 (.ref 86) (.ref 87) 88 313 314),
 (95,fO "is_net" s1 lL 94),
 (94,cO "is_net" 316 28 1 91 92 .none .none 93 319 320),
 (100,fO "has_parts" s2 lL 99),
 (99,cO "has_parts" 322 35 1 96 97 .none .none 98 325 326),
 (107,fO "is_tuple" s3 lL 106),
 (106,cO "is_tuple" 328 39 3 101 102 (.ref 103) (.ref 104) 105 334 335),
 (114,fO "is_number" s4 lL 113),
 (113,cO "is_number" 337 41 3 108 109 (.ref 110) (.ref 111) 112 343 344),
 (119,fO "is_name" s5 lL 118),
 (118,cO "is_name" 346 43 1 115 116 .none .none 117 349 350),
 (124,fO "are_unlike" s6 lL 123),
 (123,cO "are_unlike" 352 47 1 120 121 .none .none 122 355 356),
 (129,fO "is_row" s7 lL 128),
 (128,cO "is_row" 358 49 2 125 126 .none .none 127 361 362),
 (136,fO "is_wire" s8 lL 135),
 (135,cO "is_wire" 364 51 2 130 131 (.ref 132) (.ref 133) 134 369 370),
 (141,fO "are_wires" s9 lL 140),
 (140,cO "are_wires" 372 53 4 137 138 .none .none 139 375 376),
 (146,fO "are_rows" s10 lL 145),
 (145,cO "are_rows" 378 57 2 142 143 .none .none 144 381 382),
 (153,fO "is_kind" s11 lL 152),
 (152,cO "is_kind" 384 61 3 147 148 (.ref 149) (.ref 150) 151 392 393),
 (160,fO "is_held" s12 lL 159),
 (159,cO "is_held" 395 77 3 154 155 (.ref 156) (.ref 157) 158 401 402),
 (165,fO "wire_names" s13 lL 164),
 (164,cO "wire_names" 404 79 1 161 162 .none .none 163 407 408),
 (170,fO "waiting_gates" s14 lL 169),
 (169,cO "waiting_gates" 410 81 2 166 167 .none .none 168 413 414),
 (175,fO "told" s15 lL 174),
 (174,cO "told" 416 84 3 171 172 .none .none 173 419 420),
 (182,fO "told_held" s16 lL 181),
 (181,cO "told_held" 422 100 3 176 177 (.ref 178) (.ref 179) 180 430 431),
 (189,fO "checked_talk" s17 ZG 188),
 (188,cO "checked_talk" 437 106 2 183 184 (.ref 185) (.ref 186) 187 442 443),
 (194,fO "is_talk" s18 ZG 193),
 (193,cO "is_talk" 445 110 2 190 191 .none .none 192 448 449),
 (199,fO "is_state" s19 ZG 198),
 (198,cO "is_state" 451 118 3 195 196 .none .none 197 454 455),
 (206,fO "first_stand" s20 Qo 205),
 (205,cO "first_stand" 459 125 1 200 201 (.ref 202) (.ref 203) 204 463 464),
 (211,fO "steps_at" s21 Qo 210),
 (210,cO "steps_at" 466 127 3 207 208 .none .none 209 469 470),
 (218,fO "is_unasked" s22 Qo 217),
 (217,cO "is_unasked" 472 130 3 212 213 (.ref 214) (.ref 215) 216 478 479),
 (225,fO "led_to" s23 Qo 224),
 (224,cO "led_to" 481 132 4 219 220 (.ref 221) (.ref 222) 223 489 490),
 (230,fO "changed" s24 Qo 229),
 (229,cO "changed" 492 137 3 226 227 .none .none 228 495 496),
 (242,fO "check_waits" s25 Ga 241),
 (241,cO "check_waits" 515 150 3 238 239 .none .none 240 518 519),
 (247,fO "since_when" s26 Ga 246),
 (246,cO "since_when" 521 155 3 243 244 .none .none 245 524 525),
 (303,fO "_law_cell_at" s27 oK 302),
 (302,cO "_law_cell_at" 597 187 2 297 298 (.ref 299) (.ref 300) 301 602 603),
 (310,fO "_law_mixed" s28 oK 309),
 (309,cO "_law_mixed" 605 193 3 304 305 (.ref 306) (.ref 307) 308 612 613),
 (317,fO "_law_next" s29 oK 316),
 (316,cO "_law_next" 615 196 3 311 312 (.ref 313) (.ref 314) 315 621 622),
 (324,fO "_law_some" s30 oK 323),
 (323,cO "_law_some" 624 199 5 318 319 (.ref 320) (.ref 321) 322 633 634),
 (329,fO "_law_table" s31 oK 328),
 (328,cO "_law_table" 636 204 3 325 326 .none .none 327 639 640),
 (336,fO "_law_kind" s32 oK 335),
 (335,cO "_law_kind" 642 210 4 330 331 (.ref 332) (.ref 333) 334 651 652),
 (341,fO "_law_net" s33 oK 340),
 (340,cO "_law_net" 654 220 4 337 338 .none .none 339 657 658),
 (346,fO "_law_talk" s34 oK 345),
 (345,cO "_law_talk" 660 226 4 342 343 .none .none 344 663 664),
 (351,fO "_law_ring" s35 oK 350),
 (350,cO "_law_ring" 666 234 2 347 348 .none .none 349 669 670),
 (358,fO "_law_chain" s36 oK 357),
 (357,cO "_law_chain" 672 240 2 352 353 (.ref 354) (.ref 355) 356 683 684),
 (365,fO "_law_meeting" s37 oK 364),
 (364,cO "_law_meeting" 686 251 2 359 360 (.ref 361) (.ref 362) 363 697 698),
 (370,fO "_law_spoilt_kind" s38 oK 369),
 (369,cO "_law_spoilt_kind" 700 265 3 366 367 .none .none 368 703 704),
 (377,fO "_law_case" s39 oK 376),
 (376,cO "_law_case" 706 271 2 371 372 (.ref 373) (.ref 374) 375 715 716),
 (382,fO "law" s40 oK 381),
 (381,cO "law" 718 291 1 378 379 .none .none 380 721 722),
 (237,fO "timed" s41 Ga 236),
 (236,cO "timed" 504 142 4 231 232 (.ref 233) (.ref 234) 235 512 513),
 (292,⟨.type "type",none,.cls {name:="Going",bases:=[.type "object"],mro:=[.ref 292,.type "object"],ns:=291,qualname:="Going"}, #[none,none,some (.str "Going" 527),some (.str "Going" 535),some (.builtin "object.__new__"),some (.bool true)]⟩),
 (291,⟨.type "dict",none,.dict #[gE P "__module__" 534 (.str "anywait.waits" 498),gE P "__firstlineno__" 538 (.int 157 537),gE P "__init__" 548 (.ref 261),gE P "due" 556 (.ref 268),gE P "change" 566 (.ref 275),gE P "still" 573 (.ref 282),gE P "ending" 580 (.ref 289),gE P "__static_attributes__" 587 (.ref 290),gE P "__dict__" 589 (.ref 293),gE P "__weakref__" 591 (.ref 294),gE P "__doc__" 592 .none] 4, #[]⟩),
 (261,fQ0 "__init__" "Going.__init__" s90 Ga 260),
 (260,cQ "__init__" "Going.__init__" 539 159 4 255 256 (.ref 257) (.ref 258) 259 546 547),
 (268,fQ0 "due" "Going.due" s91 Ga 267),
 (267,cQ "due" "Going.due" 549 167 2 262 263 (.ref 264) (.ref 265) 266 554 555),
 (275,fQ0 "change" "Going.change" s92 Ga 274),
 (274,cQ "change" "Going.change" 557 170 1 269 270 (.ref 271) (.ref 272) 273 564 565),
 (289,fQ0 "ending" "Going.ending" s93 Ga 288),
 (288,cQ "ending" "Going.ending" 574 182 1 283 284 (.ref 285) (.ref 286) 287 578 579),
 (83,o83)]
noncomputable def Ka:List Addr:=[3,90,89,95,94,100,99,107,106,114,113,119,118,124,123,129,128,136,135,141,140,146,145,153,152,160,159,165,164,170,169,175,174,182,181,189,188,194,193,199,198,206,205,211,210,218,217,225,224,230,229,242,241,247,246,303,302,310,309,317,316,324,323,329,328,336,335,341,340,346,345,351,350,358,357,365,364,370,369,377,376,382,381,237,236,292,291,261,260,268,267,275,274,289,288,83]
def Ke(P:Params):Ka=(Kf P).map (·.1):=rfl
abbrev Kh:PySem.W.Hook:=PySem.W.kHook Kf Ka Ke
noncomputable def lo:List Str:="_wall"::"__name__"::"WaitError"::"NoNet"::"NoTalk"::"NoWaits"::"NoNumber"::"LETTERS"::"LONGEST_NAME"::"WORDS"::"MOST_INPUTS"::"MOST_GATES"::"MOST_WIRES"::"MOST_TABLE_WIRES"::"DEEPEST_HELD"::"checked"::"is_net"::"has_parts"::"is_tuple"::"is_number"::"is_name"::"are_unlike"::"is_row"::"is_wire"::"are_wires"::"are_rows"::"is_kind"::"is_held"::"wire_names"::"waiting_gates"::"told"::"told_held"::"MOST_STATES"::"checked_talk"::"is_talk"::"is_state"::"first_stand"::"steps_at"::"is_unasked"::"led_to"::"changed"::"LONGEST_WAIT"::"MOST_CHANGES"::"timed"::"check_waits"::"since_when"::"Going"::"_law_cell_at"::"_law_mixed"::"_law_next"::"_law_some"::"_law_table"::"_law_kind"::"_law_net"::"_law_talk"::"_law_ring"::"_law_chain"::"_law_meeting"::"_law_spoilt_kind"::"_law_case"::[]
def qV:Program:=view PySem.Challenge.pw_anywait_k14_whole_times_as_great [65]
def hl:LeftO PySem.Challenge.pw_anywait_k14_whole_times_as_great qV lo (fun s=>recOk [] s) (Hook.obs Kh) (Hook.val Kh) 5736:=fun w=>by
 rw[PySem.W.Fast.te4187177175401517315,PySem.W.Fast.te5923862056798008813,PySem.W.Fast.te14364793385576792824]
 kernel_rfl
end Tx
end
section
namespace L2
open PySem PySem.Spec PyProof.Rows
abbrev Key:=Sum Int Str
def vY:Key->Value->Bool
 |.inl k,v=>Value.isInt k v
 |.inr x,v=>Value.isStrOf x v
def ae8(w:World):Key->Int
 |.inl k=>hashInt k
 |.inr x=>hashStr w x
theorem cj:∀{k:Key}{v:Value},vY k v=true->(∃i t,k=Sum.inl i/\v=Value.int i t)\/(∃x t,k=Sum.inr x/\v=Value.str x t)
 |.inl i,v,h=>by
  obtain⟨t,e⟩:=Value.isInt_shape h
  exact .inl ⟨i,t,rfl,e⟩
 |.inr x,v,h=>by
  obtain⟨t,e⟩:=Value.isStrOf_shape h
  exact .inr ⟨x,t,rfl,e⟩
def Jk i t:vY (.inl i) (.int i t)=true:=by simp[vY,Value.isInt]
def Jj x t:vY (.inr x) (.str x t)=true:=by simp[vY,Value.isStrOf]
def XD a b:decide ((Sum.inl a:Key)=Sum.inl b)=(a==b):=by
 by_cases e:a=b
 ·subst e;simp
 ·rw[QEq (fun q=>e (Sum.inl.inj q))]
  exact(beq_eq_false_iff_ne.mpr e).symm
def Xz a b:decide ((Sum.inr a:Key)=Sum.inr b)=decide (a=b):=by
 by_cases e:a=b
 ·subst e;simp
 ·rw[QEq (fun q=>e (Sum.inr.inj q)),QEq e]
def XC a b:decide ((Sum.inl a:Key)=Sum.inr b)=false:=QEq (fun q=>nomatch q)
def CW a b:decide ((Sum.inr a:Key)=Sum.inl b)=false:=QEq (fun q=>nomatch q)
noncomputable def cD(prog:Program)(w:World):PySem.KeyKind prog w Key where
 is:=vY
 hash:=ae8 w
 inj:=fun v a b ha hb=>by
  rcases cj ha with ⟨i,t,rfl,rfl⟩|⟨x,t,rfl,rfl⟩
  ·rcases cj hb with ⟨j,u,rfl,e⟩|⟨y,u,rfl,e⟩
   ·injection e with e1 _;rw[e1]
   ·exact nomatch e
  ·rcases cj hb with ⟨j,u,rfl,e⟩|⟨y,u,rfl,e⟩
   ·exact nomatch e
   ·injection e with e1 _;rw[e1]
 byValue:=fun k v h=>by
  rcases cj h with ⟨i,t,rfl,rfl⟩|⟨x,t,rfl,rfl⟩<;>rfl
 pyHash:=fun hv h=>by
  rcases cj hv with ⟨i,t,rfl,rfl⟩|⟨x,t,rfl,rfl⟩
  ·exact wpAny_pyHash_int h
  ·exact wpAny_pyHash_str h
 eqBool:=fun hu hv h=>by
  rcases cj hu with ⟨i,t,rfl,rfl⟩|⟨x,t,rfl,rfl⟩
  ·rcases cj hv with ⟨j,u,rfl,rfl⟩|⟨y,u,rfl,rfl⟩
   ·rw[XD]at h;exact wpAny_eqBool_int h
   ·rw[XC]at h;exact SeqAt.EqAt.int_str i t y u _ _ _ _ h
  ·rcases cj hv with ⟨j,u,rfl,rfl⟩|⟨y,u,rfl,rfl⟩
   ·rw[CW]at h;exact SeqAt.EqAt.str_int x t j u _ _ _ _ h
   ·rw[Xz]at h;exact wpAny_eqBool_str h
 «strs»:=fun k x t v h=>by
  rcases cj h with ⟨i,u,rfl,e⟩|⟨y,u,rfl,e⟩
  ·exact nomatch e
  ·injection e with e1 _
   subst e1
   cases v<;>rfl
def zL prog w i t:(cD prog w).is (.inl i) (.int i t)=true:=Jk i t
def zK prog w x t:(cD prog w).is (.inr x) (.str x t)=true:=Jj x t
inductive V where
 |non|bl (b:Bool)|int (i:Int)|str (x:Str)|byt (b:Array UInt8)|flt (b:UInt64)|ref (a:Addr)|ty (n:String)
 deriving DecidableEq
noncomputable def RelV:V->Value->Prop
 |.non,u=>u=Value.none
 |.bl b,u=>u=Value.bool b
 |.int i,u=>∃t,u=Value.int i t
 |.str x,u=>∃t,u=Value.str x t
 |.byt b,u=>∃t,u=Value.bytes b t
 |.flt b,u=>∃t,u=Value.float b t
 |.ref a,u=>u=Value.ref a
 |.ty n,u=>u=Value.type n
abbrev Vals:List V->List Value->Prop:=Paired RelV
theorem Vals.length{us:List Value}(r:Vals xs us):xs.length=us.length:=Paired.length r
theorem Vals.get:∀{xs:List V}{us:List Value}{i:Nat}{x:V},Vals xs us->xs[i]? =some x->∃u,us[i]? =some u/\RelV x u
 |_,_,_,_,.nil=>fun e=>by simp at e
 |_,_,0,_,.cons r _=>fun e=>by simp at e;subst e;exact⟨_,rfl,r⟩
 |_,_,i+1,x,.cons _ t=>fun e=>by
  obtain⟨u,h1,h2⟩:=Vals.get t (by simpa using e)
  exact⟨u,by simpa using h1,h2⟩
theorem Vals.set{u:Value}(r:RelV x u):∀{xs:List V}{us:List Value}(i:Nat),Vals xs us->Vals (xs.set i x) (us.set i u)
 |_,_,_,.nil=>.nil
 |_,_,0,.cons _ t=>.cons r t
 |_,_,i+1,.cons q t=>.cons q (Vals.set r i t)
theorem Vals.append:∀{xs ys:List V}{us ws:List Value},Vals xs us->Vals ys ws->Vals (xs++ys) (us++ws)
 |_,_,_,_,.nil=>fun s=>s
 |_,_,_,_,.cons r t=>fun s=>.cons r (Vals.append t s)
theorem Vals.take:∀{xs:List V}{us:List Value}(n:Nat),Vals xs us->Vals (xs.take n) (us.take n)
 |_,_,0,_=>.nil
 |_,_,_+1,.nil=>.nil
 |_,_,n+1,.cons r t=>.cons r (Vals.take n t)
theorem Vals.drop:∀{xs:List V}{us:List Value}(n:Nat),Vals xs us->Vals (xs.drop n) (us.drop n)
 |_,_,0,r=>r
 |_,_,_+1,.nil=>.nil
 |_,_,n+1,.cons _ t=>Vals.drop n t
def iz:Option V->Option Value->Prop
 |some v,some u=>RelV v u
 |none,none=>True
 |_,_=>False
def KV{κ:Type}:List (κ×V)->List (κ×Value)->Prop:=Paired fun(p:κ×V)(q:κ×Value)=>p.1=q.1/\RelV p.2 q.2
def kV:Key->V
 |.inl i=>.int i
 |.inr x=>.str x
abbrev SK:=List Bool×Int
abbrev SV:=SK×Addr×V
def bh(b:Bool):Int:=reduceHash (if b then 1 else 0)
def stH(k:SK):Int:=reduceHash (Builtin.Tuple.tupleHashOf [reduceHash (Builtin.Tuple.tupleHashOf (k.1.map bh)),hashInt k.2])
abbrev Qq:SV->SK×Addr×Value->Prop:=fun p q=>p.1=q.1/\p.2.1=q.2.1/\RelV p.2.2 q.2.2
inductive HO where
 |lst (xs:List V)
 |tup (xs:List V)
 |dK (kvs:List (Key×V))|dT (kvs:List (List Key×V))|dS (xs:List SV)
 |set (S:Int->Bool) (n:Nat)
 |ins (C dx:Addr) (fs:List (Str×V))
 |own (x:Addr)
 |xd (fs:List (Str×V))
 |met (f x:Addr)
 |rng (lo hi:Int)
 |frz (o:Obj) (u:HO)
 |tbl (ps:Array Value)
 |ext (φ:Heap->Prop)
abbrev Hp:=Addr->Option HO
def upd(H:Hp)(a:Addr)(o:HO):Hp:=fun b=>if b=a then some o else H b
def az{a:Addr}:upd H a o a=some o:=by unfold upd;rw[if_pos rfl]
def aq{a b:Addr}(h:b≠a):upd H a o b=H b:=by unfold upd;rw[if_neg h]
def abG{H:Hp}{o u:HO}(h:H a=some o)(h':H b=some u)(d:o≠u):a≠b:=by
 intro e;subst e;rw[h]at h';exact d (QDz h')
def gZ{H:Hp}{o:HO}(h:H a=some o)(h':H b=none):a≠b:=by
 intro e;subst e;rw[h]at h';cases h'
def TupOk(h:Heap)(a:Addr)(items:Array Value):Prop:=∃o,h.get? a=some o/\o.cls=.type "tuple"/\o.dict=none/\∃n,o.data=.seq items n
def TupOk.is{a:Addr}(x:TupOk h a items):IsTup h a items:=let ⟨o,e,c,_,d⟩:=x;⟨o,e,c,d⟩
def TupOk.new(h:Heap)items:TupOk (h.push {cls:=.type "tuple",data:=.seq items}) h.objs.size items:=⟨_,Qqz _ rfl,rfl,rfl,_,rfl⟩
section
variable(P:Program)(w:World)
noncomputable def cG(H:Hp)(h:Heap)(a:Addr):HO->Prop
 |.lst xs=>xs.length<=sizeLine/\∃(its:List Value)(n:Nat),Vals xs its/\h.get? a=some {cls:=.type "list",data:=.seq its.toArray n}
 |.tup xs=>xs.length<=sizeLine/\∃its:List Value,Vals xs its/\TupOk h a its.toArray
 |.dK kvs=>kvs.length<=sizeLine/\(a==sysModules)=false/\∃vs,KV kvs vs/\h.DictOf (cD P w) a vs
 |.dT kvs=>kvs.length<=sizeLine/\(a==sysModules)=false/\∃xs:List (List Key×Addr×Value),
   Paired (fun(p:List Key×V)(q:List Key×Addr×Value)=>p.1=q.1/\H q.2.1=some (.tup (p.1.map kV))/\RelV p.2 q.2.2) kvs xs/\
   ∃o es ep,h.get? a=some o/\o.ExactDict/\o.data=.dict es ep/\es.toList=xs.map (entryOfKey (tupleKind (cD P w)))/\(xs.map (·.1)).Nodup
 |.dS xs=>xs.length<=sizeLine/\(a==sysModules)=false/\(xs.map (·.1)).Nodup/\∃(ys:List (SK×Addr×Value))(o:Obj)(es:Array DictEntry)(ep:Nat),Paired Qq xs ys/\h.get? a=some o/\o.ExactDict/\o.data=.dict es ep/\es.toList=ys.map fun y=>⟨stH y.1,.ref y.2.1,y.2.2⟩
 |.set S n=>h.SetOf (intKind P w) a S n
 |.ins C dx fs=>H dx=some (.own a)/\fs.length<=1000/\dx≠a/\h.get? a=some (PySem.W.instObj C dx)/\
   ∃mA,h.Ns1 dx mA/\(∀f,iz (fs.lookup f) (mA f))/\PySem.Within mA (fs.map (·.1))
 |.own _=>∃o,h.get? a=some o
 |.xd fs=>∃mA,h.Ns1 a mA/\∀f,iz (fs.lookup f) (mA f)
 |.rng lo hi=>∃t u v,h.get? a=some {cls:=.type "range",data:=.fields #[.int lo t,.int hi u,.int 1 v]}
 |.frz o u=>h.get? a=some o/\cG H h a u
 |.tbl ps=>h.get? a=some {cls:=.none,data:=.fields ps}
 |.met f x=>h.get? a=some (PySem.W.methodObj (.ref f) (.ref x))
 |.ext φ=>φ h/\(∃o,h.get? a=some o)/\∀h1 h2:Heap,φ h1->(∀o,h1.get? a=some o->h2.get? a=some o)->φ h2
def nA(H:Hp)(h:Heap):Prop:=∀a o,H a=some o->cG P w H h a o
end
section
variable{P:Program}{w:World}{H H':Hp}{h h':Heap}{a:Addr}{o:HO}
theorem cG.lt(x:cG P w H h a o):a<h.objs.size:=by
 cases o with
 |lst xs=>obtain⟨_,_,_,_,e⟩:=x;exact Qqq e
 |tup xs=>obtain⟨_,_,_,p⟩:=x;exact p.is.lt
 |dK kvs=>obtain⟨_,_,_,_,o,_,_,e,_⟩:=x;exact Qqq e
 |dT kvs=>obtain⟨_,_,_,_,o,_,_,e,_⟩:=x;exact Qqq e
 |dS xs=>obtain⟨_,_,_,_,o,_,_,_,e,_⟩:=x;exact Qqq e
 |set S n=>obtain⟨o,_,_,_,e,_⟩:=x;exact Qqq e
 |ins C dx fs=>obtain⟨_,_,_,e,_⟩:=x;exact Qqq e
 |own y=>obtain⟨_,e⟩:=x;exact Qqq e
 |xd fs=>obtain⟨_,⟨_,_,_,e,_⟩,_⟩:=x;exact Qqq e
 |rng lo hi=>obtain⟨_,_,_,e⟩:=x;exact Qqq e
 |frz ob u=>obtain⟨e,_⟩:=x;exact Qqq e
 |tbl ps=>exact Qqq (x)
 |met f y=>exact Qqq (x)
 |ext φ=>obtain⟨_,⟨_,e⟩,_⟩:=x;exact Qqq e
theorem Paired.Xu{α β:Type}{F G:α->β->Prop}:∀{l₁:List α}{l₂:List β},Paired F l₁ l₂->(∀a b,F a b->G a b)->Paired G l₁ l₂
 |_,_,.nil=>fun _=>.nil
 |_,_,.cons r t=>fun f=>.cons (f _ _ r) (Paired.Xu t f)
theorem cG.stay(x:cG P w H h a o)(k:∀b u,(b=a\/H b=some (.own a))->h.get? b=some u->h'.get? b=some u)
  (ho:∀b,H b=some (.own a)->H' b=some (.own a))(ht:∀b xs,H b=some (.tup xs)->H' b=some (.tup xs)):cG P w H' h' a o:=by
 induction o with
 |lst xs=>obtain⟨z,its,n,r,e⟩:=x;exact⟨z,its,n,r,k _ _ (.inl rfl) e⟩
 |tup xs=>obtain⟨z,its,r,ob,e,c⟩:=x;exact⟨z,its,r,ob,k _ _ (.inl rfl) e,c⟩
 |dK kvs=>obtain⟨z,y,vs,r,ob,es,ep,e,c⟩:=x;exact⟨z,y,vs,r,ob,es,ep,k _ _ (.inl rfl) e,c⟩
 |dT kvs=>
  obtain⟨z,y,xs,r,ob,es,ep,e,c⟩:=x
  exact⟨z,y,xs,Paired.Xu r fun p q z=>⟨z.1,ht _ _ z.2.1,z.2.2⟩,ob,es,ep,k _ _ (.inl rfl) e,c⟩
 |dS xs=>obtain⟨z,y,nd,ys,ob,es,ep,pr,e,c⟩:=x;exact⟨z,y,nd,ys,ob,es,ep,pr,k _ _ (.inl rfl) e,c⟩
 |set S n=>obtain⟨ob,es,ep,t,e,c⟩:=x;exact⟨ob,es,ep,t,k _ _ (.inl rfl) e,c⟩
 |ins C dx fs=>
  obtain⟨d,z,ne,e,mA,⟨od,es,ep,e2,c⟩,r⟩:=x
  exact⟨ho _ d,z,ne,k _ _ (.inl rfl) e,mA,⟨od,es,ep,k _ _ (.inr d) e2,c⟩,r⟩
 |own y=>obtain⟨ob,e⟩:=x;exact⟨ob,k _ _ (.inl rfl) e⟩
 |xd fs=>obtain⟨mA,⟨od,es,ep,e,c⟩,r⟩:=x;exact⟨mA,⟨od,es,ep,k _ _ (.inl rfl) e,c⟩,r⟩
 |rng lo hi=>obtain⟨t,u,v,e⟩:=x;exact⟨t,u,v,k _ _ (.inl rfl) e⟩
 |frz ob u ih=>obtain⟨e,q⟩:=x;exact⟨k _ _ (.inl rfl) e,ih q⟩
 |tbl ps=>
  exact k a _ (.inl rfl) x
 |met f y=>
  exact k a _ (.inl rfl) x
 |ext φ=>obtain⟨p,⟨o,e⟩,st⟩:=x;exact⟨st _ _ p fun o q=>k _ _ (.inl rfl) q,⟨o,k _ _ (.inl rfl) e⟩,st⟩
theorem nA.lt(x:nA P w H h)(e:H a=some o):a<h.objs.size:=(x a o e).lt
def nA.fresh(x:nA P w H h)(e:h.objs.size<=a):H a=none:=by
 cases q:H a with
 |none=>rfl
 |some u=>exact absurd (Qwz (x.lt q) e) (Nat.lt_irrefl _)
def nA.kept(x:nA P w H h)(k:∀b u,h.get? b=some u->h'.get? b=some u):nA P w H h':=fun a o e=>
 (x a o e).stay (fun b u _ q=>k b u q) (fun _ q=>q) fun _ _ q=>q
def nA.laid(x:nA P w H h)(k:∀b u,h.get? b=some u->h'.get? b=some u)(hp:h.objs.size<=a)(new:cG P w (upd H a o) h' a o):nA P w (upd H a o) h':=fun b u e=>by
 have hn:=x.fresh hp
 by_cases hb:b=a
 ·subst hb;rw[az]at e;cases e;exact new
 ·rw[aq hb]at e
  exact(x b u e).stay (fun c v _ q=>k c v q) (fun c q=>by rw[aq (gZ q hn)];exact q) fun c xs q=>by rw[aq (gZ q hn)];exact q
end
def Rd(H:Hp)(a:Addr)(u:HO):Prop:=H a=some u\/∃o,H a=some (.frz o u)
def Rd.ok{w:World}{h:Heap}{u:HO}(r:Rd H a u)(x:nA P w H h):cG P w H h a u:=by
 rcases r with r|⟨o,r⟩
 ·exact x a u r
 ·obtain⟨_,q⟩:=x a _ r
  exact q
def Mut:Option HO->Prop
 |some (.lst _)=>True
 |some (.dK _)=>True
 |some (.dT _)=>True
 |some (.dS _)=>True
 |some (.set _ _)=>True
 |some (.ins _ _ _)=>True
 |some (.ext _)=>True
 |_=>False
section
variable{P:Program}{w:World}{H:Hp}{h h':Heap}{x e:Addr}{o':HO}
def nA.write(ok:nA P w H h)(mu:Mut (H x))(he:e=x\/H e=some (.own x))(k:∀b u,b≠e->h.get? b=some u->h'.get? b=some u)(heo:∃u,h'.get? e=some u)
  (new:cG P w (upd H x o') h' x o'):nA P w (upd H x o') h':=fun b u q=>by
 have nown:∀c y,H c=some (.own y)->c≠x:=fun c y r z=>by subst z;rw[r]at mu;exact mu
 by_cases hb:b=x
 ·subst hb;rw[az]at q;cases q;exact new
 ·rw[aq hb]at q
  by_cases hbe:b=e
  ·have q':H b=some (.own x):=by
    rcases he with z|z
    ·exact absurd (hbe.trans z) hb
    ·rw[hbe];exact z
   rw[q]at q';cases q'
   obtain⟨v,hv⟩:=heo
   exact⟨v,by rw[hbe];exact hv⟩
  ·refine(ok b u q).stay (fun c v hc r=>k c v ?_ r) (fun c r=>by rw[aq (nown c b r)];exact r) fun c xs r=>by rw[aq ((fun c xs r z=>by subst z;rw[r]at mu;exact mu) c xs r)];exact r
   rcases hc with rfl|hc
   ·exact hbe
   ·rintro rfl
    rcases he with z|z
    ·exact nown c b hc z
    ·rw[hc]at z;cases z;exact hb rfl
end
structure Un(fs ex:List Addr)(H H':Hp)(h h':Heap):Prop where
 keep:∀b o,h.get? b=some o->H b=none->b∉fs->b∉ex->h'.get? b=some o
 slot:∀b o,h.get? b=some o->H b=none->b∈fs->b∉ex->∃sl,h'.get? b=some {o with slots:=sl}
 free:∀b o,h.get? b=some o->H b=none->b∉ex->H' b=none
 there:∀b o,h.get? b=some o->b∉ex->∃o',h'.get? b=some o'
 tups:∀b xs,H b=some (.tup xs)->H' b=some (.tup xs)
 frzs:∀b o u,H b=some (.frz o u)->H' b=some (.frz o u)
 tbls:∀b ps,H b=some (.tbl ps)->∃more,H' b=some (.tbl (ps++more))
section
variable{fs fs' ex ex':List Addr}{H H1 H2:Hp}{h h1 h2 h':Heap}{a x e:Addr}{o:HO}
def Un.any(u:Un fs ex H H1 h h1){ob:Obj}(q:h.get? b=some ob)(n:H b=none)(hx:b∉ex):∃sl,h1.get? b=some {ob with slots:=sl}:=by
 by_cases hb:b∈fs
 ·exact u.slot b ob q n hb hx
 ·exact⟨ob.slots,u.keep b ob q n hb hx⟩
def Un.kept(k:∀b u,h.get? b=some u->h'.get? b=some u):Un fs ex H H h h':=
 ⟨fun b ob q _ _ _=>k b ob q,fun b ob q _ _ _=>⟨ob.slots,k b ob q⟩,fun _ _ _ n _=>n,fun b ob q _=>⟨ob,k b ob q⟩,fun _ _ q=>q,fun _ _ _ q=>q,fun _ ps q=>⟨#[],by rw[q];simp⟩⟩
def Un.refl:Un fs ex H H h h:=Un.kept fun _ _ q=>q
theorem Un.laid(k:∀b u,h.get? b=some u->h'.get? b=some u)(hp:h.objs.size<=a)(hn:H a=none):Un fs ex H (upd H a o) h h' where
 keep:=fun b u q _ _ _=>k b u q
 slot:=fun b u q _ _ _=>⟨u.slots,k b u q⟩
 free:=fun b u q n _=>by rw[aq (Qvq (Qwz (Qqq q) hp))];exact n
 there:=fun b u q _=>⟨u,k b u q⟩
 tups:=fun b xs q=>by rw[aq (gZ q hn)];exact q
 frzs:=fun b u xs q=>by rw[aq (gZ q hn)];exact q
 tbls:=fun b ps q=>⟨#[],by rw[aq (gZ q hn),q];simp⟩
def Un.write(mu:Mut (H x))(he:e=x\/H e=some (.own x))(k:∀b u,b≠e->h.get? b=some u->h'.get? b=some u)(heo:∃u,h'.get? e=some u):Un fs ex H (upd H x o) h h':=by
 have hx:∀b,H b=none->b≠x:=fun b n z=>by subst z;rw[n]at mu;exact mu
 have hb:∀b,H b=none->b≠e:=fun b n z=>by
  subst z
  rcases he with r|r
  ·exact hx b n r
  ·rw[n]at r;cases r
 have hm:∀b u,H b=some u->¬Mut (some u)->b≠x:=fun b u q nm z=>by subst z;rw[q]at mu;exact nm mu
 refine⟨fun b u q n _ _=>k b u (hb b n) q,fun b u q n _ _=>⟨u.slots,k b u (hb b n) q⟩,fun b u q n _=>by rw[aq (hx b n)];exact n,fun b u q _=>?_,
  fun b xs q=>by rw[aq (hm b _ q fun z=>z)];exact q,fun b u xs q=>by rw[aq (hm b _ q fun z=>z)];exact q,fun b ps q=>⟨#[],by rw[aq (hm b _ q fun z=>z),q];simp⟩⟩
 by_cases hbe:b=e
 ·subst hbe;exact heo
 ·exact⟨u,k b u hbe q⟩
end
def trk(h:Heap)(H:Hp):List Addr:=(List.range h.objs.size).filter fun a=>(H a).isSome
def Jq(h:Heap)(H:Hp):Heap:=PySem.W.hideAll h (trk h H)
def Jp h H:(Jq h H).objs.size=h.objs.size:=PySem.W.hideAll_size _ _
def Nt{H:Hp}{o:Obj}(e:h.get? b=some o)(n:H b=none):(Jq h H).get? b=some o:=
 PySem.W.hideAll_get _ e fun hm=>by
  have q:=(List.mem_filter.mp hm).2
  rw[n]at q;simp at q
def RZ{H:Hp}{o:Obj}(e:(Jq h H).get? b=some o):h.get? b=some o/\H b=none:=by
 have e':=PySem.W.of_hideAll _ e
 refine⟨e',?_⟩
 cases q:H b with
 |none=>rfl
 |some x=>
  have z:(Jq h H).get? b=none:=PySem.W.hideAll_none _ (List.mem_filter.mpr ⟨List.mem_range.mpr (Qqq e'),by simp[q]⟩)
  rw[z]at e;cases e
def TY(g h:Heap)(L:Addr):List (Addr×Obj):=(List.range h.objs.size).filterMap fun a=>if a=L\/(g.get? a).isSome=true then none else(h.get? a).map fun o=>(a,o)
def rest(g h:Heap)(L d:Addr):List (Addr×Obj):=(TY g h L).filter fun p=>decide (p.1≠d)
structure Mod(K:QQq)(mg:QZz)(base:Heap):Prop where
 kin:K.In base
 glob:base.Ns mainGlobals mg
 blt:∃mb,base.Ns builtinsNs mb/\∀x:Str,x≠"__name__"->mb x=bootBuiltins x
 nolimit:base.NoLimit
structure Cx where
 prog:Program
 w:World
 K:QQq
 mg:Str->Option Value
 base:Heap
 A:Around
 N:List Str
 s₀:Shared
 H₀:Hp
 env:Env
 outer:List Env
 stack:List Env
 ex:List Addr
 fn:Str->Bool
 calm:Bool
 pn:List (Addr×Obj)
 xe:Value->Shared->Prop
def frs(l:List Env):List Addr:=l.filterMap (·.frame)
abbrev Cx.fs(X:Cx):List Addr:=frs X.outer
def JN(sc:Scope)(x:Str):Prop:=sc.names.lookup x=some .local\/sc.names.lookup x=some .cell\/sc.names.lookup x=some .free
def Loc(sc:Scope)(x:Str):Prop:=sc.names.lookup x=some .local\/sc.names.lookup x=some .cell
def Look(env:Env)(h:Heap)(m:QZz)(x:Str)(u:Value):Prop:=
 (env.kindOf x=some .local/\m x=some u)\/((env.kindOf x=some .cell\/env.kindOf x=some .free)/\∃c,env.cells.lookup x=some c/\h.IsCell c (some u))
structure Cx.Ok(X:Cx):Prop where
 mod:Mod X.K X.mg X.base
 kind:X.env.scope.kind=.function
 glob:X.env.globals=mainGlobals
 blt:X.env.builtins=builtinsNs
 above:X.s₀.heap.objs.size<=X.env.locals
 inj:∀x y c,X.env.cells.lookup x=some c->X.env.cells.lookup y=some c->x=y
 has:∀x,(X.env.kindOf x=some .cell\/X.env.kindOf x=some .free)->∃c,X.env.cells.lookup x=some c
 cab:∀x c,X.fn x=true->X.env.cells.lookup x=some c->X.s₀.heap.objs.size<=c
 hd:X.calm=true->X.A.handled=none
 frames:X.A.frames=some X.stack
 stk:X.stack=X.outer\/(X.stack=X.env::X.outer/\X.env.frame=some X.env.locals)
 exf:∀b∈X.ex,b≠X.env.locals/\∀x c,X.env.cells.lookup x=some c->c≠b
 bs:∀b o,X.base.get? b=some o->X.s₀.heap.get? b=some o/\X.H₀ b=none
 bsz:X.base.objs.size<=X.s₀.heap.objs.size
 noex:∀b o,X.base.get? b=some o->b∉X.ex
 exfs:∀b∈X.ex,b∉X.fs
 lX:X.s₀.heap.FunFrames X.base X.outer
 frf:∀b∈X.fs,X.H₀ b=none
structure Inv(X:Cx)(γ:QQz)(σ:List (Option V))(H:Hp)(s:Shared):Prop where
 ok:X.Ok
 os:s.os=X.s₀.os
 bare:AllBare s.gens
 base:Un X.fs X.ex X.H₀ H X.s₀.heap s.heap
 loc:∃m,s.heap.Ns X.env.locals m/\∀(i:Nat)(x:Str)(v:V),X.N[i]? =some x->σ[i]? =some (some v)->JN X.env.scope x->∃u,RelV v u/\Look X.env s.heap m x u
 cell:∀x c,X.env.cells.lookup x=some c->∃v,s.heap.IsCell c v
 free:H X.env.locals=none
 freeC:∀x c,X.env.cells.lookup x=some c->H c=none
 pin:∀p∈X.pn++γ,s.heap.get? p.1=some p.2/\H p.1=none/\p.1≠X.env.locals/\p.1∉X.fs/\∀v,p.2.data≠ .cell v
 hok:nA X.prog X.w H s.heap
 len:σ.length=X.N.length
section
variable{X:Cx}{γ:QQz}{σ:List (Option V)}{H H':Hp}{s:Shared}{h':Heap}
def Cx.Ok.aeZ(ok:X.Ok){o:Obj}(e:X.base.get? b=some o):b∉X.fs:=fun hb=>by
 have:=(ok.lX.mem hb).1
 rw[e]at this;cases this
theorem Inv.bs(I:Inv X γ σ H s):∀b o,X.base.get? b=some o->s.heap.get? b=some o/\H b=none:=fun b o e=>
 ⟨I.base.keep b o (I.ok.bs b o e).1 (I.ok.bs b o e).2 (I.ok.aeZ e) (I.ok.noex b o e),I.base.free b o (I.ok.bs b o e).1 (I.ok.bs b o e).2 (I.ok.noex b o e)⟩
def Inv.bk(I:Inv X γ σ H s):∀b o,X.base.get? b=some o->s.heap.get? b=some o:=fun b o e=>(I.bs b o e).1
theorem Inv.mod(I:Inv X γ σ H s):Mod X.K X.mg X.base:=I.ok.mod
def Inv.zX(I:Inv X γ σ H s):X.K.In s.heap:=I.ok.mod.kin.keeps I.bk
theorem Inv.lt(I:Inv X γ σ H s):X.env.locals<s.heap.objs.size:=let ⟨_,hn,_⟩:=I.loc;hn.lt
def Inv.sz(I:Inv X γ σ H s):X.s₀.heap.objs.size<=s.heap.objs.size:=Nat.le_trans I.ok.above (Nat.le_of_lt I.lt)
def Inv.aeY(I:Inv X γ σ H s){a:Addr}(h:s.heap.objs.size<=a):a∉X.fs:=fun hb=>by
 obtain⟨_,o,ho,_⟩:=I.ok.lX.mem hb
 exact absurd (Qwz (Qqq ho) (Nat.le_trans I.sz h)) (Nat.lt_irrefl _)
def Inv.YZ(I:Inv X γ σ H s):∀x c,X.env.cells.lookup x=some c->c≠X.env.locals:=fun x c e z=>by
 obtain⟨v,o,ho,hd⟩:=I.cell x c e
 obtain⟨m,⟨o',es,ep,ho',hd',_⟩,_⟩:=I.loc
 rw[z,ho']at ho;cases ho;rw[hd']at hd;cases hd
theorem Inv.lX(I:Inv X γ σ H s):s.heap.FunFrames X.base X.outer:=by
 have all:∀l,(∀b∈frs l,b∈X.fs)->X.s₀.heap.FunFrames X.base l->s.heap.FunFrames X.base l:=by
  intro l
  induction l with
  |nil=>intro _ _;trivial
  |cons env r ih=>
   intro hs hl
   obtain⟨hk,⟨L,o,hf,hn,ho,hd⟩,hr⟩:=hl
   have hL:=hs L (by unfold frs;rw[List.filterMap_cons,hf];exact QYz)
   obtain⟨sl,e⟩:=I.base.slot L o ho (I.ok.frf L hL) hL fun z=>I.ok.exfs L z hL
   exact⟨hk,⟨L,_,hf,hn,e,hd⟩,ih (fun b hb=>hs b (by unfold frs;rw[List.filterMap_cons,hf];exact QYq _ hb)) hr⟩
 exact all X.outer (fun _ hb=>hb) I.ok.lX
theorem Inv.stack(I:Inv X γ σ H s):s.heap.FunFrames X.base X.stack:=by
 rcases I.ok.stk with e|⟨e,hf⟩
 ·rw[e];exact I.lX
 ·rw[e]
  obtain⟨m,hn,_⟩:=I.loc
  exact .cons (by rw[I.ok.kind];decide) hf hn (Heap.get?_none_of_le (Nat.le_trans I.ok.bsz I.ok.above)) I.lX
def Inv.Bt(I:Inv X γ σ H s):∀b∈frs X.stack,b∈X.env.locals::X.fs:=fun b hb=>by
 rcases I.ok.stk with e|⟨e,hf⟩
 ·rw[e]at hb;exact QYq _ hb
 ·rw[e]at hb
  unfold frs at hb
  rw[List.filterMap_cons,hf]at hb
  exact hb
def Inv.Ey(I:Inv X γ σ H s):∀b∈frs X.stack,H b=none:=fun b hb=>by
 rcases QBz.mp (I.Bt b hb)with e|hb
 ·rw[e];exact I.free
 ·obtain⟨_,o,ho,_⟩:=I.ok.lX.mem hb
  exact I.base.free b o ho (I.ok.frf b hb) fun z=>I.ok.exfs b z hb
def Inv.step{t':Nat}{ch:List Addr}(I:Inv X γ σ H s)
  (hch:∀b∈ch,(b∈X.ex\/X.s₀.heap.objs.size<=b)/\b≠X.env.locals/\(∀x c,X.env.cells.lookup x=some c->c≠b)/\∀p∈X.pn++γ,p.1≠b)
  (keep:∀b o,b≠X.env.locals->b∉X.fs->b∉ch->s.heap.get? b=some o->H b=none->h'.get? b=some o)
  (slot:∀b o,b≠X.env.locals->b∈X.fs->b∉ch->s.heap.get? b=some o->H b=none->∃sl,h'.get? b=some {o with slots:=sl})(free:∀b o,b∉ch->s.heap.get? b=some o->H b=none->H' b=none)
  (there:∀b o,b∉ch->s.heap.get? b=some o->∃o',h'.get? b=some o')
  (tups:∀b xs,H b=some (.tup xs)->H' b=some (.tup xs))(frzs:∀b o u,H b=some (.frz o u)->H' b=some (.frz o u))(tbls:∀b ps,H b=some (.tbl ps)->∃more,H' b=some (.tbl (ps++more)))
  (ns:∀m,s.heap.Ns X.env.locals m->h'.Ns X.env.locals m)(hok:nA X.prog X.w H' h')(hg:AllBare g'):
  Inv X γ σ H' {s with heap:=h',gens:=g',drawn:=d',toks:=t'}:=by
 have neL:∀b o,X.s₀.heap.get? b=some o->b≠X.env.locals:=fun b o e=>Qvq (Qwz (Qqq e) I.ok.above)
 have neC:∀b o,X.s₀.heap.get? b=some o->b∉X.ex->b∉ch:=fun b o e hx hb=>by
  rcases (hch b hb).1 with z|z
  ·exact hx z
  ·exact absurd (Qwz (Qqq e) z) (Nat.lt_irrefl _)
 have cellK:∀x c,X.env.cells.lookup x=some c->∀v,s.heap.IsCell c v->h'.IsCell c v:=fun x c e v⟨o,ho,hd⟩=>by
  have nch:=fun z=>(hch c z).2.2.1 x c e rfl
  by_cases hc:c∈X.fs
  ·obtain⟨sl,q⟩:=slot c o (I.YZ x c e) hc nch ho (I.freeC x c e)
   exact⟨_,q,hd⟩
  ·exact⟨o,keep c o (I.YZ x c e) hc nch ho (I.freeC x c e),hd⟩
 refine⟨I.ok,I.os,hg,⟨fun b o e n hb hx=>?_,fun b o e n hb hx=>?_,fun b o e n hx=>?_,fun b o e hx=>?_,fun b xs e=>tups b xs (I.base.tups b xs e),fun b o xs e=>frzs b o xs (I.base.frzs b o xs e),fun b ps e=>?_⟩,?_,fun x c e=>?_,?_,fun x c e=>?_,fun p hp=>?_,hok,I.len⟩
 ·exact keep b o (neL b o e) hb (neC b o e hx) (I.base.keep b o e n hb hx) (I.base.free b o e n hx)
 ·obtain⟨sl,e1⟩:=I.base.slot b o e n hb hx
  obtain⟨sl',e2⟩:=slot b _ (neL b o e) hb (neC b o e hx) e1 (I.base.free b o e n hx)
  exact⟨sl',e2⟩
 ·obtain⟨o',e1⟩:=I.base.there b o e hx
  exact free b o' (neC b o e hx) e1 (I.base.free b o e n hx)
 ·obtain⟨o',e1⟩:=I.base.there b o e hx
  exact there b o' (neC b o e hx) e1
 ·obtain⟨m1,e1⟩:=I.base.tbls b ps e
  obtain⟨m2,e2⟩:=tbls b _ e1
  exact⟨m1++m2,by rw[e2,Array.append_assoc]⟩
 ·obtain⟨m,hn,hl⟩:=I.loc
  refine⟨m,ns m hn,fun i x v e1 e2 e3=>?_⟩
  obtain⟨u,r,l⟩:=hl i x v e1 e2 e3
  refine⟨u,r,?_⟩
  rcases l with l|⟨k,c,e,z⟩
  ·exact .inl l
  ·exact .inr ⟨k,c,e,cellK x c e _ z⟩
 ·obtain⟨v,z⟩:=I.cell x c e
  exact⟨v,cellK x c e v z⟩
 ·obtain⟨m,⟨o,_,_,ho,_⟩,_⟩:=I.loc
  exact free _ o (fun z=>(hch _ z).2.1 rfl) ho I.free
 ·obtain⟨v,o,ho,hd⟩:=I.cell x c e
  exact free c o (fun z=>(hch c z).2.2.1 x c e rfl) ho (I.freeC x c e)
 ·obtain⟨e,n,ne,nf,d⟩:=I.pin p hp
  have nch:=fun z=>(hch p.1 z).2.2.2 p hp rfl
  exact⟨keep p.1 p.2 ne nf nch e n,free p.1 p.2 nch e n,ne,nf,d⟩
def Inv.un(I:Inv X γ σ H s)(u:Un X.fs [] H H' s.heap h')(hok:nA X.prog X.w H' h'):Inv X γ σ H' {s with heap:=h',toks:=t'}:=by
 obtain⟨m,⟨o,es,ep,ho,r⟩,_⟩:=id I.loc
 obtain⟨sl,hL⟩:=u.any ho I.free (by simp)
 exact I.step (ch:=[]) (fun _ z=>nomatch z) (fun b o _ hb _ e n=>u.keep b o e n hb (by simp)) (fun b o _ hb _ e n=>u.slot b o e n hb (by simp)) (fun b o _ e n=>u.free b o e n (by simp)) (fun b o _ e=>u.there b o e (by simp)) u.tups u.frzs u.tbls (fun m' hm=>by
  obtain⟨o',es',ep',ho',r'⟩:=hm
  rw[ho]at ho';cases ho'
  exact⟨_,es',ep',hL,r'⟩) hok I.bare
def Inv.call{t':Nat}{ch:List Addr}(I:Inv X γ σ H s)(u:Un (frs X.stack) ch H H' s.heap h')(hok:nA X.prog X.w H' h')(hg:AllBare g')
  (hch:∀b∈ch,(b∈X.ex\/X.s₀.heap.objs.size<=b)/\b≠X.env.locals/\(∀x c,X.env.cells.lookup x=some c->c≠b)/\∀p∈X.pn++γ,p.1≠b):
  Inv X γ σ H' {s with heap:=h',gens:=g',drawn:=d',toks:=t'}:=by
 obtain⟨m,⟨o,es,ep,ho,r⟩,_⟩:=id I.loc
 obtain⟨sl,hL⟩:=u.any ho I.free fun z=>(hch _ z).2.1 rfl
 exact I.step hch (fun b o hL hb hc e n=>u.keep b o e n (fun z=>(QBz.mp (I.Bt b z)).elim hL hb) hc) (fun b o _ _ hc e n=>u.any e n hc) (fun b o hc e n=>u.free b o e n hc) (fun b o hc e=>u.there b o e hc) u.tups u.frzs u.tbls (fun m' hm=>by
  obtain⟨o',es',ep',ho',r'⟩:=hm
  rw[ho]at ho';cases ho'
  exact⟨_,es',ep',hL,r'⟩) hok hg
def Inv.turned{it:Addr}(I:Inv X γ σ H s)(k:∀b o,b≠it->s.heap.get? b=some o->h'.get? b=some o)(hn:H it=none)(hL:it≠X.env.locals)
  (h1:it∈X.ex\/X.s₀.heap.objs.size<=it)(h2:∀x c,X.env.cells.lookup x=some c->c≠it)(h3:∀p∈X.pn++γ,p.1≠it):Inv X γ σ H {s with heap:=h',toks:=t'}:=by
 have nit:∀b u,H b=some u->b≠it:=fun b u e z=>by rw[z,hn]at e;cases e
 refine I.step (ch:=[it]) (fun b hb=>?_) (fun b o _ _ hc e _=>k b o (fun z=>hc (by simp[z])) e) (fun b o _ _ hc e _=>⟨o.slots,k b o (fun z=>hc (by simp[z])) e⟩) (fun _ _ _ _ n=>n)
  (fun b o hc e=>⟨o,k b o (fun z=>hc (by simp[z])) e⟩) (fun _ _ e=>e) (fun _ _ _ e=>e) (fun b ps e=>⟨#[],by rw[e];simp⟩) (fun m hm=>?_) (fun b u e=>?_) I.bare
 ·have e:b=it:=by simpa using hb
  subst e
  exact⟨h1,hL,h2,h3⟩
 ·obtain⟨o,es,ep,ho,r⟩:=hm
  exact⟨o,es,ep,k _ o (Ne.symm hL) ho,r⟩
 ·refine(I.hok b u e).stay (fun c v hc q=>k c v ?_ q) (fun _ q=>q) fun _ _ q=>q
  rcases hc with z|z
  ·rw[z];exact nit b u e
  ·exact nit c _ z
def Inv.tok(I:Inv X γ σ H s)t:Inv X γ σ H {s with toks:=t}:=I.un Un.refl I.hok
theorem Inv.kept(I:Inv X γ σ H s)(k:∀b u,s.heap.get? b=some u->h'.get? b=some u):Inv X γ σ H {s with heap:=h',toks:=t'}:=I.un (Un.kept k) (I.hok.kept k)
theorem Inv.laid{a:Addr}{o:HO}(I:Inv X γ σ H s)(k:∀b u,s.heap.get? b=some u->h'.get? b=some u)(hp:s.heap.objs.size<=a)(new:cG X.prog X.w (upd H a o) h' a o):
  Inv X γ σ (upd H a o) {s with heap:=h',toks:=t'}:=I.un (Un.laid k hp (I.hok.fresh hp)) (I.hok.laid k hp new)
theorem Inv.write{o:HO}(I:Inv X γ σ H s)(mu:Mut (H x))(he:e=x\/H e=some (.own x))(k:∀b u,b≠e->s.heap.get? b=some u->h'.get? b=some u)(heo:∃u,h'.get? e=some u)
  (new:cG X.prog X.w (upd H x o) h' x o):Inv X γ σ (upd H x o) {s with heap:=h',toks:=t'}:=I.un (Un.write mu he k heo) (I.hok.write mu he k heo new)
def Inv.xu(I:Inv X γ σ H s)(h:∀p∈ω,s.heap.get? p.1=some p.2/\H p.1=none/\p.1≠X.env.locals/\p.1∉X.fs/\∀v,p.2.data≠ .cell v):Inv X ω σ H s:=
 ⟨I.ok,I.os,I.bare,I.base,I.loc,I.cell,I.free,I.freeC,fun p hp=>(QXz.mp hp).elim (fun z=>I.pin p (QWz _ z)) (h p),I.hok,I.len⟩
def zG{N:List Str}(hN:N.Nodup){i j:Nat}(a:N[i]? =some x)(b:N[j]? =some x):i=j:=by
 obtain⟨h1,e1⟩:=QCq.mp a
 obtain⟨h2,e2⟩:=QCq.mp b
 exact(List.getElem_inj hN).mp (e1.trans e2.symm)
def vf{A:Around}{i:Nat}{v:V}{u:Value}(I:Inv X γ σ H s)(hN:X.N.Nodup)(hi:X.N[i]? =some x)(hx:Loc X.env.scope x)(r:RelV v u)
  (h:∀s',Inv X γ (σ.set i (some v)) H s'->(∃a,Heap.SameBut a s.heap s'.heap/\(a=X.env.locals\/X.env.cells.lookup x=some a))->Q () s')(hf:X.fn x=true\/X.env.scope.names.lookup x=some .local:=by first|exact .inl rfl|exact .inr rfl|assumption):wpAny M A (storeName X.env x u) Q E s:=by
 obtain⟨m,hn,hl⟩:=id I.loc
 have hiσ:i<σ.length:=by rw[I.len];exact(QCq.mp hi).1
 have YZ:=I.YZ
 have tracked:∀{a:Addr}{h':Heap},(∃o,s.heap.get? a=some o/\H a=none)->Heap.SameBut a s.heap h'->nA X.prog X.w H h':=fun{a h'}ha hs b ob e=>by
  obtain⟨_,_,hfree⟩:=ha
  refine(I.hok b ob e).stay (fun c w' hc q=>(hs.2 c ?_).trans q) (fun _ q=>q) fun _ _ q=>q
  rintro rfl
  rcases hc with rfl|hc
  ·rw[hfree]at e;cases e
  ·rw[hfree]at hc;cases hc
 rcases hx with hk|hk
 ·refine wpAny_storeName_local hk hn (fun h' hn' hs=>?_) (by rw[I.ok.kind];rfl)
  obtain⟨oL,_,_,hoL,_⟩:=id hn
  refine h _ ⟨I.ok,I.os,I.bare,⟨fun b o e n hb hx=>?_,fun b o e n hb hx=>?_,I.base.free,fun b o e hx=>?_,I.base.tups,I.base.frzs,I.base.tbls⟩,⟨_,hn',fun j y v' e1 e2 e3=>?_⟩,fun y c e=>?_,I.free,I.freeC,fun p hp=>?_,tracked ⟨oL,hoL,I.free⟩ hs,by simpa using I.len⟩ ⟨_,hs,.inl rfl⟩
  ·exact(hs.2 b (Qvq (Qwz (Qqq e) I.ok.above))).trans (I.base.keep b o e n hb hx)
  ·obtain⟨sl,e1⟩:=I.base.slot b o e n hb hx
   exact⟨sl,(hs.2 b (Qvq (Qwz (Qqq e) I.ok.above))).trans e1⟩
  ·obtain⟨o',e1⟩:=I.base.there b o e hx
   exact⟨o',(hs.2 b (Qvq (Qwz (Qqq e) I.ok.above))).trans e1⟩
  ·by_cases hj:j=i
   ·subst hj
    rw[hi]at e1;cases e1
    rw[Qxz hiσ]at e2
    cases e2
    exact⟨u,r,.inl ⟨hk,by simp⟩⟩
   ·rw[Qxq (Ne.symm hj)]at e2
    obtain⟨u',r',q⟩:=hl j y v' e1 e2 e3
    refine⟨u',r',?_⟩
    rcases q with ⟨k,e⟩|⟨k,c,e,z⟩
    ·refine .inl ⟨k,?_⟩
     have:y≠x:=fun e=>hj (zG hN e1 (e▸hi))
     simp[this,e]
    ·exact .inr ⟨k,c,e,z.sameBut hs (YZ y c e)⟩
  ·obtain⟨w',z⟩:=I.cell y c e
   exact⟨w',z.sameBut hs (YZ y c e)⟩
  ·obtain⟨e,n,ne,nf,d⟩:=I.pin p hp
   exact⟨(hs.2 p.1 ne).trans e,n,ne,nf,d⟩
 ·have hfn:X.fn x=true:=by
   rcases hf with z|z
   ·exact z
   ·rw[z]at hk;cases hk
  obtain⟨c,hc⟩:=I.ok.has x (.inl hk)
  obtain⟨w',z⟩:=I.cell x c hc
  refine wpAny_storeName_cell I.ok.kind hk hc z (fun h' hc' hs=>?_)
  obtain⟨oc,hoc,hocd⟩:=id z
  refine h {s with heap:=h'} ⟨I.ok,I.os,I.bare,⟨fun b o e n hb hx=>?_,fun b o e n hb hx=>?_,I.base.free,fun b o e hx=>?_,I.base.tups,I.base.frzs,I.base.tbls⟩,⟨m,hn.sameBut hs (Ne.symm (YZ x c hc)),fun j y v' e1 e2 e3=>?_⟩,fun y c' e=>?_,I.free,I.freeC,fun p hp=>?_,tracked ⟨oc,hoc,I.freeC x c hc⟩ hs,by simpa using I.len⟩ ⟨c,hs,.inr hc⟩
  ·exact(hs.2 b (Qvq (Qwz (Qqq e) (I.ok.cab x c hfn hc)))).trans (I.base.keep b o e n hb hx)
  ·obtain⟨sl,e1⟩:=I.base.slot b o e n hb hx
   exact⟨sl,(hs.2 b (Qvq (Qwz (Qqq e) (I.ok.cab x c hfn hc)))).trans e1⟩
  ·obtain⟨o',e1⟩:=I.base.there b o e hx
   exact⟨o',(hs.2 b (Qvq (Qwz (Qqq e) (I.ok.cab x c hfn hc)))).trans e1⟩
  ·by_cases hj:j=i
   ·subst hj
    rw[hi]at e1;cases e1
    rw[Qxz hiσ]at e2
    cases e2
    exact⟨u,r,.inr ⟨.inl hk,c,hc,hc'⟩⟩
   ·rw[Qxq (Ne.symm hj)]at e2
    obtain⟨u',r',q⟩:=hl j y v' e1 e2 e3
    refine⟨u',r',?_⟩
    rcases q with q|⟨k,c',e,z'⟩
    ·exact .inl q
    ·refine .inr ⟨k,c',e,z'.sameBut hs ?_⟩
     rintro rfl
     exact hj (zG hN e1 (I.ok.inj _ _ _ e hc▸hi))
  ·by_cases hcc:c'=c
   ·subst hcc;exact⟨_,hc'⟩
   ·obtain⟨w2,z2⟩:=I.cell y c' e
    exact⟨w2,z2.sameBut hs hcc⟩
  ·obtain⟨e,n,ne,nf,d⟩:=I.pin p hp
   refine⟨(hs.2 p.1 ?_).trans e,n,ne,nf,d⟩
   intro q
   rw[q,hoc]at e
   exact d w' (by rw[<- (QDz e)];exact hocd)
def yX{A:Around}{i:Nat}{v:V}{u:Value}(I:Inv X γ σ H s)(hN:X.N.Nodup)(hi:X.N[i]? =some x)(hx:Loc X.env.scope x)(r:RelV v u)
  (h:∀s',Inv X γ (σ.set i (some v)) H s'->Q () s')(hf:X.fn x=true\/X.env.scope.names.lookup x=some .local:=by first|exact .inl rfl|exact .inr rfl|assumption):wpAny M A (storeName X.env x u) Q E s:=
 vf I hN hi hx r (fun s' I' _=>h s' I') hf
def Inv.call'{ch:List Addr}(I:Inv X γ σ H s)(ho:s'.os=s.os)(u:Un (frs X.stack) ch H H' s.heap s'.heap)(hok:nA X.prog X.w H' s'.heap)(hg:AllBare s'.gens)
  (hch:∀b∈ch,(b∈X.ex\/X.s₀.heap.objs.size<=b)/\b≠X.env.locals/\(∀x c,X.env.cells.lookup x=some c->c≠b)/\∀p∈X.pn++γ,p.1≠b):Inv X γ σ H' s':=by
 obtain⟨h',g',d',t',o'⟩:=s'
 subst ho
 exact I.call u hok hg hch
end
abbrev XK:=Value->Option Addr->Hp->Prop
abbrev St:=List (Option V)
abbrev VK:=V->Hp->Prop
abbrev TE:=St->Hp->VK->Prop
abbrev TT:=St->Hp->(Bool->Hp->Prop)->Prop
abbrev TA:=St->Hp->(List V->Hp->Prop)->Prop
structure Ends where
 nx:St->Hp->Prop
 rt:VK
 bk:St->Hp->Prop:=fun _ _=>False
 ct:St->Hp->Prop:=fun _ _=>False
abbrev TS:=Ends->St->Hp->Prop
def EP(X:Cx)(γ:QQz)(σ:St)(Q:VK)(u:Value)(s':Shared):Prop:=∃v H',Inv X γ σ H' s'/\RelV v u/\Q v H'
def TP(X:Cx)(γ:QQz)(σ:St)(Q:Bool->Hp->Prop)(b:Bool)(s':Shared):Prop:=∃H',Inv X γ σ H' s'/\Q b H'
def AP(X:Cx)(γ:QQz)(σ:St)(Q:List V->Hp->Prop)(us:List Value)(s':Shared):Prop:=∃vs H',Inv X γ σ H' s'/\Vals vs us/\Q vs H'
def SP(X:Cx)(γ:QQz)(D:Ends)(f:Flow)(s':Shared):Prop:=
 match f with
 |.next=>∃ζ H',Inv X γ ζ H' s'/\D.nx ζ H'
 |.brk=>∃ζ H',Inv X γ ζ H' s'/\D.bk ζ H'
 |.cont=>∃ζ H',Inv X γ ζ H' s'/\D.ct ζ H'
 |.ret u=>∃v ζ H',Inv X γ ζ H' s'/\RelV v u/\D.rt v H'
def PE(X:Cx)(e:Expr)(t:TE):Prop:=
 ∀(γ:QQz)(s:Shared)(σ:St)(H:Hp)(Q:VK),Inv X γ σ H s->t σ H Q->wpAny (model X.prog X.w) X.A (eval e X.env) (EP X γ σ Q) X.xe s
def PT(X:Cx)(e:Expr)(t:TT):Prop:=
 ∀(γ:QQz)(s:Shared)(σ:St)(H:Hp)(Q:Bool->Hp->Prop),Inv X γ σ H s->t σ H Q->wpAny (model X.prog X.w) X.A (isTrue e X.env (eval e X.env)) (TP X γ σ Q) X.xe s
def PW(X:Cx)(e:Expr)(t:TT):Prop:=
 ∀(whole:Sem Value)(γ:QQz)(s:Shared)(σ:St)(H:Hp)(Q:Bool->Hp->Prop),Inv X γ σ H s->t σ H Q->wpAny (model X.prog X.w) X.A (isTrue e X.env whole) (TP X γ σ Q) X.xe s
def PW.pt{e:Expr}(h:PW X e t):PT X e t:=h _
def PA(X:Cx)(es:List Expr)(t:TA):Prop:=
 ∀(pos:Pos)(γ:QQz)(s:Shared)(σ:St)(H:Hp)(Q:List V->Hp->Prop),Inv X γ σ H s->t σ H Q->wpAny (model X.prog X.w) X.A (spliced (backTo pos (starEach es X.env))) (AP X γ σ Q) X.xe s
def PS(X:Cx)(st:Stmt)(t:TS):Prop:=
 ∀(γ:QQz)(s:Shared)(σ:St)(H:Hp)(D:Ends),Inv X γ σ H s->t D σ H->wpAny (model X.prog X.w) X.A (exec st X.env) (SP X γ D) X.xe s
def uX(X:Cx)(st:List Stmt)(t:TS):Prop:=
 ∀(γ:QQz)(s:Shared)(σ:St)(H:Hp)(D:Ends),Inv X γ σ H s->t D σ H->wpAny (model X.prog X.w) X.A (execs st X.env) (SP X γ D) X.xe s
def bK{t:Sem α}{Q Q':α->Shared->Prop}{A:Around}{s:Shared}(h:wpAny M A t Q E s)(hQ:∀a s,Q a s->Q' a s):wpAny M A t Q' E s:=QKz h hQ fun _ _ x=>x
section
variable{X:Cx}
def bin{ta tb:TE}(ha:PE X a ta)(hb:PE X b tb){s:Shared}{σ:St}{R:V->V->Hp->Prop}(I:Inv X γ σ H s)(h:ta σ H fun x H1=>tb σ H1 fun y H2=>R x y H2)
{Q:α->Shared->Prop} {f:Value->Value->Sem α}
  (hf:∀v u s2 x y H2,Inv X γ σ H2 s2->RelV x v->RelV y u->R x y H2->wpAny (model X.prog X.w) X.A (f v u) Q X.xe s2):
  wpAny (model X.prog X.w) X.A (eval a X.env) (fun v θ=>wpAny (model X.prog X.w) X.A (eval b X.env) (fun u Δ=>wpAny (model X.prog X.w) X.A (f v u) Q X.xe Δ) X.xe θ) X.xe s:=by
 refine bK (ha γ s σ H _ I h) fun v s1⟨x,H1,I1,r1,q1⟩=>?_
 refine bK (hb γ s1 σ H1 _ I1 q1) fun u s2⟨y,H2,I2,r2,q2⟩=>?_
 exact hf v u s2 x y H2 I2 r1 r2 q2
def aV(i:Nat):TE:=fun σ H Q=>∃v,σ[i]? =some (some v)/\Q v H
def tC(v:V):TE:=fun _ H Q=>Q v H
def cW{x:Str}{pos:Pos}(hN:X.N[i]? =some x)(hv:JN X.env.scope x)(hd:(x==("__debug__":Str))=false:=by decide)(hcd:(x==("__classdict__":Str))=false:=by decide):PE X (.Name x pos) (aV i):=by
 intro γ s σ H Q I h
 obtain⟨v,e,h⟩:=h
 obtain⟨m,hn,hl⟩:=I.loc
 obtain⟨u,r,l⟩:=hl i x v hN e hv
 have fin:EP X γ σ Q u s:=⟨v,H,I,r,h⟩
 rcases l with ⟨hk,hm⟩|⟨hk,c,hc,hcell⟩
 ·exact wpAny_Name (wpAny_loadName_local I.ok.kind hk hn hm fin) hd
 ·rcases hk with hk|hk
  ·exact wpAny_Name (wpAny_loadName_cell I.ok.kind hk hc hcell fin) hd
  ·exact wpAny_Name (wpAny_loadName_free I.ok.kind hk hc hcell fin hcd) hd
def Cw{i j pos}:PE X (.Constant (.int i) j pos) (tC (.int i)):=fun _ _ _ H _ I h=>wpAny_Constant_int ⟨.int i,H,I.tok _,⟨_,rfl⟩,h⟩
def abr{b j pos}:PE X (.Constant (.bool b) j pos) (tC (.bl b)):=fun _ _ _ H _ I h=>Constant_bool ⟨.bl b,H,I,rfl,h⟩
def Cu{j pos}:PE X (.Constant .none j pos) (tC .non):=fun _ _ _ H _ I h=>Constant_none ⟨.non,H,I,rfl,h⟩
def xx{x j pos}:PE X (.Constant (.str x) j pos) (tC (.str x)):=fun _ _ _ H _ I h=>Calls.Constant_str ⟨.str x,H,I.tok _,⟨_,rfl⟩,h⟩
def Gl(X:Cx)(x:Str):Prop:=X.env.kindOf x=some .globalImplicit
def xR{γ:QQz}{σ:St}{x:Str}{pos:Pos}(I:Inv X γ σ H s)(hg:Gl X x)(hm:X.mg x=some u)(h:Q u s)
  (hd:(x==("__debug__":Str))=false:=by decide):wpAny (model X.prog X.w) X.A (eval (.Name x pos) X.env) Q E s:=
 Calls.Name_function_global I.ok.kind hg (Calls.loadGlobal_global (by rw[I.ok.glob];exact I.mod.glob.keeps I.bk) hm h) hd
def jw{E:QZq}{s:Shared}{σ:St}{x:Str}{pos:Pos}(I:Inv X γ σ H s)(hg:Gl X x)(hm:X.mg x=none)(hv:bootBuiltins x=some u)(h:Q u s)
  (hn:x≠"__name__":=by decide)(hd:(x==("__debug__":Str))=false:=by decide):wpAny (model X.prog X.w) X.A (eval (.Name x pos) X.env) Q E s:=by
 obtain⟨mb,h1,h2⟩:=I.mod.blt
 exact Calls.Name_function_global I.ok.kind hg (Calls.loadGlobal_builtin (by rw[I.ok.glob];exact I.mod.glob.keeps I.bk) hm (by rw[I.ok.blt];exact h1.keeps I.bk) ((h2 x hn).trans hv) h) hd
def Fy{v:V}{pos:Pos}(hg:Gl X x)(hm:X.mg x=some u)(r:RelV v u)(hd:(x==("__debug__":Str))=false:=by decide):PE X (.Name x pos) (tC v):=
 fun _ _ _ H _ I h=>xR I hg hm ⟨v,H,I,r,h⟩ hd
def RJ{v:V}{pos:Pos}(hg:Gl X x)(hm:X.mg x=none)(hv:bootBuiltins x=some u)(r:RelV v u)(hn:x≠"__name__":=by decide)(hd:(x==("__debug__":Str))=false:=by decide):PE X (.Name x pos) (tC v):=
 fun _ _ _ H _ I h=>jw I hg hm hv ⟨v,H,I,r,h⟩ hn hd
def t2I(ta tb:TE)(k:Int->Int->Hp->Prop):St->Hp->Prop:=fun σ H=>ta σ H fun x H1=>tb σ H1 fun y H2=>∃i j,x=.int i/\y=.int j/\k i j H2
def aea(ta tb:TE):TE:=fun σ H Q=>t2I ta tb (fun i j H2=>Q (.int (i+j)) H2) σ H
variable{a b:Expr}{ta tb:TE}{pos:Pos}
def Xb(ha:PE X a ta)(hb:PE X b tb):PE X (.BinOp a .Add b pos) (aea ta tb):=by
 intro γ s σ H Q I h
 refine wpAny_BinOp (bin ha hb I h fun v u s2 x y H2 I2 rx ry q=>?_)
 obtain⟨i,j,rfl,rfl,q⟩:=q
 obtain⟨t,rfl⟩:=rx
 obtain⟨t',rfl⟩:=ry
 exact add_int ⟨.int _,H2,I2.tok _,⟨_,rfl⟩,q⟩
def PC(X:Cx)(op:CmpOp)(a b:Expr)(t:TE):Prop:=
 ∀(γ:QQz)(s:Shared)(σ:St)(H:Hp)(Q:VK),Inv X γ σ H s->t σ H Q->
  wpAny (model X.prog X.w) X.A (eval a X.env) (fun v θ=>wpAny (model X.prog X.w) X.A (eval b X.env) (fun u Δ=>wpAny (model X.prog X.w) X.A (compareOp op v u) (EP X γ σ Q) X.xe Δ) X.xe θ) X.xe s
def Mj(b:Expr){op:CmpOp}(h:op≠ .In)(h2:op≠ .NotIn):behindInMarks op b=false:=by
 have e1:(op==CmpOp.In)=false:=by cases op<;>first|rfl|exact absurd rfl h
 have e2:(op==CmpOp.NotIn)=false:=by cases op<;>first|rfl|exact absurd rfl h2
 cases b<;>simp[behindInMarks,e1,e2]
def aaJ(p:Int->Int->Bool)(ta tb:TE):TE:=fun σ H Q=>t2I ta tb (fun i j H2=>Q (.bl (p i j)) H2) σ H
abbrev tLt:TE->TE->TE:=aaJ fun i j=>decide (i<j)
def Xc{op:CmpOp}{p:Int->Int->Bool}(ha:PE X a ta)(hb:PE X b tb)
  (rule:∀(i j:Int)(t u:Tok)(Q:QZq)(s:Shared),Q (.bool (p i j)) s->wpAny (model X.prog X.w) X.A (compareOp op (.int i t) (.int j u)) Q X.xe s):PC X op a b (aaJ p ta tb):=by
 intro γ s σ H Q I h
 refine bin ha hb I h fun v u s2 x y H2 I2 rx ry q=>?_
 obtain⟨i,j,rfl,rfl,q⟩:=q
 obtain⟨t,rfl⟩:=rx
 obtain⟨t',rfl⟩:=ry
 exact rule i j t t' _ s2 ⟨.bl _,H2,I2,rfl,q⟩
def abt(ha:PE X a ta)(hb:PE X b tb):PC X .Lt a b (tLt ta tb):=Xc ha hb fun _ _ _ _ _ _ h=>lt_int h
def tB(t:TE):TT:=fun σ H Q=>t σ H fun x H1=>∃c,x=.bl c/\Q c H1
def WY{op:CmpOp}{t:TE}(h:PC X op a b t)(h1:behindInMarks op b=false:=by first|exact Mj _ (by decide) (by decide)|rfl):PT X (.Compare a [op] [b] pos) (tB t):=by
 intro γ s σ H Q I hw
 refine wpAny_isTrue_Compare1 (bK (h γ s σ H _ I hw) fun v s1 h1=>bK h1 fun u s2 h2=>bK h2 fun c s3⟨x,H1,I1,r1,q1⟩=>?_) h1
 obtain⟨d,rfl,q⟩:=q1
 cases r1
 exact wpAny_truthy_bool ⟨H1,I1,q⟩
variable{tA tB':TT}{rest:List Expr}
def aaM(t u:TT):TT:=fun σ H Q=>t σ H fun c H1=>if c=true then u σ H1 Q else Q false H1
def tOr(t u:TT):TT:=fun σ H Q=>t σ H fun c H1=>if c=true then Q true H1 else u σ H1 Q
def aaE(t:TT):TT:=fun σ H Q=>t σ H fun c H1=>Q (!c) H1
def Fw(ha:PT X a tA):PW X (.BoolOp .And [a] pos) tA:=by
 intro wh γ s σ H Q I h
 refine isTrue_and (bK (ha γ s σ H Q I h) fun c s1 e=>?_)
 cases c with
 |true=>exact isTrue_and_nil e
 |false=>exact e
def WT(ha:PT X a tA):PW X (.BoolOp .Or [a] pos) tA:=by
 intro wh γ s σ H Q I h
 refine isTrue_or (bK (ha γ s σ H Q I h) fun c s1 e=>?_)
 cases c with
 |false=>exact isTrue_or_nil e
 |true=>exact e
def Lg(ha:PT X a tA)(hb:PW X (.BoolOp .And (b::rest) pos) tB'):PW X (.BoolOp .And (a::b::rest) pos) (aaM tA tB'):=by
 intro wh γ s σ H Q I h
 refine isTrue_and (bK (ha γ s σ H _ I h) fun c s1⟨H1,I1,q1⟩=>?_)
 cases c with
 |true=>exact hb wh γ s1 σ H1 Q I1 q1
 |false=>exact⟨H1,I1,q1⟩
def abm(ha:PT X a tA)(hb:PW X (.BoolOp .Or (b::rest) pos) tB'):PW X (.BoolOp .Or (a::b::rest) pos) (tOr tA tB'):=by
 intro wh γ s σ H Q I h
 refine isTrue_or (bK (ha γ s σ H _ I h) fun c s1⟨H1,I1,q1⟩=>?_)
 cases c with
 |true=>exact⟨H1,I1,q1⟩
 |false=>exact hb wh γ s1 σ H1 Q I1 q1
def Lh(ha:PT X a tA):PT X (.UnaryOp .Not a pos) (aaE tA):=by
 intro γ s σ H Q I h
 exact isTrue_not (ha γ s σ H _ I h)
def aaL(ta tb:TE):TE:=fun σ H Q=>ta σ H fun x H1=>∃c,x=.bl c/\if c=true then tb σ H1 Q else Q (.bl false) H1
def ad4(ta tb:TE):TE:=fun σ H Q=>ta σ H fun x H1=>∃c,x=.bl c/\if c=true then Q (.bl true) H1 else tb σ H1 Q
def Lx{op}(h:PE X a t):PE X (.BoolOp op [a] pos) t:=fun γ s σ H Q I hw=>BoolOp_one (h γ s σ H Q I hw)
def Xa(ha:PE X a ta)(hb:PE X (.BoolOp .And (b::rest) pos) tb):PE X (.BoolOp .And (a::b::rest) pos) (aaL ta tb):=by
 intro γ s σ H Q I h
 refine BoolOp_and (bK (ha γ s σ H _ I h) fun v s1⟨x,H1,I1,r1,q1⟩=>?_)
 obtain⟨c,rfl,q1⟩:=q1
 cases r1
 refine wpAny_truthy_bool ?_
 cases c with
 |true=>exact hb γ s1 σ H1 Q I1 q1
 |false=>exact⟨.bl false,H1,I1,rfl,q1⟩
def abp(ha:PE X a ta)(hb:PE X (.BoolOp .Or (b::rest) pos) tb):PE X (.BoolOp .Or (a::b::rest) pos) (ad4 ta tb):=by
 intro γ s σ H Q I h
 refine BoolOp_or (bK (ha γ s σ H _ I h) fun v s1⟨x,H1,I1,r1,q1⟩=>?_)
 obtain⟨c,rfl,q1⟩:=q1
 cases r1
 refine wpAny_truthy_bool ?_
 cases c with
 |false=>exact hb γ s1 σ H1 Q I1 q1
 |true=>exact⟨.bl true,H1,I1,rfl,q1⟩
def tIf(t:TT)(ta tb:TE):TE:=fun σ H Q=>t σ H fun c H1=>if c=true then ta σ H1 Q else tb σ H1 Q
def sS(hc:PT X c tA)(ha:PE X a ta)(hb:PE X b tb):PE X (.IfExp c a b pos) (tIf tA ta tb):=by
 intro γ s σ H Q I h
 refine wpAny_IfExp (bK (hc γ s σ H _ I h) fun d s1⟨H1,I1,q1⟩=>?_)
 cases d with
 |true=>exact ha γ s1 σ H1 Q I1 q1
 |false=>exact hb γ s1 σ H1 Q I1 q1
end
def lu(K:QQq)(H:Hp)(a:Addr)(xs:List V):Prop:=
 Rd H a (.lst xs)\/
  ∃(o:Obj)(its:Array Value)(n:Nat),K.lookup a=some o/\o.cls=.type "list"/\o.dict=none/\o.data=.seq its n/\its.size<=sizeLine/\Vals xs its.toList
def jl(K:QQq)(H:Hp)(a:Addr)(xs:List V):Prop:=
 Rd H a (.tup xs)\/
  ∃(o:Obj)(its:Array Value)(n:Nat),K.lookup a=some o/\o.cls=.type "tuple"/\o.dict=none/\o.data=.seq its n/\its.size<=sizeLine/\Vals xs its.toList
noncomputable def agk:Value->Option V
 |.none=>some .non
 |.bool b=>some (.bl b)
 |.int i _=>some (.int i)
 |.str x _=>some (.str x)
 |.bytes b _=>some (.byt b)
 |.float b _=>some (.flt b)
 |.ref a=>some (.ref a)
 |.type n=>some (.ty n)
 |_=>none
def RelV.abs{u:Value}(r:RelV x u):agk u=some x:=by
 cases x with
 |non=>cases r;rfl
 |bl _=>cases r;rfl
 |int _=>obtain⟨t,rfl⟩:=r;rfl
 |str _=>obtain⟨t,rfl⟩:=r;rfl
 |byt _=>obtain⟨t,rfl⟩:=r;rfl
 |flt _=>obtain⟨t,rfl⟩:=r;rfl
 |ref _=>cases r;rfl
 |ty _=>cases r;rfl
def RelV.inj{x y:V}{u:Value}(r:RelV x u)(q:RelV y u):x=y:=QDz (r.abs.symm.trans q.abs)
theorem Vals.inj:∀{xs ys:List V}{us:List Value},Vals xs us->Vals ys us->xs=ys
 |_,_,_,.nil,.nil=>rfl
 |_,_,_,.cons r t,.cons r' t'=>by rw[r.inj r',Vals.inj t t']
section
variable{X:Cx}{γ:QQz}{σ:St}{H:Hp}{s:Shared}{a:Addr}{xs ys:List V}
def Inv.list(I:Inv X γ σ H s)(h:lu X.K H a xs):∃its:List Value,Vals xs its/\PlainL s.heap a its.toArray/\xs.length<=sizeLine:=by
 rcases h with h|⟨o,its,n,hk,hc,hd,hs,hz,r⟩
 ·obtain⟨z,its,n,r,e⟩:=h.ok I.hok
  exact⟨its,r,⟨_,n,e,rfl,rfl,rfl⟩,z⟩
 ·refine⟨its.toList,r,⟨o,n,I.zX a o hk,hc,hd,by simpa using hs⟩,?_⟩
  have e:=r.length
  simp only[Array.length_toList]at e
  omega
def Inv.Bo(I:Inv X γ σ H s)(h:jl X.K H a xs):∃its:List Value,Vals xs its/\TupOk s.heap a its.toArray/\xs.length<=sizeLine:=by
 rcases h with h|⟨o,its,n,hk,hc,hn,hs,hz,r⟩
 ·obtain⟨z,its,r,p⟩:=h.ok I.hok
  exact⟨its,r,p,z⟩
 ·refine⟨its.toList,r,⟨o,I.zX a o hk,hc,hn,n,by simpa using hs⟩,?_⟩
  have e:=r.length
  simp only[Array.length_toList]at e
  omega
def Inv.tuple(I:Inv X γ σ H s)(h:jl X.K H a xs):∃its:List Value,Vals xs its/\IsTup s.heap a its.toArray/\xs.length<=sizeLine:=by
 obtain⟨its,r,p,z⟩:=I.Bo h
 exact⟨its,r,p.is,z⟩
def Inv.zR(I:Inv X γ σ H s)(h:lu X.K H a xs)(h':lu X.K H a ys):xs=ys:=by
 obtain⟨its,r,⟨o,n,e,_,_,d⟩,_⟩:=I.list h
 obtain⟨its',r',⟨o',n',e',_,_,d'⟩,_⟩:=I.list h'
 rw[e]at e';cases e'
 rw[d]at d'
 injection d' with d1 _
 have:its=its':=by simpa using congrArg Array.toList d1
 subst this
 exact r.inj r'
def Inv.u0(I:Inv X γ σ H s)(h:jl X.K H a xs)(h':jl X.K H a ys):xs=ys:=by
 obtain⟨its,r,⟨o,e,_,n,d⟩,_⟩:=I.tuple h
 obtain⟨its',r',⟨o',e',_,n',d'⟩,_⟩:=I.tuple h'
 rw[e]at e';cases e'
 rw[d]at d'
 injection d' with d1 _
 have:its=its':=by simpa using congrArg Array.toList d1
 subst this
 exact r.inj r'
end
abbrev Cx.wish(X:Cx)(E:QZq):Cx:={X with xe:=E}
abbrev Cx.qL(X:Cx):Cx:=X.wish fun _ _=>False
theorem Cx.Ok.wish{X:Cx}(ok:X.Ok)E:(X.wish E).Ok:=
 ⟨ok.mod,ok.kind,ok.glob,ok.blt,ok.above,ok.inj,ok.has,ok.cab,ok.hd,ok.frames,ok.stk,ok.exf,ok.bs,ok.bsz,ok.noex,ok.exfs,ok.lX,ok.frf⟩
def Cx.Ok.jR{X:Cx}(ok:(X.wish E).Ok):X.Ok:=
 ⟨ok.mod,ok.kind,ok.glob,ok.blt,ok.above,ok.inj,ok.has,ok.cab,ok.hd,ok.frames,ok.stk,ok.exf,ok.bs,ok.bsz,ok.noex,ok.exfs,ok.lX,ok.frf⟩
section
variable{X:Cx}{γ:QQz}{σ:St}{H:Hp}{s:Shared}{E:QZq}
theorem Inv.wish(I:Inv X γ σ H s)E:Inv (X.wish E) γ σ H s:=⟨I.ok.wish E,I.os,I.bare,I.base,I.loc,I.cell,I.free,I.freeC,I.pin,I.hok,I.len⟩
theorem Inv.jR(I:Inv (X.wish E) γ σ H s):Inv X γ σ H s:=⟨I.ok.jR,I.os,I.bare,I.base,I.loc,I.cell,I.free,I.freeC,I.pin,I.hok,I.len⟩
theorem SP.jR{f:Flow}(h:SP (X.wish E) γ D f s'):SP X γ D f s':=by
 cases f with
 |next=>obtain⟨ζ,H',I,q⟩:=h;exact⟨ζ,H',I.jR,q⟩
 |brk=>obtain⟨ζ,H',I,q⟩:=h;exact⟨ζ,H',I.jR,q⟩
 |cont=>obtain⟨ζ,H',I,q⟩:=h;exact⟨ζ,H',I.jR,q⟩
 |ret u=>obtain⟨v,ζ,H',I,r,q⟩:=h;exact⟨v,ζ,H',I.jR,r,q⟩
theorem uX.qL{st:List Stmt}(h:uX X.qL st t):uX X st t:=fun γ s σ H D I hw=>
 QKz (h γ s σ H D (I.wish _) hw) (fun _ _ q=>q.jR) fun _ _ z=>False.elim z
end
section
variable{X:Cx}{st:Stmt}{rest:List Stmt}{t u:TS}{e:Expr}{te:TE}{pos:Pos}
def Us:TS:=fun D σ H=>D.nx σ H
def jV(t u:TS):TS:=fun D σ H=>t {D with nx:=u D} σ H
def xr:uX X [] Us:=fun _ _ σ H _ I h=>wpAny_execs_nil ⟨σ,H,I,h⟩
def bO(h1:PS X st t)(h2:uX X rest u):uX X (st::rest) (jV t u):=by
 intro γ s σ H D I h
 refine wpAny_execs_cons (bK (h1 γ s σ H {D with nx:=u D} I h) fun f s1 q=>?_)
 cases f with
 |next=>
  obtain⟨ζ,H',I',q⟩:=q
  exact h2 γ s1 ζ H' D I' q
 |ret v=>exact q
 |brk=>exact q
 |cont=>exact q
def jt(h1:PS X st t):uX X [st] t:=by
 intro γ s σ H D I h
 refine wpAny_execs_cons (bK (h1 γ s σ H D I h) fun f s1 q=>?_)
 cases f with
 |next=>exact wpAny_execs_nil q
 |ret v=>exact q
 |brk=>exact q
 |cont=>exact q
def Inv.quiet{σ:St}{H:Hp}(I:Inv X γ σ H s):interactive X.env=false:=by simp[interactive,I.ok.kind]
def pQ(te:TE):TS:=fun D σ H=>te σ H fun _ H1=>D.nx σ H1
def lF(he:PE X e te)(hs:swapsWith e none pos.line X.env=pure false:=by rfl):PS X (.Expr e pos) (pQ te):=by
 intro γ s σ H D I h
 exact wpAny_Expr_any (bK (he γ s σ H _ I h) fun v s1⟨x,H1,I1,r1,q1⟩=>⟨σ,H1,I1,q1⟩) I.quiet hs
def QH(te:TE):TS:=fun D σ H=>te σ H D.rt
def iK(he:PE X e te):PS X (.Return (some e) pos) (QH te):=by
 intro γ s σ H D I h
 exact wpAny_Return_some (bK (he γ s σ H _ I h) fun v s1⟨x,H1,I1,r1,q1⟩=>⟨x,σ,H1,I1,r1,q1⟩)
def aaB:TS:=fun D _ H=>D.rt .non H
def Rp:PS X (.Return none pos) aaB:=fun _ _ σ H _ I h=>wpAny_Return_none ⟨.non,σ,H,I,rfl,h⟩
def aaF(c:TT)(t u:TS):TS:=fun D σ H=>c σ H fun b H1=>if b=true then t D σ H1 else u D σ H1
def Lj{a b:List Stmt}(hc:PT X c tc)(ha:uX X a t)(hb:uX X b u):PS X (.If c a b pos) (aaF tc t u):=by
 intro γ s σ H D I h
 refine wpAny_If (bK (hc γ s σ H _ I h) fun d s1⟨H1,I1,q1⟩=>?_)
 cases d with
 |true=>exact ha γ s1 σ H1 D I1 q1
 |false=>exact hb γ s1 σ H1 D I1 q1
end
abbrev TG:=V->St->Hp->(St->Hp->Prop)->Prop
abbrev Zf:=List V->St->Hp->(St->Hp->Prop)->Prop
def PG(X:Cx)(target:Expr)(t:TG):Prop:=
 ∀(γ:QQz)(s:Shared)(σ:St)(H:Hp)(v:V)(u:Value)(Q:St->Hp->Prop),Inv X γ σ H s->RelV v u->t v σ H Q->
  wpAny (model X.prog X.w) X.A (assign target X.env u) (fun _ s'=>∃ζ H',Inv X γ ζ H' s'/\Q ζ H') X.xe s
def PGs(X:Cx)(ts:List Expr)(t:Zf):Prop:=
 ∀(γ:QQz)(s:Shared)(σ:St)(H:Hp)(vs:List V)(us:List Value)(Q:St->Hp->Prop),Inv X γ σ H s->Vals vs us->t vs σ H Q->
  wpAny (model X.prog X.w) X.A (assignInOrder ((assignEach ts X.env).map (·.2)) us) (fun _ s'=>∃ζ H',Inv X γ ζ H' s'/\Q ζ H') X.xe s
abbrev acF:=V->V->V->Hp->(Hp->Prop)->Prop
def Qf(X:Cx)(t:acF):Prop:=
 ∀(γ:QQz)(s:Shared)(σ:St)(H:Hp)(o i v:V)(ov iv u:Value)(Q:Hp->Prop),Inv X γ σ H s->RelV o ov->RelV i iv->RelV v u->t o i v H Q->
  wpAny (model X.prog X.w) X.A (setItem ov iv u) (fun _ s'=>∃H',Inv X γ σ H' s'/\Q H') X.xe s
section
variable{X:Cx}{pos:Pos}
def n8(i:Nat):TG:=fun v σ H Q=>Q (σ.set i (some v)) H
def Rx{x:Str}(hN:X.N.Nodup)(hi:X.N[i]? =some x)(hx:Loc X.env.scope x)(hf:X.fn x=true\/X.env.scope.names.lookup x=some .local:=by first|exact .inl rfl|exact .inr rfl|assumption):PG X (.Name x pos) (n8 i):=by
 intro γ s σ H v u Q I r h
 exact wpAny_assign_Name (yX I hN hi hx r (fun s' I'=>⟨_,H,I',h⟩) hf)
def afN:Zf:=fun vs σ H Q=>vs=[]/\Q σ H
def ab9(t:TG)(u:Zf):Zf:=fun vs σ H Q=>∃v r,vs=v::r/\t v σ H fun ζ H'=>u r ζ H' Q
def Rw:PGs X [] afN:=by
 intro γ s σ H vs us Q I r h
 obtain⟨e,h⟩:=h
 subst e
 cases r
 exact assignInOrder_nil ⟨σ,H,I,h⟩
theorem Lr{es:List Expr}{u:Zf}(h1:PG X e t)(h2:PGs X es u)
  (hs:(assignEach (e::es) X.env).map (·.2)=assign e X.env::(assignEach es X.env).map (·.2):=by rfl):PGs X (e::es) (ab9 t u):=by
 intro γ s σ H vs us Q I r h
 obtain⟨v,vr,e1,h⟩:=h
 subst e1
 cases r with
 |cons r rr=>
  rw[hs]
  exact assignInOrder_cons (bK (h1 γ s σ H _ _ _ I r h) fun _ s1⟨ξ,H1,I1,q1⟩=>h2 γ s1 ξ H1 _ _ Q I1 rr q1)
def afL(K:QQq)(n:Nat)(t:Zf):TG:=fun v σ H Q=>∃a xs,v=.ref a/\jl K H a xs/\xs.length=n/\t xs σ H Q
def W6{k:Nat}{t:Zf}(hc:X.calm=true)(h:PGs X es t)
  (hn:(assignEach es X.env).length=n:=by rfl)(hst:(assignEach es X.env).findIdx? (·.1)=none:=by rfl):PG X (.Tuple es k pos) (afL X.K n t):=by
 intro γ s σ H v u Q I r hw
 obtain⟨a,xs,e1,hq,hl,hw⟩:=hw
 subst e1
 cases r
 obtain⟨its,rv,ht,hz⟩:=I.tuple hq
 exact assign_Tuple_tuple (I.ok.hd hc) ht (by simp[hn,<-hl,rv.length]) hst fun h' hx=>h γ _ σ H xs _ Q (I.kept (t':=s.toks) fun b o e=>hx b o (Qvq (Qqq e)) e) (by simpa using rv) hw
def afM(to ti:TE)(t:acF):TG:=fun v σ H Q=>to σ H fun o H1=>ti σ H1 fun i H2=>t o i v H2 fun H3=>Q σ H3
def W7{to ti:TE}(ho:PE X o to)(hi:PE X i ti)(hs:Qf X t)
  (ha:∀v,assign (.Subscript o i pos) X.env v=(do
   let ov<-holding [v] (eval o X.env)
   let iv<-holding [v,ov] (eval i X.env)
   standAt pos
   holding [v,ov,iv] (setItem ov iv v)
   release [v,ov,iv] []):=by intro _;rfl):PG X (.Subscript o i pos) (afM to ti t):=by
 intro γ s σ H v u Q I r h
 refine QTz (QGz (bK (ho γ s σ H _ I h) fun ov s1⟨x,H1,I1,r1,q1⟩=>?_))
 exact QTz (QGz (bK (hi γ s1 σ H1 _ I1 q1) fun iv s2⟨y,H2,I2,r2,q2⟩=>QTz (wpAny_standAt (QTz (QGz (bK (hs γ s2 σ H2 x y v ov iv u _ I2 r1 r2 r q2) fun _ s3⟨H3,I3,q3⟩=>wpAny_release ⟨σ,H3,I3,q3⟩))))))
def wW(te:TE)(g:TG):TS:=fun D σ H=>te σ H fun x H1=>g x σ H1 D.nx
def Lk{te:TE}(he:PE X e te)(hg:PG X tg g)(hs:swapsWithSole [tg] e pos.line X.env=pure false:=by rfl)(hw:swappedStores [tg] e X.env=pure none:=by rfl)
  (h1:(assignEach [tg] X.env).map (·.2)=[assign tg X.env]:=by rfl):PS X (.Assign [tg] e pos) (wW te g):=by
 intro γ s σ H D I h
 refine wpAny_Assign_stores (bK (he γ s σ H _ I h) fun v s1⟨x,H1,I1,r1,q1⟩=>?_) hs hw
 rw[h1]
 exact bK (hg γ s1 σ H1 x v _ I1 r1 q1) fun _ s2 q=>q
def sG{x:Str}{te:TE}(hN:X.N.Nodup)(hi:X.N[i]? =some x)(hx:Loc X.env.scope x)(he:PE X e te)(hs:swapsWith e (some (.Name x pos')) pos.line X.env=pure false:=by rfl)(hf:X.fn x=true\/X.env.scope.names.lookup x=some .local:=by first|exact .inl rfl|exact .inr rfl|assumption):
  PS X (.Assign [.Name x pos'] e pos) (wW te (n8 i)):=by
 intro γ s σ H D I h
 exact wpAny_Assign_Name (bK (he γ s σ H _ I h) fun v s1⟨y,H1,I1,r1,q1⟩=>yX I1 hN hi hx r1 (fun s2 I2=>⟨_,H1,I2,q1⟩) hf) hs
end
section
variable{X:Cx}{pos:Pos}
noncomputable def J8(c:TT)(tb:TS):TS:=fun D σ H=>∃W:Nat->St->Hp->Prop,(∃m,W m σ H)/\∀m σ H,W m σ H->
 c σ H fun b H1=>if b=true then∃N:St->Hp->Prop,(∀ζ H',N ζ H'->∃m',m'<m/\W m' ζ H')/\tb {D with nx:=N,ct:=N,bk:=D.nx} σ H1 else D.nx σ H1
def zy{body:List Stmt}{tb:TS}(hp:PassesOwn (model X.prog X.w) X.A X.env X.xe)(hc:PT X c tc)(hb:uX X body tb):PS X (.While c body [] pos) (J8 tc tb):=by
 intro γ s σ H D I h
 obtain⟨W,⟨m0,w0⟩,turn⟩:=h
 refine wpAny_While (codeAny_whileLoop (fun n s'=>∃ζ H',Inv X γ ζ H' s'/\W n ζ H') ?_ m0 ⟨σ,H,I,w0⟩)
 rintro n s1 ⟨ξ,H1,I1,w1⟩
 refine wpAny_passesOwn hp (bK (hc γ s1 ξ H1 _ I1 (turn n ξ H1 w1)) fun b s2⟨H2,I2,q2⟩=>?_)
 cases b with
 |true=>
  obtain⟨N,hN,q2⟩:=q2
  refine wpAny_passesOwn hp (bK (hb γ s2 ξ H2 _ I2 q2) fun f s3 q3=>?_)
  cases f with
  |next=>
   obtain⟨σ3,H3,I3,n3⟩:=q3
   obtain⟨m',hm,w3⟩:=hN σ3 H3 n3
   exact⟨m',hm,σ3,H3,I3,w3⟩
  |cont=>
   obtain⟨σ3,H3,I3,n3⟩:=q3
   obtain⟨m',hm,w3⟩:=hN σ3 H3 n3
   exact⟨m',hm,σ3,H3,I3,w3⟩
  |brk=>exact q3
  |ret v=>exact q3
 |false=>
  exact wpAny_execs_nil ⟨ξ,H2,I2,q2⟩
end
structure It where
 go:Nat->Hp->Prop
 yld:Nat->Hp->V->Hp->Prop
 stop:Nat->Hp->Prop
def dW(X:Cx)(γ:QQz)(H:Hp)(b:Addr):Prop:=
 H b=none/\b≠X.env.locals/\b∉X.fs/\(b∈X.ex\/X.s₀.heap.objs.size<=b)/\(∀x c,X.env.cells.lookup x=some c->c≠b)/\∀p∈X.pn++γ,p.1≠b
def Inv.xZ{X:Cx}{σ:St}{H H':Hp}{b:Addr}(I:Inv X γ σ H s)(hb:s.heap.objs.size<=b)(hn:H' b=none):dW X γ H' b:=by
 refine⟨hn,Nat.ne_of_gt (Qwz I.lt hb),I.aeY hb,.inr (Nat.le_trans I.sz hb),fun x c e z=>?_,fun p hp z=>?_⟩
 ·obtain⟨v,q⟩:=I.cell x c e
  exact absurd (Qwz q.lt (by rw[z];exact hb)) (Nat.lt_irrefl _)
 ·exact absurd (Qwz (Qqq (I.pin p hp).1) (by rw[z];exact hb)) (Nat.lt_irrefl _)
structure Turn(P:Program)(w:World)(K:QQq)(tg:Expr)(J:It)(fp:List Addr)(it:Addr)(tn:Nat->Heap->Prop):Prop where
 mem:it∈fp
 obj:∀i h,tn i h->∀b∈fp,∃o,h.get? b=some o/\∀v,o.data≠ .cell v
 keep:∀i h h',tn i h->(∀b∈fp,∀o,h.get? b=some o->h'.get? b=some o)->tn i h'
 item:∀(X:Cx),X.prog=P->X.w=w->X.K=K->X.calm=true->∀(i:Nat)(γ:QQz)(s:Shared)(σ:St)(H:Hp)(E:QZq),Inv X γ σ H s->(∀b∈fp,dW X γ H b)->tn i s.heap->J.go i H->
  wpAny (model P w) X.A (pyNext (.ref it)) (fun r s1=>∃u,r=some u/\
   wpAny (model P w) X.A (letOwnedTupleGo tg (.ref it) u) (fun _ s2=>∃x H',Inv X γ σ H' s2/\RelV x u/\J.yld i H x H'/\tn (i+1) s2.heap/\∀b∈fp,H' b=none) E s1) E s
 done:∀(X:Cx),X.prog=P->X.w=w->X.K=K->X.calm=true->∀(i:Nat)(γ:QQz)(s:Shared)(σ:St)(H:Hp)(E:QZq),Inv X γ σ H s->(∀b∈fp,dW X γ H b)->tn i s.heap->J.stop i H->
  wpAny (model P w) X.A (pyNext (.ref it)) (fun r s1=>r=none/\Inv X γ σ H s1) E s
 self:∀(A:Around)(i:Nat)(s:Shared)(Q:QZq)(E:QZq),tn i s.heap->Q (.ref it) s->wpAny (model P w) A (pyIter (.ref it)) Q E s
abbrev TI:=St->Hp->(It->Hp->Prop)->Prop
def PIE(X:Cx)(γ:QQz)(σ:St)(tg:Expr)(R:It->Hp->Prop)(itv:Value)(s2:Shared):Prop:=
 ∃(it:Addr)(fp:List Addr)(tn:Nat->Heap->Prop)(J:It)(H':Hp),itv=.ref it/\Inv X γ σ H' s2/\Turn X.prog X.w X.K tg J fp it tn/\tn 0 s2.heap/\(∀b∈fp,dW X γ H' b)/\R J H'
def PI(X:Cx)(tg iter:Expr)(wi:TI):Prop:=
 ∀(γ:QQz)(s:Shared)(σ:St)(H:Hp)(R:It->Hp->Prop),Inv X γ σ H s->wi σ H R->
  wpAny (model X.prog X.w) X.A (eval iter X.env) (fun v s1=>wpAny (model X.prog X.w) X.A (pyIter v) (PIE X γ σ tg R) X.xe s1) X.xe s
def Gz {A : Around} {s : Shared} {it : Addr} {o : Obj} {vs : Array Value} (ho : s.heap.get? it = some o) (hc : o.cls = .type n) (hd : o.data = .fields vs)
    (hn : ["enumerate", "zip", "dict_itemiterator", "dict_reverseitemiterator", "odict_iterator", "itertools.zip_longest", "itertools.pairwise"].contains n = false) (hQ : Q () s) : wpAny M A (letOwnedTupleGo tg (.ref it) u) Q E s := by
  cases tg <;> first
    | exact QKq hQ
    | (cases u <;> first
        | exact QKq hQ
        | (refine QTz (wpAny_load ho ?_)
           rw [hc, hd]
           show wpAny M A (if _ = true then _ else _) Q E s
           rw [if_neg (by intro h; rw [hn, Bool.false_and] at h; cases h)]
           exact QKq hQ))
def Itl(K:QQq)(a:Addr):It:=
 ⟨fun i H=>∃xs x,lu K H a xs/\xs[i]? =some x,fun i H x H'=>H'=H/\∀xs,lu K H a xs->xs[i]? =some x,fun i H=>∃xs,lu K H a xs/\xs.length<=i⟩
def Itt(K:QQq)(a:Addr):It:=
 ⟨fun i H=>∃xs x,jl K H a xs/\xs[i]? =some x,fun i H x H'=>H'=H/\∀xs,jl K H a xs->xs[i]? =some x,fun i H=>∃xs,jl K H a xs/\xs.length<=i⟩
def Itr(lo:Int)(n:Nat):It:=⟨fun i _=>i<n,fun i H x H'=>H'=H/\x=.int (lo+i),fun i _=>n<=i⟩
theorem oO{w:World}{K:QQq}a it:Turn P w K tg (Itl K a) [it] it (fun i h=>h.IsListIter it a i) where
 mem:=by simp
 obj:=fun i h st b hb=>by
  have e:b=it:=by simpa using hb
  subst e
  obtain⟨o,e,c,d⟩:=st
  exact⟨o,e,fun v z=>by rw[d]at z;cases z⟩
 keep:=fun i h h' st k=>st.at fun o e=>k it (by simp) o e
 item:=by
  intro X hP hw hK hc i γ s σ H E I hf st hg
  subst hP hw hK
  obtain⟨xs,x,hq,hx⟩:=hg
  obtain⟨its,rv,p,hz⟩:=I.list hq
  obtain⟨u,hu,ru⟩:=rv.get hx
  obtain⟨f0,f1,f2,f3,f4,f5⟩:=hf it (by simp)
  refine wpAny_pyNext_list_item st p.isList (by simpa using hu) fun h' st' sb=>?_
  obtain⟨o,e,c,d⟩:=id st'
  exact⟨u,rfl,Gz e c d (by decide) ⟨x,H,I.turned (t':=s.toks) (fun b o hb e=>(sb.2 b hb).trans e) f0 f1 f3 f4 f5,ru,⟨rfl,fun ys hy=>by rw[I.zR hy hq];exact hx⟩,st',fun b hb=>(hf b hb).1⟩⟩
 done:=by
  intro X hP hw hK hc i γ s σ H E I hf st hg
  subst hP hw hK
  obtain⟨xs,hq,hx⟩:=hg
  obtain⟨its,rv,p,hz⟩:=I.list hq
  obtain⟨f0,f1,f2,f3,f4,f5⟩:=hf it (by simp)
  have hl:=rv.length
  exact wpAny_pyNext_list_end (I.ok.hd hc) st p.isList (by simp;omega) fun h' eb=>⟨rfl,I.turned (fun b o hb e=>eb b o hb e) f0 f1 f3 f4 f5⟩
 self:=fun _ _ _ _ _ st h=>wpAny_pyIter_listiter st h
theorem Bl{w:World}{K:QQq}a it:Turn P w K tg (Itt K a) [it] it (fun i h=>h.IsTupleIter it a i) where
 mem:=by simp
 obj:=fun i h st b hb=>by
  have e:b=it:=by simpa using hb
  subst e
  obtain⟨o,e,c,d⟩:=st
  exact⟨o,e,fun v z=>by rw[d]at z;cases z⟩
 keep:=fun i h h' st k=>st.at fun o e=>k it (by simp) o e
 item:=by
  intro X hP hw hK hc i γ s σ H E I hf st hg
  subst hP hw hK
  obtain⟨xs,x,hq,hx⟩:=hg
  obtain⟨its,rv,p,hz⟩:=I.tuple hq
  obtain⟨u,hu,ru⟩:=rv.get hx
  obtain⟨f0,f1,f2,f3,f4,f5⟩:=hf it (by simp)
  refine wpAny_pyNext_tuple_item st (p) (by simpa using hu) fun h' st' sb=>?_
  obtain⟨o,e,c,d⟩:=id st'
  exact⟨u,rfl,Gz e c d (by decide) ⟨x,H,I.turned (t':=s.toks) (fun b o hb e=>(sb.2 b hb).trans e) f0 f1 f3 f4 f5,ru,⟨rfl,fun ys hy=>by rw[I.u0 hy hq];exact hx⟩,st',fun b hb=>(hf b hb).1⟩⟩
 done:=by
  intro X hP hw hK hc i γ s σ H E I hf st hg
  subst hP hw hK
  obtain⟨xs,hq,hx⟩:=hg
  obtain⟨its,rv,p,hz⟩:=I.tuple hq
  obtain⟨f0,f1,f2,f3,f4,f5⟩:=hf it (by simp)
  have hl:=rv.length
  exact wpAny_pyNext_tuple_end (I.ok.hd hc) st (p) (by simp;omega) fun h' eb=>⟨rfl,I.turned (fun b o hb e=>eb b o hb e) f0 f1 f3 f4 f5⟩
 self:=fun _ _ _ _ _ st h=>wpAny_pyIter_tupleiter st h
theorem Bm{w:World}{K:QQq}it lo n:Turn P w K tg (Itr lo n) [it] it (fun i h=>IsRangeIter h it (lo+(i:Nat)*1) ((n:Int)- (i:Nat)) 1) where
 mem:=by simp
 obj:=fun i h st b hb=>by
  have e:b=it:=by simpa using hb
  subst e
  exact⟨_,st,fun v z=>by
   cases z⟩
 keep:=fun i h h' st k=>k it (by simp) _ st
 item:=by
  intro X hP hw hK hc i γ s σ H E I hf st hg
  subst hP hw hK
  obtain⟨f0,f1,f2,f3,f4,f5⟩:=hf it (by simp)
  refine(Walks.range (prog:=X.prog) (w:=X.w) (I.ok.hd hc) it lo 1 n).item i s _ _ hg st fun v h' tk hv st' kk=>?_
  obtain⟨t,rfl⟩:=hv
  refine⟨_,rfl,Gz st' rfl rfl (by decide) ⟨.int _,H,(I.turned (fun b o hb e=>kk b o (by simpa using hb) e) f0 f1 f3 f4 f5),⟨t,?_⟩,⟨rfl,rfl⟩,st',fun b hb=>(hf b hb).1⟩⟩
  rw[Int.mul_one]
 done:=by
  intro X hP hw hK hc i γ s σ H E I hf st hg
  obtain⟨f0,f1,f2,f3,f4,f5⟩:=hf it (by simp)
  exact wpAny_pyNext_range_end (I.ok.hd hc) st (by have:n<=i:=hg;omega) fun h' eb=>⟨rfl,I.turned (fun b o hb e=>eb b o hb e) f0 f1 f3 f4 f5⟩
 self:=fun _ _ _ _ _ st h=>wpAny_pyIter_rangeiter st h
section
variable{X:Cx}{tg:Expr}
def K5{σ:St}{H:Hp}{R:It->Hp->Prop}{lo hi:Int}{tk:Nat}(I:Inv X γ σ H s)(h1: -(2 ^62)<=lo)(h2:lo<2 ^62)(h3: -(2 ^62)<=hi)(h4:hi<2 ^62)
  (q:R (Itr lo (hi-lo).toNat) H):wpAny (model X.prog X.w) X.A (pyIter (.ref s.heap.objs.size)) (PIE X γ σ tg R) E {s with heap:=s.heap.push {cls:=.type "range",data:=.fields #[.int lo t,.int hi u,.int 1 v]},toks:=tk}:=by
 refine wpAny_pyIter_range (IsRange.new ..) (small_one h1 h2 h3 h4) ?_
 have I1:Inv X γ σ H {s with heap:=s.heap.push {cls:=.type "range",data:=.fields #[.int lo t,.int hi u,.int 1 v]},toks:=tk}:=I.kept fun b o e=>QWq _ e
 refine⟨(s.heap.push {cls:=.type "range",data:=.fields #[.int lo t,.int hi u,.int 1 v]}).objs.size,[(s.heap.push {cls:=.type "range",data:=.fields #[.int lo t,.int hi u,.int 1 v]}).objs.size],_,_,H,rfl,
  I1.kept fun b o e=>QWq _ e,Bm _ lo (hi-lo).toNat,?_,fun b hb=>?_,q⟩
 ·have e1:lo+((0:Nat))*1=lo:=by simp
  have e2:(((hi-lo).toNat:Nat))- ((0:Nat))=Builtin.Range.rangeSize lo hi 1:=by rw[rangeSize_one];split<;>omega
  rw[e1,e2]
  exact Qqz _ rfl
 ·have e:b=(s.heap.push {cls:=.type "range",data:=.fields #[.int lo t,.int hi u,.int 1 v]}).objs.size:=by simpa using hb
  subst e
  exact I1.xZ (QVz _) (I1.hok.fresh (QVz _))
def ab2(ta:TA):TI:=fun σ H R=>ta σ H fun vs H1=>∃j:Int,vs=[.int j]/\ -(2 ^62)<=j/\j<2 ^62/\R (Itr 0 j.toNat) H1
def Il{ta:TA}(hg:Gl X "range")(hm:X.mg "range"=none)(ha:PA X [a] ta)(hs:starEach [a] X.env=[(false,eval a X.env)]:=by rfl):PI X tg (.Call (.Name "range" p) [a] [] pos) (ab2 ta):=by
 intro γ s σ H R I h
 refine Call_ (jw I hg hm boot_range (PyProof.Rows.callWith_type1 (bK (ha pos γ s σ H _ I h) fun us s1⟨vs,H1,I1,r1,q1⟩=>?_) hs rfl))
 obtain⟨j,e,q1,q2,q⟩:=q1
 subst e
 cases r1 with
 |cons r rr=>
  cases rr
  obtain⟨t,rfl⟩:=r
  exact call_range_1 (K5 I1 (by omega) (by omega) q1 q2 (by simpa using q))
noncomputable def ad7(wi:TI)(g:TG)(tb:TS):TS:=fun D σ H=>wi σ H fun J H1=>∃W:Nat->Nat->St->Hp->Prop,(∃m,W 0 m σ H1)/\∀i m σ H,W i m σ H->
 (J.stop i H/\D.nx σ H)\/(J.go i H/\∃N:St->Hp->Prop,(∀ζ H',N ζ H'->∃m',m'<m/\W (i+1) m' ζ H')/\∀x H',J.yld i H x H'->g x σ H' fun ρ H2=>tb {D with nx:=N,ct:=N,bk:=D.nx} ρ H2)
def sJ(fp:List Addr)(h:Heap):List (Addr×Obj):=fp.filterMap fun b=>(h.get? b).map fun o=>(b,o)
def ju{h:Heap}{o:Obj}(hb:b∈fp)(e:h.get? b=some o):(b,o)∈sJ fp h:=List.mem_filterMap.mpr ⟨b,hb,by rw[e];rfl⟩
def Iv{h:Heap}(hp:p∈sJ fp h):p.1∈fp/\h.get? p.1=some p.2:=by
 obtain⟨b,hb,e⟩:=List.mem_filterMap.mp hp
 cases q:h.get? b with
 |none=>rw[q]at e;cases e
 |some o=>
  rw[q]at e
  have e':=QDz e
  subst e'
  exact⟨hb,q⟩
def Inv.pinned{σ:St}{s:Shared}(I:Inv X γ σ H s)(hf:∀b∈fp,dW X γ H b)(ho:∀b∈fp,∃o,s.heap.get? b=some o/\∀v,o.data≠ .cell v):Inv X (γ++sJ fp s.heap) σ H s:=
 I.xu fun p hp=>(QXz.mp hp).elim (fun z=>I.pin p (QVq _ z)) fun z=>by
  obtain⟨hb,e⟩:=Iv z
  obtain⟨f0,f1,f2,_⟩:=hf p.1 hb
  obtain⟨o,e',d⟩:=ho p.1 hb
  rw[e]at e';cases e'
  exact⟨e,f0,f1,f2,d⟩
def Inv.dF{σ:St}{H:Hp}(I:Inv X (γ++pl) σ H s):Inv X γ σ H s:=I.xu fun p hp=>I.pin p (QVq _ (QWz _ hp))
theorem W4{body:List Stmt}{g:TG}{pos:Pos}(hp:PassesOwn (model X.prog X.w) X.A X.env X.xe)(hc:X.calm=true)(hi:PI X tg iter wi)(hg:PG X tg g)(hb:uX X body tb)
  (hs:∀x,foldedSetIterable iter X.env x=pure x:=by intro _;rfl):PS X (.For tg iter body [] pos) (ad7 wi g tb):=by
 intro γ s σ H D I h
 refine wpAny_For (bK (hi γ s σ H _ I h) fun v s1 h1=>bK h1 fun itv s2 h2=>?_) hs
 obtain⟨it,fp,tn,J,H2,e,I2,T,st2,f2,W,⟨m0,w0⟩,turn⟩:=h2
 subst e
 have stat:∀{H':Hp},(∀b∈fp,H' b=none)->∀b∈fp,dW X γ H' b:=fun hn b hb=>⟨hn b hb,(f2 b hb).2⟩
 refine codeAny_forLoop_any (fun n s'=>∃i ζ H',Inv X γ ζ H' s'/\tn i s'.heap/\(∀b∈fp,H' b=none)/\W i n ζ H') ?_ m0 ⟨0,σ,H2,I2,st2,fun b hb=>(f2 b hb).1,w0⟩
 rintro n s3 ⟨i,σ3,H3,I3,st3,fr3,w3⟩
 rcases turn i n σ3 H3 w3 with ⟨stop,qn⟩|⟨go,N,hN,step⟩
 ·refine wpAny_passesOwn hp (bK (T.done X rfl rfl rfl hc i γ s3 σ3 H3 X.xe I3 (stat fr3) st3 stop) fun r s4⟨hr,I4⟩=>?_)
  subst hr
  exact wpAny_execs_nil ⟨σ3,H3,I4,qn⟩
 ·refine wpAny_passesOwn hp (bK (T.item X rfl rfl rfl hc i γ s3 σ3 H3 X.xe I3 (stat fr3) st3 go) fun r s4⟨u,hr,h4⟩=>?_)
  subst hr
  refine wpAny_passesOwn hp (bK h4 fun _ s5⟨x,H5,I5,r5,y5,st5,fr5⟩=>?_)
  refine wpAny_passesOwn hp (bK (hg _ s5 σ3 H5 x u _ (I5.pinned (stat fr5) (T.obj _ _ st5)) r5 (step x H5 y5)) fun _ s6⟨σ6,H6,I6,q6⟩=>?_)
  refine wpAny_passesOwn hp (bK (hb _ s6 σ6 H6 _ I6 q6) fun f s7 q7=>?_)
  have again:∀{σ7:St}{H7:Hp},Inv X _ σ7 H7 s7->N σ7 H7->∃m,m<n/\∃i ζ H',Inv X γ ζ H' s7/\tn i s7.heap/\(∀b∈fp,H' b=none)/\W i m ζ H':=fun{σ7 H7}I7 n7=>by
   obtain⟨m',hm,w7⟩:=hN σ7 H7 n7
   refine⟨m',hm,i+1,σ7,H7,I7.dF,T.keep _ _ _ st5 fun b hb o e=>(I7.pin (b,o) (QVq _ (QVq _ (ju hb e)))).1,fun b hb=>?_,w7⟩
   obtain⟨o,e,d⟩:=T.obj _ _ st5 b hb
   exact(I7.pin (b,o) (QVq _ (QVq _ (ju hb e)))).2.1
  cases f with
  |next=>obtain⟨σ7,H7,I7,n7⟩:=q7;exact again I7 n7
  |cont=>obtain⟨σ7,H7,I7,n7⟩:=q7;exact again I7 n7
  |brk=>obtain⟨σ7,H7,I7,q7⟩:=q7;exact⟨σ7,H7,I7.dF,q7⟩
  |ret v=>obtain⟨x7,σ7,H7,I7,r7,q7⟩:=q7;exact⟨x7,σ7,H7,I7.dF,r7,q7⟩
end
abbrev R2:=V->V->Hp->VK->Prop
def gJ(X:Cx)(f:Value->Value->Sem Value)(r:R2):Prop:=
 ∀(γ:QQz)(s:Shared)(σ:St)(H:Hp)(x y:V)(v u:Value)(Q:VK),Inv X γ σ H s->RelV x v->RelV y u->r x y H Q->
  wpAny (model X.prog X.w) X.A (f v u) (EP X γ σ Q) X.xe s
def UnR(X:Cx)(f:Value->Sem Value)(r:V->Hp->VK->Prop):Prop:=
 ∀(γ:QQz)(s:Shared)(σ:St)(H:Hp)(x:V)(v:Value)(Q:VK),Inv X γ σ H s->RelV x v->r x H Q->
  wpAny (model X.prog X.w) X.A (f v) (EP X γ σ Q) X.xe s
def gq(X:Cx)(f:Value)(r:List V->Hp->VK->Prop):Prop:=
 ∀(γ:QQz)(s:Shared)(σ:St)(H:Hp)(xs:List V)(us:List Value)(Q:VK),Inv X γ σ H s->Vals xs us->r xs H Q->
  wpAny (model X.prog X.w) X.A (call f us) (EP X γ σ Q) X.xe s
def agn(X:Cx)(r:V->Hp->(Bool->Hp->Prop)->Prop):Prop:=
 ∀(γ:QQz)(s:Shared)(σ:St)(H:Hp)(x:V)(v:Value)(Q:Bool->Hp->Prop),Inv X γ σ H s->RelV x v->r x H Q->
  wpAny (model X.prog X.w) X.A (truthy v) (TP X γ σ Q) X.xe s
def Ur(r:R2)(ta tb:TE):TE:=fun σ H Q=>ta σ H fun x H1=>tb σ H1 fun y H2=>r x y H2 Q
def tUn(r:V->Hp->VK->Prop)(ta:TE):TE:=fun σ H Q=>ta σ H fun x H1=>r x H1 Q
def rI(C:Int->Int->Prop)(g:Int->Int->V):R2:=fun x y H Q=>∃i j,x=.int i/\y=.int j/\C i j/\Q (g i j) H
def Le(g:Int->Int->V):R2:=fun x y H Q=>∃i j,x=.int i/\y=.int j/\Q (g i j) H
def rU(g:Int->V):V->Hp->VK->Prop:=fun x H Q=>∃i,x=.int i/\Q (g i) H
section
variable{X:Cx}{a b c:Expr}{ta tb tc:TE}{pos:Pos}
def Y4(ha:PE X a ta)(hb:PE X b tb){s:Shared}{σ:St}{R:V->V->Hp->Prop}(I:Inv X γ σ H s)
  (h:ta σ H fun x H1=>tb σ H1 fun y H2=>R x y H2){f:Value->Value->Sem Value}
  (hf:∀v u s2 x y H2,Inv X γ σ H2 s2->RelV x v->RelV y u->R x y H2->wpAny (model X.prog X.w) X.A (f v u) Q X.xe s2):
  wpAny (model X.prog X.w) X.A (eval a X.env) (fun v θ=>wpAny (model X.prog X.w) X.A (eval b X.env) (fun u Δ=>wpAny (model X.prog X.w) X.A (f v u) Q X.xe Δ) X.xe θ) X.xe s:=by
 exact bK (ha γ s σ H _ I h) fun v s1⟨x,H1,I1,r1,q1⟩=>bK (hb γ s1 σ H1 _ I1 q1) fun u s2⟨y,H2,I2,r2,q2⟩=>hf v u s2 x y H2 I2 r1 r2 q2
def vJ{r:R2}(ho:gJ X (binaryOp op) r)(ha:PE X a ta)(hb:PE X b tb):PE X (.BinOp a op b pos) (Ur r ta tb):=by
 intro γ s σ H Q I h
 exact wpAny_BinOp (Y4 ha hb I h fun v u s2 x y H2 I2 rx ry q=>ho γ s2 σ H2 x y v u Q I2 rx ry q)
def abo{r:V->Hp->VK->Prop}(ho:UnR X (unaryOp op) r)(ha:PE X a ta):PE X (.UnaryOp op a pos) (tUn r ta):=by
 intro γ s σ H Q I h
 exact UnaryOp_ (bK (ha γ s σ H _ I h) fun v s1⟨x,H1,I1,r1,q1⟩=>ho γ s1 σ H1 x v Q I1 r1 q1)
def opI{C:Int->Int->Prop}{g:Int->Int->Int}
  (rule:∀(i j:Int)(t u:Tok)(s:Shared)(Q:QZq)(E:QZq),C i j->Q (.int (g i j) s.toks) {s with toks:=s.toks+1}->wpAny (model X.prog X.w) X.A (f (.int i t) (.int j u)) Q E s):
  gJ X f (rI C fun i j=>.int (g i j)):=by
 intro γ s σ H x y v u Q I rx ry h
 obtain⟨i,j,rfl,rfl,hc,q⟩:=h
 obtain⟨t,rfl⟩:=rx
 obtain⟨t',rfl⟩:=ry
 exact rule i j t t' s _ _ hc ⟨.int _,H,I.tok _,⟨_,rfl⟩,q⟩
def abB{g:Int->Int->Int}
  (rule:∀(i j:Int)(t u:Tok)(s:Shared)(Q:QZq)(E:QZq),Q (.int (g i j) s.toks) {s with toks:=s.toks+1}->wpAny (model X.prog X.w) X.A (f (.int i t) (.int j u)) Q E s):
  gJ X f (Le fun i j=>.int (g i j)):=by
 intro γ s σ H x y v u Q I rx ry h
 obtain⟨i,j,rfl,rfl,q⟩:=h
 obtain⟨t,rfl⟩:=rx
 obtain⟨t',rfl⟩:=ry
 exact rule i j t t' s _ _ ⟨.int _,H,I.tok _,⟨_,rfl⟩,q⟩
def RX{g:Int->Int->Bool}
  (rule:∀(i j:Int)(t u:Tok)(s:Shared)(Q:QZq)(E:QZq),Q (.bool (g i j)) s->wpAny (model X.prog X.w) X.A (f (.int i t) (.int j u)) Q E s):
  gJ X f (Le fun i j=>.bl (g i j)):=by
 intro γ s σ H x y v u Q I rx ry h
 obtain⟨i,j,rfl,rfl,q⟩:=h
 obtain⟨t,rfl⟩:=rx
 obtain⟨t',rfl⟩:=ry
 exact rule i j t t' s _ _ ⟨.bl _,H,I,rfl,q⟩
def acR(i j:Int):Prop:=0<j/\j<1073741824
def acQ(i j:Int):Prop:=0<=j/\j<=1000000/\i.natAbs<2 ^64
def T8(i j:Int):Prop:=(-(2 ^64)<i/\i<2 ^64)\/(-(2 ^64)<j/\j<2 ^64)
def T8.ok(h:T8 i j):IntMulOk i j:=by
 rcases h with ⟨h1,h2⟩|⟨h1,h2⟩
 ·exact .of_left (intBits_le_64 h1 h2)
 ·exact .of_right (intBits_le_64 h1 h2)
def Xn:gJ X (binaryOp .Add) (Le fun i j=>.int (i+j)):=abB fun _ _ _ _ _ _ _ q=>add_int q
def Xe:gJ X (binaryOp .Sub) (Le fun i j=>.int (i-j)):=abB fun _ _ _ _ _ _ _ q=>sub_int q
def Xh:gJ X (binaryOp .Mult) (rI T8 fun i j=>.int (i*j)):=opI fun _ _ _ _ _ _ _ hc q=>mul_int q hc.ok
def RP:gJ X (binaryOp .FloorDiv) (rI acR fun i j=>.int (i/j)):=opI fun i j _ _ _ _ _ hc q=>by
 have h1:=hc.1
 have h2:=hc.2
 exact floordiv_int (by omega) (by rw[Int.fdiv_eq_ediv_of_nonneg i (by omega)];exact q) (.inl (PyProof.noPylong_small (by omega)))
def Xi:gJ X (binaryOp .Mod) (rI (fun _ j=>0<j) fun i j=>.int (i%j)):=opI fun i j _ _ _ _ _ hc q=>by
 have h1:=hc
 exact mod_int' (by omega) (by rw[Int.fmod_eq_emod_of_nonneg i (by omega)];exact q)
def Xf:gJ X (binaryOp .Pow) (rI acQ fun i j=>.int (i ^j.toNat)):=opI fun _ _ _ _ _ _ _ hc q=>pow_int_small hc.1 hc.2.1 hc.2.2 q
def unI{g:Int->Int}
  (rule:∀(i:Int)(t:Tok)(s:Shared)(Q:QZq)(E:QZq),Q (.int (g i) s.toks) {s with toks:=s.toks+1}->wpAny (model X.prog X.w) X.A (f (.int i t)) Q E s):
  UnR X f (rU fun i=>.int (g i)):=by
 intro γ s σ H x v Q I rx h
 obtain⟨i,rfl,q⟩:=h
 obtain⟨t,rfl⟩:=rx
 exact rule i t s _ _ ⟨.int (g i),H,I.tok _,⟨_,rfl⟩,q⟩
def V5:UnR X (unaryOp .USub) (rU fun i=>.int (-i)):=unI fun _ _ _ _ _ q=>neg_int q
end
noncomputable def Q0:V->V->Bool
 |.non,.non=>true|.non,.int _=>true|.int _,.non=>true|.non,.bl _=>true|.bl _,.non=>true|.non,.str _=>true|.str _,.non=>true
 |.int _,.int _=>true|.bl _,.bl _=>true|.str _,.str _=>true|.byt _,.byt _=>true
 |.int _,.str _=>true|.str _,.int _=>true|.bl _,.str _=>true|.str _,.bl _=>true
 |_,_=>false
def rEq:R2:=fun x y H Q=>Q0 x y=true/\Q (.bl (decide (x=y))) H
def rNe:R2:=fun x y H Q=>Q0 x y=true/\Q (.bl (!decide (x=y))) H
def Ha:decide (V.int i=V.int j)=(i==j):=by
 rw[Bool.eq_iff_iff]
 simp
def O1:decide (V.bl i=V.bl j)=(i==j):=by
 rw[Bool.eq_iff_iff]
 simp
def G9:decide (V.str i=V.str j)=(i==j):=by
 rw[Bool.eq_iff_iff]
 simp
def Hb:decide (V.byt i=V.byt j)=(i.toList==j.toList):=by
 rw[Bool.eq_iff_iff]
 cases i
 cases j
 simp
section
variable{X:Cx}{a b c:Expr}{ta tb tc:TE}{pos:Pos}
def aY{σ:St}{H:Hp}{Q:VK}(I:Inv X γ σ H s)(q:Q (.bl k) H)(e:k=k'):EP X γ σ Q (.bool k') s:=by
 subst e
 exact⟨.bl k,H,I,rfl,q⟩
def abz:gJ X (compareOp .Eq) rEq:=by
 intro γ s σ H x y v u Q I rx ry h
 obtain⟨hs,q⟩:=h
 cases x with
 |non=>
  cases rx
  cases y with
  |non=>cases ry;exact PySem.EqNone.eq_none_none (aY I q (by simp))
  |bl j=>cases ry;exact PySem.EqNone.eq_none_bool (aY I q (by simp))
  |int j=>obtain⟨t',rfl⟩:=ry;exact PySem.EqNone.eq_none_int (aY I q (by simp))
  |str j=>obtain⟨t',rfl⟩:=ry;exact PySem.EqNone.eq_none_str (aY I q (by simp))
  |_=>exact absurd (hs) Qjq
 |bl i=>
  cases rx
  cases y with
  |non=>cases ry;exact PySem.EqNone.eq_bool_none (aY I q (by simp))
  |bl j=>cases ry;exact eq_bool (aY I q O1)
  |str j=>obtain⟨t',rfl⟩:=ry;exact PySem.EqMixed.eq_bool_str (aY I q (by simp))
  |_=>exact absurd (hs) Qjq
 |int i=>
  obtain⟨t,rfl⟩:=rx
  cases y with
  |non=>cases ry;exact PySem.EqNone.eq_int_none (aY I q (by simp))
  |int j=>obtain⟨t',rfl⟩:=ry;exact eq_int (aY I q Ha)
  |str j=>obtain⟨t',rfl⟩:=ry;exact PySem.EqMixed.eq_int_str (aY I q (by simp))
  |_=>exact absurd (hs) Qjq
 |str i=>
  obtain⟨t,rfl⟩:=rx
  cases y with
  |non=>cases ry;exact PySem.EqNone.eq_str_none (aY I q (by simp))
  |bl j=>cases ry;exact PySem.EqMixed.eq_str_bool (aY I q (by simp))
  |int j=>obtain⟨t',rfl⟩:=ry;exact PySem.EqMixed.eq_str_int (aY I q (by simp))
  |str j=>obtain⟨t',rfl⟩:=ry;exact eq_str (aY I q G9)
  |_=>exact absurd (hs) Qjq
 |byt i=>
  obtain⟨t,rfl⟩:=rx
  cases y with
  |byt j=>obtain⟨t',rfl⟩:=ry;exact PySem.W.eq_bytes (aY I q Hb)
  |_=>exact absurd (hs) Qjq
 |_=>cases y<;>exact absurd (hs) Qjq
def abu:gJ X (compareOp .NotEq) rNe:=by
 intro γ s σ H x y v u Q I rx ry h
 obtain⟨hs,q⟩:=h
 cases x with
 |non=>
  cases rx
  cases y with
  |non=>cases ry;exact PySem.EqNone.ne_none_none (aY I q (by simp))
  |bl j=>cases ry;exact PySem.EqNone.ne_none_bool (aY I q (by simp))
  |int j=>obtain⟨t',rfl⟩:=ry;exact PySem.EqNone.ne_none_int (aY I q (by simp))
  |str j=>obtain⟨t',rfl⟩:=ry;exact PySem.EqNone.ne_none_str (aY I q (by simp))
  |_=>exact absurd (hs) Qjq
 |bl i=>
  cases rx
  cases y with
  |non=>cases ry;exact PySem.EqNone.ne_bool_none (aY I q (by simp))
  |bl j=>cases ry;exact ne_bool (aY I q (congrArg not O1))
  |str j=>obtain⟨t',rfl⟩:=ry;exact PySem.EqMixed.ne_bool_str (aY I q (by simp))
  |_=>exact absurd (hs) Qjq
 |int i=>
  obtain⟨t,rfl⟩:=rx
  cases y with
  |non=>cases ry;exact PySem.EqNone.ne_int_none (aY I q (by simp))
  |int j=>obtain⟨t',rfl⟩:=ry;exact ne_int (aY I q (congrArg not Ha))
  |str j=>obtain⟨t',rfl⟩:=ry;exact PySem.EqMixed.ne_int_str (aY I q (by simp))
  |_=>exact absurd (hs) Qjq
 |str i=>
  obtain⟨t,rfl⟩:=rx
  cases y with
  |non=>cases ry;exact PySem.EqNone.ne_str_none (aY I q (by simp))
  |bl j=>cases ry;exact PySem.EqMixed.ne_str_bool (aY I q (by simp))
  |int j=>obtain⟨t',rfl⟩:=ry;exact PySem.EqMixed.ne_str_int (aY I q (by simp))
  |str j=>obtain⟨t',rfl⟩:=ry;exact ne_str (aY I q (congrArg not G9))
  |_=>exact absurd (hs) Qjq
 |byt i=>
  obtain⟨t,rfl⟩:=rx
  cases y with
  |byt j=>obtain⟨t',rfl⟩:=ry;exact PySem.W.ne_bytes (aY I q (congrArg not Hb))
  |_=>exact absurd (hs) Qjq
 |_=>cases y<;>exact absurd (hs) Qjq
def abv:gJ X (compareOp .Lt) (Le fun i j=>.bl (decide (i<j))):=RX fun _ _ _ _ _ _ _ q=>lt_int q
def abw:gJ X (compareOp .LtE) (Le fun i j=>.bl (decide (i<=j))):=RX fun _ _ _ _ _ _ _ q=>le_int q
def abx:gJ X (compareOp .Gt) (Le fun i j=>.bl (decide (j<i))):=RX fun _ _ _ _ _ _ _ q=>gt_int q
def aby:gJ X (compareOp .GtE) (Le fun i j=>.bl (decide (j<=i))):=RX fun _ _ _ _ _ _ _ q=>ge_int q
def Ip:gJ X (compareOp .In) (fun x y H Q=>∃i j,x=.str i/\y=.str j/\Q (.bl (!(Builtin.Str.occurrences j i 0 j.length 1).isEmpty)) H):=by
 intro γ s σ H x y v u Q I rx ry h
 obtain⟨i,j,rfl,rfl,q⟩:=h
 obtain⟨t,rfl⟩:=rx
 obtain⟨t',rfl⟩:=ry
 exact in_str (aY I q rfl)
def CG:gJ X (compareOp .Is) (fun x y H Q=>y=.non/\Q (.bl (decide (x=.non))) H):=by
 intro γ s σ H x y v u Q I rx ry h
 obtain⟨rfl,q⟩:=h
 cases ry
 refine is_none_gen (aY I q ?_)
 cases x<;>first
  |(cases rx;rfl)
  |(obtain⟨t,rfl⟩:=rx;rfl)
def RM:gJ X (compareOp .IsNot) (fun x y H Q=>y=.non/\Q (.bl (!decide (x=.non))) H):=by
 intro γ s σ H x y v u Q I rx ry h
 obtain⟨rfl,q⟩:=h
 cases ry
 refine isnot_none_gen (aY I q ?_)
 cases x<;>first
  |(cases rx;rfl)
  |(obtain⟨t,rfl⟩:=rx;rfl)
def gJ.or{f:Value->Value->Sem Value}{r r':R2}(h:gJ X f r)(h':gJ X f r'):gJ X f (fun x y H Q=>r x y H Q\/r' x y H Q):=by
 intro γ s σ H x y v u Q I rx ry q
 rcases q with q|q
 ·exact h γ s σ H x y v u Q I rx ry q
 ·exact h' γ s σ H x y v u Q I rx ry q
def RG{r:R2}(ho:gJ X (compareOp op) r)(ha:PE X a ta)(hb:PE X b tb)(hm:behindInMarks op b=false):PE X (.Compare a [op] [b] pos) (Ur r ta tb):=by
 intro γ s σ H Q I h
 exact wpAny_Compare1 (Y4 ha hb I h fun v u s2 x y H2 I2 rx ry q=>ho γ s2 σ H2 x y v u Q I2 rx ry q) hm
def Ew(t:TE):TT:=fun σ H Q=>t σ H fun x H'=>∃k,x=.bl k/\Q k H'
def xq{r:R2}(ho:gJ X (compareOp op) r)(ha:PE X a ta)(hb:PE X b tb)(hm:behindInMarks op b=false):PT X (.Compare a [op] [b] pos) (Ew (Ur r ta tb)):=by
 intro γ s σ H Q I h
 refine wpAny_isTrue_Compare1 (bK (ha γ s σ H _ I h) fun v s1⟨x,H1,I1,r1,q1⟩=>bK (hb γ s1 σ H1 _ I1 q1) fun u s2⟨y,H2,I2,r2,q2⟩=>
  bK (ho γ s2 σ H2 x y v u _ I2 r1 r2 q2) fun c s3⟨z,H3,I3,r3,k,e,q3⟩=>?_) hm
 subst e
 cases r3
 exact wpAny_truthy_bool ⟨H3,I3,q3⟩
def Br(r r':R2)(ta tb tc:TE):TE:=fun σ H Q=>ta σ H fun x H1=>tb σ H1 fun y H2=>r x y H2 fun z H3=>∃k,z=.bl k/\
 (if k=true then tc σ H3 fun w' H4=>r' y w' H4 Q else Q (.bl false) H3)
theorem LR{r r':R2}(ho:gJ X (compareOp op) r)(ho':gJ X (compareOp op') r')(ha:PE X a ta)(hb:PE X b tb)(hc:PE X c tc)
  (hm:lastMarks [op,op'] [b,c]=false:=by with_unfolding_all rfl):PE X (.Compare a [op,op'] [b,c] pos) (Br r r' ta tb tc):=by
 intro γ s σ H Q I h
 refine Compare_chain (bK (ha γ s σ H _ I h) fun v s1⟨x,H1,I1,r1,q1⟩=>chain_link (bK (hb γ s1 σ H1 _ I1 q1) fun u s2⟨y,H2,I2,r2,q2⟩=>
  bK (ho γ s2 σ H2 x y v u _ I2 r1 r2 q2) fun d s3⟨z,H3,I3,r3,k,e,q3⟩=>?_)) hm
 subst e
 cases r3
 refine wpAny_truthy_bool ?_
 cases k with
 |false=>exact ite_ff ⟨.bl false,H3,I3,rfl,q3⟩
 |true=>exact ite_tt (chain_last (bK (hc γ s3 σ H3 _ I3 q3) fun w' s4⟨z',H4,I4,r4,q4⟩=>ho' γ s4 σ H4 y z' u w' Q I4 r2 r4 q4))
theorem Li{r r':R2}(ho:gJ X (compareOp op) r)(ho':gJ X (compareOp op') r')(ha:PE X a ta)(hb:PE X b tb)(hc:PE X c tc)
  (hm:lastMarks [op,op'] [b,c]=false:=by with_unfolding_all rfl):PT X (.Compare a [op,op'] [b,c] pos) (Ew (Br r r' ta tb tc)):=by
 intro γ s σ H Q I h
 refine isTrue_chain (bK (ha γ s σ H _ I h) fun v s1⟨x,H1,I1,r1,q1⟩=>test_link (bK (hb γ s1 σ H1 _ I1 q1) fun u s2⟨y,H2,I2,r2,q2⟩=>
  bK (ho γ s2 σ H2 x y v u _ I2 r1 r2 q2) fun d s3⟨z,H3,I3,r3,k,e,q3⟩=>?_)) hm
 subst e
 cases r3
 refine wpAny_truthy_bool ?_
 cases k with
 |false=>
  obtain⟨k',e',q'⟩:=q3
  cases e'
  exact ite_ff ⟨H3,I3,q'⟩
 |true=>
  refine ite_tt (test_last (bK (hc γ s3 σ H3 _ I3 q3) fun w' s4⟨z',H4,I4,r4,q4⟩=>bK (ho' γ s4 σ H4 y z' u w' _ I4 r2 r4 q4) fun d' s5⟨z2,H5,I5,r5,k2,e2,q5⟩=>?_))
  subst e2
  cases r5
  exact wpAny_truthy_bool ⟨H5,I5,q5⟩
def Ei(K:QQq)(x:V)(H:Hp)(k:Bool):Prop:=
 match x with
 |.non=>k=false
 |.bl b=>k=b
 |.int i=>k=(i !=0)
 |.str y=>y.length<=sizeLine/\k=((y.length:Int) !=0)
 |.byt y=>y.size<=sizeLine/\k=((y.size:Int) !=0)
 |.ref p=>(∃xs,lu K H p xs/\k= !xs.isEmpty)\/(∃xs,jl K H p xs/\k= !xs.isEmpty)\/∃kvs,H p=some (.dK kvs)/\k= !kvs.isEmpty
 |_=>False
def Dd{kvs:List (κ×V)}{vs:List (κ×Value)}(r:KV kvs vs):(!vs.isEmpty)= !kvs.isEmpty:=by
 cases r<;>rfl
def tQ{its:List Value}(r:Vals xs its):(!its.toArray.isEmpty)= !xs.isEmpty:=by
 cases r<;>simp
def xQ:(sizeLine:Nat)<2 ^63:=by rw[sizeLine_eq];decide
def J3:agn X (fun x H Q=>∃k,Ei X.K x H k/\Q k H):=by
 intro γ s σ H x v Q I rx h
 obtain⟨k,e,q⟩:=h
 have hs:=sizeLine_eq
 cases x with
 |non=>
  cases rx
  subst e
  exact truthy_none ⟨H,I,q⟩
 |bl b=>
  cases rx
  subst e
  exact wpAny_truthy_bool ⟨H,I,q⟩
 |int i=>
  obtain⟨t,rfl⟩:=rx
  subst e
  exact PySem.P.truthy_int ⟨H,I,q⟩
 |str y=>
  obtain⟨t,rfl⟩:=rx
  obtain⟨hy,e'⟩:y.length<=sizeLine/\k=((y.length:Int) !=0):=e
  subst e'
  exact PySem.P.truthy_str (by omega) ⟨H,I.tok _,q⟩
 |byt y=>
  obtain⟨t,rfl⟩:=rx
  obtain⟨hy,e'⟩:y.size<=sizeLine/\k=((y.size:Int) !=0):=e
  subst e'
  exact PySem.W.truthy_bytes (by omega) ⟨H,I.tok _,q⟩
 |ref p=>
  cases rx
  have e':=e
  rcases e' with ⟨xs,hx,e'⟩|⟨xs,hx,e'⟩|⟨kvs,hx,e'⟩
  ·subst e'
   obtain⟨its,r,pl,hz⟩:=I.list hx
   have hlen:=r.length
   exact wpAny_truthy_list pl.isList (by simp only[Qjz];omega) ⟨H,I.tok _,by rw[tQ r];exact q⟩
  ·subst e'
   obtain⟨its,r,pl,hz⟩:=I.tuple hx
   have hlen:=r.length
   exact truthy_tuple pl (by simp only[Qjz];omega) ⟨H,I.tok _,by rw[tQ r];exact q⟩
  ·subst e'
   obtain⟨hz,hS,vs,r,m⟩:kvs.length<=sizeLine/\(p==sysModules)=false/\∃vs,KV kvs vs/\s.heap.DictOf _ p vs:=I.hok p _ hx
   have hlen:=Paired.length r
   exact wpAny_truthy_dict hS m (by omega) ⟨H,I.tok _,by rw[Dd r];exact q⟩
 |_=>exact(e).elim
def nO(ha:PE X a ta)(he:∀whole,isTrue a X.env whole=(do let v<-whole;standAt a.pos;holding [v] (truthy v))):
  PT X a (fun σ H Q=>ta σ H fun x H'=>∃k,Ei X.K x H' k/\Q k H'):=by
 intro γ s σ H Q I h
 exact isTrue_plain (bK (ha γ s σ H _ I h) fun v s1⟨x,H1,I1,r1,q1⟩=>J3 γ s1 σ H1 x v Q I1 r1 q1) (he _)
def vals1{us:List Value}(r:Vals [x] us):∃u,us=[u]/\RelV x u:=by
 cases r with
 |cons r1 r2=>cases r2;exact⟨_,rfl,r1⟩
def JF:gq X (.type "int") (fun xs H Q=>(∃i,xs=[.int i]/\Q (.int i) H)\/∃k,xs=[.bl k]/\Q (.int (if k then 1 else 0)) H):=by
 intro γ s σ H xs us Q I r h
 rcases h with ⟨i,rfl,q⟩|⟨k,rfl,q⟩
 ·obtain⟨u,rfl,t,rfl⟩:=vals1 r
  exact call_int_int ⟨.int i,H,I,⟨_,rfl⟩,q⟩
 ·obtain⟨u,rfl,r1⟩:=vals1 r
  cases r1
  exact call_int_bool ⟨.int _,H,I.tok _,⟨_,rfl⟩,q⟩
def T6(K:QQq)(x:V)(H:Hp)(n:Nat):Prop:=
 match x with
 |.str y=>y.length<=sizeLine/\n=y.length
 |.byt y=>y.size<=sizeLine/\n=y.size
 |.ref p=>(∃xs,lu K H p xs/\n=xs.length)\/∃xs,jl K H p xs/\n=xs.length
 |_=>False
def Ao:gq X (.builtin "len") (fun xs H Q=>∃x n,xs=[x]/\T6 X.K x H n/\Q (.int n) H):=by
 intro γ s σ H xs us Q I r h
 obtain⟨x,n,rfl,e,q⟩:=h
 obtain⟨u,rfl,rx⟩:=vals1 r
 have hs:=sizeLine_eq
 cases x with
 |str y=>
  obtain⟨t,rfl⟩:=rx
  obtain⟨hy,e'⟩:y.length<=sizeLine/\n=y.length:=e
  subst e'
  exact len_str (by omega) ⟨.int _,H,I.tok _,⟨_,rfl⟩,q⟩
 |byt y=>
  obtain⟨t,rfl⟩:=rx
  obtain⟨hy,e'⟩:y.size<=sizeLine/\n=y.size:=e
  subst e'
  exact PySem.W.len_bytes (by omega) ⟨.int _,H,I.tok _,⟨_,rfl⟩,q⟩
 |ref p=>
  cases rx
  have e':=e
  rcases e' with ⟨xs,hx,e'⟩|⟨xs,hx,e'⟩
  ·subst e'
   obtain⟨its,r',pl,hz⟩:=I.list hx
   have hlen:=r'.length
   exact Calls.call_len_list pl.isList (by simp only[Qjz];omega) ⟨.int xs.length,H,I.tok _,⟨_,by simp only[Qjz];rw[hlen]⟩,q⟩
  ·subst e'
   obtain⟨its,r',pl,hz⟩:=I.tuple hx
   have hlen:=r'.length
   exact len_tuple pl (by simp only[Qjz];omega) ⟨.int xs.length,H,I.tok _,⟨_,by simp only[Qjz];rw[hlen]⟩,q⟩
 |_=>exact(e).elim
end
structure Ej(h:Heap)(x dx C:Addr)(mA:QZz):Prop where
 obj:h.get? x=some (PySem.W.instObj C dx)
 ns:h.Ns1 dx mA
 ne:dx≠x
def Jb{h:Heap}{dx:Addr}{mA:QZz}(n:h.Ns1 dx mA):∃od,h.get? dx=some od/\∀name,PySem.W.lookIn name od=some (mA name):=by
 obtain⟨o,es,ep,ho,hd,hk,_,hm⟩:=n
 refine⟨o,ho,fun name=>?_⟩
 have e:=hm name
 unfold nsFind findBy at e
 rw[<-Array.find?_toList]at e
 unfold PySem.W.lookIn
 rw[hd]
 dsimp only
 split
 ·rename_i y q
  rw[q]at e
  exact congrArg some e
 ·rename_i q
  rw[q]at e
  have a:es.toList.any (·.refKey)=false:=by
   rw[List.any_eq_false]
   intro y hy
   obtain⟨z,t,hkey⟩:=hk y (Array.mem_toList_iff.mp hy)
   simp[DictEntry.refKey,hkey]
  have a':¬es.toList.any (·.refKey)=true:=by rw[a];exact Qjq
  rw[if_neg a']
  exact congrArg some e
def Ej.look{h:Heap}{x dx C:Addr}{mA:QZz}(I:Ej h x dx C mA):∃od,PySem.W.InstAt h x (PySem.W.instObj C dx) C (some od)/\∀name,PySem.W.lookIn name od=some (mA name):=
 let ⟨od,ho,hl⟩:=Jb I.ns
 ⟨od,⟨I.obj,rfl,rfl,ho⟩,hl⟩
section
variable{prog:Program}{w:World}{A:Around}{E:QZq}{s:Shared}{K:QQq}{x dx C f:Addr}{mA:QZz}{name:Str}{v:Value}
def S7{expr:Bool}{Q:QZq}(X:K.In s.heap)(I:Ej s.heap x dx C mA)(hg:PySem.W.plainGet K C name=true)(hh:PySem.W.hasDictIn K C=true)
  (ha:PySem.W.findIn K (.ref C) name=some none)(hv:mA name=some v)(hv':PySem.W.handedIn v=true)(h:Q v {s with toks:=s.toks+1}):
  wpAny (model prog w) A (getAttr (.ref x) name expr) Q E s:=by
 obtain⟨od,J,hl⟩:=I.look
 exact PySem.W.get_value X J (PySem.W.plainGet_of hg).1 (PySem.W.findObj_own hh ha rfl (by rw[hl,hv])) hv' h
def N7{pl:Sem Bool}{Q:Value×List Value->Shared->Prop}(X:K.In s.heap)(I:Ej s.heap x dx C mA)(hg:PySem.W.plainGet K C name=true)
  (hf:PySem.W.findIn K (.ref C) name=some (some (.ref f)))(ht:PySem.W.isFn K (.ref f)=true)(hv:mA name=none)(h:Q (.ref f,[.ref x]) s):
  wpAny (model prog w) A (getMethod (.ref x) name pl) Q E s:=by
 obtain⟨od,J,hl⟩:=I.look
 exact PySem.W.method_fn X J (PySem.W.plainGet_of hg).1 (PySem.W.plainGet_of hg).2 hf (beq_iff_eq.mp ht) (by show(PySem.W.lookIn name od).map (·.isSome)=some false;rw[hl,hv];rfl) h
def QV{ns:List Str}{Q:Unit->Shared->Prop}(X:K.In s.heap)(I:Ej s.heap x dx C mA)
  (hs:PySem.W.findIn K (.ref C) "__setattr__"=some (some (.builtin "object.__setattr__")))(hp:PySem.W.plainOver K C=true)(ht:PySem.W.takerIn K C name=some none)(hh:PySem.W.hasDictIn K C=true)
  (hw:PySem.Within mA ns)(hsz:ns.length<=sizeLine)
  (h:∀h',Ej h' x dx C (fun y=>if y=name then some v else mA y)->Heap.SameBut dx s.heap h'->Q () {s with heap:=h',toks:=s.toks+2}):
  wpAny (model prog w) A (setAttr (.ref x) name v) Q E s:=by
 obtain⟨od,J,hl⟩:=I.look
 refine PySem.W.set_plain X J hs (PySem.W.osa_open (s:={s with toks:=s.toks+1}) (r:=none) X J hp ht fun b=>?_)
 obtain⟨cd,hc,hd'⟩:=PySem.W.any_some hh
 have hx:s.heap.get? x=some ⟨.ref C,some dx,.plain, #[]⟩:=I.obj
 refine QTz (QKq (QTz (QTz (wpAny_loadPart hx (QTz (PySem.W.Looks.here (s:={s with toks:=s.toks+1}) (PySem.W.looks_clsIn X hc) ?_))))))
 rw[hd']
 refine QKq (a:=some dx) (QTz (QKq (QTz ?_)))
 refine wpAny_nsSet1 (s:={s with toks:=s.toks+1}) I.ns fun h' hn2 hs2=>?_
 obtain⟨oD,esD,epD,hoD,hdD,hcD⟩:=hn2.count (PySem.Within.cons name v hw)
 refine QTz (wpAny_lookBehind hoD (by rw[hdD];exact pastItsLine_dict (Nat.le_trans hcD (by rw[QAz];omega))) ?_)
 exact QKq (h _ ⟨(hs2.2 _ (Ne.symm I.ne)).trans I.obj,hn2,I.ne⟩ hs2)
def MK{R:Result->Shared->Prop}{vs:List Value}{kw:List (Str×Value)}(X:K.In s.heap)(hm:PySem.W.makesIn K C=true)
  (hi:PySem.W.findIn K (.ref C) "__init__"=some (some (.ref f)))(hf:PySem.W.typeIn K (.ref f)=some (.type "function"))
  (h:codeAny (model prog w) (A.under (.builtin "type.__call__" ⟨.ref C::vs,kw⟩)) (.call (.ref f) ⟨.ref (s.heap.objs.size+1)::vs,kw⟩) (PySem.W.InitBack (s.heap.objs.size+1) R)
   {s with heap:=(s.heap.push PySem.W.emptyDict).push (PySem.W.instObj C s.heap.objs.size)}):
  codeAny (model prog w) A (.call (.ref C) ⟨vs,kw⟩) R s:=by
 obtain⟨hh,g,d,t,os⟩:=s
 exact PySem.W.make_core (PySem.W.makes_of X hm) (PySem.W.looks_findIn X hi) (fun self=>PySem.W.bind_fn X self hf) (.inl rfl) h
end
def jr(f:Str)(v:V):List (Str×V)->List (Str×V)
 |[]=>[(f,v)]
 |(g,x)::r=>if g=f then(g,v)::r else(g,x)::jr f v r
theorem pZ(f g:Str)(v:V):∀fs:List (Str×V),(jr f v fs).lookup g=if g=f then some v else fs.lookup g
 |[]=>by
  show List.lookup g [(f,v)]=_
  by_cases h:g=f
  ·have hb:(g==f)=true:=beq_iff_eq.mpr h
   simp only[List.lookup,hb,if_pos h]
  ·have hb:(g==f)=false:=beq_eq_false_iff_ne.mpr h
   simp only[List.lookup,hb,if_neg h]
 |(k,x)::r=>by
  have ih:=pZ f g v r
  rw[show jr f v ((k,x)::r)=(if k=f then(k,v)::r else(k,x)::jr f v r)from rfl]
  by_cases hk:k=f
  ·rw[if_pos hk]
   by_cases h:g=k
   ·have hb:(g==k)=true:=beq_iff_eq.mpr h
    simp only[List.lookup,hb,if_pos (h.trans hk)]
   ·have hb:(g==k)=false:=beq_eq_false_iff_ne.mpr h
    simp only[List.lookup,hb,if_neg (fun e:g=f=>h (e.trans hk.symm))]
  ·rw[if_neg hk]
   by_cases h:g=k
   ·have hb:(g==k)=true:=beq_iff_eq.mpr h
    simp only[List.lookup,hb,if_neg (fun e:g=f=>hk (h.symm.trans e))]
   ·have hb:(g==k)=false:=beq_eq_false_iff_ne.mpr h
    simp only[List.lookup,hb]
    exact ih
theorem o8(f:Str)(v:V):∀fs:List (Str×V),f∈(jr f v fs).map (·.1)/\∀g,g∈fs.map (·.1)->g∈(jr f v fs).map (·.1)
 |[]=>⟨by simp[jr],fun g h=>by simp at h⟩
 |(k,x)::r=>by
  obtain⟨i1,i2⟩:=o8 f v r
  rw[show jr f v ((k,x)::r)=(if k=f then(k,v)::r else(k,x)::jr f v r)from rfl]
  by_cases hk:k=f
  ·rw[if_pos hk]
   subst hk
   exact⟨by simp,fun g h=>by simpa using h⟩
  ·rw[if_neg hk]
   refine⟨?_,fun g h=>?_⟩
   ·rw[Qyq]
    exact QYq _ i1
   ·rw[Qyq]at h⊢
    rcases QBz.mp h with e|e
    ·exact QBz.mpr (.inl e)
    ·exact QYq _ (i2 g e)
theorem qb(f:Str)(v:V):∀fs:List (Str×V),(jr f v fs).length<=fs.length+1
 |[]=>by simp[jr]
 |(k,x)::r=>by
  have ih:=qb f v r
  rw[show jr f v ((k,x)::r)=(if k=f then(k,v)::r else(k,x)::jr f v r)from rfl]
  by_cases hk:k=f
  ·rw[if_pos hk,QAz,QAz];omega
  ·rw[if_neg hk,QAz,QAz];omega
def iz.some_of{o:Option Value}(r:iz (some v) o):∃u,o=some u/\RelV v u:=by
 cases o with
 |none=>exact(r).elim
 |some u=>exact⟨u,rfl,r⟩
def iz.none_of{o:Option Value}(r:iz none o):o=none:=by
 cases o with
 |none=>rfl
 |some u=>exact(show False from r).elim
def Js{v:V}{u:Value}(r:RelV v u):PySem.W.handedIn u=true:=by
 cases v with
 |non=>cases (show u=Value.none from r);rfl
 |bl b=>cases (show u=Value.bool b from r);rfl
 |int i=>obtain⟨t,e⟩:=(show∃t,u=Value.int i t from r);cases e;rfl
 |str x=>obtain⟨t,e⟩:=(show∃t,u=Value.str x t from r);cases e;rfl
 |byt b=>obtain⟨t,e⟩:=(show∃t,u=Value.bytes b t from r);cases e;rfl
 |flt b=>obtain⟨t,e⟩:=(show∃t,u=Value.float b t from r);cases e;rfl
 |ref a=>cases (show u=Value.ref a from r);rfl
 |ty n=>cases (show u=Value.type n from r);rfl
section
variable{P:Program}{w:World}{H H':Hp}{h h':Heap}{a C dx:Addr}{fs fs':List (Str×V)}
def qN(hok:nA P w H h)(e:H a=some (.ins C dx fs)):∃mA,Ej h a dx C mA/\(∀f,iz (fs.lookup f) (mA f))/\PySem.Within mA (fs.map (·.1))/\fs.length<=1000/\H dx=some (.own a):=by
 obtain⟨d,z,ne,ob,mA,n,r,q⟩:=(show cG P w H h a (.ins C dx fs)from hok a _ e)
 exact⟨mA,⟨ob,n,ne⟩,r,q,z,d⟩
end
structure pM(K:QQq)(C:Addr):Prop where
 pg:PySem.W.plainGet K C Str.empty=true
 hd:PySem.W.hasDictIn K C=true
 po:PySem.W.plainOver K C=true
 sa:PySem.W.findIn K (.ref C) "__setattr__"=some (some (.builtin "object.__setattr__"))
def pM.get{K:QQq}{C:Addr}(c:pM K C)(f:Str):PySem.W.plainGet K C f=true:=c.pg
def aW(K:QQq)(C:Addr)(f:Str):Prop:=PySem.W.findIn K (.ref C) f=some none
def aW.taker{K:QQq}{C:Addr}{f:Str}(n:aW K C f):PySem.W.takerIn K C f=some none:=by
 unfold PySem.W.takerIn
 rw[show PySem.W.findIn K (.ref C) f=some none from n]
 rfl
structure Meth(K:QQq)(C:Addr)(m:Str)(f:Addr):Prop where
 at_:PySem.W.findIn K (.ref C) m=some (some (.ref f))
 fn:PySem.W.isFn K (.ref f)=true
 kp:PySem.W.keepIn K (.ref f)=true
section
variable{X:Cx}{γ:QQz}{σ:St}{H:Hp}{s:Shared}{a C dx:Addr}{fs:List (Str×V)}{f:Str}{v:V}{A:Around}{E:QZq}
def Dh{b:Bool}{Q:QZq}(I:Inv X γ σ H s)(e:H a=some (.ins C dx fs))(c:pM X.K C)(n:aW X.K C f)(l:fs.lookup f=some v)
  (h:∀u s',Inv X γ σ H s'->RelV v u->Q u s'):wpAny (model X.prog X.w) A (getAttr (.ref a) f b) Q E s:=by
 obtain⟨mA,O,r,_,_,_⟩:=qN I.hok e
 obtain⟨u,hu,ru⟩:=iz.some_of (v:=v) (o:=mA f) (by rw[<-l];exact r f)
 exact S7 I.zX O (c.get f) c.hd n hu (Js ru) (h u _ (I.tok _) ru)
def tV{m:Str}{g:Addr}{pl:Sem Bool}{Q:Value×List Value->Shared->Prop}(I:Inv X γ σ H s)(e:H a=some (.ins C dx fs))(c:pM X.K C)(k:Meth X.K C m g)(l:fs.lookup m=none)
  (h:Q (.ref g,[.ref a]) s):wpAny (model X.prog X.w) A (getMethod (.ref a) m pl) Q E s:=by
 obtain⟨mA,O,r,_,_,_⟩:=qN I.hok e
 have hn:mA m=none:=iz.none_of (by rw[<-l];exact r m)
 exact N7 I.zX O (c.get m) k.at_ k.fn hn h
def BK{y:V}{u:Value}{Q:Unit->Shared->Prop}(I:Inv X γ σ H s)(e:H a=some (.ins C dx fs))(c:pM X.K C)(n:aW X.K C f)(hl:fs.length<1000)(ry:RelV y u)
  (h:∀s',Inv X γ σ (upd H a (.ins C dx (jr f y fs))) s'->Q () s'):wpAny (model X.prog X.w) A (setAttr (.ref a) f u) Q E s:=by
 obtain⟨mA,O,r,wi,_,ho⟩:=qN I.hok e
 have hz:(fs.map (·.1)).length<=sizeLine:=by rw[Qvz,sizeLine_eq];omega
 refine QV I.zX O c.sa c.po n.taker c.hd wi hz fun h' O' sb=>h _ ?_
 have hd:∃o,h'.get? dx=some o:=let ⟨o,_,_,e',_⟩:=O'.ns;⟨o,e'⟩
 refine I.write (x:=a) (e:=dx) (by rw[e];exact True.intro) (.inr ho) (fun b q hb z=>(sb.2 b hb).trans z) hd ?_
 refine⟨by rw[aq O.ne];exact ho,?_,O.ne,O'.obj,_,O'.ns,fun g=>?_,fun g hg=>?_⟩
 ·have:=qb f y fs;omega
 ·show iz ((jr f y fs).lookup g) (if g=f then some u else mA g)
  rw[pZ]
  by_cases q:g=f
  ·rw[if_pos q,if_pos q];exact ry
  ·rw[if_neg q,if_neg q];exact r g
 ·by_cases q:g=f
  ·rw[q];exact(o8 f y fs).1
  ·refine(o8 f y fs).2 g (wi g fun z=>hg ?_)
   show(if g=f then some u else mA g)=none
   rw[if_neg q];exact z
def Inv.made(I:Inv X γ σ H s):Inv X γ σ (upd (upd H s.heap.objs.size (.own (s.heap.objs.size+1))) (s.heap.objs.size+1) (.ins C s.heap.objs.size []))
  {s with heap:=(s.heap.push PySem.W.emptyDict).push (PySem.W.instObj C s.heap.objs.size)}:=by
 have e1:(s.heap.push PySem.W.emptyDict).get? s.heap.objs.size=some PySem.W.emptyDict:=Qqz s.heap rfl
 have e2:((s.heap.push PySem.W.emptyDict).push (PySem.W.instObj C s.heap.objs.size)).get? (s.heap.objs.size+1)=some (PySem.W.instObj C s.heap.objs.size):=by
  have:=Qqz (s.heap.push PySem.W.emptyDict) (o:=PySem.W.instObj C s.heap.objs.size) rfl
  rwa[Heap.size_push]at this
 have e3:(s.heap.push PySem.W.emptyDict).Ns s.heap.objs.size (fun _=>none):=⟨PySem.W.emptyDict, #[],_,e1,rfl,(fun e he=>absurd he (by simp)),fun _=>rfl⟩
 have I1:=I.laid (a:=s.heap.objs.size) (o:=.own (s.heap.objs.size+1)) (h':=s.heap.push PySem.W.emptyDict) (t':=s.toks) (fun b u q=>QWq _ q) (QVz _) ⟨_,e1⟩
 refine I1.laid (a:=s.heap.objs.size+1) (o:=.ins C s.heap.objs.size []) (t':=s.toks) (fun b u q=>QWq _ q) (Nat.le_of_eq (Heap.size_push _ _)) ?_
 have ne:s.heap.objs.size≠s.heap.objs.size+1:=Qvq (Nat.lt_succ_self _)
 refine⟨by rw[aq ne,az],QHq _,ne,e2,fun _=>none,(Heap.Ns1.of_empty e3).at fun o q=>QWq _ q,fun _=>True.intro,fun y hy=>absurd rfl hy⟩
def Hj{prog:Program}{w:World}{env:Env}{e:Expr}{f:Str}{pos:Pos}{s:Shared}{Q:QZq}(hb:attributeBase e f env (eval e env)=eval e env)
  (h:wpAny (model prog w) A (eval e env) (fun o θ=>wpAny (model prog w) A (getAttr o f true) Q E θ) E s):wpAny (model prog w) A (eval (.Attribute e f pos) env) Q E s:=
 Attribute_any_ h (by rw[arm_eval_Attribute,hb])
end
def Wc(K:QQq)(ta:TE)(f:Str):TE:=fun σ H Q=>ta σ H fun x H1=>∃a C dx fs v,x=.ref a/\H1 a=some (.ins C dx fs)/\pM K C/\aW K C f/\fs.lookup f=some v/\Q v H1
def mH(K:QQq)(ta tv:TE)(f:Str):TS:=fun D σ H=>tv σ H fun y H1=>ta σ H1 fun x H2=>∃a C dx fs,x=.ref a/\H2 a=some (.ins C dx fs)/\pM K C/\aW K C f/\fs.length<1000/\
 D.nx σ (upd H2 a (.ins C dx (jr f y fs)))
section
variable{X:Cx}{o e value:Expr}{f:Str}{pos pos' tpos:Pos}{ta tv:TE}
def mQ(he:PE X e ta)(hb:attributeBase e f X.env (eval e X.env)=eval e X.env):PE X (.Attribute e f pos) (Wc X.K ta f):=by
 intro γ s σ H Q I h
 refine Hj hb (bK (he γ s σ H _ I h) fun u s1⟨x,H1,I1,rx,a,C,dx,fs,v,ex,ea,c,n,l,q⟩=>?_)
 subst ex
 obtain rfl:u=Value.ref a:=rx
 exact Dh I1 ea c n l fun u' s2 I2 ru=>⟨v,H1,I2,ru,q⟩
def jZ(ha:PE X o ta)(hv:PE X value tv)(hs:swapsWith value (some (.Attribute o f pos')) pos.line X.env=pure false):PS X (.Assign [.Attribute o f pos'] value pos) (mH X.K ta tv f):=by
 intro γ s σ H D I h
 refine plainObj_wpAny_Assign_Attribute (bK (hv γ s σ H _ I h) fun u s1⟨y,H1,I1,ry,q⟩=>bK (ha γ s1 σ H1 _ I1 q) fun ov s2⟨x,H2,I2,rx,a,C,dx,fs,ex,ea,c,n,l,q2⟩=>?_) hs
 subst ex
 obtain rfl:ov=Value.ref a:=rx
 exact BK I2 ea c n l ry fun s3 I3=>⟨σ,_,I3,q2⟩
end
section
variable{X:Cx}{γ:QQz}{σ:St}{H:Hp}{s:Shared}{A:Around}{E:QZq}{Q:QZq}{c:Value}{b:Bool}
end
structure dC(k:Nat)(A:Around):Prop where
 hd:A.handled=none
 dp:A.depth+3*k+5<recursionLimit
 un:A.units+16*k+200<cLine
def dC.mono{A:Around}(r:dC k A)(h:j<=k):dC j A:=⟨r.hd,by have:=r.dp;omega,by have:=r.un;omega⟩
theorem dC.deeper{A:Around}(r:dC (k+1) A)env:dC k (A.deeper env):=
 ⟨r.hd,by have:=r.dp;show A.depth+1+3*k+5<_;omega,by have:=r.un;show A.units+3+16*k+200<_;omega⟩
theorem dC.in1{k:Nat}{A:Around}(r:dC (k+1) A):dC k A.in1:=
 ⟨r.hd,by have:=r.dp;show A.depth+3*k+5<_;omega,by have:=r.un;show A.units+1+16*k+200<_;omega⟩
def CQ{A:Around}{C:Addr}{us:List Value}{kw:List (Str×Value)}:(A.under (.builtin "type.__call__" ⟨.ref C::us,kw⟩)).depth=A.depth+1:=by
 first|rfl|simp[Around.under,Code.weight,Code.isCreation,Code.isGuard,Code.isCaller,Code.frames,Code.isFrame,guardIds]
def CP{A:Around}{C:Addr}{us:List Value}{kw:List (Str×Value)}:(A.under (.builtin "type.__call__" ⟨.ref C::us,kw⟩)).units=A.units+1:=by
 first|rfl|simp[Around.under,Code.cUnits,Code.frames,Code.isFrame]
def dC.make{k:Nat}{A:Around}(r:dC (k+1) A)(C:Addr)(us:List Value)(kw:List (Str×Value)):dC k (A.under (.builtin "type.__call__" ⟨.ref C::us,kw⟩)):=
 ⟨r.hd,by have:=r.dp;rw[CQ];omega,by have:=r.un;rw[CP];omega⟩
theorem dC.depth{A:Around}(r:dC k A):A.depth<recursionLimit:=by have:=r.dp;omega
theorem dC.units{k:Nat}{A:Around}(r:dC k A):A.units+64<cLine:=by have:=r.un;omega
def cN:TA:=fun _ H Q=>Q [] H
def aG(ta:TE)(tr:TA):TA:=fun σ H Q=>ta σ H fun x H1=>tr σ H1 fun xs H2=>Q (x::xs) H2
section
variable{X:Cx}{e:Expr}{es:List Expr}{te:TE}{t:TA}{pos:Pos}
def bF:PA X [] cN:=fun _ _ _ _ H Q I h=>Calls.spliced_nil ⟨[],H,I,.nil,h⟩
def aC(ha:PE X e te)(hr:PA X es t)(hs:starEach (e::es) X.env=(false,eval e X.env)::starEach es X.env:=by rfl):PA X (e::es) (aG te t):=by
 intro pos γ s σ H Q I h
 rw[hs]
 exact Calls.spliced_cons (bK (ha γ s σ H _ I h) fun u s1⟨x,H1,I1,r1,q1⟩=>bK (hr pos γ s1 σ H1 _ I1 q1) fun us s2⟨xs,H2,I2,r2,q2⟩=>⟨x::xs,H2,I2,.cons r1 r2,q2⟩)
def J9(t:TA):TE:=fun σ H Q=>t σ H fun xs H1=>xs.length<=sizeLine/\∀p,H1 p=none->Q (.ref p) (upd H1 p (.tup xs))
def Kl(t:TA):TE:=fun σ H Q=>t σ H fun xs H1=>xs.length<=sizeLine/\∀p,H1 p=none->Q (.ref p) (upd H1 p (.lst xs))
def Cr{x1}(h:PA X es t):PE X (.Tuple es x1 pos) (J9 t):=by
 intro γ s σ H Q I hq
 refine wpAny_Tuple_spliced (bK (h pos γ s σ H _ I hq) fun us s1⟨xs,H1,I1,r,z,q⟩=>⟨by rw[<-r.length];exact z,?_⟩)
 refine⟨.ref s1.heap.objs.size,upd H1 s1.heap.objs.size _,I1.laid (fun b u e=>QWq _ e) (QVz _) ?_,rfl,q _ (I1.hok.fresh (QVz _))⟩
 exact⟨z,us,r,TupOk.new _ _⟩
def Cv(h:PA X es t):PE X (.List es pos) (Kl t):=by
 intro γ s σ H Q I hq
 refine wpAny_List_spliced (bK (h pos γ s σ H _ I hq) fun us s1⟨xs,H1,I1,r,z,q⟩=>⟨by rw[<-r.length];exact z,?_⟩)
 refine⟨.ref s1.heap.objs.size,upd H1 s1.heap.objs.size _,I1.laid (fun b u e=>QWq _ e) (QVz _) ?_,rfl,q _ (I1.hok.fresh (QVz _))⟩
 exact⟨z,us,0,r,Qqz _ rfl⟩
end
abbrev Sp:=List V->Hp->VK->XK->Prop
abbrev JR:=List Env->Hp->Shared->XK->Value->Shared->Prop
structure yz(P:Program)(w:World)(K:QQq)(mg:QZz)(base:Heap)(A:Around)(outer:List Env)(s:Shared)(H:Hp):Prop where
 frames:A.frames=some outer
 mod:Mod K mg base
 bs:∀b o,base.get? b=some o->s.heap.get? b=some o/\H b=none
 bsz:base.objs.size<=s.heap.objs.size
 lX:s.heap.FunFrames base outer
 frf:∀b∈frs outer,H b=none
 hok:nA P w H s.heap
 bare:AllBare s.gens
def CE(outer:List Env)(P:Program)(w:World)(H:Hp)(s:Shared)(Q:VK)(u:Value)(s':Shared):Prop:=
 ∃v H',s'.os=s.os/\AllBare s'.gens/\Un (frs outer) [] H H' s.heap s'.heap/\nA P w H' s'.heap/\RelV v u/\Q v H'
def CR(CX:JR)(outer:List Env)(P:Program)(w:World)(H:Hp)(s:Shared)(Q:VK)(E:XK)(r:Result)(s':Shared):Prop:=
 match r with
 |.ok (.ret u)=>CE outer P w H s Q u s'
 |.ok _=>False
 |.error e=>CX outer H s E e s'
structure bV(P:Program)(w:World)(K:QQq)(mg:QZz)(base:Heap)(CX:JR)(k:Nat)(f:Addr)(fd:FuncData)(ps:List Str)(sp:Sp):Prop where
 len:∀vs H Q E,sp vs H Q E->vs.length=ps.length
 run:∀(A:Around)(outer:List Env)(s:Shared)(H:Hp)(args:Args)(us:List Value)(vs:List V)(Q:VK)(E:XK),dC k A->yz P w K mg base A outer s H->BindsTo s fd args (ps.zip us)->Vals vs us->sp vs H Q E->
  codeAny (model P w) A (.call (.ref f) args) (CR CX outer P w H s Q E) s
theorem bV.mono{w:World}{K:QQq}{base:Heap}{CX:JR}{f:Addr}{ps:List Str}(F:bV P w K mg base CX j f fd ps sp)(h:j<=k):
  bV P w K mg base CX k f fd ps sp:=⟨F.len,fun A outer s H args us vs Q E hr=>F.run A outer s H args us vs Q E (hr.mono h)⟩
def bV.imp{w:World}{K:QQq}{base:Heap}{k:Nat}{f:Addr}{ps:List Str}(F:bV P w K mg base CX k f fd ps sp)
  (h:∀vs H Q E,sp' vs H Q E->sp vs H Q E):bV P w K mg base CX k f fd ps sp':=
 ⟨fun vs H Q E q=>F.len vs H Q E (h _ _ _ _ q),fun A outer s H args us vs Q E hr he hb hv hs=>F.run A outer s H args us vs Q E hr he hb hv (h _ _ _ _ hs)⟩
def yz.make{P:Program}{w:World}{K:QQq}{mg:QZz}{base:Heap}{A:Around}{outer:List Env}{s:Shared}{H:Hp}(e:yz P w K mg base A outer s H)(C:Addr)(us:List Value)(kw:List (Str×Value)):
  yz P w K mg base (A.under (.builtin "type.__call__" ⟨.ref C::us,kw⟩)) outer s H:=⟨by first|exact e.frames|(simpa[Around.under,Code.envs,Code.isFrame,pushEnvs]using e.frames),e.mod,e.bs,e.bsz,e.lX,e.frf,e.hok,e.bare⟩
theorem yz.in1{P:Program}{w:World}{K:QQq}{mg:QZz}{base:Heap}{A:Around}{outer:List Env}{s:Shared}{H:Hp}(e:yz P w K mg base A outer s H):
  yz P w K mg base A.in1 outer s H:=⟨e.frames,e.mod,e.bs,e.bsz,e.lX,e.frf,e.hok,e.bare⟩
section
variable{X:Cx}{γ:QQz}{σ:St}{H:Hp}{s s':Shared}
def Inv.env0(I:Inv X γ σ H s):yz X.prog X.w X.K X.mg X.base X.A X.stack s H:=
 ⟨I.ok.frames,I.ok.mod,I.bs,Nat.le_trans I.ok.bsz I.sz,I.stack,I.Ey,I.hok,I.bare⟩
def Inv.after{u:Value}(I:Inv X γ σ H s)(h:CE X.stack X.prog X.w H s Q u s'):EP X γ σ Q u s':=by
 obtain⟨v,H',os,bare,un,hok,r,q⟩:=h
 obtain⟨hh,g,d,t,os'⟩:=s'
 obtain rfl:os'=s.os:=os
 exact⟨v,H',I.call un hok bare (fun b z=>absurd z (by simp)),r,q⟩
end
def gU(sp:Sp)(dvs:List V)(E:XK)(t:TA):TE:=fun σ H Q=>t σ H fun vs H1=>sp (vs++dvs) H1 Q E
noncomputable def pP(C:Addr)(m:Str)(sp:Sp)(dvs:List V)(E:XK)(ta:TE)(t:TA):TE:=fun σ H Q=>ta σ H fun x H1=>∃a dx fs,x=.ref a/\H1 a=some (.ins C dx fs)/\fs.lookup m=none/\
 t σ H1 fun vs H2=>sp (x::(vs++dvs)) H2 Q E
noncomputable def Uu(C:Addr)(sp:Sp)(dvs:List V)(E:XK)(t:TA):TE:=fun σ H Q=>t σ H fun vs H1=>∀x dx,H1 x=none->H1 dx=none->dx≠x->
 sp (.ref x::(vs++dvs)) (upd (upd H1 dx (.own x)) x (.ins C dx [])) (fun v H2=>v=.non/\Q (.ref x) H2) E
def Binds(K:QQq)(fd:FuncData)(ps:List Str)(ds:List Value):Prop:=
 ∀(s:Shared)(us:List Value),K.In s.heap->(us++ds).length=ps.length->BindsTo s fd ⟨us,[]⟩ (ps.zip (us++ds))
def Binds.all{K:QQq}{fd:FuncData}(h:∀us:List Value,us.length=ps.length->bindArgs fd ⟨us,[]⟩=pure (ps.zip us)):Binds K fd ps []:=fun s us _ hl=>by
 rw[List.append_nil]at hl⊢
 exact .of_eq (h us hl)
def lw(CX:JR)(X:Cx)(E:XK):Prop:=∀(γ:QQz)(σ:St)(H:Hp)(s:Shared)(e:Value)(s':Shared),Inv X γ σ H s->CX X.stack H s E e s'->X.xe e s'
section
variable{X:Cx}{CX:JR}{k:Nat}{f C:Addr}{fd:FuncData}{ps:List Str}{sp:Sp}{dvs:List V}{ds:List Value}{E:XK}{x m:Str}{p pos apos:Pos}{e o:Expr}{es:List Expr}{ta:TE}{t:TA}
theorem BL{σ:St}{H:Hp}{Q:VK}{vs:List V}(F:bV X.prog X.w X.K X.mg X.base CX k f fd ps sp)(hr:dC k X.A)(hb:Binds X.K fd ps ds)(hd:Vals dvs ds)(hx:lw CX X E)
  (I:Inv X γ σ H s)(r:Vals vs us)(h:sp (vs++dvs) H Q E):wpAny (model X.prog X.w) X.A (call (.ref f) us) (EP X γ σ Q) X.xe s:=by
 have r2:=r.append hd
 refine wpAny_call (codeAny_mono (F.run X.A X.stack s H ⟨us,[]⟩ _ _ Q E hr I.env0 (hb s us I.zX (by rw[<-r2.length];exact F.len _ _ _ _ h)) r2 h) fun r s' hq=>?_)
 cases r with
 |error e=>exact hx γ σ H s e s' I hq
 |ok fl=>
  cases fl with
  |ret u=>exact I.after hq
  |next=>exact False.elim hq
  |brk=>exact False.elim hq
  |cont=>exact False.elim hq
def gM(F:bV X.prog X.w X.K X.mg X.base CX k f fd ps sp)(hr:dC k X.A)(hg:Gl X x)(hm:X.mg x=some (.ref f))(hk:PySem.W.keepIn X.K (.ref f)=true)(hb:Binds X.K fd ps ds)(hd:Vals dvs ds)(hx:lw CX X E)
  (ha:PA X (e::es) t)(hdb:(x==("__debug__":Str))=false:=by decide)(he:starEach (e::es) X.env=(false,eval e X.env)::starEach es X.env:=by rfl)(hpl:(backTo pos (starEach es X.env)).any (·.1)=false:=by rfl):
  PE X (.Call (.Name x p) (e::es) [] pos) (gU sp dvs E t):=by
 intro γ s σ H Q I h
 exact wpAny_Call_Name_kw (xR I hg hm (PySem.W.callWith_K I.ok.mod.kin hk (bK (ha pos γ s σ H _ I h) fun us s1⟨vs,H1,I1,r,q⟩=>⟨I1.zX,BL F hr hb hd hx I1 r q⟩) he hpl) hdb)
def RB{pl:Sem Bool}(he:PE X o ta)(c:pM X.K C)(hm:Meth X.K C m f)(F:bV X.prog X.w X.K X.mg X.base CX k f fd ps sp)(hr:dC k X.A)(hb:Binds X.K fd ps ds)(hd:Vals dvs ds)(hx:lw CX X E)(ha:PA X (e::es) t)
  (hst:starEach (e::es) X.env=(false,eval e X.env)::starEach es X.env:=by rfl)(hpl:(backTo pos (starEach es X.env)).any (·.1)=false:=by rfl)
  (ht:eval (.Call (.Attribute o m apos) (e::es) [] pos) X.env=(do
   let ov<-eval o X.env
   standAt apos.atName
   let (f,first)<-holding [ov] (getMethod ov m pl)
   callWith pos f first (backTo pos (starEach (e::es) X.env)) (backToKw pos (keywordEach [] X.env))):=by rfl):
  PE X (.Call (.Attribute o m apos) (e::es) [] pos) (pP C m sp dvs E ta t):=by
 intro γ s σ H Q I h
 refine PySem.W.methodCall_KW (pl:=pl) (bK (he γ s σ H _ I h) fun u s1⟨x,H1,I1,rx,a,dx,fs,ex,ea,l,q⟩=>?_) ht
 subst ex
 obtain rfl:u=Value.ref a:=rx
 refine tV I1 ea c hm l ?_
 refine PySem.W.callWith_K (first:=[.ref a]) (h₀:=X.base) I.ok.mod.kin hm.kp (bK (ha pos γ s1 σ H1 _ I1 q) fun us s2⟨vs,H2,I2,r,q2⟩=>⟨I2.zX,?_⟩) hst hpl
 exact BL (us:=.ref a::us) (vs:=.ref a::vs) F hr hb hd hx I2 (.cons rfl r) q2
def zz{pl:Sem Bool}(he:PE X o ta)(c:pM X.K C)(hm:Meth X.K C m f)(F:bV X.prog X.w X.K X.mg X.base CX k f fd ps sp)(hr:dC k X.A)(hb:Binds X.K fd ps ds)(hd:Vals dvs ds)(hx:lw CX X E)
  (ht:eval (.Call (.Attribute o m apos) [] [] pos) X.env=(do
   let ov<-eval o X.env
   standAt apos.atName
   let (f,first)<-holding [ov] (getMethod ov m pl)
   callWith pos f first (backTo pos (starEach [] X.env)) (backToKw pos (keywordEach [] X.env))):=by rfl):
  PE X (.Call (.Attribute o m apos) [] [] pos) (pP C m sp dvs E ta cN):=by
 intro γ s σ H Q I h
 refine PySem.W.methodCall_KW (pl:=pl) (bK (he γ s σ H _ I h) fun u s1⟨x,H1,I1,rx,a,dx,fs,ex,ea,l,q⟩=>?_) ht
 subst ex
 obtain rfl:u=Value.ref a:=rx
 refine tV I1 ea c hm l ?_
 exact PySem.W.callWith_K0 (first:=[.ref a]) I1.zX hm.kp (BL (us:=[.ref a]) (vs:=[.ref a]) F hr hb hd hx I1 (.cons rfl .nil) q)
structure Mk(K:QQq)(C f:Addr):Prop where
 makes:PySem.W.makesIn K C=true
 init:PySem.W.findIn K (.ref C) "__init__"=some (some (.ref f))
 fn:PySem.W.isFn K (.ref f)=true
 kp:PySem.W.keepIn K (.ref C)=true
theorem KY{γ:QQz}{σ:St}{H:Hp}{s:Shared}{Q:VK}{us:List Value}{vs:List V}(M:Mk X.K C f)(F:bV X.prog X.w X.K X.mg X.base CX k f fd ps sp)(hr:dC (k+1) X.A)(hb:Binds X.K fd ps ds)(hd:Vals dvs ds)
  (hx:lw CX X E)(I:Inv X γ σ H s)(r:Vals vs us)
  (h:∀x dx,H x=none->H dx=none->dx≠x->sp (.ref x::(vs++dvs)) (upd (upd H dx (.own x)) x (.ins C dx [])) (fun v H2=>v=.non/\Q (.ref x) H2) E):
  wpAny (model X.prog X.w) X.A (call (.ref C) us) (EP X γ σ Q) X.xe s:=by
 have hq:=h (s.heap.objs.size+1) s.heap.objs.size (I.hok.fresh (Nat.le_succ _)) (I.hok.fresh (QVz _)) (Qvq (Nat.lt_succ_self _))
 have I2:=Inv.made (C:=C) I
 have r2:Vals (V.ref (s.heap.objs.size+1)::(vs++dvs)) (Value.ref (s.heap.objs.size+1)::(us++ds)):=.cons rfl (r.append hd)
 have hl:(Value.ref (s.heap.objs.size+1)::us++ds).length=ps.length:=by
  have e:=r2.length
  rw[F.len _ _ _ _ hq]at e
  exact e.symm
 refine wpAny_call (MK (f:=f) I.zX M.makes M.init (beq_iff_eq.mp M.fn) (codeAny_mono (F.run _ X.stack _ _ ⟨Value.ref (s.heap.objs.size+1)::us,[]⟩ (Value.ref (s.heap.objs.size+1)::(us++ds)) _ _ E (hr.make C us [])
  (I2.env0.make C us []) (hb _ (Value.ref (s.heap.objs.size+1)::us) I2.zX hl) r2 hq) fun r s' hq'=>?_))
 cases r with
 |error e=>exact hx γ σ _ _ e s' I2 hq'
 |ok fl=>
  cases fl with
  |ret u=>
   obtain⟨v,H',I3,rv,ev,q3⟩:=I2.after hq'
   subst ev
   exact⟨rv,⟨V.ref (s.heap.objs.size+1),H',I3,rfl,q3⟩⟩
  |next=>exact False.elim hq'
  |brk=>exact False.elim hq'
  |cont=>exact False.elim hq'
def RC(M:Mk X.K C f)(F:bV X.prog X.w X.K X.mg X.base CX k f fd ps sp)(hr:dC (k+1) X.A)(hg:Gl X x)(hm:X.mg x=some (.ref C))(hb:Binds X.K fd ps ds)(hd:Vals dvs ds)(hx:lw CX X E)
  (ha:PA X (e::es) t)(hdb:(x==("__debug__":Str))=false:=by decide)(he:starEach (e::es) X.env=(false,eval e X.env)::starEach es X.env:=by rfl)(hpl:(backTo pos (starEach es X.env)).any (·.1)=false:=by rfl):
  PE X (.Call (.Name x p) (e::es) [] pos) (Uu C sp dvs E t):=by
 intro γ s σ H Q I h
 refine wpAny_Call_Name_kw (xR I hg hm ?_ hdb)
 refine PySem.W.callWith_K (h₀:=X.base) I.ok.mod.kin M.kp (bK (ha pos γ s σ H _ I h) fun us s1⟨vs,H1,I1,r,q⟩=>⟨I1.zX,?_⟩) he hpl
 exact KY M F hr hb hd hx I1 r q
end
def PK(X:Cx)(kws:List Keyword)(t:TA):Prop:=
 ∀(pos:Pos)(γ:QQz)(s:Shared)(σ:St)(H:Hp)(Q:List V->Hp->Prop),Inv X γ σ H s->t σ H Q->wpAny (model X.prog X.w) X.A (evalAll ((backToKw pos (keywordEach kws X.env)).map (·.2))) (AP X γ σ Q) X.xe s
section
variable{X:Cx}{CX:JR}{k:Nat}{f C:Addr}{fd:FuncData}{ps ks:List Str}{sp:Sp}{E:XK}{x m:Str}{p pos apos kpos:Pos}{e o:Expr}{es:List Expr}{kws:List Keyword}{te ta:TE}{t tk:TA}{nm:Option Str}
def W5:PK X [] cN:=fun _ _ _ _ H Q I h=>wpAny_evalAll_nil ⟨[],H,I,.nil,h⟩
def Ru(ha:PE X e te)(hr:PK X kws t):PK X (⟨nm,e,kpos⟩::kws) (aG te t):=by
 intro pos γ s σ H Q I h
 show wpAny _ _ (evalAll ((do let v<-eval e X.env;standAt pos;pure v)::(backToKw pos (keywordEach kws X.env)).map (·.2))) _ _ s
 refine wpAny_evalAll_cons (QTz (bK (ha γ s σ H _ I h) fun u s1⟨x,H1,I1,r1,q1⟩=>QTz (wpAny_standAt (QKq ?_))))
 exact bK (hr pos γ s1 σ H1 _ I1 q1) fun us s2⟨xs,H2,I2,r2,q2⟩=>⟨x::xs,H2,I2,.cons r1 r2,q2⟩
variable{g:List Value->List Value->List Value}{gV:List V->List V->List V}
end
structure dX(N P:List Str)(sc:Scope):Prop where
 kind:sc.kind=.function
 co:sc.isCoroutine=false
 gen:sc.isGenerator=false
 nd:N.Nodup
 pre:N.take P.length=P
 par:∀x∈P,sc.names.lookup x=some .local\/sc.names.lookup x=some .cell
 nofree:∀y∈sc.names,y.2≠ .free
theorem wI{kindOf:Str->Option NameKind}:∀{binds:List (Str×Value)}{m:QZz},(∀v,(x,v)∉binds)->bindL kindOf binds m x=m x
 |[],_,_=>rfl
 |(n,v)::r,m,h=>by
  unfold bindL
  rw[wI fun w hw=>h w (QYq _ hw)]
  split
  ·have:x≠n:=by rintro rfl;exact h v QYz
   simp[this]
  ·rfl
theorem wK{kindOf:Str->Option NameKind}:∀{binds:List (Str×Value)}{m:QZz},(∀v,(x,v)∉binds)->bindC kindOf binds m x=m x
 |[],_,_=>rfl
 |(n,v)::r,m,h=>by
  unfold bindC
  rw[wK fun w hw=>h w (QYq _ hw)]
  split
  ·rfl
  ·have:x≠n:=by rintro rfl;exact h v QYz
   simp[this]
theorem wJ{kindOf:Str->Option NameKind}{x:Str}{v:Value}:∀{P:List Str}{vs:List Value}{i:Nat}{m:QZz},P.Nodup->P[i]? =some x->vs[i]? =some v->kindOf x=some .local->
  bindL kindOf (P.zip vs) m x=some v
 |[],_,_,_,_,h,_,_=>by simp at h
 |_::_,[],_,_,_,_,h,_=>by simp at h
 |p::P,w::vs,0,m,nd,h1,h2,hk=>by
  simp at h1 h2;subst h1;subst h2
  show bindL kindOf ((p,w)::P.zip vs) m p=_
  unfold bindL
  rw[wI fun v hv=>(List.nodup_cons.mp nd).1 (List.of_mem_zip hv).1,if_pos hk]
  simp
 |p::P,w::vs,i+1,m,nd,h1,h2,hk=>by
  unfold bindL
  exact wJ (List.nodup_cons.mp nd).2 (by simpa using h1) (by simpa using h2) hk
theorem wL{kindOf:Str->Option NameKind}{x:Str}{v:Value}:∀{P:List Str}{vs:List Value}{i:Nat}{m:QZz},P.Nodup->P[i]? =some x->vs[i]? =some v->kindOf x≠some .local->
  bindC kindOf (P.zip vs) m x=some v
 |[],_,_,_,_,h,_,_=>by simp at h
 |_::_,[],_,_,_,_,h,_=>by simp at h
 |p::P,w::vs,0,m,nd,h1,h2,hk=>by
  simp at h1 h2;subst h1;subst h2
  show bindC kindOf ((p,w)::P.zip vs) m p=_
  unfold bindC
  rw[wK fun v hv=>(List.nodup_cons.mp nd).1 (List.of_mem_zip hv).1,if_neg hk]
  simp
 |p::P,w::vs,i+1,m,nd,h1,h2,hk=>by
  unfold bindC
  exact wL (List.nodup_cons.mp nd).2 (by simpa using h1) (by simpa using h2) hk
def start(N:List Str)(vs:List V):St:=vs.map some++List.replicate (N.length-vs.length) none
noncomputable def gn(CX:JR)(P:Program)(w:World)(K:QQq)(mg:QZz)(base:Heap)(N:List Str)(qual:Str)(scope:Scope)(f:Addr)(cd:Value)(A:Around)(outer:List Env)(s:Shared)(H:Hp)(E:XK):Cx where
 prog:=P
 w:=w
 K:=K
 mg:=mg
 base:=base
 A:=A.deeper (envOfC qual scope s.heap.objs.size f cd)
 N:=N
 s₀:=s
 H₀:=H
 env:=envOfC qual scope s.heap.objs.size f cd
 outer:=outer
 stack:=envOfC qual scope s.heap.objs.size f cd::outer
 ex:=[]
 calm:=true
 fn:=fun _=>true
 pn:=[]
 xe:=fun e s'=>wpAny (model P w) (A.deeper (envOfC qual scope s.heap.objs.size f cd)) (leaving (envOfC qual scope s.heap.objs.size f cd) e) (fun _ s''=>CX outer H s E e s'') (fun e' s''=>CX outer H s E e' s'') s'
def Am{sc:Scope}{n:Nat}(h:sc.names.lookup x=some .cell):∃c,(cellsFrom n sc.names []).lookup x=some c:=by
 exact Option.isSome_iff_exists.mp (PySem.W.cellsFrom_some sc.names n [] (.inl h))
def Jo{CX:JR}{w:World}{K:QQq}{base:Heap}{qual:Str}{f:Addr}{A:Around}{s s1:Shared}{E:XK}
  (S:dX N ps scope)(hd:A.handled=none)(e0:yz P w K mg base A outer s H)(hl:vs.length=ps.length)(r:Vals vs us)
  (x:InCallC s s.heap.objs.size (bindL (envOfC qual scope s.heap.objs.size f cd).kindOf (ps.zip us) fun _=>none) (cellsFrom (s.heap.objs.size+1) scope.names []) (bindC (envOfC qual scope s.heap.objs.size f cd).kindOf (ps.zip us) fun _=>none) s1):
  Inv (gn CX P w K mg base N qual scope f cd A outer s H E) [] (start N vs) H s1:=by
 have hpl:ps.length<=N.length:=by have:=congrArg List.length S.pre;rw[List.length_take]at this;omega
 obtain⟨h1,tk,rfl,hk⟩:=x.done
 have noA:∀b:Addr,b∉(gn CX P w K mg base N qual scope f cd A outer s H E).ex:=fun b z=>absurd (show b∈([])from z) (by simp)
 refine⟨⟨e0.mod,S.kind,rfl,rfl,QVz _,fun y z c h1 h2=>?_,fun y hy=>?_,fun y c _ h=>?_,fun _=>hd,Around.frames_deeper e0.frames,.inr ⟨rfl,rfl⟩,fun b z=>absurd z (noA b),e0.bs,e0.bsz,fun b _ _=>noA b,fun b z=>absurd z (noA b),e0.lX,e0.frf⟩,
  rfl,e0.bare,Un.kept hk,⟨_,x.toInCall.ns,fun i y v h1 h2 h3=>?_⟩,fun y c h=>⟨_,x.cell y c h⟩,e0.hok.fresh (QVz _),fun y c h=>?_,fun p hp=>absurd (show p∈([])from hp) (by simp),e0.hok.kept hk,?_⟩
 ·exact name_of_addr x.apart (PySem.mem_of_lookup h1) (PySem.mem_of_lookup h2)
 ·have hy:=hy
  rcases hy with hy|hy
  ·exact Am hy
  ·exact absurd rfl (S.nofree _ (PySem.mem_of_lookup hy))
 ·exact Nat.le_of_lt (x.above y c (PySem.mem_of_lookup h))
 ·have hi:i<vs.length:=by
   unfold start at h2
   by_cases hi:i<vs.length
   ·exact hi
   ·rw[QHz (by simpa using hi)]at h2
    rw[List.getElem?_replicate]at h2
    split at h2<;>cases h2
  have ha:vs[i]? =some v:=by
   unfold start at h2
   rw[Qwq (by simpa using hi),QEz]at h2
   cases e:vs[i]? with
   |none=>rw[e]at h2;cases h2
   |some a=>rw[e]at h2;cases h2;rfl
  obtain⟨u,hu,rv⟩:=r.get ha
  have hp:ps[i]? =some y:=by
   rw[<-S.pre,List.getElem?_take_of_lt (by omega)];exact h1
  have ndP:ps.Nodup:=by rw[<-S.pre];exact S.nd.sublist (List.take_sublist _ _)
  refine⟨u,rv,?_⟩
  rcases S.par y (QBq hp)with k|k
  ·exact .inl ⟨k,wJ ndP hp hu k⟩
  ·obtain⟨c,e⟩:=Am k
   refine .inr ⟨.inl k,c,e,?_⟩
   have q:=x.cell y c e
   rw[wL ndP hp hu (by show scope.names.lookup y≠_;rw[k];decide)]at q
   exact q
 ·exact e0.hok.fresh (Nat.le_of_lt (x.above y c (PySem.mem_of_lookup h)))
 ·unfold start
  show _=N.length
  rw[QTq,Qvz,List.length_replicate]
  omega
def aca{CX:JR}{w:World}{K:QQq}{base:Heap}{k:Nat}{name qual:Str}{body:List Stmt}{dV kV doc pm cdv ct oc:Value}
{N ps:List Str} (lk:K.lookup f=some ⟨oc,od,.func (PySem.W.fnOf name qual params body scope dV kV doc pm an cdv ct),osl⟩) (hcd:PySem.W.codeIn K cdv qual=true) (S:dX N ps scope)
  (len:∀vs H Q E,sp vs H Q E->vs.length=ps.length)
  (hbody:∀(A:Around)(outer:List Env)(s:Shared)(H:Hp)(vs:List V)(Q:VK)(E:XK),dC k (A.deeper (envOfC qual scope s.heap.objs.size f cdv))->sp vs H Q E->
   ∃t,uX (gn CX P w K mg base N qual scope f cdv A outer s H E) body t/\t {nx:=fun _ H'=>Q .non H',rt:=Q} (start N vs) H):
  bV P w K mg base CX (k+1) f (PySem.W.fnOf name qual params body scope dV kV doc pm an cdv ct) ps sp:=by
 refine⟨len,fun A outer s H args us vs Q E hr e0 hb r hsp=>?_⟩
 have hl:=len _ _ _ _ hsp
 have KX:=e0.mod.kin.keeps fun b o e=>(e0.bs b o e).1
 have lim:=e0.mod.nolimit.keeps fun b o e=>(e0.bs b o e).1
 have hkind:∀y∈ps.zip us,scope.names.lookup y.1=some .local\/(scope.names.lookup y.1=some .cell/\((cellsFrom (s.heap.objs.size+1) scope.names []).lookup y.1).isSome=true):=fun⟨n,v⟩hy=>by
  rcases S.par n (List.of_mem_zip hy).1 with q|q
  ·exact .inl q
  ·exact .inr ⟨q,PySem.W.cellsFrom_some _ _ _ (.inl q)⟩
 refine codeAny_call_function hr.depth (KX _ _ lk) rfl S.co S.gen rfl (PySem.W.codeRec_of KX hcd) (hb _ _ _ _ ?_)
 refine wpAny_newFunctionEnv_cells S.kind hkind fun env he s1 x=>?_
 subst he
 refine⟨lim.keeps x.toInCall.keep,codeAny_func ?_⟩
 obtain⟨t,ht,hq⟩:=hbody A outer s H vs Q E (hr.deeper _) hsp
 have I:Inv (gn CX P w K mg base N qual scope f cdv A outer s H E) [] _ H s1:=Jo S hr.hd e0 hl r x
 refine QKz (ht [] s1 _ H _ I hq) (fun fl s' hs=>?_) fun e s' hs=>hs
 have fin:∀{ζ:St}{H':Hp}{v:V}{u:Value},Inv (gn CX P w K mg base N qual scope f cdv A outer s H E) [] ζ H' s'->RelV v u->Q v H'->CE outer P w H s Q u s':=
  fun{ζ H' v u}J rv q=>⟨v,H',J.os,J.bare,J.base,J.hok,rv,q⟩
 cases fl with
 |ret u=>
  obtain⟨v,ζ,H',J,rv,q⟩:=hs
  exact fin J rv q
 |next=>
  obtain⟨ζ,H',J,q⟩:=hs
  exact fin (v:=V.non) J rfl q
 |brk=>
  obtain⟨_,_,_,q⟩:=hs
  exact False.elim q
 |cont=>
  obtain⟨_,_,_,q⟩:=hs
  exact False.elim q
section
variable{X:Cx}{x:Str}{p pos:Pos}{e:Expr}{es:List Expr}{t:TA}{id T:String}{r:List V->Hp->VK->Prop}
def tCB(r:List V->Hp->VK->Prop)(t:TA):TE:=fun σ H Q=>t σ H fun vs H1=>r vs H1 Q
def nP(hc:gq X (.builtin id) r)(hg:Gl X x)(hm:X.mg x=none)(hv:bootBuiltins x=some (.builtin id))(ha:PA X (e::es) t)(hn:x≠"__name__":=by decide)(hdb:(x==("__debug__":Str))=false:=by decide)
  (he:starEach (e::es) X.env=(false,eval e X.env)::starEach es X.env:=by rfl)(hpl:(backTo pos (starEach es X.env)).any (·.1)=false:=by rfl):PE X (.Call (.Name x p) (e::es) [] pos) (tCB r t):=by
 intro γ s σ H Q I h
 exact wpAny_Call_Name_kw (jw I hg hm hv (PyProof.Rows.callWith_builtin1 (bK (ha pos γ s σ H _ I h) fun us s1⟨vs,H1,I1,r1,q1⟩=>hc γ s1 σ H1 vs us Q I1 r1 q1) he hpl) hn hdb)
def lG(hc:gq X (.type T) r)(hg:Gl X x)(hm:X.mg x=none)(hv:bootBuiltins x=some (.type T))(ha:PA X (e::es) t)(hn:x≠"__name__":=by decide)(hdb:(x==("__debug__":Str))=false:=by decide)
  (he:starEach (e::es) X.env=(false,eval e X.env)::starEach es X.env:=by rfl)(hpl:(backTo pos (starEach es X.env)).any (·.1)=false:=by rfl):PE X (.Call (.Name x p) (e::es) [] pos) (tCB r t):=by
 intro γ s σ H Q I h
 exact wpAny_Call_Name_kw (jw I hg hm hv (PyProof.Rows.callWith_type1 (bK (ha pos γ s σ H _ I h) fun us s1⟨vs,H1,I1,r1,q1⟩=>hc γ s1 σ H1 vs us Q I1 r1 q1) he hpl) hn hdb)
end
end L2
namespace HT
open PySem PyProof.Rows
section
open PySem.SeqAt
open PySem.AutoSeq1 (wpAny_loadPart')
open PySem.MeetsSeq PySem.MeetsSeq2 PySem.MeetsSeq3
end
section
variable{prog:Program}{w:World}{A:Around}{E:QZq}{s:Shared}
def Tu{vs ws:List Value}(ht:IsTup s.heap t vs.toArray)(hb:IsTup s.heap b ws.toArray)(hv:vs≠[])
  (h1:ws=[]->Q (.ref t) s)(h2:ws≠[]->Q (.ref s.heap.objs.size) {s with heap:=s.heap.push {cls:=.type "tuple",data:=.seq (vs++ws).toArray}})
  (hsz:vs.length+ws.length<=sizeLine):wpAny (model prog w) A (binaryOp .Add (.ref t) (.ref b)) Q E s:=by
 obtain⟨⟨cls,dd,data,sl⟩,ho,hc,n,hd⟩:=id ht
 obtain⟨⟨cls2,dd2,data2,sl2⟩,ho2,hc2,n2,hd2⟩:=id hb
 subst hc hd hc2 hd2
 have e:vs.toArray++ws.toArray=(vs++ws).toArray:=by simp
 by_cases hw:ws=[]
 ·exact concat_meets ⟨_,ho,rfl⟩ ⟨_,ho2,rfl⟩ noFill_tuple_add seq_tuple_add PySem.F.slot_tuple_add PySem.F.entry_tuple_add (PySem.F.args_tuple_add_2 _ _)
   (tuple_addW1 t b vs.toArray ws.toArray n n2 dd dd2 sl sl2 (by simpa using hv) (by simp[hw])) ⟨ho,ho2,h1 hw⟩
 ·refine concat_meets ⟨_,ho,rfl⟩ ⟨_,ho2,rfl⟩ noFill_tuple_add seq_tuple_add PySem.F.slot_tuple_add PySem.F.entry_tuple_add (PySem.F.args_tuple_add_2 _ _)
   (tuple_addW2 t b vs.toArray ws.toArray n n2 dd dd2 sl sl2 (by simpa using hv) (by simpa using hw) (by rw[Qjz,Qjz];exact hsz)) ⟨ho,ho2,?_⟩
  rw[e]
  exact h2 hw
def gr(n d:Nat):Option Int->Nat
 |none=>d
 |some v=>if v<0 then(v+(n:Int)).toNat else min v.toNat n
def nJ n d:gr n d none=d:=rfl
def aei n d(hd:d<=n)o:gr n d o<=n:=by
 cases o with
 |none=>exact hd
 |some v=>
  show(if v<0 then(v+n).toNat else min v.toNat n)<=n
  by_cases hv:v<0
  ·rw[if_pos hv];omega
  ·rw[if_neg hv];exact Nat.min_le_right _ _
def Hf v(n d:Nat):(if v<0 then max (v+(n:Int)) 0 else min v (n:Int))=((gr n d (some v):Nat):Int):=by
 show(if v<0 then max (v+n) 0 else min v n)=(((if v<0 then(v+(n:Int)).toNat else min v.toNat n):Nat))
 by_cases hv:v<0
 ·simp only[if_pos hv];omega
 ·simp only[if_neg hv];omega
def Eh lo hi(n:Nat):Builtin.Slice.sliceAdjust lo hi 1 (n:Int)=(((gr n 0 lo:Nat):Int),((gr n n hi:Nat):Int)):=by
 have h1:¬(1<0):=by omega
 unfold Builtin.Slice.sliceAdjust
 refine Prod.ext ?_ ?_
 ·cases lo with
  |none=>rfl
  |some v=>exact Hf v n 0
 ·cases hi with
  |none=>rfl
  |some v=>exact Hf v n n
def Cq(i j:Nat):Builtin.Slice.slicePlaces (i:Int) (j:Int) 1=j-i:=by
 unfold Builtin.Slice.slicePlaces
 split<;>omega
def rP{o:Option Int}(p:IsPart v o)(h:Q o s):wpAny (model prog w) A (Builtin.Slice.slicePartIndex v) Q E s:=by
 cases p with
 |none=>exact slicePart_none h
 |int i t=>exact slicePart_int h
def jb{sl:Addr}{lo hi:Option Int}{n:Nat}(hs:s.heap.IsSliceOf sl vl vu .none)(pl:IsPart vl lo)(pu:IsPart vu hi)
  (h:Q (((gr n 0 lo:Nat):Int),1,gr n n hi-gr n 0 lo) s):wpAny (model prog w) A (Builtin.Slice.sliceApplied (.ref sl) (pure (n:Int))) Q E s:=by
 obtain⟨os,hos,hcs,hds⟩:=id hs
 refine QTz (QTz (QGq hos hds rfl (QTz (QGq hos hds rfl (QTz (QGq hos hds rfl (QKq ?_)))))))
 refine QTz (slicePart_none ?_)
 refine QTz (rP pl (QTz (rP pu (QTz (QKq ?_)))))
 show wpAny _ _ (match Builtin.Slice.sliceAdjust lo hi 1 n with|(lo,hi)=>pure (lo,(1:Int),Builtin.Slice.slicePlaces lo hi 1)) _ _ s
 rw[Eh lo hi n]
 show wpAny _ _ (pure ((gr n 0 lo:Int),1,Builtin.Slice.slicePlaces ((gr n 0 lo:Nat)) ((gr n n hi:Nat)) 1)) _ _ s
 rw[Cq]
 exact QKq h
def Lq(xs:Array Value)(i k:Nat):((List.range k).filterMap fun(m:Nat)=>xs[((i:Int)+(m:Int)*1).toNat]?).toArray=((xs.toList.drop i).take k).toArray:=by
 have e:(fun(m:Nat)=>xs[(i+(m:Int)*1).toNat]?)=fun m=>xs[i+m]? :=by
  funext m
  have:(i+(m:Int)*1).toNat=i+m:=by omega
  rw[this]
 rw[e]
 have:=pick_run xs i k
 rw[List.filterMap_map]at this
 have e2:((fun x=>xs[x]?)∘fun x=>i+x)=fun m=>xs[i+m]? :=rfl
 rw[e2]at this
 rw[this]
theorem n6{t sl:Addr}{vl vu:Value}{lo hi:Option Int}(ht:IsTup s.heap t items)(hs:s.heap.IsSliceOf sl vl vu .none)(pl:IsPart vl lo)(pu:IsPart vu hi)
  (hw:¬(gr items.size 0 lo=0/\gr items.size items.size hi=items.size))
  (h:Q (.ref s.heap.objs.size) {s with heap:=s.heap.push {cls:=.type "tuple",data:=.seq ((items.toList.drop (gr items.size 0 lo)).take (gr items.size items.size hi-gr items.size 0 lo)).toArray}})
  (hsz:items.size<=sizeLine):wpAny (model prog w) A (getItem (.ref t) (.ref sl)) Q E s:=by
 have htake:sizeOk (.seq ((items.toList.drop (gr items.size 0 lo)).take (gr items.size items.size hi-gr items.size 0 lo)).toArray):=by
  show((items.toList.drop _).take _).toArray.size<=sizeLine
  rw[Qjz,List.length_take,List.length_drop,Array.length_toList]
  omega
 obtain⟨os,hos,hcs,hds⟩:=id hs
 unfold getItem
 try with_reducible refine QGz ?_
 first|refine QTz _|skip
 refine QTz (wpAny_sequenceKey ht.typeIs (by decide) ?_)
 refine QTz (wpAny_callSpecial?_slot ht.typeIs PyProof.Rows.slot_tuple_getitem
  (Qzq PyProof.Rows.slot_tuple_getitem ht.typeIs entry_tuple_getitem ?_ (args_tuple_getitem _ _)))
 show wpAny _ _ (Builtin.Tuple.tupleItemsOf _>>=_) _ _ s
 refine QTz (tupleItemsOf_ ht ?_)
 refine QTz (wpAny_typeOf ⟨os,hos,hcs⟩ ?_)
 refine QTz (jb hs pl pu ?_)
 have hno:¬((((gr items.size 0 lo):Int)==0&&(1:Int)==1&&(gr items.size items.size hi-gr items.size 0 lo)==items.size)=true):=by
  intro q
  rw[QUq,QUq]at q
  have q1:=eq_of_beq q.1.1
  have q2:=eq_of_beq q.2
  exact hw ⟨by omega,by omega⟩
 show wpAny _ _ (if (((gr items.size 0 lo):Int)==0&&1==1&&_==items.size)=true then _ else _) _ _ s
 rw[if_neg hno,Lq]
 first
  |exact QTz (Qzz (QKq ⟨_,rfl,QKq h⟩) htake)
  |exact QTz _
  |exact QTz (QTz _)
  |exact QTz (QTz _)
end
end HT
namespace L2
open PySem PySem.Spec PyProof.Rows
abbrev TO:=St->Hp->(Option Int->Hp->Prop)->Prop
def PO(X:Cx)(e:Option Expr)(t:TO):Prop:=
 ∀(γ:QQz)(s:Shared)(σ:St)(H:Hp)(Q:Option Int->Hp->Prop),Inv X γ σ H s->t σ H Q->
  wpAny (model X.prog X.w) X.A (evalPart e X.env) (fun u s'=>∃o H',Inv X γ σ H' s'/\IsPart u o/\Q o H') X.xe s
def QJ:TO:=fun _ H Q=>Q none H
def aaC(t:TE):TO:=fun σ H Q=>t σ H fun x H1=>∃i,x=.int i/\Q (some i) H1
section
variable{X:Cx}{e:Expr}{te:TE}{lo hi:Option Expr}{tl th:TO}{pos p2:Pos}
def Rt:PO X none QJ:=by
 intro γ s σ H Q I h
 exact QKq ⟨none,H,I,.none,h⟩
def Rr(h:PE X e te):PO X (some e) (aaC te):=by
 intro γ s σ H Q I hw
 refine bK (h γ s σ H _ I hw) fun u s1⟨x,H1,I1,r1,q1⟩=>?_
 obtain⟨i,rfl,q⟩:=q1
 obtain⟨t,rfl⟩:=r1
 exact⟨some i,H1,I1,.int i t,q⟩
def T4(X:Cx)(r:V->Option Int->Option Int->Hp->VK->Prop):Prop:=
 ∀(γ:QQz)(s:Shared)(σ:St)(H:Hp)(x:V)(v vl vu:Value)(lo hi:Option Int)(sl:Addr)(Q:VK),Inv X γ σ H s->RelV x v->s.heap.IsSliceOf sl vl vu .none->IsPart vl lo->IsPart vu hi->r x lo hi H Q->
  ∃T id,typeLookup (.type T) "__getitem__"=pure (some (.builtin id))/\s.TypeIs v T/\wpAny (model X.prog X.w) X.A (getItem v (.ref sl)) (EP X γ σ Q) X.xe s
def T4.or{r r':V->Option Int->Option Int->Hp->VK->Prop}(h:T4 X r)(h':T4 X r'):T4 X (fun x lo hi H Q=>r x lo hi H Q\/r' x lo hi H Q):=by
 intro γ s σ H x v vl vu lo hi sl Q I rx hs pl pu q
 rcases q with q|q
 ·exact h γ s σ H x v vl vu lo hi sl Q I rx hs pl pu q
 ·exact h' γ s σ H x v vl vu lo hi sl Q I rx hs pl pu q
def tSl(r:V->Option Int->Option Int->Hp->VK->Prop)(te:TE)(tl th:TO):TE:=fun σ H Q=>te σ H fun x H1=>tl σ H1 fun l H2=>th σ H2 fun u H3=>r x l u H3 Q
def Lw(hr:T4 X r)(he:PE X e te)(hl:PO X lo tl)(hu:PO X hi th):PE X (.Subscript e (.Slice lo hi none p2) pos) (tSl r te tl th):=by
 intro γ s σ H Q I h
 refine Subscript_ (bK (he γ s σ H _ I h) fun v s1⟨x,H1,I1,r1,q1⟩=>?_)
 refine wpAny_Slice (bK (hl γ s1 σ H1 _ I1 q1) fun vl s2⟨l,H2,I2,pl,q2⟩=>bK (hu γ s2 σ H2 _ I2 q2) fun vu s3⟨u,H3,I3,pu,q3⟩=>?_)
 refine QKq ?_
 obtain⟨T,id,hT,ht,hg⟩:=hr γ {s3 with heap:=s3.heap.push {cls:=.type "slice",data:=.fields #[vl,vu,.none]}} σ H3 x v vl vu l u s3.heap.objs.size Q (I3.kept fun b ob q=>QWq _ q) r1 (Heap.IsSliceOf.new ..) pl pu q3
 exact tail_any ht hT hg (by with_unfolding_all rfl)
def yo(xs:List V)(lo hi:Option Int):List V:=(xs.drop (HT.gr xs.length 0 lo)).take (HT.gr xs.length xs.length hi-HT.gr xs.length 0 lo)
def qt xs lo hi:(yo xs lo hi).length<=xs.length:=by
 unfold yo
 rw[List.length_take,List.length_drop]
 omega
noncomputable def abd(K:QQq):V->Option Int->Option Int->Hp->VK->Prop:=fun x lo hi H Q=>∃a xs,x=.ref a/\jl K H a xs/\
 ¬(HT.gr xs.length 0 lo=0/\HT.gr xs.length xs.length hi=xs.length)/\∀p,H p=none->Q (.ref p) (upd H p (.tup (yo xs lo hi)))
def Wv:T4 X (abd X.K):=by
 intro γ s σ H x v vl vu lo hi sl Q I rx hs pl pu h
 obtain⟨a,xs,rfl,hx,hw,q⟩:=h
 cases rx
 obtain⟨its,r,ht,hz⟩:=I.tuple hx
 have hlen:its.toArray.size=xs.length:=by rw[Qjz];exact r.length.symm
 refine⟨"tuple",_,PyProof.Rows.slot_tuple_getitem.lookup,ht.typeIs,?_⟩
 refine HT.n6 ht hs pl pu (by rw[hlen];exact hw) ?_ (by rw[hlen];exact hz)
 rw[hlen]
 refine⟨.ref s.heap.objs.size,_,I.laid (fun b ob q=>QWq _ q) (QVz _) ?_,rfl,q _ (I.hok.fresh (QVz _))⟩
 exact⟨Nat.le_trans (qt xs lo hi) hz,_,(r.drop _).take _,TupOk.new _ _⟩
noncomputable def abl(K:QQq):R2:=fun x y H Q=>∃a b xs ys,x=.ref a/\y=.ref b/\jl K H a xs/\jl K H b ys/\xs≠[]/\xs.length+ys.length<=sizeLine/\
 (ys=[]->Q (.ref a) H)/\(ys≠[]->∀p,H p=none->Q (.ref p) (upd H p (.tup (xs++ys))))
def Vals.bA{us:List Value}(r:Vals xs us):us=[]↔xs=[]:=by
 cases r with
 |nil=>simp
 |cons _ _=>simp
def RQ:gJ X (binaryOp .Add) (abl X.K):=by
 intro γ s σ H x y v u Q I rx ry h
 obtain⟨a,b,xs,ys,rfl,rfl,ha,hb,hx,hz,q1,q2⟩:=h
 cases rx
 cases ry
 obtain⟨its,r1,p1,_⟩:=I.tuple ha
 obtain⟨its2,r2,p2,_⟩:=I.tuple hb
 refine HT.Tu p1 p2 (fun z=>hx (r1.bA.mp z)) (fun z=>⟨.ref a,H,I,rfl,q1 (r2.bA.mp z)⟩) (fun z=>?_) (by rw[<-r1.length,<-r2.length];exact hz)
 refine⟨.ref s.heap.objs.size,_,I.laid (fun b ob q=>QWq _ q) (QVz _) ?_,rfl,q2 (fun w=>z (r2.bA.mpr w)) _ (I.hok.fresh (QVz _))⟩
 exact⟨by rw[QTq];exact hz,_,r1.append r2,TupOk.new _ _⟩
end
def Sw(n:Nat)(i:Int):Option Nat:=if 0<=i then(if i<n then some i.toNat else none)else if-(n:Int)<=i then some (i+n).toNat else none
def Zb{α:Type}(xs:List α)(i:Int):Option α:=(Sw xs.length i).bind fun j=>xs[j]?
def Gx{i:Int}(h:Sw n i=some j):seqIndex? i n=some j/\j<n/\ -(n:Int)<=i/\i<n:=by
 unfold Sw at h
 by_cases h0:0<=i
 ·rw[if_pos h0]at h
  by_cases h1:i<n
  ·rw[if_pos h1]at h
   have e:=QDz h
   exact⟨by rw[seqIndex_of h0 h1,e],by omega,by omega,h1⟩
  ·rw[if_neg h1]at h;cases h
 ·rw[if_neg h0]at h
  by_cases h1: -n<=i
  ·rw[if_pos h1]at h
   have e:=QDz h
   exact⟨by rw[seqIndex_neg (by omega) h1,e],by omega,h1,by omega⟩
  ·rw[if_neg h1]at h;cases h
def yw{xs:List α}{v:α}(h:Zb xs i=some v):∃j,seqIndex? i xs.length=some j/\xs[j]? =some v/\j<xs.length/\ -(xs.length:Int)<=i/\i<xs.length:=by
 unfold Zb at h
 cases e:Sw xs.length i with
 |none=>rw[e]at h;cases h
 |some j=>
  rw[e]at h
  obtain⟨h1,h2,h3,h4⟩:=Gx e
  exact⟨j,h1,h,h2,h3,h4⟩
def yx(b:Expr):Prop:=∀o i,subscripted b false o i=operate [o,i] (getItem o i)
def JS(X:Cx)(r:R2):Prop:=
 ∀(value slice:Expr)(γ:QQz)(s:Shared)(σ:St)(H:Hp)(x y:V)(v u:Value)(Q:VK),Inv X γ σ H s->RelV x v->RelV y u->r x y H Q->
  subscripted slice false v u=operate [v,u] (getItem v u)->wpAny (model X.prog X.w) X.A (subscriptTail value slice v u) (EP X γ σ Q) X.xe s
def MtR(X:Cx)(id:String)(r:V->List V->Hp->VK->Prop):Prop:=
 ∀(γ:QQz)(s:Shared)(σ:St)(H:Hp)(x:V)(xs:List V)(v:Value)(us:List Value)(Q:VK),Inv X γ σ H s->RelV x v->Vals xs us->r x xs H Q->
  wpAny (model X.prog X.w) X.A (call (.builtin id) (v::us)) (EP X γ σ Q) X.xe s
section
variable{X:Cx}{a b:Expr}{ta tb:TE}{pos:Pos}
def JS.or{r r':R2}(h:JS X r)(h':JS X r'):JS X (fun x y H Q=>r x y H Q\/r' x y H Q):=by
 intro value slice γ s σ H x y v u Q I rx ry q hs
 rcases q with q|q
 ·exact h value slice γ s σ H x y v u Q I rx ry q hs
 ·exact h' value slice γ s σ H x y v u Q I rx ry q hs
def Va(hr:JS X r)(ha:PE X a ta)(hb:PE X b tb)(hs:yx b):PE X (.Subscript a b pos) (Ur r ta tb):=by
 intro γ s σ H Q I h
 exact Subscript_ (Y4 ha hb I h fun v u s2 x y H2 I2 rx ry q=>hr a b γ s2 σ H2 x y v u Q I2 rx ry q (hs _ _))
def WQ(K:QQq):R2:=fun x y H Q=>∃p xs i v,x=.ref p/\y=.int i/\lu K H p xs/\Zb xs i=some v/\Q v H
def WP(K:QQq):R2:=fun x y H Q=>∃p xs i v,x=.ref p/\y=.int i/\jl K H p xs/\Zb xs i=some v/\Q v H
def Lb:R2:=fun x y H Q=>∃z i c,x=.str z/\y=.int i/\z.length<=sizeLine/\Zb z.cps.toList i=some c/\Q (.str ⟨#[c]⟩) H
def Gw:JS X (WQ X.K):=by
 intro value slice γ s σ H x y v u Q I rx ry h hs
 obtain⟨p,xs,i,z,rfl,rfl,hq,he,q⟩:=h
 cases rx
 obtain⟨t,rfl⟩:=ry
 obtain⟨its,r,pl,hz⟩:=I.list hq
 obtain⟨j,h1,h2,h3,h4,h5⟩:=yw he
 obtain⟨w,ew,rw'⟩:=r.get h2
 have hl:=r.length
 have hn:=xQ
 have fin:EP X γ σ Q w s:=⟨z,H,I,rw',q⟩
 by_cases h0:0<=i
 ·have hj:i.toNat=j:=by
   rw[seqIndex_of h0 h5]at h1
   exact QDz h1
  exact item_listR pl.isList h0 (by omega) (by rw[hj];simpa using ew) fin hs
 ·have hj:(i+its.toArray.size).toNat=j:=by
   rw[seqIndex_neg (by omega) h4]at h1
   rw[Qjz,<-hl]
   exact QDz h1
  exact subscriptTail_builtinR pl.isList.typeIs slot_list_getitem.lookup
   (wpAny_getItem_list_neg pl.isList (by omega) (by rw[Qjz]<;>omega) (by omega) (by rw[hj];simpa using ew) ⟨rfl,fin⟩) hs
def M6:JS X (WP X.K):=by
 intro value slice γ s σ H x y v u Q I rx ry h hs
 obtain⟨p,xs,i,z,rfl,rfl,hq,he,q⟩:=h
 cases rx
 obtain⟨t,rfl⟩:=ry
 obtain⟨its,r,pl,hz⟩:=I.tuple hq
 obtain⟨j,h1,h2,h3,h4,h5⟩:=yw he
 obtain⟨w,ew,rw'⟩:=r.get h2
 have hn:=xQ
 exact subscriptTail_builtinR pl.typeIs slot_tuple_getitem.lookup
  (getItem_tuple pl (by omega) (by omega) (by rw[Qjz,<-r.length];exact h1) (by simpa using ew) ⟨rfl,⟨z,H,I,rw',q⟩⟩) hs
def XM:JS X Lb:=by
 intro value slice γ s σ H x y v u Q I rx ry h hs
 obtain⟨z,i,c,rfl,rfl,hz,he,q⟩:=h
 obtain⟨t,rfl⟩:=rx
 obtain⟨t',rfl⟩:=ry
 obtain⟨j,h1,h2,h3,h4,h5⟩:=yw he
 have hl:z.cps.toList.length=z.length:=by simp[Str.length]
 rw[hl]at h1 h4 h5
 have hn:=xQ
 exact tail_any (typeIs_str s z t) slot_str_getitem.lookup (getItem_str (c:=c) (by
  have e1:decide (i< -(2 ^63:Int))=false:=QEq (by omega)
  have e2:decide (i>=2 ^63)=false:=QEq (by omega)
  rw[e1,e2,Bool.or_false]) (by rw[h1];simpa using h2) ⟨.str ⟨#[c]⟩,H,I.tok _,⟨_,rfl⟩,q⟩) hs
def rIx(K:QQq):R2:=fun x y H Q=>WQ K x y H Q\/WP K x y H Q\/Lb x y H Q
def M7:JS X (rIx X.K):=Gw.or (M6.or XM)
def CN(its:List Value)n j u:Obj.mapSeq (·.setIfInBounds j u) {cls:=.type "list",data:=.seq its.toArray n}={cls:=.type "list",data:=.seq (its.set j u).toArray n}:=by
 simp[Obj.mapSeq]
theorem Inv.lst{γ:QQz}{σ:St}{H:Hp}{s:Shared}{p:Addr}{xs:List V}(I:Inv X γ σ H s)(h:H p=some (.lst xs)):
  ∃(its:List Value)(n:Nat),Vals xs its/\s.heap.get? p=some {cls:=.type "list",data:=.seq its.toArray n}/\xs.length<=sizeLine:=by
 obtain⟨z,its,n,r,e⟩:=I.hok p _ h
 exact⟨its,n,r,e,z⟩
def Inv.Xv{σ:St}{H:Hp}{p:Addr}{its its':List Value}{n n':Nat}(I:Inv X γ σ H s)(h:H p=some (.lst xs))
  (ho:s.heap.get? p=some {cls:=.type "list",data:=.seq its.toArray n})(hf:f {cls:=.type "list",data:=.seq its.toArray n}={cls:=.type "list",data:=.seq its'.toArray n'})(r:Vals ys its')(hz:ys.length<=sizeLine)t:
  Inv X γ σ (upd H p (.lst ys)) {s with heap:=s.heap.update p f,toks:=t}:=by
 have e:(s.heap.update p f).get? p=some {cls:=.type "list",data:=.seq its'.toArray n'}:=by
  rw[Heap.get?_update_self f ho (by rw[hf]<;>rfl),hf]
 refine I.write (by rw[h];trivial) (.inl rfl) (fun b u hb q=>(Heap.get?_update_other _ _ (Ne.symm hb)).trans q) ⟨_,e⟩ ?_
 exact⟨hz,its',n',r,e⟩
def U3:V->V->V->Hp->(Hp->Prop)->Prop:=fun o i v H Q=>∃p xs k j,o=.ref p/\i=.int k/\H p=some (.lst xs)/\Sw xs.length k=some j/\Q (upd H p (.lst (xs.set j v)))
def set_list:Qf X U3:=by
 intro γ s σ H o i v ov iv u Q I ro ri rv h
 obtain⟨p,xs,k,j,rfl,rfl,hp,hj,q⟩:=h
 cases ro
 obtain⟨t,rfl⟩:=ri
 obtain⟨its,n,r,ho,hz⟩:=I.lst hp
 obtain⟨h1,h2,h3,h4⟩:=Gx hj
 have hl:=r.length
 have hn:=xQ
 have I':=
  I.Xv hp ho (CN its n j u) (r.set rv j) (by rw[List.length_set];exact hz) s.toks
 by_cases h0:0<=k
 ·have hk:k.toNat=j:=by
   rw[seqIndex_of h0 h4]at h1
   exact QDz h1
  exact PySem.W.ki_setAt ho h0 (by omega) (by rw[Qjz,<-hl];exact h4) (by rw[hk];exact⟨_,I',q⟩)
 ·have hk:(k+its.toArray.size).toNat=j:=by
   rw[seqIndex_neg (by omega) h3]at h1
   rw[Qjz,<-hl]
   exact QDz h1
  exact PySem.W.ki_setBack ho (by omega) (by rw[Qjz,<-hl];exact h3) (by omega) (by rw[hk];exact⟨_,I',q⟩)
def wZ lo hi n:(sliceBounds lo hi none n).1=((HT.gr n 0 lo:Nat):Int)/\(sliceBounds lo hi none n).2.1=((HT.gr n n hi:Nat):Int)/\(sliceBounds lo hi none n).2.2=1:=by
 refine⟨?_,?_,rfl⟩
 ·cases lo with
  |none=>simp[sliceBounds,HT.gr]
  |some i=>
   simp only[sliceBounds,HT.gr,Option.getD_none,show 1>0 by decide,if_true]
   by_cases h:i<0
   ·simp only[h,if_true]<;>omega
   ·simp only[h,if_false]<;>omega
 ·cases hi with
  |none=>simp[sliceBounds,HT.gr]
  |some i=>
   simp only[sliceBounds,HT.gr,Option.getD_none,show 1>0 by decide,if_true]
   by_cases h:i<0
   ·simp only[h,if_true]<;>omega
   ·simp only[h,if_false]<;>omega
def uJ(its:List Value)lo hi:slicePick its.toArray lo hi none=((its.drop (HT.gr its.length 0 lo)).take (HT.gr its.length its.length hi-HT.gr its.length 0 lo)).toArray:=by
 obtain⟨h1,h2,h3⟩:=wZ lo hi its.toArray.size
 unfold slicePick
 rw[h1,h2,h3]
 simp only[sliceRange_one,pick_run,Qjz]<;>rfl
def abe(K:QQq):V->Option Int->Option Int->Hp->VK->Prop:=fun x lo hi H Q=>∃a xs,x=.ref a/\lu K H a xs/\∀p,H p=none->Q (.ref p) (upd H p (.lst (yo xs lo hi)))
def QS:T4 X (abe X.K):=by
 intro γ s σ H x v vl vu lo hi sl Q I rx hs pl pu h
 obtain⟨a,xs,rfl,hx,q⟩:=h
 cases rx
 obtain⟨its,r,ht,hz⟩:=I.list hx
 have hlen:=r.length
 refine⟨"list",_,slot_list_getitem.lookup,ht.isList.typeIs,?_⟩
 refine wpAny_getItem_list_slice ht.isList hs pl pu .none (by simp) ?_ (by rw[Qjz]<;>omega)
 rw[uJ,<-hlen]
 refine⟨.ref s.heap.objs.size,_,I.laid (fun b ob q=>QWq _ q) (QVz _) ?_,rfl,q _ (I.hok.fresh (QVz _))⟩
 exact⟨Nat.le_trans (qt xs lo hi) hz,_,0,(r.drop _).take _,Qqz _ rfl⟩
def jN:V->Bool
 |.non=>true
 |.bl _=>true
 |.int _=>true
 |.str _=>true
 |_=>false
def Oq:V->V->Bool
 |.non,.non=>true
 |.bl a,.bl b=>a==b
 |.bl a,.int b=>(if a then 1 else 0)==b
 |.int a,.bl b=>a==(if b then 1 else 0)
 |.int a,.int b=>a==b
 |.str a,.str b=>a==b
 |_,_=>false
def YF{s:Shared}{u v:Value}(ry:RelV y u)(rx:RelV x v)(fy:jN y=true)(fx:jN x=true):SeqAt.EqAt A s u v (Oq y x):=by
 cases y with
 |non=>
  cases ry
  cases x with
  |non=>cases rx;exact SeqAt.EqAt.same _
  |bl b=>cases rx;exact SeqAt.EqAt.none_bool b
  |int b=>obtain⟨t,rfl⟩:=rx;exact SeqAt.EqAt.none_int b t
  |str b=>obtain⟨t,rfl⟩:=rx;exact SeqAt.EqAt.none_str b t
  |_=>exact absurd (fx) Qjq
 |bl a=>
  cases ry
  cases x with
  |non=>cases rx;exact SeqAt.EqAt.bool_none a
  |bl b=>cases rx;exact SeqAt.EqAt.bool_bool a b
  |int b=>obtain⟨t,rfl⟩:=rx;exact SeqAt.EqAt.bool_int a b t
  |str b=>obtain⟨t,rfl⟩:=rx;exact SeqAt.EqAt.bool_str a b t
  |_=>exact absurd (fx) Qjq
 |int a=>
  obtain⟨t',rfl⟩:=ry
  cases x with
  |non=>cases rx;exact SeqAt.EqAt.int_none a t'
  |bl b=>cases rx;exact SeqAt.EqAt.int_bool a t' b
  |int b=>obtain⟨t,rfl⟩:=rx;exact SeqAt.EqAt.int_int a t' b t
  |str b=>obtain⟨t,rfl⟩:=rx;exact SeqAt.EqAt.int_str a t' b t
  |_=>exact absurd (fx) Qjq
 |str a=>
  obtain⟨t',rfl⟩:=ry
  cases x with
  |non=>cases rx;exact SeqAt.EqAt.str_none a t'
  |bl b=>cases rx;exact SeqAt.EqAt.str_bool a t' b
  |int b=>obtain⟨t,rfl⟩:=rx;exact SeqAt.EqAt.str_int a t' b t
  |str b=>obtain⟨t,rfl⟩:=rx;exact SeqAt.EqAt.str_str a t' b t
  |_=>exact absurd (fx) Qjq
 |_=>exact absurd (fy) Qjq
def Vo(x:V)(u:Value):Bool:=match u with
 |.none=>Oq .non x
 |.bool b=>Oq (.bl b) x
 |.int i _=>Oq (.int i) x
 |.str z _=>Oq (.str z) x
 |_=>false
def Do{u:Value}(r:RelV y u)(f:jN y=true):Vo x u=Oq y x:=by
 cases y with
 |non=>cases r;rfl
 |bl b=>cases r;rfl
 |int i=>obtain⟨t,rfl⟩:=r;rfl
 |str z=>obtain⟨t,rfl⟩:=r;rfl
 |_=>exact absurd (f) Qjq
theorem oJ{x:V}:∀{xs:List V}{us:List Value},Vals xs us->xs.all jN=true->us.any (Vo x)=xs.any fun y=>Oq y x
 |_,_,.nil=>fun _=>rfl
 |y::xs,u::us,.cons r t=>fun f=>by
  rw[List.all_cons,QUq]at f
  rw[List.any_cons,List.any_cons,Do r f.1,oJ t f.2]
theorem ie{A:Around}{s:Shared}{x:V}{v:Value}(rx:RelV x v)(fx:jN x=true):∀{xs:List V}{us:List Value},Vals xs us->xs.all jN=true->∀u∈us,SeqAt.EqAt A s u v (Vo x u)
 |_,_,.nil=>fun _=>fun u hu=>by cases hu
 |y::xs,u::us,.cons r t=>fun f=>fun u' hu=>by
  rw[List.all_cons,QUq]at f
  rcases QBz.mp hu with rfl|hu
  ·rw[Do r f.1];exact YF r rx f.1 fx
  ·exact ie rx fx t f.2 u' hu
def inV(x:V)(xs:List V):Bool:=xs.any fun y=>Oq y x
def rIn(K:QQq)(neg:Bool):R2:=fun x y H Q=>∃p xs,y=.ref p/\(lu K H p xs\/jl K H p xs)/\jN x=true/\xs.all jN=true/\Q (.bl (if neg then !inV x xs else inV x xs)) H
def Ir:gJ X (compareOp .In) (rIn X.K false):=by
 intro γ s σ H x y v u Q I rx ry h
 obtain⟨p,xs,rfl,hq,fx,fs,q⟩:=h
 cases ry
 rcases hq with hq|hq
 ·obtain⟨its,r,pl,hz⟩:=I.list hq
  refine SeqAt.in_listAt _ pl.isList (fun w hw=>ie rx fx r fs w (by simpa using hw)) ⟨.bl _,H,I,rfl,?_⟩
  rw[show its.toArray.any _=its.any (Vo x) by simp,oJ r fs]
  exact q
 ·obtain⟨its,r,pl,hz⟩:=I.tuple hq
  refine SeqAt.in_tupleAt _ pl (fun w hw=>ie rx fx r fs w (by simpa using hw)) ⟨.bl _,H,I,rfl,?_⟩
  rw[show its.toArray.any _=its.any (Vo x) by simp,oJ r fs]
  exact q
def xJ:gJ X (compareOp .NotIn) (rIn X.K true):=by
 intro γ s σ H x y v u Q I rx ry h
 obtain⟨p,xs,rfl,hq,fx,fs,q⟩:=h
 cases ry
 rcases hq with hq|hq
 ·obtain⟨its,r,pl,hz⟩:=I.list hq
  refine SeqAt.notIn_listAt _ pl.isList (fun w hw=>ie rx fx r fs w (by simpa using hw)) ⟨.bl _,H,I,rfl,?_⟩
  rw[show its.toArray.any _=its.any (Vo x) by simp,oJ r fs]
  exact q
 ·obtain⟨its,r,pl,hz⟩:=I.tuple hq
  refine SeqAt.notIn_tupleAt _ pl (fun w hw=>ie rx fx r fs w (by simpa using hw)) ⟨.bl _,H,I,rfl,?_⟩
  rw[show its.toArray.any _=its.any (Vo x) by simp,oJ r fs]
  exact q
def yt:gq X (.type "list") (fun xs H Q=>∃p ys,xs=[.ref p]/\(lu X.K H p ys\/jl X.K H p ys)/\∀l,H l=none->Q (.ref l) (upd H l (.lst ys))):=by
 intro γ s σ H xs us Q I r h
 obtain⟨p,ys,rfl,hq,q⟩:=h
 obtain⟨u,rfl,rx⟩:=vals1 r
 cases rx
 have fin:∀its,Vals ys its->ys.length<=sizeLine->∀h' c',_->
   h'.get? s.heap.objs.size=some {cls:=.type "list",dict:=none,data:=.seq its.toArray c',slots:= #[]}->EP X γ σ Q _ {s with heap:=h'}:=fun its r' hz h' c' kp e=>
  ⟨.ref s.heap.objs.size,_,I.laid kp (QVz _) (show cG X.prog X.w _ h' _ (.lst ys)from⟨hz,its,c',r',e⟩),rfl,q _ (I.hok.fresh (QVz _))⟩
 rcases hq with hq|hq
 ·obtain⟨its,r',pl,hz⟩:=I.list hq
  have hlen:=r'.length
  obtain⟨o,ho,hc,n,hd⟩:=pl.isList
  exact call_list_seq p (.inl rfl) ho hc hd (fun h' c' kp e=>fin its r' hz h' c' kp e) (by simp only[Qjz]<;>omega)
 ·obtain⟨its,r',pl,hz⟩:=I.tuple hq
  have hlen:=r'.length
  obtain⟨o,ho,hc,n,hd⟩:=pl
  exact call_list_seq p (.inr rfl) ho hc hd (fun h' c' kp e=>fin its r' hz h' c' kp e) (by simp only[Qjz]<;>omega)
def uW:gq X (.type "tuple") (fun xs H Q=>∃p ys,xs=[.ref p]/\((lu X.K H p ys/\∀l,H l=none->Q (.ref l) (upd H l (.tup ys)))\/(jl X.K H p ys/\Q (.ref p) H))):=by
 intro γ s σ H xs us Q I r h
 obtain⟨p,ys,rfl,h⟩:=h
 obtain⟨u,rfl,rx⟩:=vals1 r
 cases rx
 rcases h with ⟨hq,q⟩|⟨hq,q⟩
 ·obtain⟨its,r',pl,hz⟩:=I.list hq
  have hlen:=r'.length
  refine call_tuple_list pl.isList (fun h' kp=>?_) (by simp only[Qjz]<;>omega)
  have I1:=I.kept (t':=s.toks) kp
  have I2:=
   I1.laid (t':=s.toks) (fun b o e=>QWq _ e) (QVz _) (show cG X.prog X.w _ _ _ (.tup ys)from⟨hz,its,r',TupOk.new _ _⟩)
  exact⟨.ref h'.objs.size,_,I2,rfl,q _ (I1.hok.fresh (QVz _))⟩
 ·obtain⟨its,r',pl,hz⟩:=I.tuple hq
  exact call_tuple_same pl ⟨.ref p,H,I,rfl,q⟩
def tyV(K:QQq)(T:String)(x:V)(H:Hp):Prop:=match x with
 |.str _=>T="str"
 |.int _=>T="int"
 |.ref p=>(T="list"/\∃xs,lu K H p xs)\/(T="tuple"/\∃o,K.lookup p=some o/\o.cls=.type "tuple"/\o.dict=none)\/
   (T="dict"/\((∃kvs,H p=some (.dK kvs))\/∃kvs,H p=some (.dT kvs)))\/(T="set"/\∃S n,H p=some (.set S n))
 |_=>False
theorem V6{σ:St}{H:Hp}{T:String}{x:V}(I:Inv X γ σ H s)(r:RelV x v)(ty:tyV X.K T x H):
  s.TypeIs v T/\∀a,v=.ref a->∃ob,s.heap.get? a=some ob/\ob.dict=none:=by
 cases x with
 |str z=>
  obtain⟨t,rfl⟩:=r
  cases (ty)
  exact⟨typeIs_str s z t,fun _ e=>nomatch e⟩
 |int i=>
  obtain⟨t,rfl⟩:=r
  cases (ty)
  exact⟨typeIs_int s i t,fun _ e=>nomatch e⟩
 |ref p=>
  cases r
  rcases ty with ⟨rfl,xs,hq⟩|⟨rfl,o,hk,hc,hd⟩|⟨rfl,hk⟩|⟨rfl,S,n,hk⟩
  ·obtain⟨its,_,pl,_⟩:=I.list hq
   refine⟨pl.isList.typeIs,fun a e=>?_⟩
   cases e
   obtain⟨o,n,e,c,hd,_⟩:=pl
   exact⟨o,e,hd⟩
  ·refine⟨⟨o,I.zX p o hk,hc⟩,fun a e=>?_⟩
   cases e
   exact⟨o,I.zX _ o hk,hd⟩
  ·have z:∃o,s.heap.get? p=some o/\o.ExactDict:=by
    rcases hk with ⟨kvs,hk⟩|⟨kvs,hk⟩
    ·obtain⟨_,_,_,_,o,_,_,e,ex,_⟩:=I.hok p _ hk
     exact⟨o,e,ex⟩
    ·obtain⟨_,_,_,_,o,_,_,e,ex,_⟩:=I.hok p _ hk
     exact⟨o,e,ex⟩
   obtain⟨o,e,ex⟩:=z
   refine⟨⟨o,e,ex.1⟩,fun a e2=>?_⟩
   cases e2
   exact⟨o,e,ex.2.1⟩
  ·obtain⟨o,_,_,_,e,ex,_⟩:=I.hok p _ hk
   refine⟨⟨o,e,ex.1⟩,fun a e2=>?_⟩
   cases e2
   exact⟨o,e,ex.2.1⟩
 |_=>exact False.elim ty
def tBM(K:QQq)(T:String)(r:V->List V->Hp->VK->Prop)(to:TE)(t:TA):TE:=fun σ H Q=>to σ H fun x H1=>tyV K T x H1/\t σ H1 fun xs H2=>r x xs H2 Q
variable{o e:Expr}{es:List Expr}{to:TE}{t:TA}{name:Str}{apos cpos:Pos}{T id:String}{r:V->List V->Hp->VK->Prop}
def abq(pa:PlainAttrs T)(slot:Slot T name id)(hty:typeOf (.builtin id)=pure (.type "method_descriptor"))(hm:MtR X id r)(ho:PE X o to)(ha:PA X (e::es) t)
  (hbase:attributeBase o name X.env (eval o X.env)=eval o X.env:=by rfl)
  (hfew:((backTo cpos (starEach (e::es) X.env)).all (fun x=> !x.1)&&(backToKw cpos (keywordEach [] X.env)).all (fun x=>x.1.isSome)
   &&decide ((e::es).length+([]:List Keyword).length+(if ([]:List Keyword).isEmpty then 0 else 1)<30))=true:=by rfl)
  (hline:(apos.endLine==cpos.line)=true:=by rfl)(hs:starEach (e::es) X.env=(false,eval e X.env)::starEach es X.env:=by rfl)(hplain:(backTo cpos (starEach es X.env)).any (·.1)=false:=by rfl):
  PE X (.Call (.Attribute o name apos) (e::es) [] cpos) (tBM X.K T r to t):=by
 intro γ s σ H Q I h
 refine wpAny_Call_method_late hbase hfew hline rfl (bK (ho γ s σ H _ I h) fun v s1⟨x,H1,I1,r1,ty,q1⟩=>?_)
 obtain⟨h1,h2⟩:=V6 I1 r1 ty
 refine⟨T,id,pa,slot,hty,h1,h2,?_⟩
 have hA:=ha cpos γ s1 σ H1 _ I1 q1
 rw[hs]at hA⊢
 exact Calls.callWith_builtin (by show(false||(backTo cpos _).any (·.1))=false;rw[hplain]<;>rfl) (Calls.evalArgs_plain (bK hA fun us s2⟨vs,H2,I2,r2,q2⟩=>hm γ s2 σ H2 x vs v us Q I2 r1 r2 q2))
end
def MtM(X:Cx)(id:String)(r:V->List V->Hp->VK->Prop):Prop:=
 ∀(γ:QQz)(s:Shared)(σ:St)(H:Hp)(x:V)(xs:List V)(v:Value)(us:List Value)(Q:VK),Inv X γ σ H s->RelV x v->Vals xs us->r x xs H Q->
  wpAny (model X.prog X.w) X.A (call (.builtin id) (v::us)) (EP X γ σ Q) X.xe s
theorem Vals.one:∀{x:V}{us:List Value},Vals [x] us->∃u,us=[u]/\RelV x u
 |_,_,.cons r .nil=>⟨_,rfl,r⟩
theorem Vals.two:∀{x y:V}{us:List Value},Vals [x,y] us->∃u v,us=[u,v]/\RelV x u/\RelV y v
 |_,_,_,.cons r (.cons q .nil)=>⟨_,_,rfl,r,q⟩
theorem Vals.eraseIdx:∀{xs:List V}{us:List Value}(i:Nat),Vals xs us->Vals (xs.eraseIdx i) (us.eraseIdx i)
 |_,_,_,.nil=>.nil
 |_,_,0,.cons _ t=>t
 |_,_,i+1,.cons r t=>.cons r (Vals.eraseIdx i t)
theorem vV{α:Type}:∀(l:List α)(i:Nat),(l.eraseIdx i).length<=l.length
 |[],_=>QVz _
 |_::_,0=>Nat.le_succ _
 |_::r,i+1=>Nat.succ_le_succ (vV r i)
section
variable{X:Cx}{γ:QQz}{σ:St}{H:Hp}{s:Shared}{l b:Addr}{xs ys zs:List V}
def Inv.abI{its its':List Value}{n:Nat}{t':Nat}(I:Inv X γ σ H s)(hH:H l=some (.lst xs))
  (e:s.heap.get? l=some {cls:=.type "list",data:=.seq its.toArray n})(hf:f its.toArray=its'.toArray)(hv:Vals ys its')(hz:ys.length<=sizeLine):
  Inv X γ σ (upd H l (.lst ys)) {s with heap:=s.heap.update l (Obj.mapSeq f),toks:=t'}:=by
 have q:=PySem.IsL.update e f
 rw[hf]at q
 refine I.write (by rw[hH];exact trivial) (.inl rfl) (fun b' u hb hu=>(Heap.get?_update_other s.heap _ (Ne.symm hb)).trans hu) ⟨_,q⟩ ?_
 exact⟨hz,its',_,hv,q⟩
def Inv.ae4{t':Nat}(I:Inv X γ σ H s)(hv:Vals ys its)(hz:ys.length<=sizeLine):
  Inv X γ σ (upd H s.heap.objs.size (.lst ys)) {s with heap:=s.heap.push {cls:=.type "list",data:=.seq its.toArray},toks:=t'}:=
 I.laid (fun _ _ q=>QWq _ q) (QVz _) ⟨hz,its,0,hv,Qqz _ rfl⟩
theorem Inv.fresh(I:Inv X γ σ H s):H s.heap.objs.size=none:=I.hok.fresh (QVz _)
def Inv.abH(I:Inv X γ σ H s)(hH:H l=some (.lst xs)):xs.length<=sizeLine/\∃(its:List Value)(n:Nat),Vals xs its/\xs.length=its.length/\s.heap.get? l=some {cls:=.type "list",data:=.seq its.toArray n}:=by
 obtain⟨z,its,n,r,e⟩:=I.hok l _ hH
 exact⟨z,its,n,r,r.length,e⟩
end
section
variable{X:Cx}
def xn:V->List V->Hp->VK->Prop:=fun x vs H Q=>∃l xs y,x=.ref l/\vs=[y]/\H l=some (.lst xs)/\xs.length<sizeLine/\Q .non (upd H l (.lst (xs++[y])))
def o4:MtM X "list.append" xn:=by
 intro γ s σ H x vs v us Q I rx rv h
 obtain⟨l,xs,y,rfl,rfl,hH,hz,q⟩:=h
 cases rx
 obtain⟨u,rfl,ru⟩:=rv.one
 obtain⟨z,its,n,r,hl,e⟩:=I.abH hH
 refine call_meets F.slot_list_append ⟨_,e,rfl⟩ F.entry_list_append (F.args_list_append_2 _ _) (PySem.list_append l its.toArray n u (by rw[Qjz];omega)) ⟨e,?_⟩
 refine⟨.non,_,I.abI hH e (by simp) (r.append (.cons ru .nil)) ?_,rfl,q⟩
 rw[QTq,List.length_singleton]
 omega
noncomputable def WM:V->List V->Hp->VK->Prop:=fun x vs H Q=>∃l xs i k y,x=.ref l/\vs=[.int i]/\H l=some (.lst xs)/\ -(2 ^63)<=i/\i<2 ^63/\seqIndex? i xs.length=some k/\xs[k]? =some y/\Q y (upd H l (.lst (xs.eraseIdx k)))
def My:MtM X "list.pop" WM:=by
 intro γ s σ H x vs v us Q I rx rv h
 obtain⟨l,xs,i,k,y,rfl,rfl,hH,h1,h2,hk,hy,q⟩:=h
 cases rx
 obtain⟨u,rfl,ru⟩:=rv.one
 obtain⟨t,rfl⟩:=ru
 obtain⟨z,its,n,r,hl,e⟩:=I.abH hH
 obtain⟨w,hw,rw'⟩:=r.get hy
 refine call_meets F.slot_list_pop ⟨_,e,rfl⟩ F.entry_list_pop (F.args_list_pop_2 _ _)
  (MeetsSeq.list_pop_at l its.toArray n i t k w (fitsIndex_both h1 h2) (by rw[Qjz,<-hl];exact hk) (by rw[<-Array.getElem?_toList];exact hw) (by rw[Qjz];omega)) ⟨e,?_⟩
 refine⟨y,_,I.abI hH e ?_ (r.eraseIdx k) ?_,rw',q⟩
 ·show its.toArray.eraseIdxIfInBounds k=(its.eraseIdx k).toArray
  rw[List.eraseIdxIfInBounds_toArray]
 ·have:=vV xs k
  omega
end
section
variable{prog:Program}{w:World}{A:Around}{E:QZq}{s:Shared}
end
section
variable{X:Cx}
end
section
variable{κ:Type}[DecidableEq κ]
def eQ(kvs:List (κ×V))(k:κ):Option V:=(kvs.find? fun kv=>decide (kv.1=k)).map (·.2)
def putK(kvs:List (κ×V))(k:κ)(v:V):List (κ×V):=
 if (kvs.any fun kv=>decide (kv.1=k))=true then kvs.map (fun kv=>if kv.1=k then(kv.1,v)else kv)else kvs++[(k,v)]
def qi(kvs:List (κ×V))(k:κ):List (κ×V):=kvs.filter fun kv=>decide (kv.1≠k)
def iY{p:κ×V}{k:κ}(e:p.1=k):eQ (p::r) k=some p.2:=by simp[eQ,List.find?_cons,e]
def iZ{p:κ×V}{k:κ}(e:¬p.1=k):eQ (p::r) k=eQ r k:=by simp[eQ,List.find?_cons,e]
theorem q9(k:κ):∀kvs:List (κ×V),(kvs.any fun kv=>decide (kv.1=k))=(eQ kvs k).isSome
 |[]=>rfl
 |p::r=>by
  rw[List.any_cons]
  by_cases e:p.1=k
  ·simp only[iY e,decide_eq_true e,Bool.true_or,Option.isSome_some]
  ·rw[iZ e,QEq e,Bool.false_or];exact q9 k r
def j6(kvs:List (κ×V))(k:κ)v:(putK kvs k v).length<=kvs.length+1:=by
 unfold putK
 split
 ·rw[Qvz];omega
 ·rw[QTq,QAz,List.length_nil];omega
def iz.eX{u:Option Value}(r:iz o u):o.isSome=u.isSome:=by
 cases o with
 |none=>cases u with
  |none=>rfl
  |some _=>exact(r).elim
 |some _=>cases u with
  |none=>exact(r).elim
  |some _=>rfl
theorem iz.getD{u:Option Value}{d':Value}(r:iz o u)(rd:RelV d d'):RelV (o.getD d) (u.getD d'):=by
 cases o with
 |none=>cases u with
  |none=>exact rd
  |some _=>exact(r).elim
 |some _=>cases u with
  |none=>exact(r).elim
  |some _=>exact r
def KV.val{vs:List (κ×Value)}(r:KV kvs vs)(k:κ):iz (eQ kvs k) (valueAt vs k):=by
 induction r with
 |nil=>exact True.intro
 | @cons p q ps qs h t ih=>
  obtain⟨h1,h2⟩:=h
  by_cases e:p.1=k
  ·have b:valueAt (q::qs) k=some q.2:=by simp[valueAt,List.find?_cons,h1.symm.trans e]
   rw[iY e,b];exact h2
  ·have e':¬q.1=k:=fun z=>e (h1.trans z)
   have b:valueAt (q::qs) k=valueAt qs k:=by simp[valueAt,List.find?_cons,e']
   rw[iZ e,b];exact ih
theorem KV.any{vs:List (κ×Value)}(r:KV kvs vs)(k:κ):(kvs.any fun kv=>decide (kv.1=k))=vs.any fun kv=>decide (kv.1=k):=by
 induction r with
 |nil=>rfl
 |cons h t ih=>rw[List.any_cons,List.any_cons,ih,h.1]
theorem KV.repl{vs:List (κ×Value)}(r:KV kvs vs)(k:κ){u:Value}(ry:RelV y u):
  KV (kvs.map fun kv=>if kv.1=k then(kv.1,y)else kv) (vs.map fun kv=>if kv.1=k then(kv.1,u)else kv):=by
 induction r with
 |nil=>exact .nil
 | @cons p q ps qs h t ih=>
  rw[Qyq,Qyq]
  refine .cons ?_ ih
  obtain⟨h1,h2⟩:=h
  by_cases e:p.1=k
  ·rw[if_pos e,if_pos (h1.symm.trans e)];exact⟨h1,ry⟩
  ·rw[if_neg e,if_neg (fun z=>e (h1.trans z))];exact⟨h1,h2⟩
def KV.put{vs:List (κ×Value)}(r:KV kvs vs)(k:κ){u:Value}(ry:RelV y u):KV (putK kvs k y) (stored vs k u):=by
 unfold putK stored
 rw[r.any k]
 by_cases e:(vs.any fun kv=>decide (kv.1=k))=true
 ·rw[if_pos e,if_pos e];exact r.repl k ry
 ·rw[if_neg e,if_neg e];exact Paired.snoc r ⟨rfl,ry⟩
def KV.drop{vs:List (κ×Value)}(r:KV kvs vs)(k:κ):KV (qi kvs k) (without vs k):=by
 unfold qi without
 induction r with
 |nil=>exact .nil
 | @cons p q ps qs h t ih=>
  obtain⟨h1,h2⟩:=h
  rw[List.filter_cons,List.filter_cons]
  by_cases e:p.1=k
  ·have a:¬decide (p.1≠k)=true:=by simp[e]
   rw[if_neg a,if_neg (by simp[h1.symm.trans e])];exact ih
  ·have e':¬q.1=k:=fun z=>e (h1.trans z)
   rw[if_pos (by simp[e]),if_pos (by simp[e'])];exact .cons ⟨h1,h2⟩ ih
theorem KV.length{kvs:List (κ×V)}(r:KV kvs vs):kvs.length=vs.length:=Paired.length r
def OD(kvs:List (κ×V))(k:κ):(qi kvs k).length<=kvs.length:=List.length_filter_le _ _
end
def qd{w:World}{u:Value}(r:RelV (kV k) u):(cD P w).is k u=true:=by
 cases k with
 |inl i=>obtain⟨t,e⟩:=(r);subst e;exact zL P w i t
 |inr x=>obtain⟨t,e⟩:=(r);subst e;exact zK P w x t
theorem wg{w:World}:∀{ks:List Key}{us:List Value},Vals (ks.map kV) us->ItemsAre (cD P w) ks us
 |[],_,r=>by rw[List.map_nil]at r;cases r;exact .nil
 |k::ks,_,r=>by
  cases r with
  |cons h t=>exact .cons (qd h) (wg t)
abbrev KT(H:Hp):List (List Key×V)->List (List Key×Addr×Value)->Prop:=Paired fun p q=>p.1=q.1/\H q.2.1=some (.tup (p.1.map kV))/\RelV p.2 q.2.2
def KT.val{kvs:List (List Key×V)}(r:KT H kvs xs)k:iz (eQ kvs k) ((atKey xs k).map (·.2)):=by
 induction r with
 |nil=>exact True.intro
 | @cons p q ps qs h t ih=>
  obtain⟨h1,_,h2⟩:=h
  by_cases e:p.1=k
  ·have b:atKey (q::qs) k=some q.2:=by simp[atKey,List.find?_cons,h1.symm.trans e]
   rw[iY e,b];exact h2
  ·have e':¬q.1=k:=fun z=>e (h1.trans z)
   have b:atKey (q::qs) k=atKey qs k:=by simp[atKey,List.find?_cons,e']
   rw[iZ e,b];exact ih
theorem KT.repl{kvs:List (List Key×V)}(r:KT H kvs xs)k{u:Value}(ry:RelV y u):
  KT H (kvs.map fun kv=>if kv.1=k then(kv.1,y)else kv) (xs.map (putAt k u)):=by
 induction r with
 |nil=>exact .nil
 | @cons p q ps qs h t ih=>
  rw[Qyq,Qyq]
  refine .cons ?_ ih
  obtain⟨h1,h2,h3⟩:=h
  unfold putAt
  by_cases e:p.1=k
  ·rw[if_pos e,if_pos (h1.symm.trans e)];exact⟨h1,h2,ry⟩
  ·rw[if_neg e,if_neg (fun z=>e (h1.trans z))];exact⟨h1,h2,h3⟩
def KT.put{kvs:List (List Key×V)}(r:KT H kvs xs)k{y:V}(hb:H b=some (.tup (k.map kV)))(ry:RelV y u):
  KT H (putK kvs k y) (storedH xs k b u):=by
 have e:(kvs.any fun kv=>decide (kv.1=k))=(atKey xs k).isSome:=by
  rw[q9,(r.val k).eX,Option.isSome_map]
 unfold putK storedH
 rw[e]
 by_cases q:(atKey xs k).isSome=true
 ·rw[if_pos q,if_pos q];exact r.repl k ry
 ·rw[if_neg q,if_neg q];exact Paired.snoc r ⟨rfl,hb,ry⟩
def KT.keeps{kvs:List (List Key×V)}(r:KT H kvs xs)(ht:∀b ys,H b=some (.tup ys)->H' b=some (.tup ys)):KT H' kvs xs:=
 Paired.Xu r fun _ _ z=>⟨z.1,ht _ _ z.2.1,z.2.2⟩
section
variable{P:Program}{w:World}{H:Hp}{h:Heap}{a:Addr}
def Fv(ok:nA P w H h)(e:Rd H a u):cG P w H h a u:=e.ok ok
def qj(ok:nA P w H h)(e:Rd H a (.dK kvs)):kvs.length<=sizeLine/\(a==sysModules)=false/\∃vs,KV kvs vs/\h.DictOf (cD P w) a vs:=
 show cG P w H h a _ from Fv ok e
def GR(ok:nA P w H h)(e:H a=some (.dK kvs)):kvs.length<=sizeLine/\(a==sysModules)=false/\∃vs,KV kvs vs/\h.DictOf (cD P w) a vs:=qj ok (.inl e)
def j8(ok:nA P w H h)(e:H a=some (.tup (ks.map kV))):(tupleKind (cD P w)).is h ks a:=by
 obtain⟨_,its,r,o,h1,h2,_,n,h3⟩:=(ok a _ e)
 exact⟨o,its.toArray,n,h1,h2,h3,by simpa using wg r⟩
theorem ue(ok:nA P w H h)(e:Rd H a (.dT kvs)):kvs.length<=sizeLine/\(a==sysModules)=false/\
  ∃xs,KT H kvs xs/\h.DictOfH (tupleKind (cD P w)) a xs:=by
 obtain⟨z,y,xs,r,o,es,ep,h1,h2,h3,h4,h5⟩:=(Fv ok e)
 refine⟨z,y,xs,r,o,es,ep,h1,h2,h3,h4,fun x hx=>?_,h5⟩
 have all:∀{l:List _}{m:List _},KT H l m->∀x∈m,(tupleKind (cD P w)).is h x.1 x.2.1:=by
  intro l m q
  induction q with
  |nil=>intro x hx;exact nomatch hx
  | @cons p q ps qs hq t ih=>
   intro x hx
   rcases QBz.mp hx with e|hx
   ·subst e
    exact j8 ok (by rw[<-hq.1];exact hq.2.1)
   ·exact ih x hx
 exact all r x hx
def acf(ok:nA P w H h)(e:H a=some (.dT kvs)):kvs.length<=sizeLine/\(a==sysModules)=false/\
  ∃xs,KT H kvs xs/\h.DictOfH (tupleKind (cD P w)) a xs:=ue ok (.inl e)
end
def lA(H:Hp)(a:Addr)(y:V)(r:Option V):Prop:=
 (∃kvs k,Rd H a (.dK kvs)/\y=kV k/\r=eQ kvs k)\/∃kvs k b,Rd H a (.dT kvs)/\y=.ref b/\H b=some (.tup (k.map kV))/\r=eQ kvs k
def Qj(H:Hp)(a:Addr)(y v:V)(H':Hp):Prop:=
 (∃kvs k,H a=some (.dK kvs)/\y=kV k/\kvs.length<sizeLine/\H'=upd H a (.dK (putK kvs k v)))\/
 ∃kvs k b,H a=some (.dT kvs)/\y=.ref b/\H b=some (.tup (k.map kV))/\kvs.length<sizeLine/\H'=upd H a (.dT (putK kvs k v))
theorem lA.k{a:Addr}{k:Key}(e:H a=some (.dK kvs)):lA H a (kV k) (eQ kvs k):=.inl ⟨kvs,k,.inl e,rfl,rfl⟩
def lA.t{a b:Addr}{k:List Key}(e:H a=some (.dT kvs))(eb:H b=some (.tup (k.map kV))):lA H a (.ref b) (eQ kvs k):=.inr ⟨kvs,k,b,.inl e,rfl,eb,rfl⟩
theorem Qj.k{a:Addr}{k:Key}(e:H a=some (.dK kvs))(hl:kvs.length<sizeLine):Qj H a (kV k) v (upd H a (.dK (putK kvs k v))):=.inl ⟨kvs,k,e,rfl,hl,rfl⟩
section
variable{X:Cx}{γ:QQz}{σ:St}{H:Hp}{s:Shared}{a:Addr}{y v:V}{u r:Value}{o:Option V}{A:Around}{E:QZq}
def Inv.big(I:Inv X γ σ H s):sysModules<s.heap.objs.size:=by
 exact Nat.lt_trans (by decide) ((I.mod.glob.keeps I.bk).lt)
def wB(hu:A.units+1<cLine)(I:Inv X γ σ H s)(g:lA H a y (some v))(ry:RelV y u)(h:∀w' s',Inv X γ σ H s'->RelV v w'->Q w' s'):
  wpAny (model X.prog X.w) A (getItem (.ref a) u) Q E s:=by
 rcases g with ⟨kvs,k,e,ey,l⟩|⟨kvs,k,b,e,ey,eb,l⟩
 ·subst ey
  obtain⟨z,hd,vs,rel,dd⟩:=qj I.hok e
  obtain⟨w',hw,rw'⟩:=iz.some_of (by rw[l];exact rel.val k)
  exact wpAny_getItem_of (qd ry) dd.mapOf hw (h w' _ (I.tok _) rw')
 ·subst ey
  cases (ry)
  obtain⟨z,hd,xs,rel,dd⟩:=ue I.hok e
  obtain⟨w',hw,rw'⟩:=iz.some_of (by rw[l];exact rel.val k)
  obtain⟨p,hp,hp2⟩:=QJz.mp hw
  refine wpAny_getItem_heap (tupleKind_room_in1 hu) (j8 I.hok eb) dd hp ?_
  rw[hp2]
  exact h w' _ (I.tok _) rw'
def af3(hu:A.units+1<cLine)(I:Inv X γ σ H s)(g:lA H a y o)(ry:RelV y u)(h:∀s',Inv X γ σ H s'->Q (.bool o.isSome) s'):
  wpAny (model X.prog X.w) A (compareOp .In u (.ref a)) Q E s:=by
 rcases g with ⟨kvs,k,e,ey,l⟩|⟨kvs,k,b,e,ey,eb,l⟩
 ·subst ey
  obtain⟨z,hd,vs,rel,dd⟩:=qj I.hok e
  refine wpAny_in_of (qd ry) hd dd.mapOf ?_
  rw[<- (rel.val k).eX,<-l]
  exact h _ (I.tok _)
 ·subst ey
  cases (ry)
  obtain⟨z,hd,xs,rel,dd⟩:=ue I.hok e
  refine wpAny_in_heap (tupleKind_room_in1 hu) (j8 I.hok eb) hd dd ?_
  have q:=(rel.val k).eX
  rw[Option.isSome_map]at q
  rw[<-q,<-l]
  exact h _ (I.tok _)
def Tq(hu:A.units+1<cLine)(I:Inv X γ σ H s)(g:lA H a y o)(ry:RelV y u)(h:∀s',Inv X γ σ H s'->Q (.bool (!o.isSome)) s'):
  wpAny (model X.prog X.w) A (compareOp .NotIn u (.ref a)) Q E s:=by
 rcases g with ⟨kvs,k,e,ey,l⟩|⟨kvs,k,b,e,ey,eb,l⟩
 ·subst ey
  obtain⟨z,hd,vs,rel,dd⟩:=qj I.hok e
  refine wpAny_notIn_of (qd ry) hd dd.mapOf ?_
  rw[<- (rel.val k).eX,<-l]
  exact h _ (I.tok _)
 ·subst ey
  cases (ry)
  obtain⟨z,hd,xs,rel,dd⟩:=ue I.hok e
  refine wpAny_notIn_heap (tupleKind_room_in1 hu) (j8 I.hok eb) hd dd ?_
  have q:=(rel.val k).eX
  rw[Option.isSome_map]at q
  rw[<-q,<-l]
  exact h _ (I.tok _)
def lQ{t':Nat}(I:Inv X γ σ H s)(mu:Mut (H a))(hs:Heap.SameBut a s.heap h')(he:∃q,h'.get? a=some q)(new:cG X.prog X.w (upd H a ob) h' a ob):
  Inv X γ σ (upd H a ob) {s with heap:=h',toks:=t'}:=
 I.write mu (.inl rfl) (fun b q hb z=>(hs.2 b hb).trans z) he new
def Dr{w:World}{h':Heap}{vs:List (Key×Value)}(z:kvs.length<=sizeLine)(hd:(a==sysModules)=false)(rel:KV kvs vs)(dd:h'.DictOf (cD P w) a vs):
  cG P w H' h' a (.dK kvs):=⟨z,hd,vs,rel,dd⟩
def JB{Q:Unit->Shared->Prop}(hu:A.units+1<cLine)(I:Inv X γ σ H s)(g:Qj H a y v H')(ry:RelV y u)(rv:RelV v r)(h:∀s',Inv X γ σ H' s'->Q () s'):
  wpAny (model X.prog X.w) A (setItem (.ref a) u r) Q E s:=by
 rcases g with ⟨kvs,k,e,ey,l,eH⟩|⟨kvs,k,b,e,ey,eb,l,eH⟩
 ·subst ey eH
  obtain⟨z,hd,vs,rel,dd⟩:=GR I.hok e
  have hz:vs.length<=sizeLine:=by rw[<-rel.length];exact z
  refine wpAny_setItem_pairs (qd ry) dd fun h' dd' hs=>h _ ?_
  exact lQ I (by rw[e];exact True.intro) hs (let ⟨q,_,_,hq,_⟩:=dd';⟨q,hq⟩) (Dr (by have:=j6 kvs k v;omega) hd (rel.put k rv) dd')
 ·subst ey eH
  cases (ry)
  obtain⟨z,hd,xs,rel,dd⟩:=acf I.hok e
  have hz:xs.length<=sizeLine:=by rw[<-Paired.length rel];exact z
  refine wpAny_setItem_heap (tupleKind_room_in1 hu) (j8 I.hok eb) dd fun h' dd' hs=>h _ ?_
  obtain⟨q,es,ep,hq,h2,h3,h4,_,h5⟩:=dd'
  refine lQ I (by rw[e];exact True.intro) hs ⟨q,hq⟩ ⟨(by have:=j6 kvs k v;omega),hd,_,(rel.put k eb rv).keeps fun c ys ec=>?_,q,es,ep,hq,h2,h3,h4,h5⟩
  rw[aq (abG ec e (fun z=>nomatch z))]
  exact ec
end
section
variable{X:Cx}{γ:QQz}{σ:St}{H:Hp}{s:Shared}{a:Addr}{kvs:List (Key×V)}{k:Key}{u:Value}{A:Around}{E:QZq}
theorem acg{v:V}{more:List Value}{Q:QZq}(I:Inv X γ σ H s)(e:H a=some (.dK kvs))(ry:RelV (kV k) u)(l:eQ kvs k=some v)(hm:more=[]\/∃x,more=[x])
  (h:∀w' s',Inv X γ σ (upd H a (.dK (qi kvs k))) s'->RelV v w'->Q w' s'):wpAny (model X.prog X.w) A (call (.builtin "dict.pop") (.ref a::u::more)) Q E s:=by
 obtain⟨z,hd,vs,rel,dd⟩:=GR I.hok e
 obtain⟨w',hw,rw'⟩:=iz.some_of (v:=v) (o:=valueAt vs k) (by rw[<-l];exact rel.val k)
 have hp:(keyPart u).isSome=true:=by
  cases k with
  |inl i=>obtain⟨t,q⟩:=(show∃t,u=Value.int i t from ry);subst q;rfl
  |inr x=>obtain⟨t,q⟩:=(show∃t,u=Value.str x t from ry);subst q;rfl
 have ha:argsOk "dict.pop" ⟨.ref a::u::more,[]⟩:=by
  rcases hm with q|⟨x,q⟩
  ·subst q;exact PySem.F.args_dict_pop_2 _ _
  ·subst q;exact PySem.F.args_dict_pop_3 _ _ _
 refine call_meetsIn PySem.F.slot_dict_pop dd.typeIs PySem.F.entry_dict_pop ha (meets_dict_pop_there (cD X.prog X.w) a (qd ry) more hm hp)
  ⟨vs,w',dd,by rw[<-rel.length];exact z,hw,fun h' dd' hs=>h w' _ ?_ rw'⟩
 have he:∃q,h'.get? a=some q:=let ⟨q,_,_,hq,_⟩:=dd';⟨q,hq⟩
 exact lQ I (by rw[e];exact True.intro) hs he (Dr (Nat.le_trans (OD kvs k) z) hd (rel.drop k) dd')
def ach(I:Inv X γ σ H s)(e:Rd H a (.dK kvs))(h:∀t s',Inv X γ σ H s'->Q (.int kvs.length t) s'):wpAny (model X.prog X.w) A (call (.builtin "len") [.ref a]) Q E s:=by
 obtain⟨z,hd,vs,rel,dd⟩:=qj I.hok e
 refine call_len_dict hd dd (by rw[<-rel.length];rw[sizeLine_eq]at z;omega) ?_
 rw[<-rel.length]
 exact h _ _ (I.tok _)
end
def acJ(i:Expr):Prop:=∀ov iv,subscripted i false ov iv=operate [ov,iv] (getItem ov iv)
theorem QK{prog:Program}{w:World}{A:Around}{E:QZq}{s:Shared}{env:Env}{value slice:Expr}{pos:Pos}{T id:String}{Q:QZq}
  (hl:typeLookup (.type T) "__getitem__"=pure (some (.builtin id)))(hs:acJ slice)
  (h:wpAny (model prog w) A (eval value env) (fun o θ=>wpAny (model prog w) A (eval slice env) (fun i Δ=>Δ.TypeIs o T/\wpAny (model prog w) A (getItem o i) Q E Δ) E θ) E s):
  wpAny (model prog w) A (eval (.Subscript value slice pos) env) Q E s:=by
 refine Subscript_ (QKz h (fun o θ Ξ=>QKz Ξ (fun i Δ Ψ=>?_) fun _ _ x=>x) fun _ _ x=>x)
 obtain⟨hT,Ψ⟩:=Ψ
 unfold subscriptTail
 refine QTz ?_
 rw[getitemInPython_of_ne hT.not_modules]
 refine QTz (wpAny_specialOf hT hl ?_)
 have fin:wpAny (model prog w) A (subscripted slice false o i) (fun r s₃=>wpAny (model prog w) A (letTemporaryGo value o r>>=fun _=>pure r) Q E s₃) E Δ:=by
  rw[hs o i]
  exact wpAny_operating (QKz Ψ (fun r s₃ h₃=>QTz (wpAny_letTemporaryGo (QKq h₃))) fun _ _ x=>x)
 first
  |exact QKq (QTz fin)
  |exact QTz (QKq (QTz fin))
  |exact QTz fin
def ql{X:Cx}{σ:St}{H:Hp}{a:Addr}{y:V}(I:Inv X γ σ H s)(g:lA H a y o):s.TypeIs (.ref a) "dict":=by
 rcases g with ⟨kvs,k,e,_,_⟩|⟨kvs,k,b,e,_,_,_⟩
 ·obtain⟨_,_,vs,_,dd⟩:=qj I.hok e
  exact dd.typeIs
 ·obtain⟨_,_,xs,_,dd⟩:=ue I.hok e
  exact dd.typeIs
def aaI(td ty:TE):TE:=fun σ H Q=>td σ H fun x H1=>ty σ H1 fun y H2=>∃a v,x=.ref a/\lA H2 a y (some v)/\Q v H2
section
variable{X:Cx}{o i e value:Expr}{pos pos' tpos:Pos}{td ty tv:TE}
def Fz(hu:X.A.units+1<cLine)(ho:PE X o td)(hi:PE X i ty)(hs:acJ i):PE X (.Subscript o i pos) (aaI td ty):=by
 intro γ s σ H Q I h
 refine QK PySem.F.slot_dict_getitem.lookup hs (bK (ho γ s σ H _ I h) fun u s1⟨x,H1,I1,rx,q1⟩=>bK (hi γ s1 σ H1 _ I1 q1) fun iv s2⟨y,H2,I2,ry,a,v,ex,g,q2⟩=>?_)
 subst ex
 obtain rfl:u=Value.ref a:=rx
 exact⟨ql I2 g,wB hu I2 g ry fun w' s3 I3 rw'=>⟨v,H2,I3,rw',q2⟩⟩
end
def uf{w:World}(h:Heap)(hb:sysModules<h.objs.size):cG P w H (h.push {cls:=.type "dict",data:=.dict #[]}) h.objs.size (.dK []):=
 ⟨QHq _,beq_eq_false_iff_ne.mpr (Ne.symm (Qvq hb)),[],.nil,Heap.DictOf.new h⟩
def Wd:TE:=fun _ H Q=>∀p,H p=none->Q (.ref p) (upd H p (.dK []))
section
variable{X:Cx}{pos:Pos}
def LK:PE X (.Dict [] [] pos) Wd:=fun γ s σ H Q I h=>
 wpAny_Dict_empty ⟨.ref s.heap.objs.size,_,I.laid (fun _ _ q=>QWq _ q) (QVz _) (uf s.heap I.big),rfl,h _ (I.hok.fresh (QVz _))⟩
end
def wV:List (TE×TE)->St->Hp->(List (V×V)->Hp->Prop)->Prop
 |[],_,H,Q=>Q [] H
 |(tk,tv)::r,σ,H,Q=>tk σ H fun x H1=>tv σ H1 fun y H2=>wV r σ H2 fun ps H3=>Q ((x,y)::ps) H3
abbrev VV:List (V×V)->List (Value×Value)->Prop:=Paired fun p q=>RelV p.1 q.1/\RelV p.2 q.2
def PPs(X:Cx)(pos:Pos)(keys:List (Option Expr))(values:List Expr)(nC:List (TE×TE)):Prop:=
 ∀(γ:QQz)(s:Shared)(σ:St)(H:Hp)(Q:List (V×V)->Hp->Prop),Inv X γ σ H s->wV nC σ H Q->
  wpAny (model X.prog X.w) X.A (evalPairs (pairTrees keys values X.env pos)) (fun vs s'=>∃ps H',Inv X γ σ H' s'/\VV ps vs/\Q ps H') X.xe s
def Rq{pos:Pos}:PPs X pos [] [] []:=fun γ s σ H Q I h=>pairTrees_nil_walk ⟨[],H,I,.nil,h⟩
def Lp{pos:Pos}{ks:List (Option Expr)}{tk tv:TE}(hk:PE X k tk)(hv:PE X v tv)(hr:PPs X pos ks vs nC):
  PPs X pos (some k::ks) (v::vs) ((tk,tv)::nC):=fun γ s σ H Q I h=>
 pairTrees_cons_walk (bK (hk γ s σ H _ I h) fun u s1⟨x,H1,I1,rx,q1⟩=>bK (hv γ s1 σ H1 _ I1 q1) fun w2 s2⟨y,H2,I2,ry,q2⟩=>
  bK (hr γ s2 σ H2 _ I2 q2) fun ws s3⟨ps,H3,I3,rel,q3⟩=>⟨(x,y)::ps,H3,I3,.cons ⟨rx,ry⟩ rel,q3⟩)
structure M1(X:Cx)(o:Expr)(m:Str)(apos:Pos)(e:Expr)(cpos:Pos):Prop where
 base:attributeBase o m X.env (eval o X.env)=eval o X.env
 few:((backTo cpos (starEach [e] X.env)).all (fun x=> !x.1)&&(backToKw cpos (keywordEach [] X.env)).all (fun x=>x.1.isSome)
  &&decide (([e]:List Expr).length+([]:List Keyword).length+(if ([]:List Keyword).isEmpty then 0 else 1)<30))=true
 line:(apos.endLine==cpos.line)=true
 trees:backTo cpos (starEach [e] X.env)=[(false,eval e X.env)]
structure M2(X:Cx)(o:Expr)(m:Str)(apos:Pos)(e f:Expr)(cpos:Pos):Prop where
 base:attributeBase o m X.env (eval o X.env)=eval o X.env
 few:((backTo cpos (starEach [e,f] X.env)).all (fun x=> !x.1)&&(backToKw cpos (keywordEach [] X.env)).all (fun x=>x.1.isSome)
  &&decide (([e,f]:List Expr).length+([]:List Keyword).length+(if ([]:List Keyword).isEmpty then 0 else 1)<30))=true
 line:(apos.endLine==cpos.line)=true
 trees:backTo cpos (starEach [e,f] X.env)=[(false,eval e X.env),(false,eval f X.env)]
def IsD(H:Hp)(a:Addr):Prop:=(∃kvs,Rd H a (.dK kvs))\/∃kvs,Rd H a (.dT kvs)
def Nk{X:Cx}{σ:St}{H:Hp}{a:Addr}(I:Inv X γ σ H s)(d:IsD H a):
  s.TypeIs (.ref a) "dict"/\(∀b,Value.ref a=.ref b->∃ob,s.heap.get? b=some ob/\ob.dict=none)/\(a==sysModules)=false:=by
 rcases d with ⟨kvs,e⟩|⟨kvs,e⟩
 ·obtain⟨_,hd,vs,_,dd⟩:=qj I.hok e
  refine⟨dd.typeIs,fun b q=>?_,hd⟩
  cases q
  obtain⟨ob,_,_,h1,h2,_⟩:=dd
  exact⟨ob,h1,h2.2.1⟩
 ·obtain⟨_,hd,xs,_,dd⟩:=ue I.hok e
  refine⟨dd.typeIs,fun b q=>?_,hd⟩
  cases q
  obtain⟨ob,_,_,h1,h2,_⟩:=dd
  exact⟨ob,h1,h2.2.1⟩
section
variable{X:Cx}{γ:QQz}{σ:St}{H:Hp}{s:Shared}{a:Addr}{y d:V}{u r:Value}{o:Option V}{A:Around}{E:QZq}
def YS(hu:A.units+1<cLine)(I:Inv X γ σ H s)(g:lA H a y o)(ry:RelV y u)(rd:RelV d r)(h:∀w' s',Inv X γ σ H s'->RelV (o.getD d) w'->Q w' s'):
  wpAny (model X.prog X.w) A (call (.builtin "dict.get") [.ref a,u,r]) Q E s:=by
 rcases g with ⟨kvs,k,e,ey,l⟩|⟨kvs,k,b,e,ey,eb,l⟩
 ·subst ey
  obtain⟨z,hd,vs,rel,dd⟩:=qj I.hok e
  refine call_meetsIn PySem.F.slot_dict_get dd.typeIs PySem.F.entry_dict_get (PySem.F.args_dict_get_3 _ _ _) (meets_dict_get_default _ a (qd ry) hd r) ⟨_,dd.mapOf,h _ _ (I.tok _) ?_⟩
  rw[l]
  exact(rel.val k).getD rd
 ·subst ey
  cases (ry)
  obtain⟨z,hd,xs,rel,dd⟩:=ue I.hok e
  refine call_meetsIn PySem.F.slot_dict_get dd.typeIs PySem.F.entry_dict_get (PySem.F.args_dict_get_3 _ _ _) (meetsH_dict_get_default _ a b hd r) ⟨tupleKind_room_in1 hu,k,xs,j8 I.hok eb,dd,h _ _ (I.tok _) ?_⟩
  rw[l]
  exact(rel.val k).getD rd
end
def We(td ty tx:TE):TE:=fun σ H Q=>td σ H fun x H1=>∃a,x=.ref a/\IsD H1 a/\ty σ H1 fun y H2=>tx σ H2 fun z H3=>∃o,lA H3 a y o/\Q (o.getD z) H3
def Bq(td ty:TE):TE:=fun σ H Q=>td σ H fun x H1=>∃a,x=.ref a/\IsD H1 a/\ty σ H1 fun y H2=>∃kvs k v,H2 a=some (.dK kvs)/\y=kV k/\eQ kvs k=some v/\Q v (upd H2 a (.dK (qi kvs k)))
section
variable{X:Cx}{o e f:Expr}{apos cpos:Pos}{td ty tx:TE}
def LQ(hu:X.A.units+1<cLine)(ho:PE X o td)(he:PE X e ty)(hf:PE X f tx)(m:M2 X o "get" apos e f cpos):PE X (.Call (.Attribute o "get" apos) [e,f] [] cpos) (We td ty tx):=by
 intro γ s σ H Q I h
 refine wpAny_Call_method m.base m.few m.line PySem.F.plainAttrs_dict PySem.F.slot_dict_get PySem.F.type_dict_get (bK (ho γ s σ H _ I h) fun u s1⟨x,H1,I1,rx,a,ex,d,q1⟩=>?_)
 subst ex
 obtain rfl:u=Value.ref a:=rx
 obtain⟨t1,t2,_⟩:=Nk I1 d
 refine⟨t1,t2,?_⟩
 rw[m.trees]
 refine Calls.callWith_builtin rfl (Calls.evalArgs_plain (Calls.spliced_cons (bK (he γ s1 σ H1 _ I1 q1) fun iv s2⟨y,H2,I2,ry,q2⟩=>
  Calls.spliced_cons (bK (hf γ s2 σ H2 _ I2 q2) fun fv s3⟨z,H3,I3,rz,ov,g,q3⟩=>Calls.spliced_nil ?_))))
 exact YS hu I3 g ry rz fun w' s4 I4 rw'=>⟨_,H3,I4,rw',q3⟩
def LC(ho:PE X o td)(he:PE X e ty)(m:M1 X o "pop" apos e cpos):PE X (.Call (.Attribute o "pop" apos) [e] [] cpos) (Bq td ty):=by
 intro γ s σ H Q I h
 refine wpAny_Call_method m.base m.few m.line PySem.F.plainAttrs_dict PySem.F.slot_dict_pop PySem.F.type_dict_pop (bK (ho γ s σ H _ I h) fun u s1⟨x,H1,I1,rx,a,ex,d,q1⟩=>?_)
 subst ex
 obtain rfl:u=Value.ref a:=rx
 obtain⟨t1,t2,_⟩:=Nk I1 d
 refine⟨t1,t2,?_⟩
 rw[m.trees]
 refine Calls.callWith_builtin rfl (Calls.evalArgs_plain (Calls.spliced_cons (bK (he γ s1 σ H1 _ I1 q1) fun iv s2⟨y,H2,I2,ry,kvs,k,v,ea,ey,l,q2⟩=>Calls.spliced_nil ?_)))
 subst ey
 exact acg I2 ea ry l (.inl rfl) fun w' s3 I3 rw'=>⟨v,_,I3,rw',q2⟩
end
section
variable{X:Cx}{γ:QQz}{σ:St}{H:Hp}{s:Shared}{a:Addr}{kvs:List (Key×V)}{A:Around}{E:QZq}
end
section
variable{X:Cx}{γ:QQz}{σ:St}{H:Hp}{s:Shared}{a:Addr}{y:V}{u:Value}{A:Around}{E:QZq}
end
end L2
namespace Att
open PySem PySem.W PySem.Calls PyProof.Rows
def qD{h:Heap}:∀(ns:List Int)(vs:List Value),WellAll P h vs (ns.map WData.int)->IntsAre vs ns:=by
 intro ns
 induction ns with
 |nil=>
  intro vs w
  cases w
  exact .nil
 |cons n ns ih=>
  intro vs w
  cases w with
  |cons a b=>
   cases a
   exact .cons _ _ (ih _ b)
theorem HJ{l:OpenLaw}(hn:l.most=some n){h:Heap}
  (hpre:l.row.toRowW.claim.pre args=true)(hwl:WellAll P h vals args):
  ∃a vs ns,vals=[Value.ref a]/\args=[WData.list (ns.map WData.int)]/\h.get? a=some {cls:=.type "list",data:=.seq vs.toArray}/\IntsAre vs ns/\ns.length<=n:=by
 obtain⟨d,r,rfl,h1,h2⟩:=hasAllW_cons ((pre_splitW hpre).1)
 obtain rfl:=hasAllW_nil h2
 obtain⟨xs,rfl,h3⟩:=hasW_list h1
 obtain⟨ns,rfl⟩:=items_int h3
 have hlen:ns.length<=n:=by
  have h4:(WTm.not (.lt (.lit (.int n)) (.len (.arg 0)))).holds [] {args:=[.list (ns.map .int)]}=true:=by
   have h4:=(holds_andW ((pre_splitW hpre).2)).1
   rw[hn]at h4
   exact h4
  have h5:=condW_of h4 (w_not (w_lt w_lit (w_len_list (w_arg rfl))))
  refine Nat.le_of_not_lt fun q=>?_
  first
   |(rw[decide_eq_true q']at h5;exact absurd h5 (by decide))
   |(simp at h5;omega)
 cases hwl with
 |cons w1 w2=>
  cases w2
  cases w1 with
  |list ho hall=>exact⟨_,_,ns,rfl,rfl,ho,qD ns _ hall,hlen⟩
def Ik(l:OpenLaw)args:l.row.toRowW.claim.post args (.bool true) args=true:=
 postW_of
  (show WShape.has [] _ .bool=true by first|rfl|decide|simp[WShape.has,WShape.arms,WShape.armsAll])
  (w_eq_bool (w_res rfl) w_lit) rfl
def Ax{l:OpenLaw}{n:Nat}{loose:List Str}{YP:World->Heap->Prop}
  (hn:l.most=some n)(hdf:d.params.defaults=[])
  (call:∀(w:World)(s₀ θ:Shared)(mg mb:QZz)(fa:Addr)(o:Obj)(pm cd doc:Value)(a:Addr)(vs:List Value)(ns:List Int),
   Ground q loose [] XP w s₀ mg mb θ.heap->YP w θ.heap->
   θ.heap.get? fa=some o->o.data=.func (docDef d.name d.params d.body d.scope pm cd doc)->θ.heap.CodeRec cd d.name->mg d.name=some (.ref fa)->
   θ.heap.get? a=some {cls:=.type "list",data:=.seq vs.toArray}->IntsAre vs ns->ns.length<=n->θ.gens= #[]->
   codeAny (model l.prog w) callerA (.call (.ref fa) ⟨[.ref a],[]⟩) (fun r s'=>r=.ok (.ret (.bool true))/\OldK θ.heap s'.heap/\s'.os=θ.os/\AllBare s'.gens) θ):
  WalkO q loose XP YP l.row.toRowW d [] (fun f vs=>PySem.call f vs):=by
 intro w s₀ θ mg mb G Y fa o pm cd doc dV kV ho hd hcd hD hmg hg args vals as hpre hlay hrd hwl hlo
 obtain rfl:dV=.none:=Dflts.none hD hdf
 obtain rfl:kV=.none:=Dflts.noKw hD
 obtain⟨a,vs,ns,rfl,rfl,hobj,hints,hlen⟩:=HJ hn hpre hwl
 refine enter_call (codeAny_mono (call w s₀ θ mg mb fa o pm cd doc a vs ns G Y ho (fd_plain hd) hcd hmg hobj hints hlen hg) fun r s' hq=>?_)
 obtain⟨rfl,h2,h3,h4⟩:=hq
 exact⟨.inl ⟨.bool true,.bool true,[],rfl,fun _=>rfl,.bool true,Ik l _,fun _=>⟨List.Pairwise.nil,fun _ hm=>(nomatch hm)⟩⟩,h2,h3,h4⟩
section
variable{prog:Program}{w:World}{A:Around}{E:QZq}{s:Shared}{K:Frag}
end
end Att
namespace L2
open PySem PySem.Spec PyProof.Rows
theorem uZ:∀{vs:List Value}{ns:List Int},IntsAre vs ns->Vals (ns.map V.int) vs
 |_,_,.nil=>.nil
 |_,_,.cons n t h=>.cons ⟨t,rfl⟩ (uZ h)
def Only(H:Hp):Prop:=∀b,H b=none\/∃o xs,H b=some (.frz o (.lst xs))
theorem MP{w:World}{K:QQq}{CX:JR}{fa a:Addr}{x:Str}{θ:Shared}
  (KX:K.In θ.heap)(hns:θ.heap.Ns mainGlobals mg)(hb:θ.heap.Ns builtinsNs mb)(hbb:∀x:Str,x≠"__name__"->mb x=bootBuiltins x)(hlim:θ.heap.NoLimit)(hg:θ.gens= #[])
  (ha:θ.heap.get? a=some {cls:=.type "list",data:=.seq vs.toArray})(hi:IntsAre vs ns)(hl:ns.length<=sizeLine)(hr:dC k callerA)
  (F:∀base:Heap,K.In base->base.Ns mainGlobals mg->bV P w K mg base CX k fa fd [x] sp)(hbind:∀(s:Shared)(u:Value),BindsTo s fd ⟨[u],[]⟩ [(x,u)])
  (hsp:∀H:Hp,Only H->lu K H a (ns.map V.int)->sp [.ref a] H (fun v _=>v=.bl true) fun _ _ _=>False)
  (hCX:∀H e s',CX [] H θ (fun _ _ _=>False) e s'->False):
  codeAny (model P w) callerA (.call (.ref fa) ⟨[.ref a],[]⟩) (fun r s'=>r=.ok (.ret (.bool true))/\OldK θ.heap s'.heap/\s'.os=θ.os/\AllBare s'.gens) θ:=by
 have rv:=uZ hi
 have core:∀H:Hp,Only H->lu K H a (ns.map V.int)->nA P w H θ.heap->(∀b,H b≠none->b=a)->(H a≠none->K.lookup a=none)->
   codeAny (model P w) callerA (.call (.ref fa) ⟨[.ref a],[]⟩) (fun r s'=>r=.ok (.ret (.bool true))/\OldK θ.heap s'.heap/\s'.os=θ.os/\AllBare s'.gens) θ:=by
  intro H hO hS hok hA hK
  have oG:∀{b:Addr}{o:Obj},θ.heap.get? b=some o->H b=none->(Jq θ.heap H).get? b=some o:=fun e n=>Nt e n
  have noA:∀{b:Addr}{o:Obj}{es:Array DictEntry}{ep:Nat},θ.heap.get? b=some o->o.data=.dict es ep->H b=none:=fun{b o es ep}e d=>by
   cases q:H b with
   |none=>rfl
   |some u=>
    have e':=hA b (by rw[q];simp)
    subst e'
    rw[ha]at e;cases e
    cases d
  have nsK:∀{b:Addr}{m:QZz},θ.heap.Ns b m->(Jq θ.heap H).Ns b m:=fun{b m}⟨o,es,ep,e,d,r⟩=>⟨o,es,ep,oG e (noA e d),d,r⟩
  have hKb:=fun b o e=>oG (KX b o e) (by
   cases q:H b with
   |none=>rfl
   |some u=>
    have e':=hA b (by rw[q];simp)
    subst e'
    rw[hK (by rw[q];simp)]at e;cases e)
  have hM:Mod K mg _:=⟨hKb,nsK hns,⟨mb,nsK hb,hbb⟩,let ⟨mc,h1,h2⟩:=hlim;⟨mc,nsK h1,h2⟩⟩
  refine codeAny_mono ((F _ hKb (nsK hns)).run callerA [] θ H ⟨[.ref a],[]⟩ [.ref a] [.ref a] _ _ hr ⟨rfl,hM,fun b o e=>RZ e,Nat.le_of_eq (Jp _ _),trivial,fun b hb=>absurd (show b∈([])from hb) (by simp),hok,.of_eq hg⟩ (hbind θ _) (.cons rfl .nil) (hsp H hO hS)) fun r s' h=>?_
  cases r with
  |error e=>exact(hCX H e s' h).elim
  |ok fl=>
   cases fl with
   |next=>exact False.elim h
   |brk=>exact False.elim h
   |cont=>exact False.elim h
   |ret u=>
    obtain⟨v,H',os,bare,un,hok',r',q⟩:=h
    subst q
    obtain rfl:u=Value.bool true:=r'
    refine⟨rfl,OldK.of_keep fun b o e=>?_,os,bare⟩
    cases q:H b with
    |none=>exact un.keep b o e q (by intro z;exact absurd (show b∈([])from z) (by simp)) (by simp)
    |some u=>
     rcases hO b with z|⟨ob,xs,z⟩
     ·rw[q]at z;cases z
     ·obtain⟨e1,_⟩:=hok b _ z
      obtain⟨e2,_⟩:=hok' b _ (un.frzs b ob _ z)
      rw[e]at e1;cases e1
      exact e2
 cases hk:K.lookup a with
 |some o=>
  have e:=KX a o hk
  rw[ha]at e
  cases e
  refine core _ (fun _=>.inl rfl) (.inr ⟨_,vs.toArray,_,hk,rfl,rfl,rfl,by rw[Qjz,hi.length];exact hl,by simpa using rv⟩) (fun b u z=>by have z':=z;cases z') (fun b z=>absurd rfl z) fun z=>absurd rfl z
 |none=>
  refine core (fun b=>if b=a then some _ else none) (fun b=>?_) (.inl (.inr ⟨{cls:=.type "list",data:=.seq vs.toArray},if_pos rfl⟩)) (fun b u z=>?_) (fun b z=>?_) fun _=>hk
  ·by_cases hb:b=a
   ·exact .inr ⟨_,_,if_pos hb⟩
   ·exact .inl (if_neg hb)
  ·by_cases hb:b=a
   ·cases ((if_pos hb).symm.trans z)
    subst hb
    exact⟨ha,by rw[Qvz];exact hl,vs,_,rv,ha⟩
   ·cases ((if_neg hb).symm.trans z)
  ·by_cases hb:b=a
   ·exact hb
   ·exact absurd (if_neg hb) z
def Qt{l:PySem.W.OpenLaw}{n k:Nat}{loose:List Str}{YP:World->Heap->Prop}{K:Params->QQq}{CX:World->JR}{sp:World->Sp}
  (hn:l.most=some n)(hn2:n<=sizeLine)(hdf:d.params.defaults=[])(hr:dC k callerA)
  (hY:∀(w:World)(h:Heap),YP w h->(K w.params).In h)
  (F:∀(w:World)(mg:QZz)(fa:Addr)(h:Heap),(K w.params).In h->h.Ns mainGlobals mg->mg d.name=some (.ref fa)->
   ∃fd:FuncData,(∀(s:Shared)(u:Value),BindsTo s fd ⟨[u],[]⟩ [(x,u)])/\
    ∀base:Heap,(K w.params).In base->base.Ns mainGlobals mg->bV l.prog w (K w.params) mg base (CX w) k fa fd [x] (sp w))
  (hsp:∀(w:World)(H:Hp)(a:Addr)(ns:List Int),ns.length<=n->Only H->lu (K w.params) H a (ns.map V.int)->sp w [.ref a] H (fun v _=>v=.bl true) fun _ _ _=>False)
  (hCX:∀(w:World)(H:Hp)(s:Shared)(e:Value)(s':Shared),CX w [] H s (fun _ _ _=>False) e s'->False):
  PySem.W.WalkO q loose XP YP l.row.toRowW d [] (fun f vs=>PySem.call f vs):=by
 refine Att.Ax hn hdf fun w s₀ θ mg mb fa o pm cd doc a vs ns G Y ho hd hcd hmg hobj hints hlen hg=>?_
 have KX:=hY w _ Y
 obtain⟨fd,hb,hF⟩:=F w mg fa _ KX G.T.g hmg
 exact MP KX G.T.g G.T.b G.T.builtins G.T.nolimit hg hobj hints (Nat.le_trans hlen hn2) hr hF hb (fun H hO hS=>hsp w H a ns hlen hO hS) fun H e s'=>hCX w H θ e s'
abbrev fZ:JR:=fun _ _ _ _ _ _=>False
abbrev E0:XK:=fun _ _ _=>False
def iB:lw fZ X E0:=fun _ _ _ _ _ _ _ h=>h.elim
structure Hk(K:QQq)(x qual:Str)(st:Stmt)(f:Addr)(fd:FuncData):Prop where
 ex:∃(oc:Value)(od:Option Addr)(kV doc pm:Value)(an:Option Addr)(cdv ct:Value)(osl:Array (Option Value)),
  fd=PySem.W.fnOf x qual (dg st) (bY st) (ao st) .none kV doc pm an cdv ct/\K.lookup f=some ⟨oc,od,.func fd,osl⟩/\PySem.W.codeIn K cdv qual=true
 kp:PySem.W.keepIn K (.ref f)=true
section
variable{P:Program}{w:World}{K:QQq}{mg:QZz}{base:Heap}
def Hk.ok{st:Stmt}{fd:FuncData}{k:Nat}(F:Hk K x qual st f fd)(S:dX N ps (ao st))(len:∀vs H Q E,sp vs H Q E->vs.length=ps.length)
  (hbody:∀(cdv:Value)(A:Around)(outer:List Env)(s:Shared)(H:Hp)(vs:List V)(Q:VK)(E:XK),dC k (A.deeper (envOfC qual (ao st) s.heap.objs.size f cdv))->sp vs H Q E->
   ∃t,uX (gn fZ P w K mg base N qual (ao st) f cdv A outer s H E).qL (bY st) t/\t {nx:=fun _ H'=>Q .non H',rt:=Q} (start N vs) H):bV P w K mg base fZ (k+1) f fd ps sp:=by
 obtain⟨oc,od,kV,doc,pm,an,cdv,ct,osl,rfl,lk,hcd⟩:=F.ex
 refine aca lk hcd S len fun A outer s H vs Q E hr hsp=>?_
 obtain⟨t,h,q⟩:=hbody cdv A outer s H vs Q E hr hsp
 exact⟨t,h.qL,q⟩
def Hk.binds{st:Stmt}{f:Addr}{ps:List Str}(F:Hk K x qual st f fd)
  (h:∀(kV doc pm:Value)(an:Option Addr)(cdv ct:Value)(us:List Value),us.length=ps.length->bindArgs (PySem.W.fnOf x qual (dg st) (bY st) (ao st) .none kV doc pm an cdv ct) ⟨us,[]⟩=pure (ps.zip us)):Binds K fd ps []:=by
 obtain⟨oc,od,kV,doc,pm,an,cdv,ct,osl,rfl,lk,hcd⟩:=F.ex
 exact .all (h kV doc pm an cdv ct)
def Og{st:Stmt}{f:Addr}{od an:Option Addr}{kV doc pm cdv ct:Value}(l:K.lookup f=some ⟨oc,od,.func (PySem.W.fnOf x qual (dg st) (bY st) (ao st) .none kV doc pm an cdv ct),osl⟩)
  (c:PySem.W.codeIn K cdv qual=true)(k:PySem.W.keepIn K (.ref f)=true):Hk K x qual st f (PySem.W.fnOf x qual (dg st) (bY st) (ao st) .none kV doc pm an cdv ct):=⟨⟨oc,od,kV,doc,pm,an,cdv,ct,osl,rfl,l,c⟩,k⟩
end
def HH(h:n<=1000):n<sizeLine:=Nat.lt_of_le_of_lt h (by decide)
section
variable{X:Cx}
end
end L2
end
section
namespace Mini
open PySem L2 PySem.SeqAt
def qC:Bool->Value->Bool
 |b,.bool c=>c==b
 |_,_=>false
def lN{v:Value}(h:qC b v=true):v=.bool b:=by
 cases v<;>simp_all[qC]
section
def Jr{Q:Int->Shared->Prop}(h:Q (bh b) {s with toks:=s.toks+1}):wpAny (model prog w) A (pyHash (.bool b)) Q E s:=by
 refine PySem.W.pyHash_slot rfl F.slot_bool_hash entry_int_hash (args_int_hash _) (beq_builtin_none _) (.inl rfl) ?_
 cases b
 ·exact(show wpAny _ _ (mkInt 0>>=fun x=>ret x) _ _ s from QTz (wpAny_mkInt (QKq ⟨_,_,rfl,h⟩)))
 ·exact(show wpAny _ _ (mkInt 1>>=fun x=>ret x) _ _ s from QTz (wpAny_mkInt (QKq ⟨_,_,rfl,h⟩)))
def Oo{u v:Value}(h:qC a u=true)(g:qC b v=true)(q:Q (decide (a=b)) s):wpAny (model prog w) A (eqBool u v) Q E s:=by
 rw[lN h,lN g]
 refine EqAt.bool_bool a b _ _ _ _ ?_
 have e:(a==b)=decide (a=b):=by cases a<;>cases b<;>rfl
 exact q
def Nq v a b(h:qC a v=true)(g:qC b v=true):a=b:=by
 have:=lN h
 rw[lN g]at this
 cases this
 rfl
def Np k x t v(h:qC k (.str x t)=true):qC k v=v.isStr x:=by cases h
def Nm k v(h:qC k v=true):carriedByValue v=true:=by rw[lN h];rfl
def il(prog:Program)(w:World):KeyKind prog w Bool:=⟨qC,bh,Nq,Nm,fun h q=>by rw[lN h];exact Jr q,fun h g q=>Oo h g q,Np⟩
def pL(prog:Program)(w:World)(h:Heap)(k:SK)(a:Addr):Prop:=∃b t,h.IsTuple a #[.ref b,.int k.2 t]/\IsTupleKey (il prog w) h k.1 b
def Bx(prog:Program)(w:World)(k:SK):Int:=reduceHash (Builtin.Tuple.tupleHashOf [tupleKeyHash (il prog w) k.1,hashInt k.2])
def SM{a:Addr}(hu:A.units+1<cLine)(x:pL prog w s.heap k a)(h:Q (Bx prog w k) {s with toks:=s.toks+(k.1.length+3)}):wpAny (model prog w) A (pyHash (.ref a)) Q E s:=by
 obtain⟨b,t,⟨o,ho,hc,n,hd⟩,kb⟩:=x
 refine PySem.W.pyHash_slot ⟨o,ho,hc⟩ F.slot_tuple_hash F.entry_tuple_hash (F.args_tuple_hash_1 _) (beq_builtin_none _) (.inr (by omega)) ?_
 show wpAny _ A.in1 (Builtin.Tuple.tupleItemsOf _>>=_) _ _ s
 refine QTz (wpAny_tupleItemsOf ho hd (QTz ?_))
 rw[<-Array.forIn_toList,List.forIn_cons]
 refine QTz (QTz (wpAny_pyHash_tuple (hu) kb ?_))
 refine QKq ?_
 show wpAny _ A.in1 (forIn [Value.int k.2 t] _ _) _ E _
 rw[List.forIn_cons]
 refine QTz (QTz (wpAny_pyHash_int (QKq ?_)))
 show wpAny _ A.in1 (forIn ([]) _ _) _ E _
 refine QKq (QTz (wpAny_mkInt (QKq ⟨_,_,rfl,?_⟩)))
 unfold Bx at h
 simpa[Nat.add_assoc]using h
def zY{W W':World}{vs:List Value}(x:ItemsAre (il P W) ks vs):ItemsAre (il P' W') ks vs:=by
 induction x with
 |nil=>exact .nil
 |cons a _ ih=>exact .cons a ih
theorem pL.inj{h:Heap}{a:Addr}{x y:SK}(g:pL prog w h x a)(f:pL prog w h y a):x=y:=by
 obtain⟨b,t,⟨o,ho,hc,n,hd⟩,kb⟩:=g
 obtain⟨b',t',⟨o',ho',hc',n',hd'⟩,kb'⟩:=f
 rw[ho]at ho'
 cases ho'
 rw[hd]at hd'
 simp only[Data.seq.injEq,Array.mk.injEq,List.cons.injEq,Value.ref.injEq,Value.int.injEq,and_true]at hd'
 obtain⟨⟨rfl,e,_⟩,_⟩:=hd'
 exact Prod.ext (kb.inj kb') e
def IsTuple.keep{a d:Addr}{o:Obj}{ep:Nat}(x:h.IsTuple a its)(ho:h.get? d=some o)(hd:o.data=.dict es ep)(hs:Heap.SameBut d h h'):h'.IsTuple a its:=by
 obtain⟨o',ho',hc,n,hd'⟩:=x
 have ne:a≠d:=fun z=>by
  subst z
  rw[ho]at ho'
  cases ho'
  rw[hd]at hd'
  cases hd'
 exact⟨o',(hs.2 a ne).trans ho',hc,n,hd'⟩
theorem pL.keep{k:SK}{o:Obj}{ep:Nat}(x:pL prog w h k a)(ho:h.get? d=some o)(hd:o.data=.dict es ep)(hs:Heap.SameBut d h h'):pL prog w h' k a:=by
 obtain⟨b,t,g,kb⟩:=x
 exact⟨b,t,IsTuple.keep g ho hd hs,kb.keeps ho hd hs⟩
def acd{a b:Addr}(hu:A.units+1<cLine)(g:pL prog w s.heap x a)(f:pL prog w s.heap y b)(q:Q (decide (x=y)) s):wpAny (model prog w) A (eqBool (.ref a) (.ref b)) Q E s:=by
 by_cases c:a=b
 ·subst c
  have:=g.inj f
  subst this
  exact EqAt.same _ _ _ _ _ (by simpa using q)
 ·obtain⟨a1,t,ga,ka⟩:=g
  obtain⟨b1,u,gb,kb⟩:=f
  have e0:EqAt A.in1 s _ _ _:=fun P W E' Q' q'=>by
   have mv:∀{ks:List Bool}{c:Addr},IsTupleKey (il prog w) s.heap ks c->IsTupleKey (il P W) s.heap ks c:=fun z=>let ⟨o,its,n,h1,h2,h3,h4⟩:=z;⟨o,its,n,h1,h2,h3,zY h4⟩
   exact wpAny_eqBool_tuple (hu) (mv ka) (mv kb) q'
  have rc:=RcAt.tuples (A:=A) (e:=fun j=>if j=0 then decide _ else x.2==y.2) ga gb (by omega) fun j h1 h2=>by
   match j,h1,h2 with
   |0,_,_=>exact e0
   |1,_,_=>exact EqAt.int_int _ _ _ _
  refine EqAt.of_refs c rc _ _ _ _ ?_
  have:((List.range (min 2 2)).all (fun j=>if j=0 then decide (x.1=y.1)else x.2==y.2)&&2==2)=decide (x=y):=by
   obtain⟨x1,x2⟩:=x
   obtain⟨y1,y2⟩:=y
   by_cases p:x1=y1<;>by_cases r:x2=y2<;>simp[List.range,List.range.loop,p,r]
  show Q ((List.range (min 2 2)).all _&&2==2) s
  rw[this]
  exact q
def vI{a:Addr}{Q:Bool->Shared->Prop}(x:s.heap.IsTuple a its)(hq:∀v∈its.toList,∀R:Bool->Shared->Prop,R true s->wpAny (model prog w) A (eqIsQuiet d v) R E s)(q:Q true s):
  wpAny (model prog w) A (eqIsQuiet (d+1) (.ref a)) Q E s:=by
 obtain⟨o,ho,hc,n,hd⟩:=x
 have hT:s.TypeIs (.ref a) "tuple":=⟨o,ho,hc⟩
 unfold eqIsQuiet
 refine QTz (wpAny_specialOf hT F.slot_tuple_eq.lookup (QTz (wpAny_isInstance hT isSubtype_tuple_tuple ?_)))
 refine QTz (wpAny_seqItems ho hd (QTz ?_))
 rw[<-Array.forIn_toList]
 refine wpAny_forIn_list _ (fun rest r s'=>s'=s/\r=(none,())/\∀v∈rest,v∈its.toList) _ (fun v rest r s'=>?_) (fun r s'=>?_) _ _ ⟨rfl,rfl,fun v hv=>hv⟩
 ·rintro ⟨rfl,rfl,hm⟩
  exact QTz (hq v (hm v QYz) _ (QKq ⟨rfl,rfl,fun u hu=>hm u (QYq _ hu)⟩))
 ·rintro ⟨rfl,rfl,_⟩
  exact QKq q
def vH d(hv:carriedByValue v=true)(r:R true s):wpAny (model prog w) A (eqIsQuiet d v) R E s:=by
 rw[eqIsQuiet_byValue d hv]
 exact QKq r
def Lf{a:Addr}(x:pL prog w s.heap k a)(q:Q true s):wpAny (model prog w) A (eqIsQuiet 8 (.ref a)) Q E s:=by
 obtain⟨b,t,g,o,its,n,h1,h2,h3,h4⟩:=x
 refine vI g (fun v hv R r=>?_) q
 simp only[QBz,QAq,or_false]at hv
 rcases hv with rfl|rfl
 ·exact vI ⟨o,h1,h2,n,h3⟩ (fun v hv R r=>vH _ (h4.byValue v hv) r) r
 ·exact vH _ rfl r
noncomputable def Bw(prog:Program)(w:World):HeapKind prog w SK where
 is:=pL prog w
 hash:=Bx prog w
 draws:=fun k=>k.1.length+3
 room:=fun A=>A.units+1<cLine
 inj:=fun g f=>g.inj f
 keeps:=fun x ho hd hs=>x.keep ho hd hs
 pyHash:=fun hu x q=>SM hu x q
 eqBool:=fun hu g f q=>acd hu g f q
 quiet:=fun x q=>Lf x q
end
end Mini
end
section
namespace Mini
open PySem L2
abbrev sD(xs:List SV):HO:=.dS xs
def cH(K:QQq)(H:Hp)(k:SK)(a:Addr):Prop:=∃b,jl K H a [.ref b,.int k.2]/\jl K H b (k.1.map .bl)
def zQ(k:SK):List SV->Option V
 |[]=>none
 |x::xs=>if x.1=k then some x.2.2 else zQ k xs
def uN(k:SK)(a:Addr)(v:V)(xs:List SV):List SV:=if (zQ k xs).isSome then xs.map (fun x=>if x.1=k then(x.1,x.2.1,v)else x)else xs++[(k,a,v)]
theorem qM:∀{xs:List SV}{ys:List (SK×Addr×Value)},Paired Qq xs ys->ys.map (·.1)=xs.map (·.1)
 |_,_,.nil=>rfl
 |_,_,.cons h t=>by simp[qM t,h.1]
theorem zP:∀{xs:List SV}{ys:List (SK×Addr×Value)},Paired Qq xs ys->iz (zQ k xs) ((atKey ys k).map (·.2))
 |_,_,.nil=>trivial
 |x::xs,y::ys,.cons h t=>by
  simp only[zQ,atKey,List.find?_cons]
  rw[h.1]
  by_cases c:y.1=k
  ·simp only[c,if_true,decide_true,Option.map_some]
   exact h.2.2
  ·simp only[c,if_false,decide_false]
   exact zP (k:=k) t
section
theorem zZ{W:World}:∀{bs:List Bool}{us:List Value},Vals (bs.map V.bl) us->ItemsAre (il P W) bs us
 |[],_,r=>by cases r;exact .nil
 |b::bs,_,r=>by
  cases r with
  |cons h t=>
   cases h
   exact .cons (by show qC b (.bool b)=true;simp[qC]) (zZ t)
def o9(I:L2.Inv X γ σ H s)(h:cH X.K H k a):pL X.prog X.w s.heap k a:=by
 obtain⟨b,h1,h2⟩:=h
 obtain⟨its,r,p,_⟩:=I.tuple h1
 obtain⟨its2,r2,p2,_⟩:=I.tuple h2
 obtain⟨u,v,rfl,ru,rv⟩:=Vals.two r
 cases ru
 obtain⟨t,rfl⟩:=rv
 obtain⟨o,q1,q2,n,q3⟩:=p2
 exact⟨b,t,p,o,its2.toArray,n,q1,q2,q3,zZ r2⟩
def oA(I:L2.Inv X γ σ H s)(hd:Rd H d (sD xs))(hk:∀x∈xs,cH X.K H x.1 x.2.1):∃ys,Paired Qq xs ys/\s.heap.DictOfH (Bw X.prog X.w) d ys/\(d==sysModules)=false/\xs.length<=sizeLine:=by
 obtain⟨z,y,nd,ys,o,es,ep,pr,h1,h2,h3,h4⟩:=(Fv I.hok hd)
 refine⟨ys,pr,⟨o,es,ep,h1,h2,h3,h4,?_,by rw[qM pr];exact nd⟩,y,z⟩
 have go:∀{xs:List SV}{ys:List _},Paired Qq xs ys->(∀x∈xs,cH X.K H x.1 x.2.1)->∀y∈ys,pL X.prog X.w s.heap y.1 y.2.1:=by
  intro xs ys pr
  induction pr with
  |nil=>intro _ y hy;cases hy
  | @cons x y xs ys h t ih=>
   intro hk q hq
   rcases QBz.mp hq with rfl|hq
   ·rw[<-h.1,<-h.2.1];exact o9 I (hk x QYz)
   ·exact ih (fun z hz=>hk z (QYq _ hz)) q hq
 exact go pr hk
def aeh(hu:A.units+2<cLine)(I:L2.Inv X γ σ H s)(hd:Rd H d (sD xs))(hk:∀x∈xs,cH X.K H x.1 x.2.1)(ha:cH X.K H k a)(h:∀s',L2.Inv X γ σ H s'->Q (.bool (zQ k xs).isSome) s'):
  wpAny (model X.prog X.w) A (compareOp .In (.ref a) (.ref d)) Q E s:=by
 obtain⟨ys,pr,dd,y,z⟩:=oA I hd hk
 refine wpAny_in_heap (hu) (o9 I ha) y dd ?_
 have e:(atKey ys k).isSome=(zQ k xs).isSome:=by rw[(zP pr).eX];simp
 rw[e]
 exact h _ (I.tok _)
def Q3(hu:A.units+2<cLine)(I:L2.Inv X γ σ H s)(hd:Rd H d (sD xs))(hk:∀x∈xs,cH X.K H x.1 x.2.1)(ha:cH X.K H k a)(h:∀s',L2.Inv X γ σ H s'->Q (.bool (!(zQ k xs).isSome)) s'):
  wpAny (model X.prog X.w) A (compareOp .NotIn (.ref a) (.ref d)) Q E s:=by
 obtain⟨ys,pr,dd,y,z⟩:=oA I hd hk
 refine PyProof.Rows.wpAny_notIn_heap (hu) (o9 I ha) y dd ?_
 have e:(atKey ys k).isSome=(zQ k xs).isSome:=by rw[(zP pr).eX];simp
 rw[e]
 exact h _ (I.tok _)
def HQ{Q:QZq}(hu:A.units+2<cLine)(I:L2.Inv X γ σ H s)(hd:Rd H d (sD xs))(hk:∀x∈xs,cH X.K H x.1 x.2.1)(ha:cH X.K H k a)(hv:zQ k xs=some v)(h:∀u s',L2.Inv X γ σ H s'->RelV v u->Q u s'):
  wpAny (model X.prog X.w) A (getItem (.ref d) (.ref a)) Q E s:=by
 obtain⟨ys,pr,dd,y,z⟩:=oA I hd hk
 obtain⟨u,hw,ru⟩:=iz.some_of (by rw[<-hv];exact zP pr)
 obtain⟨p,hp,rfl⟩:=QJz.mp hw
 exact wpAny_getItem_heap (hu) (o9 I ha) dd hp (h _ _ (I.tok _) ru)
def zx{r:Value}(rv:RelV v r)(pr:Paired Qq xs ys):Paired Qq (uN k a v xs) (storedH ys k a r):=by
 have e:(atKey ys k).isSome=(zQ k xs).isSome:=by rw[(zP pr).eX];simp
 unfold uN storedH
 rw[e]
 split
 ·rename_i z
  clear e z
  induction pr with
  |nil=>exact .nil
  | @cons x y xs ys h t ih=>
   refine .cons ?_ ih
   show Qq (if x.1=k then(x.1,x.2.1,v)else x) _
   unfold putAt
   by_cases c:y.1=k
   ·rw[if_pos c,if_pos (h.1.trans c)];exact⟨h.1,h.2.1,rv⟩
   ·rw[if_neg c,if_neg fun q=>c (h.1.symm.trans q)];exact h
 ·exact Paired.snoc pr ⟨rfl,rfl,rv⟩
def Ro v:(uN k a v xs).length<=xs.length+1:=by
 unfold uN
 split<;>simp
def UG{w:World}{h':Heap}(z:xs.length<=sizeLine)(y:(d==sysModules)=false)(pr:Paired Qq xs ys)(dd:h'.DictOfH (Bw P w) d ys):cG P w H' h' d (sD xs):=by
 obtain⟨o,es,ep,h1,h2,h3,h4,h5,h6⟩:=dd
 exact⟨z,y,by rw[<-qM pr];exact h6,ys,o,es,ep,pr,h1,h2,h3,h4⟩
def HN{r:Value}(hu:A.units+2<cLine)(I:L2.Inv X γ σ H s)(hd:H d=some (sD xs))(hk:∀x∈xs,cH X.K H x.1 x.2.1)(ha:cH X.K H k a)(hl:xs.length<sizeLine)(rv:RelV v r)
  (h:∀s',L2.Inv X γ σ (upd H d (sD (uN k a v xs))) s'->Q () s'):wpAny (model X.prog X.w) A (setItem (.ref d) (.ref a) r) Q E s:=by
 obtain⟨ys,pr,dd,y,z⟩:=oA I (.inl hd) hk
 have hz:ys.length<=sizeLine:=by
  have:=congrArg List.length (qM pr)
  simp at this
  omega
 refine wpAny_setItem_heap (hu) (o9 I ha) dd fun h' dd' hs=>h _ ?_
 have pl:=Ro (k:=k) (a:=a) (xs:=xs) v
 exact lQ I (by rw[hd];exact True.intro) hs (let ⟨q,_,_,hq,_⟩:=dd';⟨q,hq⟩) (UG (by omega) y (zx rv pr) dd')
end
def Hy{x y:Value}{W:World}{E:QZq}{Q:PUnit->Shared->Prop}(h:wpAny (model P W) A (dictSet d x y) (fun _ s'=>Q PUnit.unit s') E s):wpAny (model P W) A (storeAll d [(x,y)]) Q E s:=by
 unfold storeAll
 rw[List.forIn_cons]
 refine QTz (QTz (bK h fun _ s' q=>QKq ?_))
 show wpAny _ _ (forIn ([]) PUnit.unit _) _ _ _
 exact QKq q
def aaH(K:QQq)(nC:List (TE×TE)):TE:=fun σ H Q=>∀p,H p=none->wV nC σ (upd H p (.dK [])) fun ps H2=>H2 p=some (.dK [])/\∃k a v,ps=[(.ref a,v)]/\cH K H2 k a/\Q (.ref p) (upd H2 p (sD [(k,a,v)]))
def bare{w:World}{h:Heap}(d:h.DictOf (cD P w) a []):h.DictOfH (Bw P w) a []:=by
 obtain⟨o,es,ep,h1,h2,h3,h4,h5,h6⟩:=d
 have e:es.toList=[]:=by
  cases q:es.toList with
  |nil=>rfl
  |cons x y=>rw[q]at h5;cases h5
 exact⟨o,es,ep,h1,h2,h3,by simp[e],fun x hx=>(nomatch hx),List.nodup_nil⟩
theorem RD{pos:Pos}{values:List Expr}(hu:X.A.units+2<cLine)(h:PPs X pos keys values nC)(hall:keys.all (·.isSome)=true)(hl:keys.length=values.length)(h0:keys≠[])
  (h15:keys.length<=15):PE X (.Dict keys values pos) (aaH X.K nC):=by
 intro γ s σ H Q I q
 refine wpAny_Dict_any hall hl h0 h15 (bK (h γ _ σ _ _ (I.laid (t':=s.toks) (fun _ _ q=>QWq _ q) (QVz _) (uf s.heap I.big)) (q _ (I.hok.fresh (QVz s.heap.objs.size)))) fun ws s2⟨ps,H2,I2,rel,e,z⟩=>?_)
 obtain⟨_,hd,vs0,r0,dd⟩:=GR I2.hok e
 cases r0
 obtain⟨k,a,v,ep,ka,q2⟩:=z
 ·subst ep
  cases rel with
  | @cons _ b _ bs rv t=>
   cases t
   obtain⟨b1,b2⟩:=b
   obtain⟨r1,r2⟩:=rv
   cases r1
   refine Hy (wpAny_dictSet_heap (show X.A.units+1<cLine by omega) (o9 I2 ka) (bare dd) fun h' dd' hs=>?_)
   refine⟨.ref s.heap.objs.size,_,lQ I2 (by rw[e];exact True.intro) hs (let ⟨q,_,_,hq,_⟩:=dd';⟨q,hq⟩) (UG (by rw[sizeLine_eq];show 1<=_;decide) hd (zx r2 .nil) dd'),rfl,q2⟩
def qJ(h:Heap)(d:Addr)(es:Array DictEntry)(ep:Nat):Prop:=∃o,h.get? d=some o/\o.ExactDict/\o.data=.dict es ep
section
def JL(y:(d==sysModules)=false)(B:qJ s.heap d es ep)
  (q:Q (.ref s.heap.objs.size) {s with heap:=s.heap.push {cls:=.type "dict_keyiterator",data:=.fields #[.ref d,.int 0 0,.int es.size 0,.int ep 0]}}):wpAny (model prog w) A (pyIter (.ref d)) Q E s:=by
 obtain⟨o,h1,h2,h3⟩:=B
 have t:s.TypeIs (.ref d) "dict":=⟨o,h1,h2.1⟩
 refine wpAny_pyIter_slot t F.slot_dict_iter (Qzq F.slot_dict_iter t F.entry_dict_iter ?_ (F.args_dict_iter_1 _))
 refine QTz (QTz (wpAny_notOrdered_dict t (QKq ?_)))
 show wpAny _ _ (Builtin.Dict.showsAll d>>=_) _ _ s;unfold Builtin.Dict.showsAll;rw[if_neg (by rw[y];decide)]
 refine QTz (QKq (QTz (wpAny_dictEntries h1 h3 (QTz (wpAny_dictEpoch h1 h3 ?_)))))
 refine QTz (Qzz (QKq ⟨_,rfl,"dict_keyiterator",_,⟨_,Qqz _ rfl,rfl⟩,F.slot_dict_keyiterator_next.lookup,q⟩))
def JM{Q:Option Value->Shared->Prop}(st:s.heap.IsKeyIter it d i es.size ep)(B:qJ s.heap d es ep)(x:es[i]? =some e)
  (q:∀h',h'.IsKeyIter it d (i+1) es.size ep->Heap.SameBut it s.heap h'->Q (some e.key) {s with heap:=h'}):wpAny (model prog w) A (pyNext (.ref it)) Q E s:=by
 obtain⟨o,g1,g2,g3⟩:=id st
 obtain⟨od,h1,h2,h3⟩:=B
 refine QTz (wpAny_attempt (wpAny_callSpecial?_slot st.typeIs F.slot_dict_keyiterator_next (Qzq F.slot_dict_keyiterator_next st.typeIs F.entry_dict_keyiterator_next ?_ (F.args_dict_keyiterator_next_1 _))))
 refine QTz (QKq (QTz (QTz ?_)))
 first|refine QTz (wpAny_typeNameOfWhole_keyiter st.typeIs (QKq ?_))|refine QTz _
 refine QTz (wpAny_fieldsOf g1 g3 ?_)
 refine QTz (QKq (QTz (wpAny_dictEntries h1 h3 ?_)))
 rw[if_neg (by simp)]
 refine QTz (QKq (QTz (wpAny_dictEpoch h1 h3 ?_)))
 rw[if_neg (by simp)]
 refine QKq ?_
 simp only[show¬(i<0) by omega,if_false,Int.toNat_natCast,x]
 refine QTz ?_
 first|refine QTz (wpAny_typeNameOfWhole_keyiter st.typeIs (QKq ?_))|refine QTz _
 refine QTz (wpAny_isOneOf_keyiter st.typeIs ?_)
 show wpAny _ _ (setField _ 1 (rawInt (i+1))>>=_) _ _ s;refine QTz (wpAny_setField g1 g3 (by simp) ?_)
 have st':(s.heap.update it (Obj.mapFields (·.setIfInBounds 1 (rawInt (i+1))))).IsKeyIter it d (i+1) es.size ep:=⟨_,Heap.get?_update_self _ g1 (Obj.isFreed_of_fields (Obj.data_mapFields g3 _)),(Obj.cls_mapFields ..).trans g2,by rw[Obj.data_mapFields g3];simp[rawInt]⟩
 exact QTz (QGz (QTz (wpAny_isOneOf_keyiter (s:={s with heap:=s.heap.update it (Obj.mapFields (·.setIfInBounds 1 (rawInt (i+1))))}) st'.typeIs (QKq (QKq ⟨_,rfl,QKq (q _ st' (Heap.SameBut.update ..))⟩)))))
def Pu(hh:A.handled=none)(st:s.heap.IsKeyIter it d i es.size ep)(B:qJ s.heap d es ep)(x:es.size<=i)
  (q:∀h',Heap.ExtBut it s.heap h'->Q none {s with heap:=h'}):wpAny (model prog w) A (pyNext (.ref it)) Q E s:=by
 obtain⟨o,g1,g2,g3⟩:=id st
 obtain⟨od,h1,h2,h3⟩:=B
 refine QTz (wpAny_attempt (wpAny_callSpecial?_slot st.typeIs F.slot_dict_keyiterator_next (Qzq F.slot_dict_keyiterator_next st.typeIs F.entry_dict_keyiterator_next ?_ (F.args_dict_keyiterator_next_1 _))))
 refine QTz (QKq (QTz (QTz ?_)))
 first|refine QTz (wpAny_typeNameOfWhole_keyiter st.typeIs (QKq ?_))|refine QTz _
 refine QTz (wpAny_fieldsOf g1 g3 ?_)
 refine QTz (QKq (QTz (wpAny_dictEntries h1 h3 ?_)))
 rw[if_neg (by simp)]
 refine QTz (QKq (QTz (wpAny_dictEpoch h1 h3 ?_)))
 rw[if_neg (by simp)]
 refine QKq ?_
 simp only[show¬(i<0) by omega,if_false,Int.toNat_natCast,Array.getElem?_eq_none x]
 refine QTz ?_
 first|refine QTz (wpAny_typeNameOfWhole_keyiter st.typeIs (QKq ?_))|refine QTz _
 show wpAny _ _ (setField _ 0 .none>>=_) _ _ s;refine QTz (wpAny_setField g1 g3 (by simp) ?_)
 show wpAny _ _ _ _ _ _;refine QTz ?_
 refine QTz (Qzz (QTz (wpAny_of_eq (by first|rfl|(simp only[firstArgMember];rfl)) ?_)) (by size_fits))
 refine Qzz ?_ (by size_fits);simp only[raiseNew]
 refine QTz (wpAny_handled ?_);rw[show A.in1.handled=none from hh]
 refine QTz (QKq (wpAny_throw ?_));refine QTz (wpAny_isInstance ⟨_,Qqz _ rfl,rfl⟩ isSubtype_stop ?_)
 exact QKq (q _ (((Heap.SameBut.update ..).extBut.push _).push _))
end
section
variable{s:Shared}
def qJ.stay(B:qJ h d es ep)(k:∀o,h.get? d=some o->h'.get? d=some o):qJ h' d es ep:=let ⟨o,e,r⟩:=B;⟨o,k _ e,r⟩
def qJ.lt(B:qJ h d es ep):d<h.objs.size:=let ⟨_,e,_⟩:=B;Qqq e
def qJ.type(B:qJ s.heap d es ep):s.TypeIs (.ref d) "dict":=let ⟨o,e,c,_⟩:=B;⟨o,e,c.1⟩
theorem Ec(hh:A.handled=none)(ne:d≠it):Walks prog w A it [it,d] [it] es.size (fun i v=>∃e,es[i]? =some e/\v=e.key) (fun i h=>h.IsKeyIter it d i es.size ep/\qJ h d es ep) where
 sub:=fun b hb=>QBz.mpr (.inl (QDq.mp hb))
 frame:=fun _ _ _ st k=>⟨st.1.at fun o e=>k it QYz o e,st.2.stay fun o e=>k d (QYq _ QYz) o e⟩
 item:=fun i s Q E hi st q=>JM st.1 st.2 (Array.getElem?_eq_getElem hi) fun h' st' sb=>q _ h' s.toks ⟨es[i],Array.getElem?_eq_getElem hi,rfl⟩ ⟨st',st.2.stay fun o e=>(sb.2 d ne).trans e⟩ fun b o hb e=>(sb.2 b fun z=>hb (QDq.mpr z)).trans e
 done:=fun s Q E st q=>Pu hh st.1 st.2 (QVz _) fun h' eb=>q h' s.toks fun b o hb e=>eb b o (fun z=>hb (QDq.mpr z)) e
 self:=fun _ _ _ _ st q=>wpAny_pyIter_keyiter st.1 q
theorem Av(y:(d==sysModules)=false):PySem.W.KdlSrc prog w "dict" d d es.size (fun i v=>∃e,es[i]? =some e/\v=e.key) (fun h=>qJ h d es ep) where
 type:=fun _ B=>B.type
 there:=fun _ B=>⟨B.lt,B.lt⟩
 keep:=fun _ _ B k=>B.stay fun o e=>k d (.inl rfl) o e
 notList:=by decide
 notTuple:=by decide
 hint:=fun _ _ _ _ B q=>PySem.W.kdl_hint_dict B.type q
 iter:=fun _ _ hh B=>⟨_,_,(fun _ _ q=>JL y B q),Ec hh (Qvq B.lt),⟨⟨_,Qqz _ rfl,rfl,rfl⟩,B.stay fun o e=>QWq _ e⟩⟩
end
section
def Ri{P:Program}{w:World}:∀{xs:List SV}{ys:List (SK×Addr×Value)}{vs:List Value},Paired Qq xs ys->vs=ys.map (fun y=>Value.ref y.2.1)->Vals (xs.map fun x=>V.ref x.2.1) vs:=by
 intro xs ys vs pr e
 subst e
 induction pr with
 |nil=>exact .nil
 |cons h t ih=>exact .cons (by show Value.ref _=Value.ref _;rw[h.2.1]) ih
def DX(hc:X.calm=true):gq X (.type "list") (fun xs H Q=>(∃p ys,xs=[.ref p]/\(lu X.K H p ys\/jl X.K H p ys)/\∀l,H l=none->Q (.ref l) (upd H l (.lst ys)))\/
  ∃a ks,xs=[.ref a]/\Rd H a (sD ks)/\∀l,H l=none->Q (.ref l) (upd H l (.lst (ks.map fun x=>.ref x.2.1)))):=by
 intro γ s σ H xs us Q I r h
 rcases h with h|⟨a,ks,rfl,e,q⟩
 ·exact yt γ s σ H xs us Q I r h
 obtain⟨u,rfl,rx⟩:=vals1 r
 cases rx
 obtain⟨z,y,nd,ys,o,es,ep,pr,h1,h2,h3,h4⟩:=(Fv I.hok e)
 have le:es.size=ys.length:=by rw[<-Array.length_toList,h4,Qvz]
 have lk:=Paired.length pr
 refine PySem.W.kdl_call (Av y) (I.ok.hd hc) ⟨o,h1,h2,h3⟩ (by omega) fun h' tk acc c' kp g it=>?_
 have ev:acc.toList=ys.map fun y=>Value.ref y.2.1:=by
  refine List.ext_getElem? fun i=>?_
  rw[Array.getElem?_toList,QEz]
  by_cases hi:i<acc.size
  ·obtain⟨e,e1,e2⟩:=it.2 i acc[i] (Array.getElem?_eq_getElem hi)
   rw[<-Array.getElem?_toList,h4,QEz]at e1
   obtain⟨p,p1,p2⟩:=QJz.mp e1
   rw[Array.getElem?_eq_getElem hi,p1,e2,<-p2]
   rfl
  ·have:acc.size=ys.length:=by rw[it.1,le]
   rw[Array.getElem?_eq_none (by omega),List.getElem?_eq_none (by omega)]
   rfl
 refine⟨.ref s.heap.objs.size,_,I.laid kp (QVz _) (show cG X.prog X.w _ h' _ (.lst _)from⟨by rw[Qvz];omega,acc.toList,c',Ri (P:=X.prog) (w:=X.w) pr ev,by simpa using g⟩),rfl,q _ (I.hok.fresh (QVz _))⟩
end
end Mini
end
section
namespace Mini
open PySem L2 PyProof.Rows
def uC(b:Bool)(h:Heap)(it l:Addr)(k:Nat):Prop:=match b with|true=>h.IsListIter it l k|false=>h.IsTupleIter it l k
def yD(b:Bool)(h:Heap)(l:Addr)(xs:Array Value):Prop:=match b with|true=>h.IsList l xs|false=>h.IsTuple l xs
def uC.at{h h':Heap}{k:Nat}(x:uC b h it l k)(e:∀o,h.get? it=some o->h'.get? it=some o):uC b h' it l k:=by
 cases b<;>exact Exists.elim x fun o⟨h1,h2⟩=>⟨o,e o h1,h2⟩
def yD.at{h h':Heap}{xs:Array Value}(x:yD b h l xs)(e:∀o,h.get? l=some o->h'.get? l=some o):yD b h' l xs:=by
 cases b<;>exact Exists.elim x fun o⟨h1,h2⟩=>⟨o,e o h1,h2⟩
def uC.obj{h:Heap}{k:Nat}(x:uC b h it l k):∃o,h.get? it=some o/\∀v,o.data≠ .cell v:=by
 cases b<;>exact Exists.elim x fun o⟨h1,_,h2⟩=>⟨o,h1,fun v z=>by rw[h2]at z;cases z⟩
def uC.lt{h:Heap}{k:Nat}(x:uC b h it l k):it<h.objs.size:=let ⟨_,e,_⟩:=x.obj;Qqq e
section
def nR{i:Nat}{items}{Q:QZq}(hit:s.heap.IsTupleIter it l i)
  (hl:s.heap.IsTuple l items)(hx:items[i]? =some x)
  (hQ:∀h',h'.IsTupleIter it l (i+1)->Heap.SameBut it s.heap h'->Q x {s with heap:=h'}):
  wpAny (model prog w) A (Builtin.SmallTypes.nextOf (.ref it)) Q E s:=by
 obtain⟨o,ho,hc,hd⟩:=id hit
 obtain⟨ol,hol,_,nl,hdl⟩:=hl
 refine QTz (wpAny_callSpecial?_slot hit.typeIs PySem.F.slot_tuple_iterator_next
  (Qzq PySem.F.slot_tuple_iterator_next hit.typeIs PySem.F.entry_tuple_iterator_next ?_ (PySem.F.args_tuple_iterator_next_1 _)))
 show wpAny _ _ (field _ 0>>=_) _ _ s
 refine QTz (QGq ho hd rfl ?_)
 refine QTz (QGq ho hd rfl ?_)
 refine QTz (wpAny_seqItems hol hdl ?_)
 simp only[Int.toNat_natCast,hx]
 refine QTz (wpAny_setField ho hd (by simp) (QKq ⟨x,rfl,QKq (hQ _ ?_ (Heap.SameBut.update ..))⟩))
 exact⟨_,Heap.get?_update_self _ ho (Obj.isFreed_of_fields (Obj.data_mapFields hd _)),(Obj.cls_mapFields ..).trans hc,by
  rw[Obj.data_mapFields hd];simp[rawInt]⟩
def oZ{i:Nat}{items}(hh:A.handled=none)
  (hit:s.heap.IsTupleIter it l i)(hl:s.heap.IsTuple l items)(hx:items[i]? =none)
  (hE:∀h' e,Heap.ExtBut it s.heap h'->(∃o,h'.get? e=some o/\o.cls=.type "StopIteration")->E (.ref e) {s with heap:=h'}):
  wpAny (model prog w) A (Builtin.SmallTypes.nextOf (.ref it)) Q E s:=by
 obtain⟨o,ho,hc,hd⟩:=id hit
 obtain⟨ol,hol,_,nl,hdl⟩:=hl
 refine QTz (wpAny_callSpecial?_slot hit.typeIs PySem.F.slot_tuple_iterator_next
  (Qzq PySem.F.slot_tuple_iterator_next hit.typeIs PySem.F.entry_tuple_iterator_next ?_ (PySem.F.args_tuple_iterator_next_1 _)))
 show wpAny _ _ (field _ 0>>=_) _ _ s
 refine QTz (QGq ho hd rfl ?_)
 refine QTz (QGq ho hd rfl ?_)
 refine QTz (wpAny_seqItems hol hdl ?_)
 simp only[Int.toNat_natCast,hx]
 refine QTz (wpAny_rule (QTz (wpAny_setField ho hd (by simp) ?_)))
 refine QTz ?_
 refine QTz (Qzz ?_ (by size_fits))
 refine QTz (wpAny_of_eq (by first|rfl|(simp only[firstArgMember];rfl)) ?_)
 refine Qzz ?_ (by size_fits)
 refine QTz (wpAny_handled ?_)
 first|rw[show A.in1.handled=none from hh]|rw[hh]
 refine QTz (QKq (wpAny_throw (hE _ _ (((Heap.SameBut.update ..).extBut.push _).push _) ⟨_,Qqz _ rfl,rfl⟩)))
theorem fW{it l:Addr}{items}{Q:QZq}(hit:uC b s.heap it l i)
  (hl:yD b s.heap l items)(hx:items[i]? =some x)(hQ:∀h',uC b h' it l (i+1)->Heap.SameBut it s.heap h'->Q x {s with heap:=h'}):
  wpAny (model prog w) A (Builtin.SmallTypes.nextOf (.ref it)) Q E s:=by
 cases b with
 |true=>exact wpAny_nextOf_list_item hit hl hx hQ
 |false=>exact nR hit hl hx hQ
theorem lJ{it l:Addr}{items}(hh:A.handled=none)
  (hit:uC b s.heap it l i)(hl:yD b s.heap l items)(hx:items[i]? =none)
  (hE:∀h' e,Heap.ExtBut it s.heap h'->(∃o,h'.get? e=some o/\o.cls=.type "StopIteration")->E (.ref e) {s with heap:=h'}):
  wpAny (model prog w) A (Builtin.SmallTypes.nextOf (.ref it)) Q E s:=by
 cases b with
 |true=>exact wpAny_nextOf_list_end hh hit hl hx hE
 |false=>exact oZ hh hit hl hx hE
end
def jK(h:Heap)(z TI TO:Addr)(f0 f1:Value):Prop:=
 h.get? z=some {cls:=.type "zip",dict:=none,data:=.fields #[f0,f1,.bool false,.ref TI,.ref TO],slots:= #[]}
def F0(f0:Value):Prop:=f0=.none\/∃T:Nat,f0=rawInt T
section
def nF{a:Addr}(h:Q (s.heap.get? a) s):wpAny M A (loadIfAlive a) Q E s:=fun Γ p hΓ=>by
 show Sem.wp M Γ _ _ _ p s
 exact(QKq (M:=M) (E:=E) h) Γ p hΓ
theorem yG{z TI TO:Addr}{f0 f1:Value}(hz:jK s.heap z TI TO f0 f1)(h0:F0 f0)(hQ1:Q true s)
  (hQ2:∀h' g1,jK h' z TI TO f0 g1->Heap.SameBut z s.heap h'->Q false {s with heap:=h'}):wpAny (model prog w) A (Builtin.SmallTypes.ownedTupleIsFree (.ref z)) Q E s:=by
 rcases h0 with rfl|⟨T,rfl⟩
 ·exact QTz (QGq hz rfl rfl (QKq hQ1))
 ·refine QTz (QGq hz rfl rfl ?_)
  refine QTz (nF ?_)
  cases hT:s.heap.get? _ with
  |none=>exact QKq hQ1
  |some o=>
   refine QTz (QGq hz rfl (x:=f1) rfl ?_)
   by_cases hf:(f1 != .bool true)=true
   ·rw[if_pos hf]
    refine QTz (wpAny_setField_rec hz (by simp) fun h' hz' hs'=>QKq (hQ2 h' _ hz' hs'))
   ·rw[if_neg hf]
    exact QKq (hQ2 s.heap f1 hz (Heap.SameBut.refl ..))
structure Qa(z TI TO i1 i2:Addr)(b1 b2:Bool)(l1 l2:Addr)(k1 k2:Nat)(T:Addr)(x y:Value)(h h':Heap):Prop where
 zr:∃f0 f1,jK h' z TI TO f0 f1/\F0 f0
 ti:IsPair h' TI (.ref i1) (.ref i2)
 to:∃a b,IsPair h' TO a b
 it1:uC b1 h' i1 l1 k1
 it2:uC b2 h' i2 l2 k2
 new:IsPair h' T x y
 size:h'.objs.size=T+1
 keep:∀c o,c≠z->c≠TO->c≠i1->c≠i2->h.get? c=some o->h'.get? c=some o
def Ho{z TI TO i1 i2 l1 l2:Addr}{k1 k2:Nat}{xs ys:Array Value}{Q:QZq}(D:ZipApart z TI TO i1 i2 l1 l2)
  (hz:jK s.heap z TI TO f0 f1)(h0:F0 f0)(hTI:IsPair s.heap TI (.ref i1) (.ref i2))(hTO:IsPair s.heap TO a b)
  (h1:uC b1 s.heap i1 l1 k1)(h2:uC b2 s.heap i2 l2 k2)(hl1:yD b1 s.heap l1 xs)(hl2:yD b2 s.heap l2 ys)(hx:xs[k1]? =some x)(hy:ys[k2]? =some y)
  (hQ:∀h',Qa z TI TO i1 i2 b1 b2 l1 l2 (k1+1) (k2+1) s.heap.objs.size x y s.heap h'->Q (.ref s.heap.objs.size) {s with heap:=h'}):
  wpAny (model prog w) A (Builtin.«zip.__next__» ⟨[.ref z],[]⟩) (fun fin s'=>∃v,fin=.done (.ret v)/\Q v s') E s:=by
 show wpAny _ _ (field (.ref z) 2>>=_) _ _ _
 refine QTz (QGq hz rfl rfl ?_)
 refine QTz (QGq hz rfl rfl ?_)
 refine QTz (wpAny_seqItems hTI rfl ?_)
 refine QTz (yG hz h0 ?_ ?_)
 ·--the tuple of its own is used again
  refine QTz (wpAny_rule ?_)
  refine QTz (QGq hz rfl rfl ?_)
  refine QTz (wpAny_setField_rec hz (by simp) fun Ξ Θ ι=>?_)
  replace Θ:jK Ξ z TI TO .ellipsis f1:=Θ
  refine QTz ?_
  refine QTz (QTz (wpAny_onRaise ?_))
  refine QTz (fW (h1.at fun o e=>ι.extBut _ _ D.i1z e) (hl1.at fun o e=>ι.extBut _ _ D.l1z e) hx fun Ψ h1₂ μ=>QKq ?_)
  have hTO₂:=μ.extBut _ _ D.TOi1 (ι.extBut _ _ D.TOz hTO)
  refine QTz (wpAny_seqItems hTO₂ rfl ?_)
  refine QTz (wpAny_updateSeq_pair hTO₂ fun h₃ hTO₃ χ=>?_)
  replace hTO₃:IsPair h₃ TO x b:=hTO₃
  refine QTz (wpAny_letGo (QKq ?_))
  refine QTz (QTz (wpAny_onRaise ?_))
  refine QTz (fW (h2.at fun o e=>χ.extBut _ _ D.TOi2.symm (μ.extBut _ _ D.i12.symm (ι.extBut _ _ D.i2z e)))
   (hl2.at fun o e=>χ.extBut _ _ D.l2TO (μ.extBut _ _ D.l2i1 (ι.extBut _ _ D.l2z e))) hy fun h₄ h2₄ π=>QKq ?_)
  have hTO₄:=π.extBut _ _ D.TOi2 hTO₃
  refine QTz (wpAny_seqItems hTO₄ rfl ?_)
  refine QTz (wpAny_updateSeq_pair hTO₄ fun h₅ hTO₅ Ω=>?_)
  replace hTO₅:IsPair h₅ TO x y:=hTO₅
  refine QTz (wpAny_letGo (QKq (QKq ?_)))
  refine QTz (wpAny_seqItems hTO₅ rfl ?_)
  refine QTz (wpAny_newTuple ?_)
  have hsz:h₅.objs.size=s.heap.objs.size:=by rw[Ω.1,π.1,χ.1,μ.1,ι.1]
  have hz₅:=Ω.extBut _ _ D.TOz.symm (π.extBut _ _ D.i2z.symm (χ.extBut _ _ D.TOz.symm (μ.extBut _ _ D.i1z.symm Θ)))
  have hk₅:∀c o,c≠z->c≠TO->c≠i1->c≠i2->s.heap.get? c=some o->h₅.get? c=some o:=fun c o c1 c2 c3 c4 e=>
   Ω.extBut _ _ c2 (π.extBut _ _ c4 (χ.extBut _ _ c2 (μ.extBut _ _ c3 (ι.extBut _ _ c1 e))))
  have hzlt:=Qqq hz₅
  refine QTz ?_
  refine QTz (wpAny_setField_rec (QWq _ hz₅) (by simp) fun h₇ hz₇ hs₇=>?_)
  replace hz₇:jK h₇ z TI TO (rawInt h₅.objs.size) f1:=hz₇
  refine wpAny_setField_rec hz₇ (by simp) fun h₈ hz₈ hs₈=>?_
  replace hz₈:jK h₈ z TI TO (rawInt h₅.objs.size) (.bool false):=hz₈
  have up:∀c o,c≠z->h₅.get? c=some o->h₈.get? c=some o:=fun c o c1 e=>hs₈.extBut _ _ c1 (hs₇.extBut _ _ c1 (QWq _ e))
  have hT₈:=hs₈.extBut _ _ (Nat.ne_of_gt hzlt) (hs₇.extBut _ _ (Nat.ne_of_gt hzlt) (Qqz _ rfl))
  have hz8:h₈.objs.size=h₅.objs.size+1:=by rw[hs₈.1,hs₇.1,Heap.size_push]
  rw[hsz]at hz₈ hT₈ hz8
  refine QKq ⟨_,rfl,?_⟩
  rw[hsz]
  exact hQ h₈ ⟨⟨_,_,hz₈,.inr ⟨_,rfl⟩⟩,up _ _ D.TIz (hk₅ _ _ D.TIz D.TITO D.TIi1 D.TIi2 hTI),⟨_,_,up _ _ D.TOz hTO₅⟩,(h1₂.at fun o e=>Ω.extBut _ _ D.TOi1.symm (π.extBut _ _ D.i12 (χ.extBut _ _ D.TOi1.symm e))).at fun o e=>up _ o D.i1z e,(h2₄.at fun o e=>Ω.extBut _ _ D.TOi2.symm e).at fun o e=>up _ o D.i2z e,hT₈,hz8,fun c o c1 c2 c3 c4 e=>up c o c1 (hk₅ c o c1 c2 c3 c4 e)⟩
 ·--it was kept:a new one
  intro Ξ g1 Θ ι
  refine QTz ?_
  refine QTz (QTz (QGz ?_))
  refine QTz (fW (h1.at fun o e=>ι.extBut _ _ D.i1z e) (hl1.at fun o e=>ι.extBut _ _ D.l1z e) hx fun Ψ h1₂ μ=>QKq ?_)
  refine QKq ?_
  refine QTz (QTz (QGz ?_))
  refine QTz (fW (h2.at fun o e=>μ.extBut _ _ D.i12.symm (ι.extBut _ _ D.i2z e))
   (hl2.at fun o e=>μ.extBut _ _ D.l2i1 (ι.extBut _ _ D.l2z e)) hy fun h₄ h2₄ π=>QKq ?_)
  refine QKq (QKq ?_)
  have hsz:h₄.objs.size=s.heap.objs.size:=by rw[π.1,μ.1,ι.1]
  have hk:∀c o,c≠z->c≠i1->c≠i2->s.heap.get? c=some o->h₄.get? c=some o:=fun c o c1 c3 c4 e=>π.extBut _ _ c4 (μ.extBut _ _ c3 (ι.extBut _ _ c1 e))
  refine QTz (wpAny_newTuple (QKq ⟨_,rfl,?_⟩) (by show 2<=sizeLine;rw[sizeLine_eq];decide))
  have T:Qa z TI TO i1 i2 b1 b2 l1 l2 (k1+1) (k2+1) s.heap.objs.size x y s.heap (h₄.push {cls:=.type "tuple",data:=.seq #[x,y]}):=by
   refine⟨⟨f0,g1,QWq _ (π.extBut _ _ D.i2z.symm (μ.extBut _ _ D.i1z.symm Θ)),h0⟩,QWq _ (hk _ _ D.TIz D.TIi1 D.TIi2 hTI),⟨a,b,QWq _ (hk _ _ D.TOz D.TOi1 D.TOi2 hTO)⟩,
    h1₂.at fun o e=>QWq _ (π.extBut _ _ D.i12 e),h2₄.at fun o e=>QWq _ e,?_,by rw[Heap.size_push,hsz],fun c o c1 c2 c3 c4 e=>QWq _ (hk c o c1 c3 c4 e)⟩
   rw[<-hsz]
   exact Qqz _ rfl
  rw[hsz]
  exact hQ _ T
theorem JW{z TI TO i1 i2 l1 l2:Addr}{k1 k2:Nat}{a b f0 f1:Value}(hh:A.handled=none)(D:ZipApart z TI TO i1 i2 l1 l2)
  (hz:jK s.heap z TI TO f0 f1)(h0:F0 f0)(hTI:IsPair s.heap TI (.ref i1) (.ref i2))(hTO:IsPair s.heap TO a b)
  (h1:uC b1 s.heap i1 l1 k1)(h2:uC b2 s.heap i2 l2 k2)(hl1:yD b1 s.heap l1 xs)(hl2:yD b2 s.heap l2 ys)(hend:xs[k1]? =none\/ys[k2]? =none)
  (hE:∀h' e,(∀c o,c≠z->c≠TO->c≠i1->c≠i2->s.heap.get? c=some o->h'.get? c=some o)->(∃o,h'.get? e=some o/\o.cls=.type "StopIteration")->E (.ref e) {s with heap:=h'}):
  wpAny (model prog w) A (Builtin.«zip.__next__» ⟨[.ref z],[]⟩) Q E s:=by
 show wpAny _ _ (field _ 2>>=_) _ _ _
 refine QTz (QGq hz rfl rfl ?_)
 refine QTz (QGq hz rfl rfl ?_)
 refine QTz (wpAny_seqItems hTI rfl ?_)
 refine QTz (yG hz h0 ?_ ?_)
 ·simp only[if_true]
  refine QTz (wpAny_rule ?_)
  refine QTz (QGq hz rfl rfl ?_)
  refine QTz (wpAny_setField_rec hz (by simp) fun Ξ Θ ι=>?_)
  replace Θ:jK Ξ z TI TO .ellipsis f1:=Θ
  refine QTz ?_
  refine QTz (QTz (wpAny_onRaise ?_))
  cases hx:xs[k1]? with
  |none=>
   refine QTz (lJ hh (h1.at fun o e=>ι.extBut _ _ D.i1z e) (hl1.at fun o e=>ι.extBut _ _ D.l1z e) hx fun Ψ e μ he=>?_)
   obtain⟨oe,hoe,hce⟩:=he
   have hz₂:jK Ψ z TI TO .ellipsis f1:=μ _ _ D.i1z.symm Θ
   refine wpAny_setField_rec hz₂ (by simp) fun h₃ _ χ=>hE h₃ e (fun c o c1 _ c3 _ x=>χ.extBut _ _ c1 (μ _ _ c3 (ι.extBut _ _ c1 x))) ⟨oe,χ.extBut _ _ (fun x=>by subst x;unfold jK at hz₂;rw[hz₂]at hoe;cases hoe;simp at hce) hoe,hce⟩
  |some x=>
   have hy:ys[k2]? =none:=by
    rcases hend with h|h
    ·rw[hx]at h;cases h
    ·exact h
   refine QTz (fW (h1.at fun o e=>ι.extBut _ _ D.i1z e) (hl1.at fun o e=>ι.extBut _ _ D.l1z e) hx fun Ψ h1₂ μ=>QKq ?_)
   have hTO₂:=μ.extBut _ _ D.TOi1 (ι.extBut _ _ D.TOz hTO)
   refine QTz (wpAny_seqItems hTO₂ rfl ?_)
   refine QTz (wpAny_updateSeq_pair hTO₂ fun h₃ hTO₃ χ=>?_)
   refine QTz (wpAny_letGo (QKq ?_))
   refine QTz (QTz (wpAny_onRaise ?_))
   refine QTz (lJ hh (h2.at fun o e=>χ.extBut _ _ D.TOi2.symm (μ.extBut _ _ D.i12.symm (ι.extBut _ _ D.i2z e)))
    (hl2.at fun o e=>χ.extBut _ _ D.l2TO (μ.extBut _ _ D.l2i1 (ι.extBut _ _ D.l2z e))) hy fun h₄ e π he=>?_)
   obtain⟨oe,hoe,hce⟩:=he
   have hz₄:jK h₄ z TI TO .ellipsis f1:=π _ _ D.i2z.symm (χ.extBut _ _ D.TOz.symm (μ.extBut _ _ D.i1z.symm Θ))
   refine wpAny_setField_rec hz₄ (by simp) fun h₅ _ Ω=>hE h₅ e (fun c o c1 c2 c3 c4 x=>Ω.extBut _ _ c1 (π _ _ c4 (χ.extBut _ _ c2 (μ.extBut _ _ c3 (ι.extBut _ _ c1 x))))) ⟨oe,Ω.extBut _ _ (fun x=>by subst x;unfold jK at hz₄;rw[hz₄]at hoe;cases hoe;simp at hce) hoe,hce⟩
 ·intro Ξ g1 Θ ι
  refine QTz ?_
  refine QTz (QTz (QGz ?_))
  cases hx:xs[k1]? with
  |none=>
   exact QTz (lJ hh (h1.at fun o e=>ι.extBut _ _ D.i1z e) (hl1.at fun o e=>ι.extBut _ _ D.l1z e) hx fun Ψ e μ he=>hE Ψ e (fun c o c1 _ c3 _ x=>μ _ _ c3 (ι.extBut _ _ c1 x)) he)
  |some x=>
   have hy:ys[k2]? =none:=by
    rcases hend with h|h
    ·rw[hx]at h;cases h
    ·exact h
   refine QTz (fW (h1.at fun o e=>ι.extBut _ _ D.i1z e) (hl1.at fun o e=>ι.extBut _ _ D.l1z e) hx fun Ψ h1₂ μ=>QKq ?_)
   refine QKq ?_
   refine QTz (QTz (QGz ?_))
   exact QTz (lJ hh (h2.at fun o e=>μ.extBut _ _ D.i12.symm (ι.extBut _ _ D.i2z e))
    (hl2.at fun o e=>μ.extBut _ _ D.l2i1 (ι.extBut _ _ D.l2z e)) hy fun h₄ e π he=>hE h₄ e (fun c o c1 _ c3 c4 x=>π _ _ c4 (μ.extBut _ _ c3 (ι.extBut _ _ c1 x))) he)
def qy{z TI TO i1 i2 l1 l2:Addr}{k1 k2:Nat}{x y a b f0 f1:Value}(D:ZipApart z TI TO i1 i2 l1 l2)
  (hz:jK s.heap z TI TO f0 f1)(h0:F0 f0)(hTI:IsPair s.heap TI (.ref i1) (.ref i2))(hTO:IsPair s.heap TO a b)
  (h1:uC b1 s.heap i1 l1 k1)(h2:uC b2 s.heap i2 l2 k2)(hl1:yD b1 s.heap l1 xs)(hl2:yD b2 s.heap l2 ys)(hx:xs[k1]? =some x)(hy:ys[k2]? =some y)
  (hQ:∀h',Qa z TI TO i1 i2 b1 b2 l1 l2 (k1+1) (k2+1) s.heap.objs.size x y s.heap h'->Q (some (.ref s.heap.objs.size)) {s with heap:=h'}):
  wpAny (model prog w) A (pyNext (.ref z)) Q E s:=by
 have hT:s.TypeIs (.ref z) "zip":=⟨_,hz,rfl⟩
 exact QTz (wpAny_attempt (wpAny_callSpecial?_slot hT PySem.F.slot_zip_next
  (Qzq PySem.F.slot_zip_next hT PySem.F.entry_zip_next
   (Ho D hz h0 hTI hTO h1 h2 hl1 hl2 hx hy fun h' T=>QKq (hQ h' T)) (PySem.F.args_zip_next_1 _))))
def sE{z TI TO i1 i2 l1 l2:Addr}{k1 k2:Nat}{a b f0 f1:Value}(hh:A.handled=none)(D:ZipApart z TI TO i1 i2 l1 l2)
  (hz:jK s.heap z TI TO f0 f1)(h0:F0 f0)(hTI:IsPair s.heap TI (.ref i1) (.ref i2))(hTO:IsPair s.heap TO a b)
  (h1:uC b1 s.heap i1 l1 k1)(h2:uC b2 s.heap i2 l2 k2)(hl1:yD b1 s.heap l1 xs)(hl2:yD b2 s.heap l2 ys)(hend:xs[k1]? =none\/ys[k2]? =none)
  (hQ:∀h',(∀c o,c≠z->c≠TO->c≠i1->c≠i2->s.heap.get? c=some o->h'.get? c=some o)->Q none {s with heap:=h'}):wpAny (model prog w) A (pyNext (.ref z)) Q E s:=by
 have hT:s.TypeIs (.ref z) "zip":=⟨_,hz,rfl⟩
 refine QTz (wpAny_attempt (wpAny_callSpecial?_slot hT PySem.F.slot_zip_next
  (Qzq PySem.F.slot_zip_next hT PySem.F.entry_zip_next (JW hh D hz h0 hTI hTO h1 h2 hl1 hl2 hend fun h' e hk he=>?_) (PySem.F.args_zip_next_1 _))))
 obtain⟨o,ho,hc⟩:=he
 exact QTz (wpAny_isInstance ⟨o,ho,hc⟩ isSubtype_stop (QKq (hQ _ hk)))
end
section
theorem Je{z TI TO T:Addr}{f0 f1:Value}(hz:jK s.heap z TI TO f0 f1)(h0:F0 f0)
  (hQ:∀h' g0,jK h' z TI TO g0 f1->F0 g0->Heap.SameBut z s.heap h'->Q () {s with heap:=h'}):wpAny (model prog w) A (letOwnedTupleGo tg (.ref z) (.ref T)) Q E s:=by
 have same:=hQ s.heap f0 hz h0 (Heap.SameBut.refl ..)
 have go:wpAny (model prog w) A (do
   let o<-load z
   match o.cls,o.data with
   |.type n,.fields vs=>
    if ["enumerate","zip","dict_itemiterator","dict_reverseitemiterator","odict_iterator","itertools.zip_longest","itertools.pairwise"].contains n&&vs[0]? ==some (rawInt T)then
     rule "for.unpacks-the-owned-tuple"
     updateField z 0 .none
   |_,_=>pure ()) Q E s:=by
  refine QTz (wpAny_load hz ?_)
  show wpAny _ _ (if (["enumerate","zip","dict_itemiterator","dict_reverseitemiterator","odict_iterator","itertools.zip_longest","itertools.pairwise"].contains "zip"&&
   (#[f0,f1,.bool false,.ref TI,.ref TO])[0]? ==some _)=true then _ else _) Q E s
  split
  ·exact QTz (wpAny_rule (wpAny_setField_rec hz (by simp) fun h' hz' hs'=>hQ h' .none hz' (.inl rfl) hs'))
  ·exact QKq same
 cases tg<;>first
  |exact QKq same
  |exact go
def jq{z TI TO:Addr}{f0 f1:Value}(hz:jK s.heap z TI TO f0 f1)(h:Q (.ref z) s):wpAny (model prog w) A (pyIter (.ref z)) Q E s:=by
 have hT:s.TypeIs (.ref z) "zip":=⟨_,hz,rfl⟩
 exact wpAny_pyIter_slot hT PySem.F.slot_zip_iter (Qzq PySem.F.slot_zip_iter hT PySem.F.entry_zip_iter (QKq ⟨_,rfl,"zip",_,hT,PySem.F.slot_zip_next.lookup,h⟩) (PySem.F.args_zip_iter_1 _))
end
def itN(b:Bool):String:=if b then "list_iterator" else "tuple_iterator"
abbrev zH1(b1:Bool)(h:Heap)(l1:Addr):Heap:=h.push {cls:=.type (itN b1),data:=.fields #[.ref l1,.int 0 0]}
abbrev zH2(b1 b2:Bool)(h:Heap)(l1 l2:Addr):Heap:=(zH1 b1 h l1).push {cls:=.type (itN b2),data:=.fields #[.ref l2,.int 0 0]}
abbrev zH3(b1 b2:Bool)(h:Heap)(l1 l2:Addr):Heap:=(zH2 b1 b2 h l1 l2).push {cls:=.type "tuple",data:=.seq #[.ref h.objs.size,.ref (zH1 b1 h l1).objs.size]}
abbrev zH4(b1 b2:Bool)(h:Heap)(l1 l2:Addr):Heap:=(zH3 b1 b2 h l1 l2).push {cls:=.type "tuple",data:=.seq #[.none,.none]}
abbrev Zj(b1 b2:Bool)(h:Heap)(l1 l2:Addr):Heap:=(zH4 b1 b2 h l1 l2).push {cls:=.type "zip",data:=.fields #[.none,.bool false,.bool false,.ref (zH2 b1 b2 h l1 l2).objs.size,.ref (zH3 b1 b2 h l1 l2).objs.size]}
def JV b1 b2 l1 l2 xs ys:
  Meets (Builtin.«zip.__new__» ⟨[.type "zip",.ref l1,.ref l2],[]⟩) (fun _ R s=>yD b1 s.heap l1 xs/\yD b2 s.heap l2 ys/\
   R (.ok (.ret (.ref (zH4 b1 b2 s.heap l1 l2).objs.size))) {s with heap:=Zj b1 b2 s.heap l1 l2}):=
 .of_wp fun prog w A R s h=>by
  obtain⟨hp,g,d,tk,os⟩:=s;obtain⟨hl1,hl2,h⟩:=h
  have hsub:=sub_zip
  cases b1<;>cases b2
  ·have hL1:Heap.IsTuple (Shared.heap ⟨hp,g,d,tk,os⟩) l1 xs:=hl1
   have hL2:Heap.IsTuple (Shared.heap ⟨hp.push {cls:=.type "tuple_iterator",data:=.fields #[.ref l1,.int 0 0]},g,d,tk,os⟩) l2 ys:=hl2.at (b:=false) fun o e=>QWq _ e
   wp_walk using wpAny_pyIter_tuple hL1,wpAny_pyIter_tuple hL2
   exact⟨_,rfl,h⟩
  ·have hL1:Heap.IsTuple (Shared.heap ⟨hp,g,d,tk,os⟩) l1 xs:=hl1
   have hL2:Heap.IsList (Shared.heap ⟨hp.push {cls:=.type "tuple_iterator",data:=.fields #[.ref l1,.int 0 0]},g,d,tk,os⟩) l2 ys:=hl2.at (b:=true) fun o e=>QWq _ e
   wp_walk using wpAny_pyIter_tuple hL1,wpAny_pyIter_list hL2
   exact⟨_,rfl,h⟩
  ·have hL1:Heap.IsList (Shared.heap ⟨hp,g,d,tk,os⟩) l1 xs:=hl1
   have hL2:Heap.IsTuple (Shared.heap ⟨hp.push {cls:=.type "list_iterator",data:=.fields #[.ref l1,.int 0 0]},g,d,tk,os⟩) l2 ys:=hl2.at (b:=false) fun o e=>QWq _ e
   wp_walk using wpAny_pyIter_list hL1,wpAny_pyIter_tuple hL2
   exact⟨_,rfl,h⟩
  ·have hL1:Heap.IsList (Shared.heap ⟨hp,g,d,tk,os⟩) l1 xs:=hl1
   have hL2:Heap.IsList (Shared.heap ⟨hp.push {cls:=.type "list_iterator",data:=.fields #[.ref l1,.int 0 0]},g,d,tk,os⟩) l2 ys:=hl2.at (b:=true) fun o e=>QWq _ e
   wp_walk using wpAny_pyIter_list hL1,wpAny_pyIter_list hL2
   exact⟨_,rfl,h⟩
end Mini
end
section
namespace Mini
open PySem
def tH{w:World}{E:QZq}{a:Addr}{k:Nat}
  (hx:s.heap.get? a=some {cls:=.type "list",dict:=none,data:=.seq xs k,slots:=sl})(hA:A.handled=none)
  (h:∀h' tk,(∀b o,s.heap.get? b=some o->h'.get? b=some o)->Q none {s with heap:=h',toks:=tk}):
  wpAny (model prog w) A (getAttr? (.ref a) "keys") Q E s:=by
 obtain⟨hp,g,d,tk,os⟩:=s
 have hT:∀tk',(⟨hp,g,d,tk',os⟩:Shared).TypeIs (.ref a) "list":=fun _=>⟨_,hx,rfl⟩
 have f1:=sub_AttributeError
 have f3:=F.slot_list_getattribute.lookup
 have f4:=F.slot_list_getattribute.bind (.ref a)
 have f5:=am_list_getattr_none
 repeat (any_goals (first|assumption|exact hT _|((with_reducible show wpAny _ _ (call (Value.builtin "list.__getattribute__") _ _) _ _ _);refine call_meets F.slot_list_getattribute (hT _) am_entry_list_getattribute (F.args_list_getattribute_2 _ _) (meets_getattribute_miss_list a xs k sl "keys" _ (am_miss_of_fast (by kernel_rfl)) (by decide+kernel) (by size_fits)) ⟨hx,hA,fun h' tk' e hx'=>?_⟩)|wp_step))
 obtain⟨t',u',he⟩:=hx'.there
 unfold getattributeRaised
 repeat (any_goals (first|assumption|wp_step))
 all_goals exact h _ _ hx'.keeps
def qz{w:World}{E:QZq}{a:Addr}{k:Nat}
  (hx:s.heap.get? a=some {cls:=.type "tuple",dict:=none,data:=.seq xs k,slots:=sl})(hA:A.handled=none)
  (h:∀h' tk,(∀b o,s.heap.get? b=some o->h'.get? b=some o)->Q none {s with heap:=h',toks:=tk}):
  wpAny (model prog w) A (getAttr? (.ref a) "keys") Q E s:=by
 obtain⟨hp,g,d,tk,os⟩:=s
 have hT:∀tk',(⟨hp,g,d,tk',os⟩:Shared).TypeIs (.ref a) "tuple":=fun _=>⟨_,hx,rfl⟩
 have f1:=sub_AttributeError
 have f3:=F.slot_tuple_getattribute.lookup
 have f4:=F.slot_tuple_getattribute.bind (.ref a)
 have f5:=am_tuple_getattr_none
 repeat (any_goals (first|assumption|exact hT _|((with_reducible show wpAny _ _ (call (Value.builtin "tuple.__getattribute__") _ _) _ _ _);refine call_meets F.slot_tuple_getattribute (hT _) am_entry_tuple_getattribute (F.args_tuple_getattribute_2 _ _) (meets_getattribute_miss_tuple a xs k sl "keys" _ (am_miss_of_fast (by kernel_rfl)) (by decide+kernel) (by size_fits)) ⟨hx,hA,fun h' tk' e hx'=>?_⟩)|wp_step))
 obtain⟨t',u',he⟩:=hx'.there
 unfold getattributeRaised
 repeat (any_goals (first|assumption|wp_step))
 all_goals exact h _ _ hx'.keeps
def lZ:typeLookup (.type "zip") "__getattr__"=pure none:=by rw[typeLookup_type,builtinLookup_eq_fast];kernel_rfl
def cJ:Slot "zip" "__getattribute__" "zip.__getattribute__":=
 .of (owner:="zip") (n:="__getattribute__") (by rw[typeLookup_type,builtinLookup_eq_fast];kernel_rfl) (by decide+kernel) (by decide+kernel) (by decide+kernel)
  (by first|exact .inl (by decide+kernel)|exact .inr (by decide+kernel)) (by rw[isSubtype_type];kernel_rfl)
def iw:entryFor table "zip.__getattribute__"=some Builtin.«object.__getattribute__»:=
 entryFor_alias (id':="object.__getattribute__") (by kernel_rfl) (by decide+kernel) (by decide+kernel) (by kernel_rfl)
def iU a b:argsOk "zip.__getattribute__" ⟨[a,b],[]⟩:=by
 unfold argsOk;kernel_rfl
def gO(a:Addr)(xs:Array Value)(sl:Array (Option Value))(name:Str)(u:Tok)(hmiss:typeLookup (.type "zip") name=pure none)(hname:(["__module__","__name__","__qualname__","__doc__","__annotations__"]:List Str).contains name=false)(hsz:name.length+100<=sizeLine:=by size_fits):
  Meets (Builtin.«object.__getattribute__» ⟨[.ref a,.str name u],[]⟩) (fun A R s=>s.heap.get? a=some {cls:=.type "zip",dict:=none,data:=.fields xs,slots:=sl}/\raisesAttr (.ref a) name A R s):=
 Meets.of_wp fun prog w A R s hs=>by
  obtain⟨hp,g,d,tk,os⟩:=s
  obtain⟨hx,hs⟩:=hs
  repeat (any_goals (first|assumption|wp_step))
  simp only[hname,Qyz,if_false]
  repeat (any_goals (first|assumption|wp_step))
  exact wpAny_raiseAttrError hs.1 hs.2 (attrMsg_fits (by decide+kernel) hsz)
def uR{w:World}{E:QZq}{a:Addr}{sl:Array (Option Value)}
  (hx:s.heap.get? a=some {cls:=.type "zip",dict:=none,data:=.fields xs,slots:=sl})(hA:A.handled=none)
  (h:∀h' tk,(∀b o,s.heap.get? b=some o->h'.get? b=some o)->Q none {s with heap:=h',toks:=tk}):
  wpAny (model prog w) A (getAttr? (.ref a) "keys") Q E s:=by
 obtain⟨hp,g,d,tk,os⟩:=s
 have hT:∀tk',(⟨hp,g,d,tk',os⟩:Shared).TypeIs (.ref a) "zip":=fun _=>⟨_,hx,rfl⟩
 have f1:=sub_AttributeError
 have f3:=cJ.lookup
 have f4:=cJ.bind (.ref a)
 have f5:=lZ
 repeat (any_goals (first|assumption|exact hT _|((with_reducible show wpAny _ _ (call (Value.builtin "zip.__getattribute__") _ _) _ _ _);refine call_meets cJ (hT _) iw (iU _ _) (gO a xs sl "keys" _ (am_miss_of_fast (by kernel_rfl)) (by decide+kernel) (by size_fits)) ⟨hx,hA,fun h' tk' e hx'=>?_⟩)|wp_step))
 obtain⟨t',u',he⟩:=hx'.there
 unfold getattributeRaised
 repeat (any_goals (first|assumption|wp_step))
 all_goals exact h _ _ hx'.keeps
inductive D where
 |non|bl (b:Bool)|int (i:Int)|str (x:Str)
 |tup (xs:List D)|lst (xs:List D)|dq (ks:List D) (vs:List D)|lU (ks:List D) (vs:List D)
 deriving Inhabited
inductive Ob where
 |lst (xs:List D)|dct (ks vs:List D)|sdt (ks vs:List D)
 deriving Inhabited
noncomputable def Ob.d:Ob->D
 |.lst xs=>.lst xs
 |.dct ks vs=>.dq ks vs
 |.sdt ks vs=>.lU ks vs
inductive Sl where
 |un|val (d:D)|own (o:Ob)|bor (o:Ob)
 deriving Inhabited
abbrev Ev:=List Sl
inductive Rv where
 |val (d:D)|new (o:Ob)|ref (i:Nat)|tmp (o:Ob)
noncomputable def Rv.kI:Rv->Option D
 |.val d=>some d
 |.new o=>some o.d
 |_=>none
noncomputable def Rv.BJ:Rv->Option Sl
 |.val d=>some (.val d)
 |.new o=>some (.own o)
 |_=>none
def bj:List Rv->Option (List D)
 |[]=>some []
 |r::rs=>r.kI.bind fun d=>(bj rs).map (d:: ·)
inductive Out(α:Type)where
 |ok (a:α) (σ:Ev)|exc (c:Nat) (σ:Ev)|bad
noncomputable def Out.bind{α β:Type}:Out α->(α->Ev->Out β)->Out β
 |.ok a σ,f=>f a σ
 |.exc c σ,_=>.exc c σ
 |.bad,_=>.bad
noncomputable def Out.au{β:Type}:Out Rv->(D->Ev->Out β)->Out β
 |.ok (.val d) σ,f=>f d σ
 |.ok (.new o) σ,f=>f o.d σ
 |.ok _ _,_=>.bad
 |.exc c σ,_=>.exc c σ
 |.bad,_=>.bad
def Out.cM{β:Type}(tr:D->Option Bool)(r:Out Rv)(f:Bool->Ev->Out β):Out β:=
 r.au fun d σ=>match tr d with|some b=>f b σ|none=>.bad
noncomputable def Out.map{α β:Type}(g:α->β):Out α->Out β
 |.ok a σ=>.ok (g a) σ
 |.exc c σ=>.exc c σ
 |.bad=>.bad
def lift{α:Type}(σ:Ev):Option α->Out α
 |some a=>.ok a σ
 |none=>.bad
inductive Zg where
 |add|sub|mul|mod|fdiv|pow
 deriving DecidableEq
inductive Cm where
 |eq|ne|lt|le|gt|ge|isin|notin|nD|notN
 deriving DecidableEq
inductive Ty where
 |tup|lst|str|bool|int|dq
 deriving DecidableEq
inductive Bi where
 |all|any|tuple|list|sorted|int|dict|len|copy
 deriving DecidableEq
inductive Tg where
 |name (i:Nat)|tup (is:List Nat)
inductive E where
 |var (i:Nat)|con (d:D)|glob (k:Nat)
 |nil|cons (h t:E)
 |tup (es:E)|lis (es:E)
 |op (o:Zg) (a b:E)|neg (a:E)|cmp (o:Cm) (a b:E)|chain (υ ψ:Cm) (a b c:E)
 |and (es:E)|or (es:E)|not (a:E)|ite (c a b:E)
 |idx (a i:E)|slc (a lo hi:E)|noneE
 |call (f:Nat) (args:E)|ref (i:Nat)|tmp (e:E)|rd (e:E)
 |isi (a:E) (t:Ty)|bi (b:Bi) (a:E)
 |range1 (a:E)|zip (a b:E)
 |count (a b:E)|popAt (i:Nat) (a:E)
 |get2 (d k x:E)|dsp (es:E)|emp
 |comp (nl:Nat) (tg:Tg) (it:E) (cond:E) (elt:E)
inductive S where
 |nil|cons (h t:S)
 |set (i:Nat) (e:E)|setT (is:List Nat) (e:E)|setIx (i:Nat) (ix e:E)
 |expr (e:E)|append (i:Nat) (e:E)
 |ret (e:E)|ite (c:E) (a b:S)|callx (f:Nat) (args:E)
 |for_ (tg:Tg) (it:E) (b:S)|while_ (c:E) (b:S)
 |raise (c:Nat)|pass|brk|cont
abbrev AAG:E:=.con (.int 1)
abbrev AAH:E:=.con (.bl true)
abbrev AAL:E:=.con (.int 0)
abbrev AAP:E:=.con (.int 2)
abbrev AAQ:S:=.cons (.ret (.con (.bl false))) .nil
abbrev AAR:E:=.cons (.con (.str "same")) (.cons (.con (.str "not")) .nil)
abbrev AAS:E:=.cmp .ne (.call 15 (.cons (.var 1) (.cons (.idx (.var 4) (.var 0)) (.cons (.var 4) .nil)))) (.idx (.var 4) (.var 0))
abbrev AAT:E:=.cons (.var 1) .nil
abbrev AAV:E:=.cons (.con (.int 3)) .nil
abbrev AAX:E:=.cons (.var 0) .nil
abbrev AAZ:E:=.cons (.var 3) .nil
abbrev AAa:E:=.cons (.var 2) .nil
abbrev AAb:E:=.call 29 (.cons (.var 0) (.cons (.ref 1) (.cons AAP .nil)))
abbrev AAc:E:=.idx (.var 0) AAG
abbrev AAd:S:=.cons (.append 3 (.tup (.cons (.idx (.var 2) (.var 4)) (.cons (.tup (.cons (.con (.str "held")) (.cons (.tup (.cons (.con (.str "same")) (.cons (.idx (.var 2) (.op .sub (.var 4) AAG)) .nil))) (.cons (.idx (.var 2) (.op .mod (.op .add (.var 4) AAG) (.bi .len (.var 2)))) (.cons (.con (.bl false)) .nil))))) .nil)))) .nil
abbrev AAe:E:=.cmp .eq (.call 29 (.cons (.var 1) (.cons (.ref 2) (.cons AAP .nil)))) AAG
abbrev AAf:E:=.idx (.var 0) AAL
abbrev AAg:S:=.cons (.append 5 (.tup (.cons (.var 6) (.cons (.tup (.cons (.idx (.lis AAR) (.var 7)) AAZ)) .nil)))) (.cons (.append 4 (.cmp .eq (.idx (.var 4) (.neg AAG)) (.cmp .eq (.var 7) AAL))) (.cons (.set 3 (.var 6)) .nil))
abbrev AAh:E:=.idx (.var 2) AAG
abbrev AAi:E:=.call 3 (.cons (.var 0) (.cons AAP (.cons AAP .nil)))
abbrev AAj:E:=.call 28 (.cons (.var 1) (.cons (.var 0) (.cons (.con (.int 9)) .nil)))
abbrev AAk:E:=.cons (.con (.str "p")) (.cons (.con (.str "q")) (.cons (.con (.str "rr")) (.cons (.con (.str "go")) (.cons (.con (.str "abcdef")) .nil))))
abbrev AAl:E:=.idx (.var 0) AAP
abbrev AAm:E:=.cons (.var 0) (.cons (.get2 (.var 2) (.var 0) (.var 3)) .nil)
abbrev AAn:E:=.and (.cons (.cmp .gt (.bi .len (.var 5)) (.var 3)) (.cons (.or (.cons (.cmp .gt (.bi .len (.var 5)) (.var 4)) (.cons (.cmp .eq AAb AAG) .nil))) .nil))
abbrev AAo:S:=.cons (.ret (.or (.cons (.bi .all (.var 4)) (.cons (.and (.cons (.var 1) (.cons (.bi .any (.var 4)) .nil))) .nil)))) .nil
abbrev AAp:E:=.cmp .gt (.call 29 (.cons (.var 1) (.cons (.ref 2) AAV))) AAL
abbrev AAq:E:=.comp 1 (.name 0) (.idx (.var 1) AAG) AAH (.call 19 (.cons (.var 0) (.cons (.var 4) (.cons (.bi .len AAh) .nil))))
abbrev AAr:E:=.con (.str "a")
abbrev AAs:S:=.cons (.expr (.popAt 5 (.call 29 (.cons (.var 0) (.cons (.ref 1) (.cons (.bi .len (.var 5)) .nil)))))) .nil
abbrev AAt:E:=.cons (.var 0) (.cons (.call 32 (.cons (.var 1) (.cons (.ref 2) (.cons (.var 7) (.cons AAG .nil))))) .nil)
abbrev AAu:S:=.set 4 (.op .add AAG (.call 28 (.cons (.var 0) (.cons (.con (.int 9)) (.cons (.con (.int 11)) .nil)))))
abbrev AAv:E:=.cons (.con (.int 4)) .nil
abbrev AAw:E:=.comp 1 (.name 0) (.var 0) AAH (.call 4 (.cons AAc (.cons AAL (.cons (.op .sub (.var 3) AAG) .nil))))
abbrev AAx:E:=.idx (.var 2) AAL
abbrev AAy:E:=.cons (.var 0) (.cons AAG (.cons (.glob 9) .nil))
abbrev AAz:E:=.comp 2 (.tup [0,1]) (.zip (.var 0) (.slc (.var 0) AAG .noneE)) AAH (.cmp .lt (.var 0) (.var 1))
abbrev ABG:S:=.setT [6,7] (.call 41 (.cons (.var 1) (.cons (.var 2) (.cons (.var 3) (.cons (.var 5) .nil)))))
abbrev ABH:E:=.cons (.var 0) (.cons (.call 29 (.cons (.var 1) (.cons (.ref 2) (.cons (.var 6) .nil)))) .nil)
abbrev ABI:E:=.idx (.var 2) (.call 29 (.cons (.var 0) (.cons (.ref 1) (.cons (.bi .len (.var 2)) .nil))))
abbrev ABJ:E:=.comp 2 (.tup [0,1]) AAc AAH (.call 11 (.cons (.var 1) (.cons (.var 3) (.cons AAL .nil))))
abbrev ABK:S:=.set 5 (.call 28 (.cons (.var 0) (.cons (.con (.int 10)) (.cons (.con (.int 60)) .nil))))
abbrev ABL:E:=.con (.str "both")
abbrev ABM:E:=.zip (.call 13 AAX) (.var 1)
abbrev ABN:E:=.cmp .eq (.var 3) (.con (.str "table"))
abbrev ABO:E:=.cons (.op .mul (.var 0) (.var 6)) AAT
abbrev ABP:E:=.cmp .eq (.var 3) (.con (.str "held"))
abbrev ABQ:E:=.cmp .eq (.call 29 (.cons (.var 0) (.cons (.ref 2) (.cons AAP .nil)))) AAG
abbrev ABR:E:=.con (.int 3)
abbrev ABS:E:=.comp 1 (.name 0) (.var 0) AAH (.cmp .eq (.count (.var 1) (.var 0)) AAG)
abbrev ABT:E:=.cons (.var 0) (.cons (.ref 2) .nil)
abbrev ABU:E:=.con (.str "b")
abbrev ABV:S:=.setT [1,2] (.call 39 (.cons (.var 0) (.cons (.con (.int 12)) .nil)))
abbrev ABW:S:=.cons (.ret (.call 16 (.cons (.var 0) (.cons (.var 1) AAa)))) .nil
abbrev ABX:E:=.con (.str "and")
abbrev ABY:E:=.bi .len (.var 0)
abbrev ABZ:E:=.op .add AAG (.call 29 (.cons (.var 0) (.cons (.ref 1) AAZ)))
abbrev ABa:S:=.cons (.raise 0) .nil
abbrev ABb:E:=.con (.str "or")
abbrev ABc:E:=.comp 1 (.name 0) (.var 0) AAH (.call 8 (.cons (.var 0) AAa))
abbrev ABd:E:=.comp 1 (.name 0) (.var 0) AAH (.call 7 (.cons (.var 0) AAa))
abbrev ABe:E:=.cons (.bi .len (.var 1)) .nil
abbrev ABf:E:=.con (.str "q")
abbrev ABg:E:=.con (.str "p")
abbrev ABh:E:=.bi .tuple (.var 5)
abbrev ABi:E:=.bi .len (.idx (.var 1) AAP)
abbrev ABj:E:=.not (.call 3 (.cons (.var 2) (.cons (.var 3) AAZ)))
abbrev ABk:E:=.con (.str "same")
abbrev ABl:E:=.comp 1 (.name 0) (.var 0) AAH (.isi (.var 0) .bool)
abbrev ABm:E:=.cmp .eq (.var 0) (.var 4)
abbrev ABn:E:=.idx (.var 2) AAc
abbrev ABo:E:=.idx (.var 1) AAL
abbrev ABp:E:=.idx (.var 1) AAG
abbrev ABq:E:=.cmp .eq AAb AAG
abbrev ABr:E:=.comp 1 (.name 0) (.var 1) AAH (.call 5 AAX)
abbrev ABs:S:=.cons (.ret (.cmp .isin (.var 4) AAl)) .nil
abbrev ABt:E:=.op .add AAx (.var 4)
abbrev ABu:E:=.cmp .eq (.var 4) AAP
abbrev ABv:E:=.cons AAL .nil
abbrev ABw:E:=.cons AAG .nil
abbrev ABx:S:=.expr (.call 17 (.cons (.var 0) AAT))
abbrev ABy:E:=.cons (.var 5) .nil
abbrev ABz:S:=.cons (.ret (.bi .any (.var 4))) .nil
abbrev ACG:S:=.cons (.ret (.bi .all (.var 4))) .nil
abbrev ACH:E:=.cmp .eq (.var 3) (.con (.str "not"))
abbrev ACI:S:=.set 6 (.op .add (.var 4) (.var 5))
abbrev ACJ:E:=.cons (.op .add (.var 2) AAG) .nil
abbrev ACL:E:=.comp 1 (.name 0) (.var 0) AAH AAi
abbrev ACM:E:=.bi .len (.var 2)
abbrev ACN:S:=.ret (.con .non)
def small(i:Int):Bool:=decide (-18446744073709551616<i/\i<18446744073709551616)
def Gd(i:Int):Bool:=decide (-4611686018427387904<=i/\i<4611686018427387904)
def fits(n:Nat):Bool:=decide (n<=16777216)
def b2i(b:Bool):Int:=if b then 1 else 0
def ix?(n:Nat)(i:Int):Option Nat:=
 let j:=if i<0 then i+n else i
 if 0<=j/\j<n then some j.toNat else none
def at?(xs:List D)(i:Int):Option D:=(ix? xs.length i).bind fun k=>xs[k]?
def clip(n:Nat)(i:Int):Nat:=
 let j:=if i<0 then i+n else i
 if j<0 then 0 else if j>n then n else j.toNat
noncomputable def cut(xs:List D)(lo hi:Option Int):List D:=
 let a:=match lo with|some i=>clip xs.length i|none=>0
 let b:=match hi with|some i=>clip xs.length i|none=>xs.length
 (xs.take b).drop a
mutual
def gH:D->D->Bool
 |.non,.non=>true
 |.bl a,.bl b=>a==b
 |.bl a,.int j=>b2i a==j
 |.int i,.bl b=>i==b2i b
 |.int i,.int j=>i==j
 |.str x,.str y=>decide (x=y)
 |.tup xs,.tup ys=>pC xs ys
 |.lst xs,.lst ys=>pC xs ys
 |_,_=>false
def pC:List D->List D->Bool
 |[],[]=>true
 |x::xs,y::ys=>gH x y&&pC xs ys
 |_,_=>false
end
mutual
def dep:D->Nat
 |.tup xs=>lY xs+1
 |.lst xs=>lY xs+1
 |_=>0
def lY:List D->Nat
 |[]=>0
 |x::xs=>max (dep x) (lY xs)
end
def WD(x:Str):Bool:=x.cps.all fun c=>decide (c<128)
mutual
def nd:D->Bool
 |.str x=>WD x
 |.tup xs=>mU xs
 |.lst xs=>mU xs
 |.dq _ _=>false
 |.lU _ _=>false
 |_=>true
def mU:List D->Bool
 |[]=>true
 |x::xs=>nd x&&mU xs
end
noncomputable def flat:D->Bool
 |.non=>true
 |.bl _=>true
 |.int _=>true
 |.str _=>true
 |_=>false
def ud(a b:D):Bool:=(flat a&&flat b)||(nd a&&decide (dep a<=50)&&nd b)
def jQ(a:D)(xs:List D):Bool:=(flat a&&xs.all flat)||(nd a&&decide (dep a<=50)&&mU xs)
def cF(x:D):List D->Bool
 |[]=>false
 |y::ys=>gH y x||cF x ys
def ik(x:D):List D->Nat
 |[]=>0
 |y::ys=>(if gH y x then 1 else 0)+ik x ys
noncomputable def lV:List Bool->List Bool->Bool
 |[],[]=>false
 |[],_::_=>true
 |_::_,[]=>false
 |x::xs,y::ys=>if x=y then lV xs ys else(!x&&y)
noncomputable def bools:List D->Option (List Bool)
 |[]=>some []
 |.bl b::r=>(bools r).map (b:: ·)
 |_=>none
def z8:D->Bool
 |.tup [.tup bs,.int _]=>(bools bs).isSome
 |_=>false
noncomputable def ltD:D->D->Option Bool
 |.int i,.int j=>some (decide (i<j))
 |.tup xs,.tup ys=>(bools xs).bind fun a=>(bools ys).map fun b=>lV a b
 |_,_=>none
noncomputable def jk:D->Option Bool
 |.non=>some false
 |.bl b=>some b
 |.int i=>some (i !=0)
 |.tup xs=>some (!xs.isEmpty)
 |.lst xs=>some (!xs.isEmpty)
 |_=>none
noncomputable def tL:Ty->D->Bool
 |.tup,.tup _=>true
 |.lst,.lst _=>true
 |.str,.str _=>true
 |.bool,.bl _=>true
 |.int,.int _=>true
 |.int,.bl _=>true
 |.dq,.dq _ _=>true
 |.dq,.lU _ _=>true
 |_,_=>false
def dH(k:D):List D->List D->Option D
 |k'::ks,v::vs=>if gH k' k then some v else dH k ks vs
 |_,_=>none
noncomputable def keyOk:D->Bool
 |.str _=>true
 |.int _=>true
 |_=>false
def signs(x:Str):List D:=x.cps.toList.map fun c=>D.str ⟨#[c]⟩
noncomputable def items:D->Option (List D)
 |.tup xs=>some xs
 |.lst xs=>some xs
 |.str x=>if fits x.length then some (signs x)else none
 |_=>none
noncomputable def binop:Zg->D->D->Option Rv
 |.add,.int i,.int j=>some (.val (.int (i+j)))
 |.sub,.int i,.int j=>some (.val (.int (i-j)))
 |.mul,.int i,.int j=>if small i||small j then some (.val (.int (i*j)))else none
 |.mod,.int i,.int j=>if 0<j then some (.val (.int (i%j)))else none
 |.fdiv,.int i,.int j=>if 0<j/\j<1073741824 then some (.val (.int (i/j)))else none
 |.pow,.int i,.int j=>if 0<=j/\j<=64/\small i=true then some (.val (.int (i ^j.toNat)))else none
 |.add,.tup xs,.tup ys=>if fits (xs.length+ys.length)then some (.val (.tup (xs++ys)))else none
 |.add,.lst xs,.lst ys=>if fits (xs.length+ys.length)then some (.new (.lst (xs++ys)))else none
 |_,_,_=>none
def gG:D->Bool
 |.non=>true
 |_=>false
noncomputable def aK:Cm->D->D->Option Bool
 |.eq,a,b=>if ud a b then some (gH a b)else none
 |.ne,a,b=>if ud a b then some (!gH a b)else none
 |.lt,a,b=>ltD a b
 |.gt,.int i,.int j=>some (decide (j<i))
 |.le,.int i,.int j=>some (decide (i<=j))
 |.ge,.int i,.int j=>some (decide (j<=i))
 |.isin,a,.tup xs=>if jQ a xs then some (cF a xs)else none
 |.isin,a,.lst xs=>if jQ a xs then some (cF a xs)else none
 |.isin,a,.dq ks _=>if keyOk a then some (cF a ks)else none
 |.isin,a,.lU ks _=>if z8 a then some (cF a ks)else none
 |.isin,.str x,.str y=>if x.length=1 then some (cF (.str x) (signs y))else none
 |.notin,a,.tup xs=>if jQ a xs then some (!cF a xs)else none
 |.notin,a,.lst xs=>if jQ a xs then some (!cF a xs)else none
 |.notin,a,.dq ks _=>if keyOk a then some (!cF a ks)else none
 |.notin,a,.lU ks _=>if z8 a then some (!cF a ks)else none
 |.nD,a,.non=>some (gG a)
 |.notN,a,.non=>some (!gG a)
 |_,_,_=>none
noncomputable def jM:List D->Option (List (List Bool))
 |[]=>some []
 |.tup ys::r=>match bools ys with
  |some (b::bs)=>(jM r).map ((b::bs):: ·)
  |_=>none
 |_=>none
noncomputable def KZ{α:Type}(f:Nat->Nat->Option Bool):PySem.W.KasT α->Option α
 |.ret a=>some a
 |.ask i j k=>match f i j with
  |some b=>KZ f (k b)
  |none=>none
def acv(rs:List (List Bool))(i j:Nat):Option Bool:=(rs[i]?).bind fun a=>(rs[j]?).map fun b=>lV a b
def tW(xs:List D):List Nat->Option (List D)
 |[]=>some []
 |i::is=>(xs[i]?).bind fun d=>(tW xs is).map (d:: ·)
def acu(xs:List D):Option (Nat->Nat->Option Bool):=match jM xs with
 |some rs=>some (acv rs)
 |none=>none
noncomputable def pU(xs:List D):Option (List D):=
 if xs.length<2 then some xs
 else if xs.length<64 then(acu xs).bind fun f=>(KZ f (PySem.W.kas_sort xs.length)).bind fun p=>if p.size=xs.length then tW xs p.toList else none
 else none
def vD(k v:D):List D->List D->List D
 |k'::ks,v'::vs=>(if gH k' k then v else v')::vD k v ks vs
 |_,_=>[]
def putD(k v:D)(ks vs:List D):List D×List D:=if cF k ks then(ks,vD k v ks vs)else(ks++[k],vs++[v])
noncomputable def dictOf:List D->List D->List D->Option (List D×List D)
 |ks,vs,[]=>some (ks,vs)
 |ks,vs,.tup [k,v]::r=>if keyOk k then let p:=putD k v ks vs;dictOf p.1 p.2 r else none
 |_,_,_=>none
def aP:List D->List D->List D
 |x::xs,y::ys=>.tup [x,y]::aP xs ys
 |_,_=>[]
def cV(lo:Int):Nat->List D
 |0=>[]
 |n+1=>.int lo::cV (lo+1) n
noncomputable def TJ:Bi->List D->Option Rv
 |.all,xs=>(bools xs).map fun bs=>.val (.bl (bs.all id))
 |.any,xs=>(bools xs).map fun bs=>.val (.bl (bs.any id))
 |.tuple,xs=>some (.val (.tup xs))
 |.list,xs=>some (.new (.lst xs))
 |.sorted,xs=>(pU xs).map fun ys=>.new (.lst ys)
 |.dict,xs=>(dictOf [] [] xs).map fun p=>.new (.dct p.1 p.2)
 |.len,_=>none
 |.int,_=>none
 |.copy,_=>none
def E.aB:E->Option Nat
 |.var i=>some i
 |_=>none
noncomputable def rZ(i:Nat)(σ:Ev):Out Rv:=
 match σ[i]? with
 |some (.val d)=>.ok (.val d) σ
 |some (.own o)=>.ok (.val o.d) (σ.set i (.val o.d))
 |_=>.bad
noncomputable def bf(i:Nat)(σ:Ev):Option D:=
 match σ[i]? with
 |some (.val d)=>some d
 |some (.own o)=>some o.d
 |some (.bor o)=>some o.d
 |_=>none
noncomputable def zT:D->Option Nat
 |.tup xs=>some xs.length
 |.lst xs=>some xs.length
 |.str x=>if fits x.length then some x.length else none
 |.dq ks _=>some ks.length
 |_=>none
noncomputable def getD(d:D)(i:D):Option D:=
 match d,i with
 |.tup xs,.int i=>at? xs i
 |.lst xs,.int i=>at? xs i
 |.dq ks vs,k=>if keyOk k then dH k ks vs else none
 |.lU ks vs,k=>if z8 k then dH k ks vs else none
 |_,_=>none
noncomputable def jX(d:D)(lo hi:Option Int):Option Rv:=
 match d with
 |.tup xs=>some (.val (.tup (cut xs lo hi)))
 |.lst xs=>some (.new (.lst (cut xs lo hi)))
 |_=>none
noncomputable def fj(nD:Bool)(d:D):Option (Option Int):=
 match nD,d with
 |true,_=>some none
 |false,.int i=>some (some i)
 |_,_=>none
def E.nD:E->Bool
 |.noneE=>true
 |_=>false
noncomputable def fP(i:Nat)(s:Sl)(σ:Ev):Option Ev:=
 match σ[i]? with
 |some (.bor _)=>none
 |some _=>some (σ.set i s)
 |none=>none
noncomputable def mC:List Nat->List D->Ev->Option Ev
 |[],[],σ=>some σ
 |i::is,d::ds,σ=>(fP i (.val d) σ).bind (mC is ds)
 |_,_,_=>none
noncomputable def eE:Tg->D->Ev->Option Ev
 |.name i,d,σ=>fP i (.val d) σ
 |.tup is,.tup ds,σ=>mC is ds σ
 |_,_,_=>none
noncomputable def fM(i:Nat)(f:Ob->Option Ob)(σ:Ev):Option Ev:=
 match σ[i]? with
 |some (.own o)=>(f o).map fun q=>σ.set i (.own q)
 |some (.bor o)=>(f o).map fun q=>σ.set i (.bor q)
 |_=>none
def Iu(f:List D->Option (List D)):Ob->Option Ob
 |.lst xs=>(f xs).map .lst
 |_=>none
noncomputable def Ck(i v:D):Ob->Option Ob
 |.lst xs=>match i with
  |.int i=>(ix? xs.length i).map fun j=>.lst (xs.set j v)
  |_=>none
 |.dct ks vs=>if keyOk i&&fits (ks.length+1)then let p:=putD i v ks vs;some (.dct p.1 p.2)else none
 |.sdt ks vs=>if z8 i&&fits (ks.length+1)then let p:=putD i v ks vs;some (.sdt p.1 p.2)else none
inductive Res where
 |ok (r:Rv) (ps:List Sl)|exc (c:Nat) (ps:List Sl)|bad
structure Cf where
 fn:Nat->List Sl->Res
 gl:Nat->Option D
 turns:Nat
def jA(i:Nat):Rv->Bool
 |.ref j=>i==j
 |_=>false
def z7:Rv->Bool
 |.tmp _=>true
 |_=>false
def argv:Rv->Rv
 |.new o=>.val o.d
 |x=>x
noncomputable def enter:List Rv->Ev->Option (List Sl)
 |[],_=>some []
 |.val d::as,σ=>(enter as σ).map (.val d:: ·)
 |.new _::_,_=>none
 |.tmp o::as,σ=>if as.any z7 then none else(enter as σ).map (.bor o:: ·)
 |.ref i::as,σ=>
  if as.any (jA i)then none else
  match σ[i]? with
  |some (.own o)=>(enter as σ).map (.bor o:: ·)
  |some (.bor o)=>(enter as σ).map (.bor o:: ·)
  |_=>none
noncomputable def giveBack:List Rv->List Sl->Ev->Option Ev
 |[],[],σ=>some σ
 |.ref i::as,.bor o::ps,σ=>(fM i (fun _=>some o) σ).bind (giveBack as ps)
 |.ref _::_,_::_,_=>none
 |_::as,_::ps,σ=>giveBack as ps σ
 |_,_,_=>none
noncomputable def uo(c:Cf)(f:Nat)(as:List Rv)(σ:Ev):Out Rv:=
 match enter as σ with
 |none=>.bad
 |some ps=>
  match c.fn f ps with
  |.ok r qs=>match giveBack as qs σ with|some ζ=>.ok r ζ|none=>.bad
  |_=>.bad
noncomputable def aN(tg:Tg)(cond elt:Ev->Out Rv):List D->List D->Ev->Out (List D)
 |[],acc,σ=>.ok acc σ
 |x::xs,acc,σ=>
  match eE tg x σ with
  |none=>.bad
  |some σ₁=>(cond σ₁).cM jk fun b σ₂=>
   if b then(elt σ₂).au fun d σ₃=>aN tg cond elt xs (acc++[d]) σ₃
   else aN tg cond elt xs acc σ₂
def ig:Option D->Bool
 |some (.lst _)=>true
 |_=>false
def zO:D->Option (List D)
 |.lst xs=>some xs
 |_=>none
noncomputable def sH(k:Nat)(y:D)(σ:Ev):Out Rv:=
 match y,bf k σ with
 |.int i,some (.lst xs)=>if !fits xs.length then .bad else match ix? xs.length i with
  |some j=>match xs[j]?,fM k (Iu fun xs=>some (xs.eraseIdx j)) σ with
   |some d,some ζ=>.ok (.val d) ζ
   |_,_=>.bad
  |none=>.bad
 |_,_=>.bad
def tR:Option D->Bool
 |some (.dq _ _)=>true
 |_=>false
noncomputable def DG(x y:D):Option Rv:=
 match x with
 |.tup xs=>if flat y&&xs.all flat then some (.val (.int (ik y xs)))else none
 |.lst xs=>if flat y&&xs.all flat then some (.val (.int (ik y xs)))else none
 |_=>none
noncomputable def qg(d k x:D):Option D:=
 match d with
 |.dq ks vs=>if keyOk k then some ((dH k ks vs).getD x)else none
 |_=>none
def Tj:List D->Option Rv
 |[k,v]=>if z8 k then some (.new (.sdt [k] [v]))else none
 |_=>none
def Tp(ds:List D):Option Rv:=if ds.length<=30&& !ds.isEmpty then Tj ds else none
noncomputable def bH:D->Option (List D)
 |.tup xs=>some xs
 |.lst xs=>some xs
 |_=>none
def Kz:D->Option (List D)
 |.lU ks _=>some ks
 |x=>bH x
noncomputable def b1(b:Bi)(x:D):Option Rv:=
 match b with
 |.list=>(Kz x).bind (TJ .list)
 |.len=>(zT x).map fun n=>.val (.int n)
 |.int=>match x with|.bl b=>some (.val (.int (b2i b)))|.int i=>some (.val (.int i))|_=>none
 |.sorted=>(zO x).bind (TJ .sorted)
 |.copy=>match x with|.dq ks vs=>some (.new (.dct ks vs))|_=>none
 |b=>(bH x).bind (TJ b)
mutual
noncomputable def ev(c:Cf):E->Ev->Out Rv
 |.var i,σ=>rZ i σ
 |.con d,σ=>.ok (.val d) σ
 |.glob k,σ=>match c.gl k with|some d=>.ok (.val d) σ|none=>.bad
 |.tup es,σ=>(evs c es σ).bind fun rs σ=>lift σ ((bj rs).bind fun ds=>if fits ds.length then some (.val (.tup ds))else none)
 |.lis es,σ=>(evs c es σ).bind fun rs σ=>lift σ ((bj rs).bind fun ds=>if fits ds.length then some (.new (.lst ds))else none)
 |.op o a b,σ=>(ev c a σ).au fun x σ=>(ev c b σ).au fun y σ=>lift σ (binop o x y)
 |.neg a,σ=>(ev c a σ).au fun x σ=>lift σ (match x with|.int i=>some (.val (.int (-i)))|_=>none)
 |.cmp o a b,σ=>(ev c a σ).au fun x σ=>match b.aB with
  |some k=>lift σ ((bf k σ).bind fun d=>(aK o x d).map fun q=>.val (.bl q))
  |none=>(ev c b σ).au fun y σ=>lift σ ((aK o x y).map fun q=>.val (.bl q))
 |.chain υ ψ a b d,σ=>(ev c a σ).au fun x σ=>(ev c b σ).au fun y σ=>(lift σ (aK υ x y)).bind fun q σ=>
   if q then(ev c d σ).au fun z σ=>lift σ ((aK ψ y z).map fun q=>.val (.bl q))else .ok (.val (.bl false)) σ
 |.and es,σ=>iD c es σ
 |.or es,σ=>oh c es σ
 |.not a,σ=>(ev c a σ).cM jk fun b σ=>.ok (.val (.bl (!b))) σ
 |.ite t a b,σ=>(ev c t σ).cM jk fun q σ=>if q then ev c a σ else ev c b σ
 |.idx a i,σ=>match a.aB with
  |some k=>if (bf k σ).isNone then .bad else(ev c i σ).au fun y σ=>lift σ ((bf k σ).bind fun d=>(getD d y).map Rv.val)
  |none=>(ev c a σ).au fun x σ=>(ev c i σ).au fun y σ=>lift σ ((getD x y).map Rv.val)
 |.slc a lo hi,σ=>(ev c a σ).au fun x σ=>(ev c lo σ).au fun l σ=>match fj lo.nD l with
  |none=>.bad
  |some l=>(ev c hi σ).au fun h σ=>lift σ ((fj hi.nD h).bind fun h=>jX x l h)
 |.noneE,σ=>.ok (.val .non) σ
 |.call f as,σ=>(evs c as σ).bind fun as σ=>uo c f as σ
 |.ref i,σ=>match σ[i]? with
  |some (.own _)=>.ok (.ref i) σ
  |some (.bor _)=>.ok (.ref i) σ
  |_=>.bad
 |.rd e,σ=>ev c e σ
 |.tmp e,σ=>(ev c e σ).bind fun x σ=>lift σ (match x with|.new o=>some (.tmp o)|_=>none)
 |.isi a t,σ=>(ev c a σ).au fun x σ=>.ok (.val (.bl (tL t x))) σ
 |.bi b a,σ=>match a.aB with
  |some k=>lift σ ((bf k σ).bind fun d=>b1 b d)
  |none=>(ev c a σ).au fun x σ=>lift σ (b1 b x)
 |.range1 a,σ=>(ev c a σ).au fun x σ=>lift σ (match x with|.int n=>if fits n.toNat&&Gd n then some (.val (.lst (cV 0 n.toNat)))else none|_=>none)
 |.zip a b,σ=>(ev c a σ).au fun x σ=>(ev c b σ).au fun y σ=>lift σ ((bH x).bind fun xs=>(bH y).map fun ys=>.val (.lst (aP xs ys)))
 |.count a b,σ=>(ev c a σ).au fun x σ=>if (bH x).isNone then .bad else(ev c b σ).au fun y σ=>lift σ (DG x y)
 |.popAt k a,σ=>if !ig (bf k σ)then .bad else(ev c a σ).au fun y σ=>sH k y σ
 |.get2 d k x,σ=>match d.aB with
  |some i=>if !tR (bf i σ)then .bad else(ev c k σ).au fun k σ=>(ev c x σ).au fun x σ=>lift σ ((bf i σ).bind fun y=>(qg y k x).map Rv.val)
  |none=>.bad
 |.dsp es,σ=>(evs c es σ).bind fun rs σ=>lift σ ((bj rs).bind Tp)
 |.emp,σ=>.ok (.new (.dct [] [])) σ
 |.comp nl tg it cond elt,σ=>(ev c it σ).au fun x σ=>match items x with
  |some xs=>match aN tg (ev c cond) (ev c elt) xs [] (List.replicate nl .un++σ)with
   |.ok ys τ=>.ok (.new (.lst ys)) (τ.drop nl)
   |_=>.bad
  |none=>.bad
 |.nil,_=>.bad
 |.cons _ _,_=>.bad
noncomputable def iD(c:Cf):E->Ev->Out Rv
 |.cons h t,σ=>match t with
  |.nil=>ev c h σ
  |t=>(ev c h σ).au fun x σ=>match x with|.bl true=>iD c t σ|.bl false=>.ok (.val (.bl false)) σ|_=>.bad
 |_,_=>.bad
noncomputable def oh(c:Cf):E->Ev->Out Rv
 |.cons h t,σ=>match t with
  |.nil=>ev c h σ
  |t=>(ev c h σ).au fun x σ=>match x with|.bl true=>.ok (.val (.bl true)) σ|.bl false=>oh c t σ|_=>.bad
 |_,_=>.bad
noncomputable def evs(c:Cf):E->Ev->Out (List Rv)
 |.nil,σ=>.ok [] σ
 |.cons h t,σ=>(ev c h σ).bind fun x σ=>(evs c t σ).bind fun xs σ=>.ok (argv x::xs) σ
 |_,_=>.bad
end
inductive Fl where
 |next (σ:Ev)|ret (r:Rv) (σ:Ev)|brk (σ:Ev)|cont (σ:Ev)|exc (k:Nat) (σ:Ev)|bad
noncomputable def Out.fl{α:Type}:Out α->(α->Ev->Fl)->Fl
 |.ok a σ,f=>f a σ
 |.exc k σ,_=>.exc k σ
 |.bad,_=>.bad
noncomputable def Out.qG:Out Rv->(D->Ev->Fl)->Fl
 |.ok (.val d) σ,f=>f d σ
 |.ok (.new o) σ,f=>f o.d σ
 |.ok _ _,_=>.bad
 |.exc k σ,_=>.exc k σ
 |.bad,_=>.bad
def Out.Oj(r:Out Rv)(f:Bool->Ev->Fl):Fl:=r.qG fun d σ=>match jk d with|some b=>f b σ|none=>.bad
noncomputable def w6:Rv->Ev->Fl
 |.val d,σ=>.ret (.val d) σ
 |.new o,σ=>.ret (.new o) σ
 |_,_=>.bad
def Fl.seq:Fl->(Ev->Fl)->Fl
 |.next σ,f=>f σ
 |r,_=>r
noncomputable def Fl.turn:Fl->(Ev->Fl)->Fl
 |.next σ,f=>f σ
 |.cont σ,f=>f σ
 |.brk σ,_=>.next σ
 |r,_=>r
noncomputable def eY(tg:Tg)(b:Ev->Fl):List D->Ev->Fl
 |[],σ=>.next σ
 |x::xs,σ=>match eE tg x σ with
  |none=>.bad
  |some σ₁=>(b σ₁).turn (eY tg b xs)
def gh(t:Ev->Out Rv)(b:Ev->Fl):Nat->Ev->Fl
 |0,_=>.bad
 |n+1,σ=>(t σ).Oj fun q σ=>if q then(b σ).turn (gh t b n)else .next σ
def Iw:Option Ev->Fl
 |some σ=>.next σ
 |none=>.bad
noncomputable def ack(c:Cf)(f:Nat)(as:List Rv)(σ:Ev):Fl:=
 match enter as σ with
 |none=>.bad
 |some ps=>
  match c.fn f ps with
  |.ok _ qs=>Iw (giveBack as qs σ)
  |.exc k qs=>match giveBack as qs σ with|some ζ=>.exc k ζ|none=>.bad
  |.bad=>.bad
noncomputable def ex(c:Cf):S->Ev->Fl
 |.nil,σ=>.next σ
 |.cons h t,σ=>(ex c h σ).seq (ex c t)
 |.pass,σ=>.next σ
 |.brk,σ=>.brk σ
 |.cont,σ=>.cont σ
 |.set i e,σ=>(ev c e σ).fl fun x σ=>Iw (x.BJ.bind fun s=>fP i s σ)
 |.setT is e,σ=>(ev c e σ).qG fun x σ=>Iw (eE (.tup is) x σ)
 |.setIx k ix e,σ=>(ev c e σ).qG fun x σ=>if (bf k σ).isNone then .bad else(ev c ix σ).qG fun y σ=>Iw (fM k (Ck y x) σ)
 |.expr e,σ=>(ev c e σ).qG fun _ σ=>.next σ
 |.append k e,σ=>if !ig (bf k σ)then .bad else(ev c e σ).qG fun x σ=>Iw (fM k (Iu fun xs=>if fits (xs.length+1)then some (xs++[x])else none) σ)
 |.ret e,σ=>match e.aB with
  |some i=>match σ[i]? with
   |some (.own o)=>.ret (.new o) (σ.set i .un)
   |_=>(ev c e σ).fl w6
  |none=>(ev c e σ).fl w6
 |.ite t a b,σ=>(ev c t σ).Oj fun q σ=>if q then ex c a σ else ex c b σ
 |.for_ tg it b,σ=>(ev c it σ).qG fun x σ=>match items x with
  |some xs=>eY tg (ex c b) xs σ
  |none=>.bad
 |.while_ t b,σ=>gh (ev c t) (ex c b) c.turns σ
 |.raise k,σ=>.exc k σ
 |.callx f as,σ=>(evs c as σ).fl fun as σ=>ack c f as σ
structure Fn where
 pars:Nat
 names:Nat
 body:S
noncomputable def gY(c:Cf)(f:Fn)(ps:List Sl):Res:=
 if ps.length=f.pars then
  match ex c f.body (ps++List.replicate (f.names-f.pars) .un)with
  |.next σ=>.ok (.val .non) (σ.take f.pars)
  |.ret r σ=>.ok r (σ.take f.pars)
  |.exc k σ=>.exc k (σ.take f.pars)
  |_=>.bad
 else .bad
structure Pg where
 fns:List Fn
 gl:Nat->Option D
 turns:Nat
 pf:Cf->Nat->List Sl->Res:=fun _ _ _=>.bad
noncomputable def Pg.fn(p:Pg):Nat->Nat->List Sl->Res
 |0,_,_=>.bad
 |n+1,f,ps=>match p.fns[f]? with
  |some g=>gY ⟨p.fn n,p.gl,p.turns⟩ g ps
  |none=>p.pf ⟨p.fn n,p.gl,p.turns⟩ f ps
def Pg.cf(p:Pg)(n:Nat):Cf:=⟨p.fn n,p.gl,p.turns⟩
def v_0 c(i σ):ev c (.var i) σ=rZ i σ:=rfl
def v_2 c(k σ):ev c (.glob k) σ=match c.gl k with|some d=>.ok (.val d) σ|none=>.bad:=rfl
def v_5 c(o a b σ):ev c (.op o a b) σ=(ev c a σ).au fun x σ=>(ev c b σ).au fun y σ=>lift σ (binop o x y):=rfl
def v_6 c(a σ):ev c (.neg a) σ=(ev c a σ).au fun x σ=>lift σ (match x with|.int i=>some (.val (.int (-i)))|_=>none):=rfl
theorem v_7 c(o a b σ):ev c (.cmp o a b) σ=(ev c a σ).au fun x σ=>match b.aB with
  |some k=>lift σ ((bf k σ).bind fun d=>(aK o x d).map fun q=>.val (.bl q))
  |none=>(ev c b σ).au fun y σ=>lift σ ((aK o x y).map fun q=>.val (.bl q)):=rfl
def v_9 c(es σ):ev c (.and es) σ=iD c es σ:=rfl
def QC c(es σ):ev c (.or es) σ=oh c es σ:=rfl
def aaq c(a σ):ev c (.not a) σ=(ev c a σ).cM jk fun b σ=>.ok (.val (.bl (!b))) σ:=rfl
theorem V4 c(a i σ):ev c (.idx a i) σ=match a.aB with
  |some k=>if (bf k σ).isNone then .bad else(ev c i σ).au fun y σ=>lift σ ((bf k σ).bind fun d=>(getD d y).map Rv.val)
  |none=>(ev c a σ).au fun x σ=>(ev c i σ).au fun y σ=>lift σ ((getD x y).map Rv.val):=rfl
def adY c(f as σ):ev c (.call f as) σ=(evs c as σ).bind fun as σ=>uo c f as σ:=rfl
theorem aap c(i σ):ev c (.ref i) σ=match σ[i]? with
  |some (.own _)=>.ok (.ref i) σ
  |some (.bor _)=>.ok (.ref i) σ
  |_=>.bad:=rfl
def aao c(e σ):ev c (.rd e) σ=ev c e σ:=rfl
def adX c(e σ):ev c (.tmp e) σ=(ev c e σ).bind fun x σ=>lift σ (match x with|.new o=>some (.tmp o)|_=>none):=rfl
theorem uH c(b a σ):ev c (.bi b a) σ=match a.aB with
  |some k=>lift σ ((bf k σ).bind fun d=>b1 b d)
  |none=>(ev c a σ).au fun x σ=>lift σ (b1 b x):=rfl
def adW c(a σ):ev c (.range1 a) σ=(ev c a σ).au fun x σ=>lift σ (match x with|.int n=>if fits n.toNat&&Gd n then some (.val (.lst (cV 0 n.toNat)))else none|_=>none):=rfl
def adV c(a b σ):ev c (.zip a b) σ=(ev c a σ).au fun x σ=>(ev c b σ).au fun y σ=>lift σ ((bH x).bind fun xs=>(bH y).map fun ys=>.val (.lst (aP xs ys))):=rfl
def adU c(k a σ):ev c (.popAt k a) σ=if !ig (bf k σ)then .bad else(ev c a σ).au fun y σ=>sH k y σ:=rfl
theorem rm c(nl tg it cond elt σ):ev c (.comp nl tg it cond elt) σ=(ev c it σ).au fun x σ=>match items x with
  |some xs=>match aN tg (ev c cond) (ev c elt) xs [] (List.replicate nl .un++σ)with
   |.ok ys τ=>.ok (.new (.lst ys)) (τ.drop nl)
   |_=>.bad
  |none=>.bad:=rfl
theorem V3 c(d k x σ):ev c (.get2 d k x) σ=match d.aB with
  |some i=>if !tR (bf i σ)then .bad else(ev c k σ).au fun k σ=>(ev c x σ).au fun x σ=>lift σ ((bf i σ).bind fun y=>(qg y k x).map Rv.val)
  |none=>.bad:=rfl
def adT c(es σ):ev c (.dsp es) σ=(evs c es σ).bind fun rs σ=>lift σ ((bj rs).bind Tp):=rfl
def x_0 c(σ):ex c .nil σ=.next σ:=rfl
def x_1 c(h t σ):ex c (.cons h t) σ=(ex c h σ).seq (ex c t):=rfl
def x_5 c(i e σ):ex c (.set i e) σ=(ev c e σ).fl fun x σ=>Iw (x.BJ.bind fun s=>fP i s σ):=rfl
def x_9 c(k e σ):ex c (.append k e) σ=if !ig (bf k σ)then .bad else(ev c e σ).qG fun x σ=>Iw (fM k (Iu fun xs=>if fits (xs.length+1)then some (xs++[x])else none) σ):=rfl
theorem Hq c(e σ):ex c (.ret e) σ=match e.aB with
  |some i=>match σ[i]? with
   |some (.own o)=>.ret (.new o) (σ.set i .un)
   |_=>(ev c e σ).fl w6
  |none=>(ev c e σ).fl w6:=rfl
theorem adR c(tg it b σ):ex c (.for_ tg it b) σ=(ev c it σ).qG fun x σ=>match items x with
  |some xs=>eY tg (ex c b) xs σ
  |none=>.bad:=rfl
end Mini
end
section
namespace Mini
open PySem L2
def Qh(K:QQq)(H:Hp)(a:Addr)(xs:List V):Prop:=
 (∃o,H a=some (.frz o (.lst xs)))\/
  ∃(o:Obj)(its:Array Value)(n:Nat),K.lookup a=some o/\o.cls=.type "list"/\o.dict=none/\o.data=.seq its n/\its.size<=sizeLine/\Vals xs its.toList
def Qh.sq{H:Hp}{xs:List V}(h:Qh K H a xs):lu K H a xs:=by
 rcases h with ⟨o,h⟩|h
 ·exact .inl (.inr ⟨o,h⟩)
 ·exact .inr h
def dj:Key->D
 |.inl i=>.int i
 |.inr x=>.str x
def gk(k:SK):D:=.tup [.tup (k.1.map .bl),.int k.2]
mutual
def aZ(K:QQq)(H:Hp):D->V->Prop
 |.non,v=>v=.non
 |.bl b,v=>v=.bl b
 |.int i,v=>v=.int i
 |.str x,v=>v=.str x
 |.tup ds,v=>∃a vs,v=.ref a/\jl K H a vs/\ak K H ds vs
 |.lst ds,v=>∃a vs,v=.ref a/\Qh K H a vs/\ak K H ds vs
 |.dq ks ds,v=>∃a o kvs,v=.ref a/\H a=some (.frz o (.dK kvs))/\ks=kvs.map (fun p=>dj p.1)/\ak K H ds (kvs.map (·.2))
 |.lU ks ds,v=>∃a o xs,v=.ref a/\H a=some (.frz o (.dS xs))/\ks=xs.map (fun x=>gk x.1)/\(∀x∈xs,cH K H x.1 x.2.1)/\ak K H ds (xs.map (·.2.2))
def ak(K:QQq)(H:Hp):List D->List V->Prop
 |[],vs=>vs=[]
 |d::ds,vs=>∃v r,vs=v::r/\aZ K H d v/\ak K H ds r
end
structure bM(H H':Hp):Prop where
 tups:∀b xs,H b=some (.tup xs)->H' b=some (.tup xs)
 frzs:∀b o u,H b=some (.frz o u)->H' b=some (.frz o u)
def bM.refl H:bM H H:=⟨fun _ _ h=>h,fun _ _ _ h=>h⟩
def bM.trans(a:bM H H1)(b:bM H1 H2):bM H H2:=⟨fun c xs h=>b.tups c xs (a.tups c xs h),fun c o u h=>b.frzs c o u (a.frzs c o u h)⟩
section
def bM.Hz(p:bM H H')(h:jl K H a xs):jl K H' a xs:=by
 rcases h with (h|⟨o,h⟩)|h
 ·exact .inl (.inl (p.tups _ _ h))
 ·exact .inl (.inr ⟨o,p.frzs _ _ _ h⟩)
 ·exact .inr h
def bM.YD(p:bM H H')(h:Qh K H a xs):Qh K H' a xs:=by
 rcases h with ⟨o,h⟩|h
 ·exact .inl ⟨o,p.frzs _ _ _ h⟩
 ·exact .inr h
mutual
theorem aZ.mono(p:bM H H'):∀{d:D}{v:V},aZ K H d v->aZ K H' d v
 |.non,_,h=>h
 |.bl _,_,h=>h
 |.int _,_,h=>h
 |.str _,_,h=>h
 |.tup ds,v,h=>by
  obtain⟨a,vs,e,s,l⟩:=h
  exact⟨a,vs,e,p.Hz s,ak.mono p l⟩
 |.lst ds,v,h=>by
  obtain⟨a,vs,e,s,l⟩:=h
  exact⟨a,vs,e,p.YD s,ak.mono p l⟩
 |.dq ks ds,v,h=>by
  obtain⟨a,o,kvs,e,s,k,l⟩:=h
  exact⟨a,o,kvs,e,p.frzs _ _ _ s,k,ak.mono p l⟩
 |.lU ks ds,v,h=>by
  obtain⟨a,o,xs,e,s,k,ka,l⟩:=h
  exact⟨a,o,xs,e,p.frzs _ _ _ s,k,fun x hx=>let ⟨b,q1,q2⟩:=ka x hx;⟨b,p.Hz q1,p.Hz q2⟩,ak.mono p l⟩
theorem ak.mono(p:bM H H'):∀{ds:List D}{vs:List V},ak K H ds vs->ak K H' ds vs
 |[],_,h=>by unfold ak at h⊢;exact h
 |d::ds,vs,h=>by
  obtain⟨v,r,e,s,l⟩:=h
  exact⟨v,r,e,aZ.mono p s,ak.mono p l⟩
end
def ak.bA:ak K H [] vs↔vs=[]:=by unfold ak;exact Iff.rfl
def ak.aF{ds:List D}:ak K H (d::ds) vs↔ ∃v r,vs=v::r/\aZ K H d v/\ak K H ds r:=by
 constructor
 ·intro h;unfold ak at h;exact h
 ·intro h;unfold ak;exact h
def ak.aX{ds:List D}{vs:List V}(h:aZ K H d v)(t:ak K H ds vs):ak K H (d::ds) (v::vs):=ak.aF.mpr ⟨v,vs,rfl,h,t⟩
def ak.cZ:ak K H [] []:=ak.bA.mpr rfl
theorem ak.length:∀{ds:List D}{vs:List V},ak K H ds vs->ds.length=vs.length
 |[],_,h=>by rw[ak.bA.mp h];rfl
 |d::ds,vs,h=>by
  obtain⟨v,r,rfl,_,t⟩:=ak.aF.mp h
  simp[ak.length t]
theorem ak.get:∀{ds:List D}{vs:List V}{i:Nat}{d:D},ak K H ds vs->ds[i]? =some d->∃v,vs[i]? =some v/\aZ K H d v
 |[],_,_,_,_,e=>by simp at e
 |d::ds,vs,i,d',h,e=>by
  obtain⟨v,r,rfl,hd,t⟩:=ak.aF.mp h
  cases i with
  |zero=>simp at e;subst e;exact⟨v,rfl,hd⟩
  |succ i=>obtain⟨w,q,z⟩:=ak.get t (by simpa using e);exact⟨w,by simpa using q,z⟩
theorem ak.append:∀{ds es:List D}{vs ws:List V},ak K H ds vs->ak K H es ws->ak K H (ds++es) (vs++ws)
 |[],_,_,_,h,t=>by rw[ak.bA.mp h];exact t
 |d::ds,es,vs,ws,h,t=>by
  obtain⟨v,r,rfl,hd,q⟩:=ak.aF.mp h
  exact ak.aX hd (ak.append q t)
theorem ak.take:∀{ds:List D}{vs:List V}(n:Nat),ak K H ds vs->ak K H (ds.take n) (vs.take n)
 |_,_,0=>fun _=>ak.cZ
 |[],_,_+1=>fun h=>by rw[ak.bA.mp h];exact ak.cZ
 |d::ds,vs,n+1=>fun h=>by
  obtain⟨v,r,rfl,hd,q⟩:=ak.aF.mp h
  exact ak.aX hd (ak.take n q)
theorem ak.drop:∀{ds:List D}{vs:List V}(n:Nat),ak K H ds vs->ak K H (ds.drop n) (vs.drop n)
 |_,_,0=>fun h=>h
 |[],_,_+1=>fun h=>by rw[ak.bA.mp h];exact ak.cZ
 |d::ds,vs,n+1=>fun h=>by
  obtain⟨v,r,rfl,hd,q⟩:=ak.aF.mp h
  exact ak.drop n q
theorem ak.eraseIdx:∀{ds:List D}{vs:List V}(n:Nat),ak K H ds vs->ak K H (ds.eraseIdx n) (vs.eraseIdx n)
 |[],_,_=>fun h=>by rw[ak.bA.mp h];exact ak.cZ
 |d::ds,vs,0=>fun h=>by
  obtain⟨v,r,rfl,hd,q⟩:=ak.aF.mp h
  exact q
 |d::ds,vs,n+1=>fun h=>by
  obtain⟨v,r,rfl,hd,q⟩:=ak.aF.mp h
  exact ak.aX hd (ak.eraseIdx n q)
theorem ak.set{v:V}(hd:aZ K H d v):∀{ds:List D}{vs:List V}(n:Nat),ak K H ds vs->ak K H (ds.set n d) (vs.set n v)
 |[],_,_=>fun h=>by rw[ak.bA.mp h];exact ak.cZ
 |e::ds,vs,0=>fun h=>by
  obtain⟨w,r,rfl,he,q⟩:=ak.aF.mp h
  exact ak.aX hd q
 |e::ds,vs,n+1=>fun h=>by
  obtain⟨w,r,rfl,he,q⟩:=ak.aF.mp h
  exact ak.aX he (ak.set hd n q)
end
def isOwn:Sl->Option Ob
 |.own o=>some o
 |.bor o=>some o
 |_=>none
noncomputable def JQ(K:QQq)(H:Hp):Ob->HO->Prop
 |.lst xs,u=>∃vs,u=.lst vs/\ak K H xs vs
 |.dct ks ds,u=>∃kvs,u=.dK kvs/\ks=kvs.map (fun p=>dj p.1)/\ak K H ds (kvs.map (·.2))
 |.sdt ks ds,u=>∃xs,u=.dS xs/\ks=xs.map (fun x=>gk x.1)/\(∀x∈xs,cH K H x.1 x.2.1)/\ak K H ds (xs.map (·.2.2))
theorem JQ.mono{H H':Hp}(p:bM H H'):∀{o:Ob}{u:HO},JQ K H o u->JQ K H' o u
 |.lst _,_,⟨vs,e,l⟩=>⟨vs,e,l.mono p⟩
 |.dct _ _,_,⟨kvs,e,k,l⟩=>⟨kvs,e,k,l.mono p⟩
 |.sdt _ _,_,⟨xs,e,k,ka,l⟩=>⟨xs,e,k,fun x hx=>let ⟨b,q1,q2⟩:=ka x hx;⟨b,p.Hz q1,p.Hz q2⟩,l.mono p⟩
structure JT(u:HO):Prop where
 tup:∀xs,u≠ .tup xs
 frz:∀q w,u≠ .frz q w
 tbl:∀ps,u≠ .tbl ps
 own:∀x,u≠ .own x
theorem JQ.pX{H:Hp}:∀{o:Ob}{u:HO},JQ K H o u->JT u
 |.lst _,_,⟨vs,e,_⟩=>by
  subst e
  constructor
  all_goals (intros;intro z;cases z)
 |.dct _ _,_,⟨kvs,e,_⟩=>by
  subst e
  constructor
  all_goals (intros;intro z;cases z)
 |.sdt _ _,_,⟨xs,e,_⟩=>by
  subst e
  constructor
  all_goals (intros;intro z;cases z)
def jj(K:QQq)(H:Hp)(o:Ob)(a:Addr):Prop:=∃u,H a=some u/\JQ K H o u
def T5(K:QQq)(H:Hp):Sl->Option V->Prop
 |.un,_=>True
 |.val d,o=>∃v,o=some v/\aZ K H d v
 |.own q,o=>∃a,o=some (.ref a)/\jj K H q a
 |.bor q,o=>∃a,o=some (.ref a)/\jj K H q a
def aJ(env:Ev)(σ:St)(i:Nat)(a:Addr):Prop:=(∃s xs,env[i]? =some s/\isOwn s=some xs)/\σ[i]? =some (some (.ref a))
structure Sat(K:QQq)(env:Ev)(σ:St)(H:Hp):Prop where
 len:env.length=σ.length
 sl:∀(i:Nat)s,env[i]? =some s->T5 K H s (σ[i]?).join
 ne:∀(i j:Nat)a,aJ env σ i a->aJ env σ j a->i=j
structure Nx(K:QQq)(env:Ev)(σ:St)(H:Hp)(env':Ev)(H':Hp):Prop where
 gm:Sat K env' σ H'
 sub:∀(i:Nat)a,aJ env' σ i a->aJ env σ i a
 pers:bM H H'
 keep:∀b u,H b=some u->(∀i,¬aJ env σ i b)->H' b=some u
 dom:∀b,H' b=none->H b=none
 bors:∀(i:Nat)xs,env[i]? =some (.bor xs)->∃ys,env'[i]? =some (.bor ys)
section
theorem Nx.refl(h:Sat K env σ H):Nx K env σ H env H:=⟨h,fun _ _ z=>z,bM.refl H,fun _ _ z _=>z,fun _ z=>z,fun _ xs e=>⟨xs,e⟩⟩
theorem Nx.trans(a:Nx K env σ H δ H1)(b:Nx K δ σ H1 ε H2):Nx K env σ H ε H2:=
 ⟨b.gm,fun i c z=>a.sub i c (b.sub i c z),a.pers.trans b.pers,fun c vs z n=>b.keep c vs (a.keep c vs z n) fun i w=>n i (a.sub i c w),fun c z=>a.dom c (b.dom c z),fun i xs e=>let ⟨ys,e1⟩:=a.bors i xs e;b.bors i ys e1⟩
theorem Sat.own(h:Sat K env σ H){a:Addr}(o:aJ env σ i a):∃q,jj K H q a:=by
 obtain⟨⟨s,xs,e1,e2⟩,e3⟩:=o
 have q:=h.sl i s e1
 rw[e3]at q
 cases s with
 |un=>simp[isOwn]at e2
 |val d=>simp[isOwn]at e2
 |own ys=>obtain⟨b,e,z⟩:=q;cases e;exact⟨ys,z⟩
 |bor ys=>obtain⟨b,e,z⟩:=q;cases e;exact⟨ys,z⟩
def Sat.mR(h:Sat K env σ H)(hn:H a=none)i:¬aJ env σ i a:=fun o=>by
 obtain⟨q,u,z,_⟩:=h.own o
 rw[hn]at z;cases z
end
noncomputable def iy(K:QQq)(σ:St)(H₀ H:Hp):Rv->V->Prop
 |.val d,v=>aZ K H d v
 |.new q,v=>∃a,v=.ref a/\jj K H q a/\H₀ a=none
 |.tmp q,v=>∃a,v=.ref a/\jj K H q a/\H₀ a=none
 |.ref i,v=>σ[i]? =some (some v)
abbrev Wi:=Nat->Ev->St->Hp->Prop
noncomputable def tM(K:QQq)(W:Wi)(env:Ev)(r:Out Rv):TE:=fun σ H Q=>Sat K env σ H/\match r with
 |.ok x env'=>∀v H',Nx K env σ H env' H'->iy K σ H H' x v->Q v H'
 |.exc c env'=>∀H',Nx K env σ H env' H'->W c env' σ H'
 |.bad=>False
noncomputable def tD(K:QQq)(W:Wi)(env:Ev)(r:Out Rv):TE:=fun σ H Q=>Sat K env σ H/\match r with
 |.ok (.val d) env'=>∀v H',Nx K env σ H env' H'->aZ K H' d v->Q v H'
 |.ok (.new q) env'=>∀v H',Nx K env σ H env' H'->aZ K H' q.d v->Q v H'
 |.ok _ _=>False
 |.exc c env'=>∀H',Nx K env σ H env' H'->W c env' σ H'
 |.bad=>False
noncomputable def tT(K:QQq)(W:Wi)(env:Ev)(r:Out Rv):TT:=fun σ H Q=>Sat K env σ H/\match r with
 |.ok x env'=>∃d b,x.kI=some d/\jk d=some b/\∀H',Nx K env σ H env' H'->Q b H'
 |.exc c env'=>∀H',Nx K env σ H env' H'->W c env' σ H'
 |.bad=>False
def PE.imp{e:Expr}(h:PE X e t)(i:∀σ H Q,t' σ H Q->t σ H Q):PE X e t':=fun γ s σ H Q I q=>h γ s σ H Q I (i σ H Q q)
def PT.imp{e:Expr}(h:PT X e t)(i:∀σ H Q,t' σ H Q->t σ H Q):PT X e t':=fun γ s σ H Q I q=>h γ s σ H Q I (i σ H Q q)
def _root_.L2.cG.there{w:World}{h:Heap}{o:HO}(x:cG P w H h a o):∃u,h.get? a=some u:=by
 cases o with
 |lst xs=>obtain⟨_,_,_,_,e⟩:=x;exact⟨_,e⟩
 |tup xs=>obtain⟨_,_,_,p⟩:=x;obtain⟨o,e,_⟩:=p;exact⟨_,e⟩
 |dK kvs=>obtain⟨_,_,_,_,o,_,_,e,_⟩:=x;exact⟨_,e⟩
 |dT kvs=>obtain⟨_,_,_,_,o,_,_,e,_⟩:=x;exact⟨_,e⟩
 |dS xs=>obtain⟨_,_,_,_,o,_,_,_,e,_⟩:=x;exact⟨_,e⟩
 |set S n=>obtain⟨o,_,_,_,e,_⟩:=x;exact⟨_,e⟩
 |ins C dx fs=>obtain⟨_,_,_,e,_⟩:=x;exact⟨_,e⟩
 |own y=>obtain⟨_,e⟩:=x;exact⟨_,e⟩
 |xd fs=>obtain⟨_,⟨_,_,_,e,_⟩,_⟩:=x;exact⟨_,e⟩
 |rng lo hi=>obtain⟨_,_,_,e⟩:=x;exact⟨_,e⟩
 |frz ob u=>obtain⟨e,_⟩:=x;exact⟨_,e⟩
 |tbl ps=>exact⟨_,show h.get? a=some _ from x⟩
 |met f y=>exact⟨_,show h.get? a=some _ from x⟩
 |ext φ=>obtain⟨_,⟨_,e⟩,_⟩:=x;exact⟨_,e⟩
def Inv.freeze{X:Cx}{σ:St}{H:Hp}{a:Addr}(I:Inv X γ σ H s)(h:H a=some u)(hu:JT u):
  ∃o,Inv X γ σ (upd H a (.frz o u)) s:=by
 obtain⟨o,ho⟩:=(I.hok a _ h).there
 refine⟨o,?_⟩
 have ne:∀b w,H b=some w->w≠u->b≠a:=fun b w q n z=>by subst z;rw[h]at q;cases q;exact n rfl
 have stay:∀b w,b≠a->H b=some w->upd H a (.frz o u) b=some w:=fun b w n q=>by rw[aq n];exact q
 have hok:nA X.prog X.w (upd H a (.frz o u)) s.heap:=fun b w q=>by
  have st:∀c v,cG X.prog X.w H s.heap c v->cG X.prog X.w _ s.heap c v:=fun c v z=>
   z.stay (fun c v _ q=>q) (fun e q=>stay e _ (ne e _ q (hu.own c).symm) q) fun e xs q=>stay e _ (ne e _ q (hu.tup xs).symm) q
  by_cases hb:b=a
  ·subst hb
   rw[az]at q
   cases q
   exact⟨ho,st _ _ (I.hok b _ h)⟩
  ·rw[aq hb]at q
   exact st _ _ (I.hok b w q)
 have J:=I.step (t':=s.toks) (d':=s.drawn) (ch:=[]) (fun _ z=>nomatch z)
  (fun b o _ _ _ q _=>q) (fun b o _ _ _ q _=>⟨o.slots,q⟩) (fun b o _ q n=>by
   rw[aq (fun z=>by subst z;rw[h]at n;cases n)];exact n) (fun b o _ q=>⟨o,q⟩)
  (fun b xs q=>stay b _ (ne b _ q (hu.tup xs).symm) q) (fun b o w q=>stay b _ (ne b _ q (hu.frz o w).symm) q) (fun b ps q=>⟨#[],by rw[stay b _ (ne b _ q (hu.tbl ps).symm) q];simp⟩) (fun m q=>q) hok I.bare
 exact J
section
def dG(h:H a=some u)(hu:JT u):bM H (upd H a (.frz o u)):=by
 refine⟨fun b xs q=>?_,fun b o' w q=>?_⟩
 ·rw[aq (fun z=>by subst z;rw[h]at q;cases q;exact hu.tup xs rfl)];exact q
 ·rw[aq (fun z=>by subst z;rw[h]at q;cases q;exact hu.frz o' w rfl)];exact q
def JQ.den(h:JQ K H' q u)(e:H' a=some (.frz o u)):aZ K H' q.d (.ref a):=by
 cases q with
 |lst xs=>
  obtain⟨vs,rfl,l⟩:=h
  exact⟨a,vs,rfl,.inl ⟨o,e⟩,l⟩
 |dct ks ds=>
  obtain⟨kvs,rfl,k,l⟩:=h
  exact⟨a,o,kvs,rfl,e,k,l⟩
 |sdt ks ds=>
  obtain⟨xs,rfl,k,ka,l⟩:=h
  exact⟨a,o,xs,rfl,e,k,ka,l⟩
def T5.keep{sl:Sl}(p:bM H H')(h:T5 K H sl v)(k:∀b u,isOwn sl≠none->v=some (.ref b)->H b=some u->H' b=some u):T5 K H' sl v:=by
 cases sl with
 |un=>trivial
 |val d=>obtain⟨v,e1,e2⟩:=h;exact⟨v,e1,e2.mono p⟩
 |own q=>
  obtain⟨b,e1,w,e2,e3⟩:=h
  exact⟨b,e1,w,k b w (by simp[isOwn]) e1 e2,e3.mono p⟩
 |bor q=>
  obtain⟨b,e1,w,e2,e3⟩:=h
  exact⟨b,e1,w,k b w (by simp[isOwn]) e1 e2,e3.mono p⟩
def xG{sl:Sl}(e:env[i]? =some sl)(ho:isOwn sl≠none)(ev:(σ[i]?).join=some (.ref b)):aJ env σ i b:=by
 refine⟨?_,?_⟩
 ·cases q:isOwn sl with
  |none=>exact absurd q ho
  |some o=>exact⟨sl,o,e,q⟩
 ·cases w:σ[i]? with
  |none=>rw[w]at ev;cases ev
  |some y=>rw[w]at ev;simp at ev;rw[ev]
theorem Sat.keep(S:Sat K env σ H)(p:bM H H')(k:∀i b u,aJ env σ i b->H b=some u->H' b=some u):Sat K env σ H':=
 ⟨S.len,fun i sl e=>(S.sl i sl e).keep p fun b u ho ev hb=>k i b u (xG e ho ev) hb,S.ne⟩
def Sat.freeze(S:Sat K env σ H)(h:H a=some u)(hu:JT u)(no:∀i,¬aJ env σ i a):Sat K env σ (upd H a (.frz o u)):=
 S.keep (dG h hu) fun i b w ow hb=>by
  rw[aq (fun z=>by subst z;exact no i ow)];exact hb
end
def Ls{W:Wi}{env:Ev}(h:PE X e (tM X.K W env r)):PE X e (tD X.K W env r):=by
 intro γ s σ H Q I q
 obtain⟨S,q⟩:=q
 cases r with
 |bad=>exact q.elim
 |exc c env'=>exact h γ s σ H Q I ⟨S,q⟩
 |ok x env'=>
  cases x with
  |val d=>exact h γ s σ H Q I ⟨S,q⟩
  |ref i=>exact False.elim q
  |tmp xs=>exact False.elim q
  |new xs=>
   refine bK (h γ s σ H (fun v H'=>Nx X.K env σ H env' H'/\iy X.K σ H H' _ v) I ⟨S,fun v H' n k=>⟨n,k⟩⟩) fun u s1⟨v,H1,I1,r1,N,k⟩=>?_
   obtain⟨a,rfl,⟨u,ha,hl⟩,h0⟩:=k
   have hu:=hl.pX
   obtain⟨o,I2⟩:=Inv.freeze I1 ha hu
   have p:=dG (o:=o) ha hu
   refine⟨.ref a,_,I2,r1,q _ _ ⟨N.gm.freeze ha hu (fun i z=>S.mR h0 i (N.sub i a z)),N.sub,N.pers.trans p,fun b ws z n=>?_,fun b z=>?_,N.bors⟩ ((hl.mono p).den az)⟩
   ·rw[aq (fun w=>by subst w;rw[h0]at z;cases z)];exact N.keep b ws z n
   ·refine N.dom b ?_
    by_cases hb:b=a
    ·subst hb;rw[az]at z;cases z
    ·rw[aq hb]at z;exact z
theorem Aq:∀{bs:List D}{cs:List Bool},bools bs=some cs->bs=cs.map .bl
 |[],_,e=>by cases e;rfl
 |d::bs,cs,e=>by
  cases d with
  |bl b=>
   simp only[bools,QJz]at e
   obtain⟨r,e1,rfl⟩:=e
   simp[Aq e1]
  |_=>cases e
theorem G8{H:Hp}:∀{cs:List Bool}{vs:List V},ak K H (cs.map .bl) vs->vs=cs.map .bl
 |[],vs,h=>ak.bA.mp h
 |c::cs,vs,h=>by
  obtain⟨v,r,rfl,h1,h2⟩:=ak.aF.mp h
  cases h1
  rw[G8 h2]
  rfl
def j9(h:z8 x=true):∃k:SK,x=gk k:=by
 unfold z8 at h
 split at h
 ·rename_i bs j
  obtain⟨cs,e⟩:=Option.isSome_iff_exists.mp h
  exact⟨(cs,j),by rw[Aq e];rfl⟩
 ·cases h
def rH{H:Hp}{v:V}(h:aZ K H (gk k) v):∃a,v=.ref a/\cH K H k a:=by
 obtain⟨a,vs,rfl,sq,l⟩:=h
 obtain⟨v1,r,rfl,h1,l⟩:=ak.aF.mp l
 obtain⟨v2,r2,rfl,h2,l⟩:=ak.aF.mp l
 cases ak.bA.mp l
 cases h2
 obtain⟨b,ws,rfl,sq2,l2⟩:=h1
 rw[G8 l2]at sq2
 exact⟨a,rfl,b,sq,sq2⟩
theorem GP:∀a b:List Bool,pC (a.map .bl) (b.map .bl)=decide (a=b)
 |[],[]=>rfl
 |[],_::_=>by simp[pC]
 |_::_,[]=>by simp[pC]
 |x::a,y::b=>by
  simp only[Qyq,pC,gH,GP a b]
  cases x<;>cases y<;>simp
def Dn x y:gH (gk x) (gk y)=decide (x=y):=by
 obtain⟨a,i⟩:=x
 obtain⟨b,j⟩:=y
 simp only[gk,gH,pC,GP]
 by_cases p:a=b<;>by_cases q:i=j<;>simp[p,q]
theorem Gy k:∀xs:List SV,cF (gk k) (xs.map fun x=>gk x.1)=(zQ k xs).isSome
 |[]=>rfl
 |x::xs=>by
  simp only[Qyq,cF,zQ,Dn,Gy k xs]
  by_cases c:x.1=k<;>simp[c]
theorem Gh{K:QQq}{H:Hp}(k:SK):∀{xs:List SV}{ds:List D}{z:D},dH (gk k) (xs.map fun x=>gk x.1) ds=some z->ak K H ds (xs.map (·.2.2))->∃w,zQ k xs=some w/\aZ K H z w
 |[],ds,z,e,_=>by cases ds<;>cases e
 |x::xs,[],z,e,_=>by cases e
 |x::xs,d::ds,z,e,l=>by
  obtain⟨v,r,e1,h1,h2⟩:=ak.aF.mp l
  cases e1
  simp only[Qyq,dH,Dn]at e
  simp only[zQ]
  by_cases c:x.1=k
  ·simp only[c,decide_true,if_true]at e
   cases e
   exact⟨_,if_pos c,h1⟩
  ·simp only[c,decide_false,Qyz,if_false]at e
   rw[if_neg c]
   exact Gh k e h2
def iy.weaken{σ:St}{x:Rv}(h:iy K σ H1 H x v)(d:∀b,H1 b=none->H0 b=none):iy K σ H0 H x v:=by
 cases x with
 |val d=>exact h
 |ref i=>exact h
 |new xs=>obtain⟨a,e,p,z⟩:=h;exact⟨a,e,p,d a z⟩
 |tmp xs=>obtain⟨a,e,p,z⟩:=h;exact⟨a,e,p,d a z⟩
section
def Uv{H1:Hp}(S:tM K W env r σ H Q)(N:Nx K env σ H δ H1):tM K W δ r σ H1 Q:=by
 obtain⟨_,h⟩:=S
 refine⟨N.gm,?_⟩
 cases r with
 |bad=>exact h
 |exc c ε=>exact fun H' N'=>h H' (N.trans N')
 |ok x ε=>exact fun v H' N' z=>h v H' (N.trans N') (z.weaken N.dom)
theorem aL{f:D->Ev->Out Rv}(h:tM K W env (r.au f) σ H Q)
  (k:∀d δ v H1,Nx K env σ H δ H1->aZ K H1 d v->tM K W δ (f d δ) σ H1 Q->R v H1):tD K W env r σ H R:=by
 have step:∀d δ,r.au f=f d δ->∀v H1,Nx K env σ H δ H1->aZ K H1 d v->R v H1:=fun d δ e v H1 N D=>by
  rw[e]at h
  exact k d δ v H1 N D (Uv h N)
 obtain⟨S,h⟩:=h
 refine⟨S,?_⟩
 cases r with
 |bad=>exact h
 |exc c δ=>exact h
 |ok x δ=>
  cases x with
  |val d=>exact fun v H1 N D=>step d δ rfl v H1 N D
  |new xs=>exact fun v H1 N D=>step xs.d δ rfl v H1 N D
  |ref i=>exact h
  |tmp xs=>exact h
theorem yS{f:Bool->Ev->Out Rv}(h:tM K W env (r.cM jk f) σ H Q)
  (k:∀b δ H1,Nx K env σ H δ H1->tM K W δ (f b δ) σ H1 Q->R b H1):tT K W env r σ H R:=by
 have step:∀d δ x,x.kI=some d->r=.ok x δ->∃b,jk d=some b/\∀H1,Nx K env σ H δ H1->R b H1:=fun d δ x ex er=>by
  subst er
  cases q:jk d with
  |none=>
   cases x with
   |val d'=>cases ex;simp only[Out.cM,Out.au,q]at h;exact h.2.elim
   |new xs=>cases ex;simp only[Out.cM,Out.au,q]at h;exact h.2.elim
   |ref i=>cases ex
   |tmp xs=>cases ex
  |some b=>
   refine⟨b,rfl,fun H1 N=>k b δ H1 N (Uv ?_ N)⟩
   cases x with
   |val d'=>cases ex;simp only[Out.cM,Out.au,q]at h;exact h
   |new xs=>cases ex;simp only[Out.cM,Out.au,q]at h;exact h
   |ref i=>cases ex
   |tmp xs=>cases ex
 refine⟨h.1,?_⟩
 cases r with
 |bad=>exact h.2
 |exc c δ=>exact h.2
 |ok x δ=>
  cases x with
  |val d=>obtain⟨b,e,q⟩:=step d δ _ rfl rfl;exact⟨d,b,rfl,e,q⟩
  |new xs=>obtain⟨b,e,q⟩:=step xs.d δ _ rfl rfl;exact⟨xs.d,b,rfl,e,q⟩
  |ref i=>exact h.2.elim
  |tmp xs=>exact h.2.elim
def cT(h:tM K W env (lift env o) σ H Q):∃z,o=some z/\Sat K env σ H/\∀v H',Nx K env σ H env H'->iy K σ H H' z v->Q v H':=by
 obtain⟨S,h⟩:=h
 cases o with
 |none=>exact h.elim
 |some z=>exact⟨z,rfl,S,h⟩
def eZ{v:V}(h:tM K W env (.ok (.val d) env) σ H Q)(e:aZ K H d v):Q v H:=h.2 v H (Nx.refl h.1) e
def Nx.laid{o:HO}(S:Sat K env σ H)(hp:H p=none):Nx K env σ H env (upd H p o):=by
 have ne:∀b u,H b=some u->b≠p:=fun b u q z=>by subst z;rw[hp]at q;cases q
 have pe:bM H (upd H p o):=⟨fun b xs q=>by rw[aq (ne b _ q)];exact q,fun b o' u q=>by rw[aq (ne b _ q)];exact q⟩
 refine⟨S.keep pe fun i b u _ q=>by rw[aq (ne b _ q)];exact q,fun _ _ z=>z,pe,fun b vs q _=>by rw[aq (ne b _ q)];exact q,fun b q=>?_,fun _ xs e=>⟨xs,e⟩⟩
 ·by_cases hb:b=p
  ·subst hb;exact hp
  ·rw[aq hb]at q;exact q
end
def GE(X:Cx)(W:Wi)(c:Cf)(m:E)(e:Expr):Prop:=∀env,PE X e (tM X.K W env (ev c m env))
def aD(X:Cx)(W:Wi)(c:Cf)(m:E):TE:=fun σ H Q=>∃env,tD X.K W env (ev c m env) σ H Q
def aT(X:Cx)(W:Wi)(c:Cf)(m:E):TT:=fun σ H Q=>∃env,tT X.K W env (ev c m env) σ H Q
def GT(X:Cx)(W:Wi)(c:Cf)(m:E)(e:Expr):Prop:=PT X e (aT X W c m)
section
def GE.d(h:GE X W c m e):PE X e (aD X W c m):=fun γ s σ H Q I⟨env,q⟩=>Ls (h env) γ s σ H Q I q
theorem aZ.jk{H:Hp}{v:V}(h:aZ K H x v)(e:jk x=some k):Ei K v H k:=by
 cases x with
 |non=>cases h;simp[Mini.jk]at e;subst e;rfl
 |bl b=>cases h;simp[Mini.jk]at e;subst e;rfl
 |int i=>cases h;simp[Mini.jk]at e;subst e;rfl
 |str y=>simp[Mini.jk]at e
 |tup xs=>
  obtain⟨p,vs,rfl,hq,l⟩:=h
  have e':=QDz e
  refine .inr (.inl ⟨vs,hq,?_⟩)
  have:=l.length
  cases xs<;>cases vs<;>simp_all
 |lst xs=>
  obtain⟨p,vs,rfl,hq,l⟩:=h
  have e':=QDz e
  refine .inl ⟨vs,hq.sq,?_⟩
  have:=l.length
  cases xs<;>cases vs<;>simp_all
 |dq ks vs=>simp[Mini.jk]at e
 |lU ks vs=>simp[Mini.jk]at e
def yV{env:Ev}{σ:St}{Q:Bool->Hp->Prop}(h:tT K W env r σ H Q):tD K W env r σ H (fun v H'=>∃k,Ei K v H' k/\Q k H'):=by
 obtain⟨S,h⟩:=h
 refine⟨S,?_⟩
 cases r with
 |bad=>exact h
 |exc c δ=>exact h
 |ok x δ=>
  obtain⟨d,b,e1,e2,q⟩:=h
  cases x with
  |val d'=>cases e1;exact fun v H' N D=>⟨b,D.jk e2,q H' N⟩
  |new xs=>cases e1;exact fun v H' N D=>⟨b,D.jk e2,q H' N⟩
  |ref i=>cases e1
  |tmp xs=>cases e1
def GE.t(h:GE X W c m e)(he:∀whole,isTrue e X.env whole=(do let v<-whole;standAt e.pos;holding [v] (truthy v))):GT X W c m e:=
 PT.imp (nO h.d he) fun σ H Q⟨env,q⟩=>⟨env,yV q⟩
def FN:D->Const->Bool
 |.non,.none=>true
 |.bl b,.bool b'=>b==b'
 |.int i,.int j=>i==j
 |.str x,.str y=>decide (x=y)
 |_,_=>false
def Yy{k:Const}(h:FN x k=true):GE X W c (.con x) (.Constant k i pos):=by
 intro env
 cases x with
 |non=>cases k<;>first|exact PE.imp Cu (fun σ H Q q=>eZ q rfl)|simp[FN]at h
 |bl y=>cases k<;>first|(simp[FN]at h;subst h;exact PE.imp abr (fun σ H Q q=>eZ q rfl))|simp[FN]at h
 |int y=>cases k<;>first|(simp[FN]at h;subst h;exact PE.imp Cw (fun σ H Q q=>eZ q rfl))|simp[FN]at h
 |str y=>cases k<;>first|(simp[FN]at h;subst h;exact PE.imp xx (fun σ H Q q=>eZ q rfl))|simp[FN]at h
 |tup _=>cases k<;>simp[FN]at h
 |lst _=>cases k<;>simp[FN]at h
 |dq _ _=>cases k<;>simp[FN]at h
 |lU _ _=>cases k<;>simp[FN]at h
def cB{σ:St}{i:Nat}(h:(σ[i]?).join=some v):σ[i]? =some (some v):=by
 cases w:σ[i]? with
 |none=>rw[w]at h;cases h
 |some y=>rw[w]at h;simp at h;rw[h]
def Nx.give{env:Ev}{H:Hp}{q:Ob}{a:Addr}{u:HO}(S:Sat K env σ H)(e:env[i]? =some (.own q))(es:σ[i]? =some (some (.ref a)))
  (ha:H a=some u)(l:JQ K H q u):Nx K env σ H (env.set i (.val q.d)) (upd H a (.frz o u)):=by
 have p:=dG (o:=o) ha l.pX
 have oa:aJ env σ i a:=⟨⟨_,q,e,rfl⟩,es⟩
 have hi:=(QCq.mp e).1
 have sub:∀j b,aJ (env.set i (.val q.d)) σ j b->aJ env σ j b/\j≠i:=fun j b z=>by
  obtain⟨⟨s,ys,e1,e2⟩,e3⟩:=z
  by_cases hj:i=j
  ·subst hj;rw[Qxz hi]at e1;cases e1;simp[isOwn]at e2
  ·rw[Qxq hj]at e1;exact⟨⟨⟨s,ys,e1,e2⟩,e3⟩,fun z=>hj z.symm⟩
 have ne:∀j b,aJ env σ j b->j≠i->b≠a:=fun j b z hj q=>hj (S.ne j i a (q▸z) oa)
 refine⟨⟨by simpa using S.len,fun j s ej=>?_,fun j k b z w=>S.ne j k b (sub j b z).1 (sub k b w).1⟩,fun j b z=>(sub j b z).1,p,fun b ws q n=>?_,fun b q=>?_,fun j ys ej=>?_⟩
 ·by_cases hj:i=j
  ·subst hj
   rw[Qxz hi]at ej
   cases ej
   exact⟨.ref a,by rw[es];rfl,(l.mono p).den az⟩
  ·rw[Qxq hj]at ej
   refine(S.sl j s ej).keep p fun b w ho ev hb=>?_
   rw[aq (ne j b (xG ej ho ev) fun z=>hj z.symm)];exact hb
 ·rw[aq (fun z=>by subst z;exact n i oa)];exact q
 ·by_cases hb:b=a
  ·subst hb;rw[az]at q;cases q
  ·rw[aq hb]at q;exact q
 ·by_cases hj:i=j
  ·subst hj;rw[e]at ej;cases ej
  ·exact⟨ys,by rw[Qxq hj];exact ej⟩
def Yl{x:Str}(hN:X.N[i]? =some x)(hv:JN X.env.scope x)(hd:(x==("__debug__":Str))=false)(hcd:(x==("__classdict__":Str))=false):GE X W c (.var i) (.Name x pos):=by
 intro env γ s σ H Q I q
 have B:=cW (pos:=pos) hN hv hd hcd
 simp only[v_0,rZ]at q
 cases e:env[i]? with
 |none=>rw[e]at q;exact q.2.elim
 |some sl=>
  rw[e]at q
  cases sl with
  |un=>exact q.2.elim
  |bor xs=>exact q.2.elim
  |val d=>
   obtain⟨v,e1,e2⟩:=q.1.sl i _ e
   exact B γ s σ H Q I ⟨v,cB e1,eZ q e2⟩
  |own xs=>
   obtain⟨a,e1,w,e2,e3⟩:=q.1.sl i _ e
   refine bK (B γ s σ H (fun v H'=>v=.ref a/\H'=H) I ⟨.ref a,cB e1,rfl,rfl⟩) fun u s1⟨v,H1,I1,r1,k1,k2⟩=>?_
   subst k1 k2
   obtain⟨o,I2⟩:=Inv.freeze I1 e2 e3.pX
   exact⟨.ref a,_,I2,r1,q.2 _ _ (Nx.give q.1 e (cB e1) e2 e3) ((e3.mono (dG e2 e3.pX)).den az)⟩
end
section
end
def ji(K:QQq)(σ:St)(H₀ H:Hp):List Rv->List V->Prop
 |[],vs=>vs=[]
 |x::xs,vs=>∃v r,vs=v::r/\iy K σ H₀ H x v/\ji K σ H₀ H xs r
noncomputable def Ut(K:QQq)(W:Wi)(env:Ev)(r:Out (List Rv)):TA:=fun σ H Q=>Sat K env σ H/\match r with
 |.ok xs env'=>∀vs H',Nx K env σ H env' H'->ji K σ H H' xs vs->Q vs H'
 |.exc c env'=>∀H',Nx K env σ H env' H'->W c env' σ H'
 |.bad=>False
noncomputable def tA(K:QQq)(W:Wi)(env:Ev)(r:Out Rv):TE:=fun σ H Q=>Sat K env σ H/\match r with
 |.ok x env'=>∀v H',Nx K env σ H env' H'->iy K σ H H' (argv x) v->Q v H'
 |.exc c env'=>∀H',Nx K env σ H env' H'->W c env' σ H'
 |.bad=>False
def GA(X:Cx)(W:Wi)(c:Cf)(m:E)(es:List Expr):Prop:=∀env,PA X es (Ut X.K W env (evs c m env))
def iy.on{env δ ε:Ev}{H H1 H2:Hp}{v:V}(S:Sat K env σ H)(N:Nx K env σ H δ H1)(N2:Nx K δ σ H1 ε H2)(h:iy K σ H H1 x v):iy K σ H H2 x v:=by
 have no:=fun a h0 i z=>S.mR h0 i (N.sub i a z)
 cases x with
 |val d=>exact aZ.mono N2.pers h
 |ref i=>exact h
 |new xs=>obtain⟨a,e,⟨u,p,l⟩,z⟩:=h;exact⟨a,e,⟨u,N2.keep a u p (no a z),l.mono N2.pers⟩,z⟩
 |tmp xs=>obtain⟨a,e,⟨u,p,l⟩,z⟩:=h;exact⟨a,e,⟨u,N2.keep a u p (no a z),l.mono N2.pers⟩,z⟩
def lK{env:Ev}{H:Hp}{xs:List D}(S:Sat K env σ H)(l:ak K H xs vs)(hp:H p=none):iy K σ H (upd H p (.lst vs)) (.new (.lst xs)) (.ref p):=
 ⟨p,rfl,⟨_,az,vs,rfl,l.mono (Nx.laid S hp).pers⟩,hp⟩
theorem ji.weaken{K:QQq}{σ:St}{H0 H1 H:Hp}:∀{xs:List Rv}{vs:List V},ji K σ H1 H xs vs->(∀b,H1 b=none->H0 b=none)->ji K σ H0 H xs vs
 |[],_,h,_=>h
 |x::xs,vs,h,d=>by
  obtain⟨v,r,e,h1,h2⟩:=h
  exact⟨v,r,e,h1.weaken d,ji.weaken h2 d⟩
section
def PA.imp(h:PA X es t)(i:∀σ H Q,t' σ H Q->t σ H Q):PA X es t':=fun p γ s σ H Q I q=>h p γ s σ H Q I (i σ H Q q)
def GE.ag(h:GE X W c m e)env:PE X e (tA X.K W env (ev c m env)):=by
 intro γ s σ H Q I q
 obtain⟨S,q⟩:=q
 cases r:ev c m env with
 |bad=>rw[r]at q;exact q.elim
 |exc k env'=>rw[r]at q;exact h env γ s σ H Q I ⟨S,by rw[r];exact q⟩
 |ok x env'=>
  rw[r]at q
  cases x with
  |new xs=>exact Ls (h env) γ s σ H Q I ⟨S,by rw[r];exact q⟩
  |val d=>exact h env γ s σ H Q I ⟨S,by rw[r];exact q⟩
  |ref i=>exact h env γ s σ H Q I ⟨S,by rw[r];exact q⟩
  |tmp xs=>exact h env γ s σ H Q I ⟨S,by rw[r];exact q⟩
def Oe:GA X W c .nil []:=fun env=>PA.imp bF fun σ H Q q=>by
 obtain⟨S,q⟩:=q
 exact q [] H (Nx.refl S) rfl
def GC(h:GE X W c m1 e)(t:GA X W c m2 es)(hs:starEach (e::es) X.env=(false,eval e X.env)::starEach es X.env):GA X W c (.cons m1 m2) (e::es):=by
 intro env
 have B:PA X _ (aG (fun σ H Q=>∃env,tA X.K W env _ σ H Q) (fun σ H Q=>∃env,Ut X.K W env _ σ H Q)):=
  aC (fun γ s σ H Q I⟨env,q⟩=>h.ag env γ s σ H Q I q) (fun p γ s σ H Q I⟨env,q⟩=>t env p γ s σ H Q I q) hs
 refine PA.imp B fun σ H Q q=>?_
 obtain⟨S,q⟩:=q
 refine⟨env,S,?_⟩
 simp only[evs]at q
 cases r:ev c m1 env with
 |bad=>rw[r]at q;exact q.elim
 |exc k δ=>rw[r]at q;exact q
 |ok x δ=>
  rw[r]at q
  intro v H1 N1 k1
  refine⟨δ,N1.gm,?_⟩
  simp only[Out.bind]at q
  cases r2:evs c m2 δ with
  |bad=>rw[r2]at q;exact q.elim
  |exc k ε=>rw[r2]at q;exact fun H2 N2=>q H2 (N1.trans N2)
  |ok xs ε=>
   rw[r2]at q
   intro vs H2 N2 k2
   exact q _ H2 (N1.trans N2) ⟨v,vs,rfl,k1.on S N1 N2,k2.weaken N1.dom⟩
theorem ji.ds{K:QQq}{σ:St}{H₀ H:Hp}:∀{xs:List Rv}{vs:List V}{ds:List D},ji K σ H₀ H (xs.map argv) vs->bj xs=some ds->ak K H ds vs
 |[],vs,ds,h,e=>by
  simp[bj]at e
  subst e
  cases h
  exact ak.cZ
 |x::xs,vs,ds,h,e=>by
  obtain⟨v,r,rfl,h1,h2⟩:=h
  cases x with
  |ref i=>simp[bj,Rv.kI]at e
  |tmp ys=>simp[bj,Rv.kI]at e
  |val d=>
   simp[bj,Rv.kI]at e
   obtain⟨ds',e1,e2⟩:=e
   subst e2
   exact ak.aX h1 (ji.ds h2 e1)
  |new ys=>
   simp[bj,Rv.kI]at e
   obtain⟨ds',e1,e2⟩:=e
   subst e2
   exact ak.aX h1 (ji.ds h2 e1)
def Ag:∀(m:E)(env:Ev){xs:List Rv}{env':Ev},evs c m env=.ok xs env'->xs.map argv=xs:=by
 have aa:∀x:Rv,argv (argv x)=argv x:=fun x=>by cases x<;>rfl
 intro m
 induction m with
 |nil=>intro env xs env' h;simp only[evs]at h;cases h;rfl
 |cons h t _ ih=>
  intro env xs env' q
  simp only[evs]at q
  cases r:ev c h env with
  |bad=>rw[r]at q;cases q
  |exc k e1=>rw[r]at q;cases q
  |ok x e1=>
   rw[r]at q
   simp only[Out.bind]at q
   cases r2:evs c t e1 with
   |bad=>rw[r2]at q;cases q
   |exc k e2=>rw[r2]at q;cases q
   |ok ys e2=>
    rw[r2]at q
    cases q
    rw[Qyq,aa,ih e1 r2]
 |_=>intro env xs env' h;simp only[evs]at h;cases h
def fJ(h:fits n=true):n<=sizeLine:=by
 rw[sizeLine_eq]
 simpa[fits]using h
theorem yQ{env:Ev}{H:Hp}{f:List D->Option Rv}
  (h:tM K W env ((evs c m env).bind fun rs σ=>lift σ ((bj rs).bind f)) σ H Q)
  (k:∀δ H1 ds vs z,Nx K env σ H δ H1->ak K H1 ds vs->f ds=some z->(∀v H',Nx K δ σ H1 δ H'->iy K σ H1 H' z v->Q v H')->R vs H1):Ut K W env (evs c m env) σ H R:=by
 obtain⟨S,q⟩:=h
 refine⟨S,?_⟩
 cases r:evs c m env with
 |bad=>rw[r]at q;exact q.elim
 |exc k δ=>rw[r]at q;exact q
 |ok xs δ=>
  rw[r]at q
  simp only[Out.bind]at q
  intro vs H1 N1 k1
  cases e:bj xs with
  |none=>rw[e]at q;exact q.elim
  |some ds=>
   rw[e]at q
   simp only[Option.bind]at q
   cases e2:f ds with
   |none=>rw[e2]at q;exact q.elim
   |some z=>
    rw[e2]at q
    have k2:=k1
    rw[<-Ag m env r]at k2
    exact k δ H1 ds vs z N1 (ji.ds k2 e) e2 fun v H' N' w=>q v H' (N1.trans N') (w.weaken N1.dom)
def Ym(h:GA X W c m es):GE X W c (.tup m) (.Tuple es k pos):=by
 intro env
 refine PE.imp (Cr (h env)) fun σ H Q q=>?_
 refine yQ q fun δ H1 ds vs z N1 l e q=>?_
 split at e
 ·rename_i hf
  cases e
  refine⟨by rw[<-l.length];exact fJ hf,fun p hp=>q _ _ (Nx.laid N1.gm hp) ?_⟩
  show aZ _ _ _ _
  exact⟨p,vs,rfl,.inl (.inl az),l.mono (Nx.laid N1.gm hp).pers⟩
 ·cases e
def Yt(h:GA X W c m es):GE X W c (.lis m) (.List es pos):=by
 intro env
 refine PE.imp (Cv (h env)) fun σ H Q q=>?_
 refine yQ q fun δ H1 ds vs z N1 l e q=>?_
 split at e
 ·rename_i hf
  cases e
  exact⟨by rw[<-l.length];exact fJ hf,fun p hp=>q _ _ (Nx.laid N1.gm hp) (lK N1.gm l hp)⟩
 ·cases e
def Vw(X:Cx)(r:R2)(f:D->D->Option Rv):Prop:=
 ∀(env:Ev)(σ:St)(H:Hp)(x y:D)(z:Rv)(v u:V)(Q:VK),Sat X.K env σ H->aZ X.K H x v->aZ X.K H y u->f x y=some z->(∀w H',Nx X.K env σ H env H'->iy X.K σ H H' z w->Q w H')->r v u H Q
def Vw.bin{f:D->D->Option Rv}(R:Vw X r f)(h:PE X e (Ur r (aD X W c m1) (aD X W c m2))):
  ∀env,PE X e (tM X.K W env ((ev c m1 env).au fun x σ=>(ev c m2 σ).au fun y σ=>lift σ (f x y))):=fun env=>
 PE.imp h fun σ H Q q=>⟨env,aL q fun d δ v H1 N1 D1 q1=>⟨δ,aL q1 fun d2 ε v2 H2 N2 D2 q2=>by
  obtain⟨z,ez,S,q3⟩:=cT q2
  exact R ε σ H2 d d2 z v v2 Q S (D1.mono N2.pers) D2 ez q3⟩⟩
def abA:Zg->Operator
 |.add=>.Add
 |.sub=>.Sub
 |.mul=>.Mult
 |.mod=>.Mod
 |.fdiv=>.FloorDiv
 |.pow=>.Pow
noncomputable def U8(K:QQq):R2:=fun x y H Q=>∃a b xs ys,x=.ref a/\y=.ref b/\jl K H a xs/\jl K H b ys/\xs.length+ys.length<=sizeLine/\
 (xs=[]->Q (.ref b) H)/\(xs≠[]->ys=[]->Q (.ref a) H)/\(xs≠[]->ys≠[]->∀p,H p=none->Q (.ref p) (upd H p (.tup (xs++ys))))
def RV:gJ X (binaryOp .Add) (U8 X.K):=by
 intro γ s σ H x y v u Q I rx ry h
 obtain⟨a,b,xs,ys,rfl,rfl,ha,hb,hz,q0,q1,q2⟩:=h
 by_cases hx:xs=[]
 ·cases rx
  cases ry
  obtain⟨its,r1,p1,_⟩:=I.tuple ha
  obtain⟨its2,r2,p2,_⟩:=I.tuple hb
  obtain⟨⟨cls,dd,data,sl⟩,ho,hc,n,hd⟩:=id p1
  obtain⟨⟨cls2,dd2,data2,sl2⟩,ho2,hc2,n2,hd2⟩:=id p2
  subst hc hd hc2 hd2
  have e0:its.toArray.isEmpty=true:=by
   have:=r1.bA.mpr hx
   rw[this];rfl
  exact concat_meets ⟨_,ho,rfl⟩ ⟨_,ho2,rfl⟩ noFill_tuple_add seq_tuple_add PySem.F.slot_tuple_add PySem.F.entry_tuple_add (PySem.F.args_tuple_add_2 _ _)
   (PyProof.Rows.tuple_addW0 a b its.toArray its2.toArray n n2 dd dd2 sl sl2 e0) ⟨ho,ho2,⟨.ref b,H,I,rfl,q0 hx⟩⟩
 ·exact RQ γ s σ H _ _ v u Q I rx ry ⟨a,b,xs,ys,rfl,rfl,ha,hb,hx,hz,q1 hx,q2 hx⟩
def U7(K:QQq):R2:=fun x y H Q=>∃l b xs zs,x=.ref l/\y=.ref b/\lu K H l xs/\lu K H b zs/\xs.length+zs.length<=sizeLine/\∀p,H p=none->Q (.ref p) (upd H p (.lst (xs++zs)))
def RT:gJ X (binaryOp .Add) (U7 X.K):=by
 intro γ s σ H x y v u Q I rx ry h
 obtain⟨l,b,xs,zs,rfl,rfl,hH,hB,hz,q⟩:=h
 cases rx
 cases ry
 obtain⟨its,r1,pl,_⟩:=I.list hH
 obtain⟨its2,r2,pl2,_⟩:=I.list hB
 obtain⟨⟨cls,dd,data,sl⟩,n,ho,hc,_,hd⟩:=id pl
 obtain⟨⟨cls2,dd2,data2,sl2⟩,n2,ho2,hc2,_,hd2⟩:=id pl2
 subst hc hd hc2 hd2
 have hl:=r1.length
 have hl2:=r2.length
 have ea:its.toArray++its2.toArray=(its++its2).toArray:=by simp
 refine concat_meets ⟨_,ho,rfl⟩ ⟨_,ho2,rfl⟩ noFill_list_add seq_list_add F.slot_list_add F.entry_list_add (F.args_list_add_2 _ _) (PyProof.Rows.list_addW l b its.toArray its2.toArray n n2 dd dd2 sl sl2 (by rw[Qjz,Qjz];omega)) ⟨ho,ho2,?_⟩
 rw[ea]
 exact⟨.ref _,_,I.ae4 (r1.append r2) (by rw[QTq];omega),rfl,q _ I.fresh⟩
def U9(K:QQq):R2:=fun x y H Q=>Le (fun i j=>.int (i+j)) x y H Q\/U8 K x y H Q\/U7 K x y H Q
def RW:gJ X (binaryOp .Add) (U9 X.K):=Xn.or (RV.or RT)
def cU{H:Hp}{v:V}(h:aZ K H (.tup ds) v):∃a vs,v=.ref a/\jl K H a vs/\ak K H ds vs:=by unfold aZ at h;exact h
def eO{H:Hp}{v:V}(h:aZ K H (.lst ds) v):∃a vs,v=.ref a/\Qh K H a vs/\ak K H ds vs:=by unfold aZ at h;exact h
def eF{H:Hp}{a:Addr}(h:jl K H a vs)(l:ak K H ds vs):aZ K H (.tup ds) (.ref a):=by unfold aZ;exact⟨a,vs,rfl,h,l⟩
def rN(h:small i=true): -(2 ^64)<i/\i<2 ^64:=by
 simp only[small,QUz]at h
 exact⟨by omega,by omega⟩
def Rg:Vw X (U9 X.K) (binop .add):=by
 intro env σ H x y z v u Q S Dx Dy e q
 cases x with
 |int i=>
  cases y with
  |int j=>cases e;exact .inl ⟨i,j,Dx,Dy,q _ H (Nx.refl S) rfl⟩
  |_=>cases e
 |tup xs=>
  cases y with
  |tup ys=>
   unfold binop at e;dsimp only at e
   split at e
   ·rename_i hf
    cases e
    obtain⟨a,vs,rfl,ha,la⟩:=cU Dx
    obtain⟨b,ws,rfl,hb,lb⟩:=cU Dy
    refine .inr (.inl ⟨a,b,vs,ws,rfl,rfl,ha,hb,by rw[<-la.length,<-lb.length];exact fJ hf,fun e0=>?_,fun _ e0=>?_,fun _ _ p hp=>?_⟩)
    ·subst e0
     have:xs=[]:=by have:=la.length;cases xs<;>simp_all
     subst this
     exact q _ H (Nx.refl S) (eF hb lb)
    ·subst e0
     have:ys=[]:=by have:=lb.length;cases ys<;>simp_all
     subst this
     exact q _ H (Nx.refl S) (by rw[List.append_nil];exact eF ha la)
    ·have N:=Nx.laid (o:=.tup (vs++ws)) S hp
     exact q _ _ N (eF (.inl (.inl az)) ((la.append lb).mono N.pers))
   ·cases e
  |_=>cases e
 |lst xs=>
  cases y with
  |lst ys=>
   unfold binop at e;dsimp only at e
   split at e
   ·rename_i hf
    cases e
    obtain⟨a,vs,rfl,ha,la⟩:=eO Dx
    obtain⟨b,ws,rfl,hb,lb⟩:=eO Dy
    exact .inr (.inr ⟨a,b,vs,ws,rfl,rfl,ha.sq,hb.sq,by rw[<-la.length,<-lb.length];exact fJ hf,fun p hp=>q _ _ (Nx.laid (o:=.lst (vs++ws)) S hp) (lK S (la.append lb) hp)⟩)
   ·cases e
  |_=>cases e
 |_=>cases y<;>cases e
def oF(ho:o≠ .add)(hm:o≠ .mul){z:Rv}(e:binop o x y=some z):(∃i,x=.int i)/\∃j,y=.int j:=by
 cases x with
 |int i=>exact⟨⟨i,rfl⟩,by cases y with
  |int j=>exact⟨j,rfl⟩
  |_=>cases o<;>cases e⟩
 |tup _=>cases o<;>first|exact absurd rfl ho|exact absurd rfl hm|cases e
 |lst _=>cases o<;>first|exact absurd rfl ho|cases e
 |_=>cases o<;>cases e
def Q6:Vw X (Le fun i j=>.int (i-j)) (binop .sub):=by
 intro env σ H x y z v u Q S Dx Dy e q
 obtain⟨⟨i,rfl⟩,j,rfl⟩:=oF (by intro h;cases h) (by intro h;cases h) e
 cases e
 exact⟨_,_,Dx,Dy,q _ H (Nx.refl S) rfl⟩
def U5(K:QQq):R2:=fun x y H Q=>rI T8 (fun i j=>.int (i*j)) x y H Q
def RN:gJ X (binaryOp .Mult) (U5 X.K):=Xh
def Q8:Vw X (U5 X.K) (binop .mul):=by
 intro env σ H x y z v u Q S Dx Dy e q
 cases x with
 |int i=>
  cases y with
  |int j=>
   unfold binop at e;dsimp only at e
   split at e
   ·rename_i hs
    cases e
    simp only[Bool.or_eq_true]at hs
    exact⟨i,j,Dx,Dy,hs.imp rN rN,q _ H (Nx.refl S) rfl⟩
   ·cases e
  |_=>cases e
 |_=>cases y<;>cases e
def Q9:Vw X (rI (fun _ j=>0<j) fun i j=>.int (i%j)) (binop .mod):=by
 intro env σ H x y z v u Q S Dx Dy e q
 obtain⟨⟨i,rfl⟩,j,rfl⟩:=oF (by intro h;cases h) (by intro h;cases h) e
 unfold binop at e;dsimp only at e
 split at e
 ·rename_i hs
  cases e
  exact⟨i,j,Dx,Dy,hs,q _ H (Nx.refl S) rfl⟩
 ·cases e
def K3:Vw X (rI acR fun i j=>.int (i/j)) (binop .fdiv):=by
 intro env σ H x y z v u Q S Dx Dy e q
 obtain⟨⟨i,rfl⟩,j,rfl⟩:=oF (by intro h;cases h) (by intro h;cases h) e
 unfold binop at e;dsimp only at e
 split at e
 ·rename_i hs
  cases e
  exact⟨i,j,Dx,Dy,hs,q _ H (Nx.refl S) rfl⟩
 ·cases e
def Q7:Vw X (rI acQ fun i j=>.int (i ^j.toNat)) (binop .pow):=by
 intro env σ H x y z v u Q S Dx Dy e q
 obtain⟨⟨i,rfl⟩,j,rfl⟩:=oF (by intro h;cases h) (by intro h;cases h) e
 unfold binop at e;dsimp only at e
 split at e
 ·rename_i hs
  cases e
  have h1:=rN hs.2.2
  exact⟨i,j,Dx,Dy,⟨hs.1,by omega,by omega⟩,q _ H (Nx.refl S) rfl⟩
 ·cases e
def ab8(ha:GE X W c m1 a)(hb:GE X W c m2 b):GE X W c (.op o m1 m2) (.BinOp a (abA o) b pos):=by
 intro env
 cases o with
 |add=>exact Rg.bin (vJ RW ha.d hb.d) env
 |sub=>exact Q6.bin (vJ Xe ha.d hb.d) env
 |mul=>exact Q8.bin (vJ RN ha.d hb.d) env
 |mod=>exact Q9.bin (vJ Xi ha.d hb.d) env
 |fdiv=>exact K3.bin (vJ RP ha.d hb.d) env
 |pow=>exact Q7.bin (vJ Xf ha.d hb.d) env
def Ys(ha:GE X W c m1 a):GE X W c (.neg m1) (.UnaryOp .USub a pos):=by
 intro env
 refine PE.imp (abo V5 ha.d) fun σ H Q q=>?_
 refine⟨env,aL q fun d δ v H1 N1 D1 q1=>?_⟩
 obtain⟨z,ez,S,q3⟩:=cT q1
 cases d<;>first
  |(cases ez;done)
  |(cases ez;exact⟨_,D1,q3 _ H1 (Nx.refl S) rfl⟩)
end
mutual
def py:D->PyData
 |.non=>.none
 |.bl b=>.bool b
 |.int i=>.int i
 |.str x=>.str x
 |.tup xs=>.tuple (Bf xs)
 |.lst xs=>.list (Bf xs)
 |.dq _ _=>.none
 |.lU _ _=>.none
def Bf:List D->List PyData
 |[]=>[]
 |x::xs=>py x::Bf xs
end
mutual
theorem ye:∀a b:D,nd a=true->nd b=true->PyData.eqv (py a) (py b)=gH a b
 |.dq _ _,_=>fun h _=>by simp[nd]at h
 |.lU _ _,_=>fun h _=>by simp[nd]at h
 |.non,.dq _ _=>fun _ h=>by simp[nd]at h
 |.non,.lU _ _=>fun _ h=>by simp[nd]at h
 |.bl _,.dq _ _=>fun _ h=>by simp[nd]at h
 |.bl _,.lU _ _=>fun _ h=>by simp[nd]at h
 |.int _,.dq _ _=>fun _ h=>by simp[nd]at h
 |.int _,.lU _ _=>fun _ h=>by simp[nd]at h
 |.str _,.dq _ _=>fun _ h=>by simp[nd]at h
 |.str _,.lU _ _=>fun _ h=>by simp[nd]at h
 |.tup _,.dq _ _=>fun _ h=>by simp[nd]at h
 |.tup _,.lU _ _=>fun _ h=>by simp[nd]at h
 |.lst _,.dq _ _=>fun _ h=>by simp[nd]at h
 |.lst _,.lU _ _=>fun _ h=>by simp[nd]at h
 |.tup xs,.tup ys=>fun h h'=>by simp only[py,PyData.eqv,gH];exact yd xs ys (by simpa[nd]using h) (by simpa[nd]using h')
 |.lst xs,.lst ys=>fun h h'=>by simp only[py,PyData.eqv,gH];exact yd xs ys (by simpa[nd]using h) (by simpa[nd]using h')
 |.non,.non=>fun _ _=>rfl
 |.non,.bl _=>fun _ _=>rfl
 |.non,.int _=>fun _ _=>rfl
 |.non,.str _=>fun _ _=>rfl
 |.non,.tup _=>fun _ _=>rfl
 |.non,.lst _=>fun _ _=>rfl
 |.bl _,.non=>fun _ _=>rfl
 |.bl _,.bl _=>fun _ _=>rfl
 |.bl a,.int j=>fun _ _=>rfl
 |.bl _,.str _=>fun _ _=>rfl
 |.bl _,.tup _=>fun _ _=>rfl
 |.bl _,.lst _=>fun _ _=>rfl
 |.int _,.non=>fun _ _=>rfl
 |.int i,.bl b=>fun _ _=>rfl
 |.int _,.int _=>fun _ _=>rfl
 |.int _,.str _=>fun _ _=>rfl
 |.int _,.tup _=>fun _ _=>rfl
 |.int _,.lst _=>fun _ _=>rfl
 |.str _,.non=>fun _ _=>rfl
 |.str _,.bl _=>fun _ _=>rfl
 |.str _,.int _=>fun _ _=>rfl
 |.str x,.str y=>fun _ _=>by simp only[py,PyData.eqv,gH];rw[Bool.beq_eq_decide_eq]
 |.str _,.tup _=>fun _ _=>rfl
 |.str _,.lst _=>fun _ _=>rfl
 |.tup _,.non=>fun _ _=>rfl
 |.tup _,.bl _=>fun _ _=>rfl
 |.tup _,.int _=>fun _ _=>rfl
 |.tup _,.str _=>fun _ _=>rfl
 |.tup _,.lst _=>fun _ _=>rfl
 |.lst _,.non=>fun _ _=>rfl
 |.lst _,.bl _=>fun _ _=>rfl
 |.lst _,.int _=>fun _ _=>rfl
 |.lst _,.str _=>fun _ _=>rfl
 |.lst _,.tup _=>fun _ _=>rfl
theorem yd:∀xs ys:List D,mU xs=true->mU ys=true->PyData.eqvAll (Bf xs) (Bf ys)=pC xs ys
 |[],[]=>fun _ _=>rfl
 |[],_::_=>fun _ _=>rfl
 |_::_,[]=>fun _ _=>rfl
 |x::xs,y::ys=>fun h h'=>by
  simp only[mU,QUq]at h h'
  simp only[Bf,PyData.eqvAll,pC]
  rw[ye x y h.1 h'.1,yd xs ys h.2 h'.2]
end
def Km(h:WD x=true):PyData.strOk x=true:=by
 unfold WD at h
 unfold PyData.strOk
 rw[Array.all_eq_true]at h⊢
 intro i hi
 have:=h i hi
 simp only[QUz]at this⊢
 omega
mutual
theorem jD:∀a:D,nd a=true->(py a).canLay0=true
 |.non=>fun _=>rfl
 |.bl _=>fun _=>rfl
 |.int _=>fun _=>rfl
 |.str x=>fun h=>Km h
 |.tup xs=>fun h=>by simp only[py,PyData.canLay0];exact jC xs (by simpa[nd]using h)
 |.lst xs=>fun h=>by simp only[py,PyData.canLay0];exact jC xs (by simpa[nd]using h)
 |.dq _ _=>fun h=>by simp[nd]at h
 |.lU _ _=>fun h=>by simp[nd]at h
theorem jC:∀xs:List D,mU xs=true->PyData.canLayAll0 (Bf xs)=true
 |[]=>fun _=>rfl
 |x::xs=>fun h=>by
  simp only[mU,QUq]at h
  simp only[Bf,PyData.canLayAll0,QUq]
  exact⟨jD x h.1,jC xs h.2⟩
end
mutual
theorem yh:∀a:D,nd a=true->(py a).depth=dep a
 |.non=>fun _=>rfl
 |.bl _=>fun _=>rfl
 |.int _=>fun _=>rfl
 |.str _=>fun _=>rfl
 |.tup xs=>fun h=>by simp only[py,PyData.depth,dep];rw[yg xs (by simpa[nd]using h)]
 |.lst xs=>fun h=>by simp only[py,PyData.depth,dep];rw[yg xs (by simpa[nd]using h)]
 |.dq _ _=>fun h=>by simp[nd]at h
 |.lU _ _=>fun h=>by simp[nd]at h
theorem yg:∀xs:List D,mU xs=true->PyData.depthAll (Bf xs)=lY xs
 |[]=>fun _=>rfl
 |x::xs=>fun h=>by
  simp only[mU,QUq]at h
  simp only[Bf,PyData.depthAll,lY]
  rw[yh x h.1,yg xs h.2]
end
def dD(K:QQq)(H:Hp)(d:D)(v:V):Prop:=aZ K H d v\/∃q a,d=Ob.d q/\v=.ref a/\jj K H q a
section
mutual
theorem aZ.reads(I:Inv X γ σ H s):∀{d:D}{v:V}{u:Value},nd d=true->aZ X.K H d v->RelV v u->∃as,Reads s.heap u (py d) as
 |.non,v,u,_,h,r=>by cases h;cases r;exact⟨_,.none⟩
 |.bl b,v,u,_,h,r=>by cases h;cases r;exact⟨_,.bool b⟩
 |.int i,v,u,_,h,r=>by cases h;obtain⟨t,rfl⟩:=r;exact⟨_,.int i t⟩
 |.str x,v,u,_,h,r=>by cases h;obtain⟨t,rfl⟩:=r;exact⟨_,.str x t⟩
 |.tup ds,v,u,hn,h,r=>by
  obtain⟨a,vs,rfl,hq,l⟩:=cU h
  cases r
  obtain⟨its,rv,⟨o,e,c,n,dt⟩,_⟩:=I.tuple hq
  obtain⟨as,q⟩:=ak.reads I (by simpa[nd]using hn) l rv
  exact⟨as,by rw[py];exact .tuple e c dt (by simpa using q)⟩
 |.lst ds,v,u,hn,h,r=>by
  obtain⟨a,vs,rfl,hq,l⟩:=eO h
  cases r
  obtain⟨its,rv,⟨o,n,e,c,_,dt⟩,_⟩:=I.list hq.sq
  obtain⟨as,q⟩:=ak.reads I (by simpa[nd]using hn) l rv
  exact⟨a::as,by rw[py];exact .list e c dt (by simpa using q)⟩
 |.dq _ _,_,_,h,_,_=>by simp[nd]at h
theorem ak.reads(I:Inv X γ σ H s):∀{ds:List D}{vs:List V}{us:List Value},mU ds=true->ak X.K H ds vs->Vals vs us->∃as,ReadsAll s.heap us (Bf ds) as
 |[],vs,us,_,h,r=>by rw[ak.bA.mp h]at r;cases r;exact⟨_,.nil⟩
 |d::ds,vs,us,hn,h,r=>by
  obtain⟨v,rs,rfl,h1,h2⟩:=ak.aF.mp h
  simp only[mU,QUq]at hn
  cases r with
  |cons r1 r2=>
   obtain⟨as,q1⟩:=aZ.reads I hn.1 h1 r1
   obtain⟨bs,q2⟩:=ak.reads I hn.2 h2 r2
   exact⟨as++bs,.cons q1 q2⟩
end
theorem dD.reads(I:Inv X γ σ H s){v:V}(hn:nd d=true)(h:dD X.K H d v)(r:RelV v u):∃as,Reads s.heap u (py d) as:=by
 rcases h with h|⟨q,a,rfl,rfl,u',ha,hq⟩
 ·exact aZ.reads I hn h r
 ·cases r
  cases q with
  |dct ks ds=>simp[Ob.d,nd]at hn
  |sdt ks ds=>simp[Ob.d,nd]at hn
  |lst ds=>
  obtain⟨vs,rfl,l⟩:=hq
  obtain⟨its,rv,⟨o,n,e,c,_,dt⟩,_⟩:=I.list (.inl (.inl ha))
  obtain⟨as,q⟩:=ak.reads I (by simpa[Ob.d,nd]using hn) l rv
  exact⟨a::as,by rw[Ob.d,py];exact .list e c dt (by simpa using q)⟩
end
section
theorem dD.flat{H:Hp}{v:V}(h:dD K H x v)(f:flat x=true):aZ K H x v:=by
 rcases h with h|⟨q,a,rfl,_⟩
 ·exact h
 ·cases q<;>simp[Ob.d,Mini.flat]at f
def GD(f:flat x=true)(hs:∀y,x≠ .str y):nd x=true/\dep x=0:=by
 cases x<;>simp_all[flat,nd,dep]
def aeW(K:QQq):R2:=fun x y H Q=>∃p q,dD K H p x/\dD K H q y/\ud p q=true/\Q (.bl (gH p q)) H
def aeT(K:QQq):R2:=fun x y H Q=>∃p q,dD K H p x/\dD K H q y/\ud p q=true/\Q (.bl (!gH p q)) H
def GJ{H:Hp}{x y:V}(Dp:aZ K H p x)(Dq:aZ K H q y)(fp:flat p=true)(fq:flat q=true)(hs:(∃z,p=.str z)\/∃z,q=.str z):Q0 x y=true/\decide (x=y)=gH p q:=by
 cases p<;>cases q<;>simp_all[flat]<;>(cases Dp;cases Dq;unfold Q0 gH;simp)
def GF{p q:D}(hu:u+60<cLine)(hp:nd p=true)(hq:nd q=true)(hd:dep p<=50):u+min (py p).depth (py q).depth<cLine:=by
 rw[yh p hp,yh q hq]
 omega
def uc(h:ud p q=true):(nd p=true/\nd q=true/\dep p<=50)\/(flat p=true/\flat q=true/\((∃z,p=.str z)\/∃z,q=.str z)):=by
 simp only[ud,Bool.or_eq_true,QUq,QUz]at h
 rcases h with ⟨h1,h2⟩|⟨⟨h1,h2⟩,h3⟩
 ·by_cases hs:(∃z,p=.str z)\/∃z,q=.str z
  ·exact .inr ⟨h1,h2,hs⟩
  ·have k1:=GD h1 (fun y e=>hs (.inl ⟨y,e⟩))
   exact .inl ⟨k1.1,(GD h2 (fun y e=>hs (.inr ⟨y,e⟩))).1,by omega⟩
 ·exact .inl ⟨h1,h3,h2⟩
def Xm(hu:X.A.units+60<cLine):gJ X (compareOp .Eq) (aeW X.K):=by
 intro γ s σ H x y v u Q I rx ry h
 obtain⟨p,q,Dp,Dq,ok,k⟩:=h
 rcases uc ok with ⟨h1,h2,h3⟩|⟨h1,h2,h3⟩
 ·obtain⟨as,ra⟩:=Dp.reads I h1 rx
  obtain⟨bs,rb⟩:=Dq.reads I h2 ry
  exact SeqAt.compareEq_reads ra rb (jD p h1) (jD q h2) (GF hu h1 h2 h3) (by rw[ye p q h1 h2];exact⟨.bl _,H,I,rfl,k⟩)
 ·obtain⟨e1,e2⟩:=GJ (Dp.flat h1) (Dq.flat h2) h1 h2 h3
  exact abz γ s σ H x y v u Q I rx ry ⟨e1,by rw[e2];exact k⟩
def Xg(hu:X.A.units+60<cLine):gJ X (compareOp .NotEq) (aeT X.K):=by
 intro γ s σ H x y v u Q I rx ry h
 obtain⟨p,q,Dp,Dq,ok,k⟩:=h
 rcases uc ok with ⟨h1,h2,h3⟩|⟨h1,h2,h3⟩
 ·obtain⟨as,ra⟩:=Dp.reads I h1 rx
  obtain⟨bs,rb⟩:=Dq.reads I h2 ry
  exact SeqAt.compareNe_reads ra rb (jD p h1) (jD q h2) (GF hu h1 h2 h3) (by rw[ye p q h1 h2];exact⟨.bl _,H,I,rfl,k⟩)
 ·obtain⟨e1,e2⟩:=GJ (Dp.flat h1) (Dq.flat h2) h1 h2 h3
  exact abu γ s σ H x y v u Q I rx ry ⟨e1,by rw[e2];exact k⟩
theorem xV{K:QQq}{H:Hp}{p:D}{x:V}(Dp:aZ K H p x)(fp:flat p=true):∀{ds:List D}{vs:List V},ak K H ds vs->ds.all flat=true->vs.all jN=true/\inV x vs=cF p ds
 |[],vs,h,_=>by rw[ak.bA.mp h];exact⟨rfl,rfl⟩
 |d::ds,vs,h,f=>by
  obtain⟨v,r,rfl,h1,h2⟩:=ak.aF.mp h
  rw[List.all_cons,QUq]at f
  obtain⟨k1,k2⟩:=xV Dp fp h2 f.2
  have fv:jN v=true/\Oq v x=gH d p:=by
   obtain⟨f1,_⟩:=f
   cases d<;>cases p<;>simp_all[flat]<;>(cases h1;cases Dp;first|exact⟨rfl,rfl⟩|(refine⟨rfl,?_⟩;simp[Oq,gH];try (rw[Bool.beq_eq_decide_eq])))
  refine⟨by rw[List.all_cons,fv.1,k1];rfl,?_⟩
  unfold inV at k2⊢
  rw[List.any_cons,fv.2,k2]
  rfl
theorem uz(hp:nd p=true):∀{ds:List D},mU ds=true->((Bf ds).any fun y=>PyData.eqv y (py p))=cF p ds
 |[]=>fun _=>rfl
 |d::ds=>fun h=>by
  simp only[mU,QUq]at h
  rw[Bf,List.any_cons,ye d p h.1 hp,uz hp h.2]
  rfl
def Qd(K:QQq)(H:Hp)(xs:List D)(y:V):Prop:=∃a vs,y=.ref a/\(lu K H a vs\/jl K H a vs)/\ak K H xs vs
def abk(K:QQq)(neg:Bool):R2:=fun x y H Q=>∃p xs,aZ K H p x/\Qd K H xs y/\jQ p xs=true/\Q (.bl (if neg then !cF p xs else cF p xs)) H
def qP{p:D}(hu:u+60<cLine)(hp:nd p=true)(hd:dep p<=50):u+1+min (PyData.depthAll (Bf xs)) (py p).depth<cLine:=by
 rw[yh p hp]
 omega
theorem Qd.reads{s:Shared}{σ:St}{H:Hp}{y:V}(I:Inv X γ σ H s)(h:Qd X.K H xs y)(hn:mU xs=true)(r:RelV y u):
  ∃as,Reads s.heap u (.list (Bf xs)) as\/Reads s.heap u (.tuple (Bf xs)) as:=by
 obtain⟨a,vs,rfl,hq,l⟩:=h
 cases r
 rcases hq with hq|hq
 ·obtain⟨its,rv,⟨o,n,e,c,_,dt⟩,_⟩:=I.list hq
  obtain⟨as,q⟩:=ak.reads I hn l rv
  exact⟨a::as,.inl (.list e c dt (by simpa using q))⟩
 ·obtain⟨its,rv,⟨o,e,c,n,dt⟩,_⟩:=I.tuple hq
  obtain⟨as,q⟩:=ak.reads I hn l rv
  exact⟨as,.inr (.tuple e c dt (by simpa using q))⟩
def Xl(hu:X.A.units+60<cLine):gJ X (compareOp .In) (abk X.K false):=by
 intro γ s σ H x y v u Q I rx ry h
 obtain⟨p,xs,Dp,hS,ok,k⟩:=h
 simp only[jQ,Bool.or_eq_true,QUq,QUz]at ok
 rcases ok with ⟨h1,h2⟩|⟨⟨h1,h2⟩,h3⟩
 ·obtain⟨a,vs,rfl,hq,l⟩:=hS
  obtain⟨k1,k2⟩:=xV Dp h1 l h2
  exact Ir γ s σ H x _ v u Q I rx ry ⟨a,vs,rfl,hq,(by cases p<;>simp_all[flat]<;>(cases Dp;rfl)),k1,by simpa[k2]using k⟩
 ·obtain⟨bs,rb⟩:=aZ.reads I h1 Dp rx
  obtain⟨as,ra|ra⟩:=hS.reads I h3 ry
  ·exact SeqAt.in_list_reads ra rb (jC xs h3) (jD p h1) (qP hu h1 h2) (by rw[uz h1 h3];exact⟨.bl _,H,I,rfl,k⟩)
  ·exact SeqAt.in_tuple_reads ra rb (jC xs h3) (jD p h1) (qP hu h1 h2) (by rw[uz h1 h3];exact⟨.bl _,H,I,rfl,k⟩)
def Io(hu:X.A.units+60<cLine):gJ X (compareOp .NotIn) (abk X.K true):=by
 intro γ s σ H x y v u Q I rx ry h
 obtain⟨p,xs,Dp,hS,ok,k⟩:=h
 simp only[jQ,Bool.or_eq_true,QUq,QUz]at ok
 rcases ok with ⟨h1,h2⟩|⟨⟨h1,h2⟩,h3⟩
 ·obtain⟨a,vs,rfl,hq,l⟩:=hS
  obtain⟨k1,k2⟩:=xV Dp h1 l h2
  exact xJ γ s σ H x _ v u Q I rx ry ⟨a,vs,rfl,hq,(by cases p<;>simp_all[flat]<;>(cases Dp;rfl)),k1,by simpa[k2]using k⟩
 ·obtain⟨bs,rb⟩:=aZ.reads I h1 Dp rx
  obtain⟨as,ra|ra⟩:=hS.reads I h3 ry
  ·exact SeqAt.notIn_list_reads ra rb (jC xs h3) (jD p h1) (qP hu h1 h2) (by rw[uz h1 h3];exact⟨.bl _,H,I,rfl,k⟩)
  ·exact SeqAt.notIn_tuple_reads ra rb (jC xs h3) (jD p h1) (qP hu h1 h2) (by rw[uz h1 h3];exact⟨.bl _,H,I,rfl,k⟩)
end
structure Gives(K:QQq)(J:It)(xs:List D)(H:Hp):Prop where
 go:∀H1,bM H H1->∀(i:Nat)d,xs[i]? =some d->J.go i H1
 yld:∀H1,bM H H1->∀(i:Nat)d,xs[i]? =some d->∀x H2,J.yld i H1 x H2->aZ K H2 d x/\(H2=H1\/∃p vs,H1 p=none/\H2=upd H1 p (.tup vs))
 stop:∀H1,bM H H1->∀(i:Nat),xs.length<=i->J.stop i H1
 len:xs.length<=sizeLine
noncomputable def tI(K:QQq)(W:Wi)(env:Ev)(r:Out Rv):TI:=fun σ H R=>Sat K env σ H/\match r with
 |.ok x env'=>∃d xs,x.kI=some d/\items d=some xs/\∀J H',Nx K env σ H env' H'->Gives K J xs H'->R J H'
 |.exc c env'=>∀H',Nx K env σ H env' H'->W c env' σ H'
 |.bad=>False
def GI(X:Cx)(W:Wi)(c:Cf)(m:E)(tg e:Expr):Prop:=∀env,PI X tg e (tI X.K W env (ev c m env))
section
theorem yp{ifs:List Expr}{pos:Pos}{env:Env}(I:Nat->Shared->Prop)
  (turn:∀n s,I n s->wpAny (model prog w) A (pyNext it) (fun r θ=>match r with
   |none=>R (.ok .next) θ
   |some v=>wpAny (model prog w) A (letOwnedTupleGo target it v) (fun _ s₁'=>wpAny (model prog w) A (assign target env v) (fun _ Δ=>
     wpAny (model prog w) A (forIn ifs true fun c r=>if r=true then do let ok<-isTrue c env (eval c env);pure (ForInStep.yield ok)else pure (ForInStep.yield r)) (fun ok s₃=>
      if ok=true then wpAny (model prog w) A (eval elt env) (fun x s₄=>
       wpAny (model prog w) A (call (.builtin "list.append") [acc,x]) (fun _ s₅=>∃m,m<n/\I m s₅) (fun _ _=>False) s₄) (fun _ _=>False) s₃
      else∃m,m<n/\I m s₃) (fun _ _=>False) Δ) (fun _ _=>False) s₁') (fun _ _=>False) θ) (fun _ _=>False) s)
  n(h:I n s):
  codeAny (model prog w) A (.compLoop (.ListComp elt [⟨target,iter,ifs,0⟩] scope pos) 0 it acc env) R s:=by
 refine codeAny_loop rfl I (fun n s hI=>?_) n h
 refine wpAny_noted ?_
 refine QTz (wpAny_standAt (QTz (QKz (turn n s hI) (fun r θ Ξ=>?_) fun _ _ h'=>h'.elim)))
 cases r with
 |none=>exact QKq Ξ
 |some v=>
  refine QTz (QKz Ξ (fun _ s₁' h₁'=>?_) fun _ _ h'=>h'.elim)
  refine QTz (QKz h₁' (fun _ Δ Ψ=>QTz (QKz Ψ (fun ok s₃ h₃=>?_) fun _ _ h'=>h'.elim)) fun _ _ h'=>h'.elim)
  cases ok with
  |false=>exact QKq ⟨rfl,h₃⟩
  |true=>
   exact QTz (QTz (QKz h₃ (fun x s₄ h₄=>QTz (QKz h₄ (fun _ s₅ h₅=>QKq (QKq ⟨rfl,h₅⟩)) fun _ _ h'=>h'.elim)) fun _ _ h'=>h'.elim))
end
noncomputable def blk(X:Cx)(scope:Scope)(cl:List (Str×Addr))(N:List Str)(fp:List Addr)(s₀:Shared)(H₀:Hp):Cx where
 prog:=X.prog
 w:=X.w
 K:=X.K
 mg:=X.mg
 base:=X.base
 A:=X.A
 N:=N
 s₀:=s₀
 H₀:=H₀
 env:=compEnvC scope cl s₀.heap.objs.size X.env
 outer:=X.stack
 stack:=X.stack
 ex:=fp
 fn:=fun _=>false
 calm:=X.calm
 pn:=[]
 xe:=fun _ _=>False
def cg(η N:List Str):List Str:=η++N.map fun x=>if η.contains x then(".":Str)++x else x
structure JP(sc inner:Scope)(η N:List Str):Prop where
 kind:inner.kind=.function
 nd:(cg η N).Nodup
 loc:∀x,inner.names.lookup x=some .local->x∈η\/x=(".0":Str)
 locs:∀x∈inner.names,x.2=.local->inner.names.lookup x.1=some .local
 tg:∀x∈η,inner.names.lookup x=some .local
 nocell:∀x∈inner.names,x.2≠ .cell
 fre:∀x∈inner.names,x.2=.free->sc.names.lookup x.1=some .cell\/sc.names.lookup x.1=some .free
 dot:∀x∈N,η.contains x=true->inner.names.lookup ((".":Str)++x)=none
 dot0:(".0":Str)∉N
structure Qk(scope:Scope)(env:Env)(cl:List (Str×Addr)):Prop where
 eq:closureFor scope env=pure cl
 to:∀x c,cl.lookup x=some c->env.cells.lookup x=some c
 has:∀x,scope.names.lookup x=some .free->∃c,cl.lookup x=some c
theorem bN{env:Env}:∀{names:List (Str×NameKind)}{x:Str}{k:NameKind},
  (names.map fun(n,k)=>if (k==NameKind.free&&env.scope.kind== .function&&env.kindOf n==some .cell)then(n,NameKind.cell)else(n,k)).lookup x=some k->
   names.lookup x=some k\/(k=.cell/\names.lookup x=some .free)
 |[],_,_,h=>by simp at h
 |(n,k')::r,x,k,h=>by
  rw[Qyq]at h
  cases hx:x==n with
  |true=>
   by_cases hc:(k'==NameKind.free&&env.scope.kind== .function&&env.kindOf n==some .cell)=true
   ·simp only[hc,if_true,QFz,hx]at h
    cases h
    simp only[QUq,beq_iff_eq]at hc
    exact .inr ⟨rfl,by simp[QFz,hx,hc.1.1]⟩
   ·simp only[eq_false_of_ne_true hc,Qyz,if_false,QFz,hx]at h
    exact .inl (by simpa[QFz,hx]using h)
  |false=>
   have h':(r.map fun(n,k)=>if (k==NameKind.free&&env.scope.kind== .function&&env.kindOf n==some .cell)then(n,NameKind.cell)else(n,k)).lookup x=some k:=by
    by_cases hc:(k'==NameKind.free&&env.scope.kind== .function&&env.kindOf n==some .cell)=true
    ·simpa only[hc,if_true,QFz,hx]using h
    ·simpa only[eq_false_of_ne_true hc,Qyz,if_false,QFz,hx]using h
   rcases (@bN env r x k) h' with q|⟨q1,q2⟩
   ·exact .inl (by simpa[QFz,hx]using q)
   ·exact .inr ⟨q1,by simpa[QFz,hx]using q2⟩
theorem Pq{scope:Scope}{η:List Str}{fp:List Addr}{σ:St}
  (I:Inv X γ σ H s)(sc:JP X.env.scope scope η X.N)(co:Qk scope X.env cl)(hf:∀b∈fp,dW X γ H b)(hlt:∀b∈fp,b<s.heap.objs.size):
  (blk X scope cl (cg η X.N) fp s H).Ok where
 mod:=I.ok.mod
 kind:=sc.kind
 glob:=I.ok.glob
 blt:=I.ok.blt
 above:=QVz _
 inj:=fun x y c h1 h2=>I.ok.inj x y c (co.to x c h1) (co.to y c h2)
 has:=fun x h=>by
  have z:scope.names.lookup x=some .free:=by
   rcases h with h|h
   ·rcases bN h with q|⟨_,q⟩
    ·exact absurd rfl (sc.nocell _ (PySem.mem_of_lookup q))
    ·exact q
   ·rcases bN h with q|⟨q,_⟩
    ·exact q
    ·cases q
  exact co.has x z
 cab:=fun x c h=>by cases h
 hd:=I.ok.hd
 frames:=I.ok.frames
 stk:=.inl rfl
 exf:=fun b hb=>⟨Qvq (hlt b hb),fun x c h=>(hf b hb).2.2.2.2.1 x c (co.to x c h)⟩
 bs:=I.bs
 bsz:=Nat.le_trans I.ok.bsz I.sz
 noex:=fun b o e hb=>by
  rcases (hf b hb).2.2.2.1 with z|z
  ·exact I.ok.noex b o e z
  ·exact absurd (Qwz (Qqq e) (Nat.le_trans I.ok.bsz z)) (Nat.lt_irrefl _)
 exfs:=fun b hb hs=>by
  obtain⟨_,h1,h2,_⟩:=hf b hb
  rcases QBz.mp (I.Bt b hs)with z|z
  ·exact h1 z
  ·exact h2 z
 lX:=I.stack
 frf:=I.Ey
theorem TF{scope:Scope}{η:List Str}{fp:List Addr}{σ:St}{H:Hp}{h':Heap}
  (I:Inv X γ σ H s)(sc:JP X.env.scope scope η X.N)(co:Qk scope X.env cl)(hf:∀b∈fp,dW X γ H b)(hlt:∀b∈fp,b<s.heap.objs.size)
  (hn:h'.Ns s.heap.objs.size fun _=>none)(hk:∀b o,s.heap.get? b=some o->h'.get? b=some o):
  Inv (blk X scope cl (cg η X.N) fp s H) [] (List.replicate η.length none++σ) H {s with heap:=h',toks:=t}:=by
 have cellK:∀c v,s.heap.IsCell c v->h'.IsCell c v:=fun c v⟨o,e,d⟩=>⟨o,hk c o e,d⟩
 refine⟨Pq I sc co hf hlt,rfl,I.bare,Un.kept hk,⟨_,hn,fun i x v e1 e2 e3=>?_⟩,fun x c e=>?_,I.hok.fresh (QVz _),fun x c e=>I.freeC x c (co.to x c e),fun p hp=>absurd (show p∈([])from hp) (by simp),I.hok.kept hk,?_⟩
 ·--an outer name that is seen within
  have hi:η.length<=i:=by
   refine Nat.le_of_not_lt fun q=>?_
   rw[Qwq (by simpa using q),List.getElem?_replicate]at e2
   split at e2<;>cases e2
  rw[QHz (by simpa using hi)]at e2
  simp only[List.length_replicate]at e2
  have e1':(cg η X.N)[i]? =some x:=e1
  unfold cg at e1'
  rw[QHz hi,QEz]at e1'
  cases ey:X.N[i-η.length]? with
  |none=>rw[ey]at e1';cases e1'
  |some y=>
   rw[ey]at e1'
   have e1'':(if η.contains y=true then(".")++y else y)=x:=QDz e1'
   have e3':=e3
   by_cases hy:η.contains y=true
   ·rw[if_pos hy]at e1''
    subst e1''
    have no:=sc.dot y (QBq ey) hy
    rcases e3' with q|q|q
    ·rcases bN q with z|⟨z,_⟩
     ·rw[no]at z;cases z
     ·cases z
    ·rcases bN q with z|⟨_,z⟩
     ·rw[no]at z;cases z
     ·rw[no]at z;cases z
    ·rcases bN q with z|⟨z,_⟩
     ·rw[no]at z;cases z
     ·cases z
   ·rw[if_neg hy]at e1''
    subst e1''
    have fr:scope.names.lookup y=some .free:=by
     rcases e3' with q|q|q
     ·rcases bN q with z|⟨z,_⟩
      ·rcases sc.loc y z with w|w
       ·exact absurd (by simpa using w) hy
       ·exact absurd (w▸QBq ey) sc.dot0
      ·cases z
     ·rcases bN q with z|⟨_,z⟩
      ·exact absurd rfl (sc.nocell _ (PySem.mem_of_lookup z))
      ·exact z
     ·rcases bN q with z|⟨z,_⟩
      ·exact z
      ·cases z
    have ou:=sc.fre _ (PySem.mem_of_lookup fr) rfl
    obtain⟨m,hm,hl⟩:=I.loc
    obtain⟨u,r,l⟩:=hl _ y v ey e2 (.inr ou)
    obtain⟨c,hc⟩:=co.has y fr
    refine⟨u,r,.inr ⟨?_,c,hc,?_⟩⟩
    ·have z:=e3'
     rcases z with z|z|z
     ·rcases bN z with w|⟨w,_⟩
      ·rw[fr]at w;cases w
      ·cases w
     ·exact .inl z
     ·exact .inr z
    ·rcases l with ⟨k,_⟩|⟨_,c',hc',z⟩
     ·have k':X.env.scope.names.lookup y=some .local:=k
      rcases ou with w|w
      ·rw[k']at w;cases w
      ·rw[k']at w;cases w
     ·rw[co.to y c hc]at hc'
      cases hc'
      exact cellK c _ z
 ·obtain⟨v,z⟩:=I.cell x c (co.to x c e)
  exact⟨v,cellK c v z⟩
 ·show(List.replicate η.length none++σ).length=(cg η X.N).length
  unfold cg
  simp only[QTq,List.length_replicate,Qvz,I.len]
def slots:Tg->List Nat
 |.name i=>[i]
 |.tup is=>is
structure jP(K:QQq)(tg:Tg)(env:Ev)(σ:St)(env':Ev)(ζ:St)(H:Hp):Prop where
 gm:Sat K env' ζ H
 same:∀(i:Nat),i∉slots tg->env'[i]? =env[i]? /\ζ[i]? =σ[i]?
 vals:∀(i:Nat),i∈slots tg->∃d,env'[i]? =some (.val d)
 bors:∀(i:Nat)xs,env[i]? =some (.bor xs)->i∉slots tg
 len:ζ.length=σ.length
def tG(K:QQq)(tg:Tg):TG:=fun v σ H Q=>∃env d env',Sat K env σ H/\aZ K H d v/\eE tg d env=some env'/\∀ζ,jP K tg env σ env' ζ H->Q ζ H
def GG(X:Cx)(tg:Tg)(e:Expr):Prop:=PG X e (tG X.K tg)
section
def jP.sub(h:jP K tg env σ env' ζ H){a:Addr}(o:aJ env' ζ i a):aJ env σ i a:=by
 obtain⟨⟨s,xs,e1,e2⟩,e3⟩:=o
 by_cases hi:i∈slots tg
 ·obtain⟨d,e⟩:=h.vals i hi
  rw[e]at e1;cases e1;cases e2
 ·obtain⟨q1,q2⟩:=h.same i hi
  exact⟨⟨s,xs,by rw[<-q1];exact e1,e2⟩,by rw[<-q2];exact e3⟩
def rT{s:Sl}(h:fP i s env=some env'):env'=env.set i s/\i<env.length/\∀xs,env[i]? ≠some (.bor xs):=by
 unfold fP at h
 cases e:env[i]? with
 |none=>rw[e]at h;cases h
 |some t=>
  rw[e]at h
  have hi:=(QCq.mp e).1
  cases t with
  |bor xs=>cases h
  |un=>cases h;exact⟨rfl,hi,fun xs q=>by cases q⟩
  |val d=>cases h;exact⟨rfl,hi,fun xs q=>by cases q⟩
  |own ys=>cases h;exact⟨rfl,hi,fun xs q=>by cases q⟩
def Sat.put{d:D}(S:Sat K env σ H)(hi:i<env.length)(hd:aZ K H d v):Sat K (env.set i (.val d)) (σ.set i (some v)) H:=by
 have own:∀j a,aJ (env.set i (.val d)) (σ.set i (some v)) j a->aJ env σ j a:=fun j a⟨⟨s,xs,e1,e2⟩,e3⟩=>by
  by_cases hj:i=j
  ·subst hj;rw[Qxz hi]at e1;cases e1;cases e2
  ·rw[Qxq hj]at e1 e3;exact⟨⟨s,xs,e1,e2⟩,e3⟩
 refine⟨by simpa using S.len,fun j s e=>?_,fun j k a h1 h2=>S.ne j k a (own j a h1) (own k a h2)⟩
 by_cases hj:i=j
 ·subst hj
  rw[Qxz hi]at e
  cases e
  rw[Qxz (by rw[<-S.len];exact hi)]
  exact⟨v,rfl,hd⟩
 ·rw[Qxq hj]at e⊢
  exact S.sl j s e
def QT{d:D}(S:Sat K env σ H)(hd:aZ K H d v)(h:fP i (.val d) env=some env'):jP K (.name i) env σ env' (σ.set i (some v)) H:=by
 obtain⟨rfl,hi,hb⟩:=rT h
 refine⟨S.put hi hd,fun j hj=>?_,fun j hj=>?_,fun j xs e hj=>?_,by simp⟩
 ·have:i≠j:=fun z=>hj (by simp[slots,z])
  exact⟨Qxq this,Qxq this⟩
 ·have e:j=i:=by simpa[slots]using hj
  subst e
  exact⟨d,Qxz hi⟩
 ·have e':j=i:=by simpa[slots]using hj
  subst e'
  exact hb xs e
end
section
def xX{x:Str}(hN:X.N.Nodup)(hi:X.N[i]? =some x)(hx:Loc X.env.scope x)(hf:X.fn x=true\/X.env.scope.names.lookup x=some .local):GG X (.name i) (.Name x pos):=by
 intro γ s σ H v u Q I r q
 obtain⟨env,d,env',S,hd,e,k⟩:=q
 exact Rx hN hi hx hf γ s σ H v u Q I r (k _ (QT S hd e))
def iC(sc:Scope)(N:List Str):List Nat->List Expr->Bool
 |[],[]=>true
 |i::is,.Name x _::es=>(N[i]? ==some x)&&(sc.names.lookup x==some .local)&&iC sc N is es
 |_,_=>false
inductive uB(X:Cx):List Nat->List Expr->Prop
 |nil:uB X [] []
 |cons {i:Nat} {is:List Nat} {x:Str} {p:Pos} {es:List Expr}:X.N[i]? =some x->Loc X.env.scope x->(X.fn x=true\/X.env.scope.names.lookup x=some .local)->uB X is es->uB X (i::is) (.Name x p::es)
theorem Ml:∀{is:List Nat}{es:List Expr},iC X.env.scope X.N is es=true->uB X is es
 |[],[]=>fun _=>.nil
 |[],_::_=>fun h=>by simp[iC]at h
 |_::_,[]=>fun h=>by simp[iC]at h
 |i::is,e::es=>fun h=>by
  cases e with
  |Name x p=>
   simp only[iC,QUq,beq_iff_eq]at h
   exact .cons h.1.1 (.inl h.1.2) (.inr h.1.2) (Ml h.2)
  |_=>simp[iC]at h
theorem Ab(hN:X.N.Nodup):∀(is:List Nat)(es:List Expr),uB X is es->
  PGs X es (fun vs σ H Q=>∃env ds env',Sat X.K env σ H/\ak X.K H ds vs/\mC is ds env=some env'/\∀ζ,jP X.K (.tup is) env σ env' ζ H->Q ζ H)
 |[],[],_=>fun γ s σ H vs us Q I r⟨env,ds,env',S,l,e,k⟩=>by
  cases ds with
  |nil=>
   cases e
   refine Rw γ s σ H vs us Q I r ⟨ak.bA.mp l,k σ ⟨S,fun i _=>⟨rfl,rfl⟩,fun i hi=>?_,fun i xs _=>?_,rfl⟩⟩
   ·simp[slots]at hi
   ·simp[slots]
  |cons d ds=>cases e
 |i::is,_,.cons (x:=x) (p:=p) (es:=es) h1 h2 h3 h4=>by
   intro γ s σ H vs us Q I r q
   refine Lr (xX hN h1 h2 h3) (Ab hN is es h4) (by rfl) γ s σ H vs us Q I r ?_
   obtain⟨env,ds,env',S,l,e,k⟩:=q
   cases ds with
   |nil=>cases e
   |cons d ds=>
    obtain⟨v,vr,rfl,hd,l'⟩:=ak.aF.mp l
    have e':(fP i _ env).bind _=some env':=e
    cases e1:fP i _ env with
    |none=>rw[e1]at e';cases e'
    |some δ=>
     rw[e1]at e'
     refine⟨v,vr,rfl,env,d,δ,S,hd,e1,fun ξ s1=>⟨δ,ds,env',s1.gm,l',e',fun ρ s2=>k ρ ⟨s2.gm,fun j hj=>?_,fun j hj=>?_,fun j xs q hj=>?_,s2.len.trans s1.len⟩⟩⟩
     ·have h1:j∉slots (.name i):=fun z=>hj (by simp[slots]at z⊢;exact .inl z)
      have h2:=fun z=>hj (by simp[slots]at z⊢;exact .inr z)
      exact⟨(s2.same j h2).1.trans (s1.same j h1).1,(s2.same j h2).2.trans (s1.same j h1).2⟩
     ·by_cases h2:j∈slots (.tup is)
      ·exact s2.vals j h2
      ·obtain⟨d',q⟩:=s1.vals j (by simp[slots]at hj h2⊢;exact hj.resolve_right h2)
       exact⟨d',(s2.same j h2).1.trans q⟩
     ·by_cases h1:j∈slots (.name i)
      ·exact s1.bors j xs q h1
      ·exact s2.bors j xs ((s1.same j h1).1.trans q) (by simp[slots]at hj h1⊢;exact hj.resolve_left h1)
def Dg{is:List Nat}{k:Nat}(hN:X.N.Nodup)(hc:X.calm=true)(h:uB X is es)(hl:(assignEach es X.env).length=is.length)(hst:(assignEach es X.env).findIdx? (·.1)=none):GG X (.tup is) (.Tuple es k pos):=by
 intro γ s σ H v u Q I r q
 obtain⟨env,d,env',S,hd,e,k⟩:=q
 cases d with
 |tup ds=>
  obtain⟨a,vs,rfl,hq,l⟩:=cU hd
  refine W6 hc (Ab hN is es h) hl hst γ s σ H _ u Q I r ⟨a,vs,rfl,hq,?_,env,ds,env',S,l,e,k⟩
  have lens:∀is ds env env',mC is ds env=some env'->ds.length=is.length:=by
   intro is
   induction is with
   |nil=>intro ds env env' e;cases ds with|nil=>rfl|cons _ _=>cases e
   |cons i is ih=>
    intro ds env env' e
    cases ds with
    |nil=>cases e
    |cons d ds=>
     have e':(fP i _ env).bind _=some env':=e
     cases e1:fP i _ env with
     |none=>rw[e1]at e';cases e'
     |some δ=>rw[e1]at e';simp[ih ds δ env' e']
  rw[<-l.length]
  exact lens is ds env env' e
 |_=>cases e
end
def W0:Wi:=fun _ _ _ _=>False
def Sat.lay{env:Ev}{H H2:Hp}(S:Sat K env σ H)(h:H2=H\/∃p vs,H p=none/\H2=upd H p (.tup vs)):Nx K env σ H env H2:=by
 rcases h with rfl|⟨p,vs,hp,rfl⟩
 ·exact Nx.refl S
 ·exact Nx.laid S hp
def sU{σ:St}{a:Addr}:aJ (env.drop nl) (σ.drop nl) i a↔aJ env σ (nl+i) a:=by
 unfold aJ
 rw[List.getElem?_drop,List.getElem?_drop]
theorem Sat.drop{env:Ev}{H:Hp}(S:Sat K env σ H):Sat K (env.drop nl) (σ.drop nl) H:=by
 refine⟨by rw[List.length_drop,List.length_drop,S.len],fun i s e=>?_,fun i j a h1 h2=>?_⟩
 ·rw[List.getElem?_drop]at e⊢
  exact S.sl _ s e
 ·have:=S.ne _ _ a (sU.mp h1) (sU.mp h2)
  omega
def jd{σ:St}{i:Nat}(h:aJ (List.replicate nl .un++env) (List.replicate nl none++σ) i a):∃j,i=nl+j/\aJ env σ j a:=by
 obtain⟨⟨s,xs,e1,e2⟩,e3⟩:=h
 by_cases hi:i<nl
 ·rw[Qwq (by simpa using hi),List.getElem?_replicate,if_pos hi]at e1
  cases e1;cases e2
 ·refine⟨i-nl,by omega,?_⟩
  rw[QHz (by simp;omega)]at e1 e3
  simp only[List.length_replicate]at e1 e3
  exact⟨⟨s,xs,e1,e2⟩,e3⟩
def Sat.front{env:Ev}{H:Hp}(S:Sat K env σ H)nl:Sat K (List.replicate nl .un++env) (List.replicate nl none++σ) H:=by
 refine⟨by simp[S.len],fun i s e=>?_,fun i j a h1 h2=>?_⟩
 ·by_cases hi:i<nl
  ·rw[Qwq (by simpa using hi),List.getElem?_replicate,if_pos hi]at e
   cases e;trivial
  ·rw[QHz (by simp;omega)]at e⊢
   simp only[List.length_replicate]at e⊢
   exact S.sl _ s e
 ·obtain⟨i',rfl,o1⟩:=jd h1
  obtain⟨j',rfl,o2⟩:=jd h2
  rw[S.ne i' j' a o1 o2]
structure Bb(X:Cx)(c:Cf)(scope:Scope)(η:List Str)(tg:Tg)(cond elt:E)(tgE Φ:Expr)(ifs:List Expr):Prop where
 sc:JP X.env.scope scope η X.N
 small:∀i∈slots tg,i<η.length
 tgt:∀cl fp s₀ H₀,(blk X scope cl (cg η X.N) fp s₀ H₀).Ok->GG (blk X scope cl (cg η X.N) fp s₀ H₀) tg tgE
 tests:(ifs=[]/\cond=.con (.bl true))\/∃ce,ifs=[ce]/\∀cl fp s₀ H₀,(blk X scope cl (cg η X.N) fp s₀ H₀).Ok->GT (blk X scope cl (cg η X.N) fp s₀ H₀) W0 c cond ce
 elts:∀cl fp s₀ H₀,(blk X scope cl (cg η X.N) fp s₀ H₀).Ok->GE (blk X scope cl (cg η X.N) fp s₀ H₀) W0 c elt Φ
structure LI(X:Cx)(c:Cf)(tg:Tg)(cond elt:E)(xs ys:List D)(τ env0:Ev)(σ σ0:St)(H3:Hp)(D:Addr)(nl i:Nat)(acc:List Mini.D)(vs:List V)(τ1:Ev)(ξ:St)(H1:Hp):Prop where
 le:i<=xs.length
 go:aN tg (ev c cond) (ev c elt) (xs.drop i) acc τ1=.ok ys τ
 gm:Sat X.K τ1 ξ H1
 out:ξ.drop nl=σ
 acl:acc.length<=i
 cur:H1 D=some (.lst vs)
 den:ak X.K H1 acc vs
 sub:∀k a,aJ τ1 ξ k a->aJ env0 σ0 k a
 pers:bM H3 H1
 keep:∀b u,H3 b=some u->b≠D->(∀k,¬aJ env0 σ0 k b)->H1 b=some u
 dom:∀b,H1 b=none->H3 b=none
 bors:∀(k:Nat)ws,env0[k]? =some (.bor ws)->∃ws',τ1[k]? =some (.bor ws')
section
variable{cond elt:E}{D:Addr}
def LI.no(L:LI X c tg cond elt xs ys τ env0 σ σ0 H3 D nl i acc vs τ1 ξ H1)(hD:∀k,¬aJ env0 σ0 k D):∀k,¬aJ τ1 ξ k D:=fun k z=>hD k (L.sub k D z)
end
structure Ch(K:QQq)(env:Ev)(σ:St)(H:Hp)(env':Ev)(ζ:St)(H':Hp):Prop where
 gm:Sat K env' ζ H'
 sub:∀(i:Nat)a,aJ env' ζ i a->aJ env σ i a
 pers:bM H H'
 keep:∀b u,H b=some u->(∀i,¬aJ env σ i b)->H' b=some u
 dom:∀b,H' b=none->H b=none
 bors:∀(i:Nat)xs,env[i]? =some (.bor xs)->∃ys,env'[i]? =some (.bor ys)
section
def Nx.ch(N:Nx K env σ H δ H1):Ch K env σ H δ σ H1:=⟨N.gm,N.sub,N.pers,N.keep,N.dom,N.bors⟩
def jP.ch(h:jP K tg env σ δ ξ H):Ch K env σ H δ ξ H:=⟨h.gm,fun _ _ z=>h.sub z,bM.refl H,fun _ _ z _=>z,fun _ z=>z,fun i xs e=>⟨xs,(h.same i (h.bors i xs e)).1.trans e⟩⟩
theorem Ch.trans(a:Ch K env σ H δ ξ H1)(b:Ch K δ ξ H1 ε ρ H2):Ch K env σ H ε ρ H2:=
 ⟨b.gm,fun i c z=>a.sub i c (b.sub i c z),a.pers.trans b.pers,fun c vs z n=>b.keep c vs (a.keep c vs z n) fun i w=>n i (a.sub i c w),fun c z=>a.dom c (b.dom c z),fun i xs e=>let ⟨ys,e1⟩:=a.bors i xs e;b.bors i ys e1⟩
end
def jP.out{tg:Tg}{σ ξ:St}{nl:Nat}(h:jP K tg env σ δ ξ H)(hs:∀i∈slots tg,i<nl):ξ.drop nl=σ.drop nl:=by
 apply List.ext_getElem?
 intro i
 rw[List.getElem?_drop,List.getElem?_drop]
 exact(h.same _ fun z=>by have:=hs _ z;omega).2
section
variable{cond elt:E}{D:Addr}
theorem LI.skip(L:LI X c tg cond elt xs ys τ env0 σ σ0 H3 D nl i acc vs τ1 ξ H1)(hD:∀k,¬aJ env0 σ0 k D)(C:Ch X.K τ1 ξ H1 τ2 ρ H2)(hi:i<xs.length)(ho:ρ.drop nl=σ)
  (go:aN tg (ev c cond) (ev c elt) (xs.drop (i+1)) acc τ2=.ok ys τ):LI X c tg cond elt xs ys τ env0 σ σ0 H3 D nl (i+1) acc vs τ2 ρ H2 where
 le:=hi
 go:=go
 gm:=C.gm
 out:=ho
 acl:=Nat.le_succ_of_le L.acl
 cur:=C.keep D _ L.cur (L.no hD)
 den:=L.den.mono C.pers
 sub:=fun k a z=>L.sub k a (C.sub k a z)
 pers:=L.pers.trans C.pers
 keep:=fun b ws z n1 n2=>C.keep b ws (L.keep b ws z n1 n2) fun k o=>n2 k (L.sub k b o)
 dom:=fun b z=>L.dom b (C.dom b z)
 bors:=fun k ws e=>let ⟨w1,e1⟩:=L.bors k ws e;C.bors k w1 e1
def LI.push{v:V}(L:LI X c tg cond elt xs ys τ env0 σ σ0 H3 D nl i acc vs τ1 ξ H1)(hD:∀k,¬aJ env0 σ0 k D)(C:Ch X.K τ1 ξ H1 τ2 ρ H2)(hi:i<xs.length)(ho:ρ.drop nl=σ)
  (go:aN tg (ev c cond) (ev c elt) (xs.drop (i+1)) (acc++[d]) τ2=.ok ys τ)(hd:aZ X.K H2 d v):LI X c tg cond elt xs ys τ env0 σ σ0 H3 D nl (i+1) (acc++[d]) (vs++[v]) τ2 ρ (upd H2 D (.lst (vs++[v]))):=by
 have cur:=C.keep D _ L.cur (L.no hD)
 have ne:∀b u,H2 b=some u->(∀ws,u≠ .lst ws)->b≠D:=fun b u q n z=>by subst z;rw[cur]at q;cases q;exact n vs rfl
 have p:bM H2 (upd H2 D (.lst (vs++[v]))):=⟨fun b ws q=>by rw[aq (ne b _ q (by intro ws z;cases z))];exact q,fun b o u q=>by rw[aq (ne b _ q (by intro ws z;cases z))];exact q⟩
 have no2:=fun k z=>L.no hD k (C.sub k D z)
 refine⟨hi,go,C.gm.keep p fun k b u ow hb=>?_,ho,by rw[QTq];exact Nat.succ_le_succ L.acl,az,((L.den.mono C.pers).append (ak.aX hd ak.cZ)).mono p,fun k a z=>L.sub k a (C.sub k a z),
  (L.pers.trans C.pers).trans p,fun b ws z n1 n2=>?_,fun b z=>L.dom b (C.dom b ?_),fun k ws e=>let ⟨w1,e1⟩:=L.bors k ws e;C.bors k w1 e1⟩
 ·rw[aq (fun z=>by subst z;exact no2 k ow)];exact hb
 ·rw[aq n1]
  exact C.keep b ws (L.keep b ws z n1 n2) fun k o=>n2 k (L.sub k b o)
 ·by_cases hb:b=D
  ·subst hb;rw[az]at z;cases z
  ·rw[aq hb]at z;exact z
end
def wA{α:Type}{xs:List α}{d:α}(h:xs[i]? =some d):xs.drop i=d::xs.drop (i+1):=by
 obtain⟨hi,e⟩:=QCq.mp h
 rw[List.drop_eq_getElem_cons hi,e]
def wC{c:Cf}{scope:Scope}{tg:Tg}{cond elt:E}{ifs:List Expr}
{σ:St} {s:Shared} {J:It} {it:Addr} {xs ys:List D} {RR:Value->Addr->Result->Shared->Prop} {E:QZq}
  (B:Bb X c scope η tg cond elt tgE Φ ifs) (hc:X.calm=true) (co:Qk scope X.env cl)
  (I:Inv X γ σ H s) (S:Sat X.K env σ H) (T:Turn X.prog X.w X.K tgE J fp it tn) (t0:tn 0 s.heap) (hf:∀b∈fp,dW X γ H b) (G:Gives X.K J xs H)
  (hgo:aN tg (ev c cond) (ev c elt) xs [] (List.replicate η.length .un++env)=.ok ys τ)
  (hRR:∀(D C:Addr)(s':Shared)(H':Hp)(vs:List V)(m:QZz),Inv X γ σ H' s'->Nx X.K env σ H (τ.drop η.length) H'->H' D=some (.lst vs)->ak X.K H' ys vs->H D=none->
   s'.heap.Ns C m->dW X γ H' C->RR (.ref D) C (.ok .next) s'):
  wpAny (model X.prog X.w) X.A (newList []) (fun acc s₃=>wpAny (model X.prog X.w) X.A (newFunctionEnv scope X.env.globals cl [] X.env.qual none .none (some X.env)) (fun cenv s₄=>
   codeAny (model X.prog X.w) X.A (.compStart (.ListComp Φ [⟨tgE,ο,ifs,0⟩] scope pos) 0 (.ref it) acc {cenv with scope:=relabel scope X.env}) (RR acc cenv.locals) s₄) E s₃) E s:=by
 have hlt:∀b∈fp,b<s.heap.objs.size:=fun b hb=>by
  obtain⟨o,e,_⟩:=T.obj 0 _ t0 b hb
  exact Qqq e
 refine Qzz (wpAny_newFunctionEnv B.sc.nocell (by intro y hy;simp at hy) (fun Ξ hns₁ hsb₁=>?_) B.sc.kind)
 dsimp only at hns₁ hsb₁⊢
 generalize hDd:s.heap.objs.size=D at*
 have hDn:H D=none:=by rw[<-hDd];exact I.hok.fresh (QVz _)
 have I3:Inv X γ σ (upd H D (.lst [])) {s with heap:=s.heap.push {cls:=.type "list",dict:=none,data:=.seq ([]:List Value).toArray}}:=by
  have:=I.laid (a:=s.heap.objs.size) (o:=.lst []) (t':=s.toks) (h':=s.heap.push {cls:=.type "list",dict:=none,data:=.seq ([]:List Value).toArray}) (fun b o e=>QWq _ e) (QVz _) ⟨QHq _,[],0,.nil,Qqz _ rfl⟩
  rw[hDd]at this
  exact this
 obtain⟨s3,hs3⟩:∃s3:Shared,s3={s with heap:=s.heap.push {cls:=.type "list",dict:=none,data:=.seq ([]:List Value).toArray}}:=⟨_,rfl⟩
 rw[<-hs3]at I3
 have hs3h:s.heap.push {cls:=.type "list",dict:=none,data:=.seq ([]:List Value).toArray}=s3.heap:=by rw[hs3]
 rw[hs3h]at hns₁ hsb₁⊢
 have hsz:s3.heap.objs.size=D+1:=by rw[<-hs3h,Heap.size_push,hDd]
 have hk3:=fun b o e=>hsb₁.extBut b o (Qvq (Qqq e)) (QWq _ e)
 have hk:∀b o,s.heap.get? b=some o->s3.heap.get? b=some o:=fun b o e=>by rw[<-hs3h];exact QWq _ e
 have hf3:∀b∈fp,dW X γ (upd H D (.lst [])) b:=fun b hb=>⟨by
  rw[aq (Qvq (hlt b hb))];exact(hf b hb).1,(hf b hb).2⟩
 have hlt3:∀b∈fp,b<s3.heap.objs.size:=fun b hb=>Qwz (hlt b hb) (by rw[hsz];exact Nat.le_succ _)
 have N3:Nx X.K env σ H env (upd H D (.lst [])):=Nx.laid S hDn
 generalize hH3:upd H D (.lst [])=H3 at I3 hf3 N3
 have hD3:H3 D=some (.lst []):=by rw[<-hH3];exact az
 have noD:∀k,¬aJ (List.replicate η.length .un++env) (List.replicate η.length none++σ) k D:=fun k z=>by
  obtain⟨j,_,o⟩:=jd z
  obtain⟨_,_,q,_⟩:=S.own o
  rw[hDn]at q;cases q
 have ok':=Pq I3 B.sc co hf3 hlt3
 have hns':Ξ.Ns s3.heap.objs.size fun _=>none:=by simpa using hns₁
 have fpk:∀{H1:Hp},(∀b∈fp,H1 b=none)->∀b∈fp,dW (blk X scope cl (cg η X.N) fp s3 H3) [] H1 b:=fun{H1}hn b hb=>
  ⟨hn b hb,(ok'.exf b hb).1,ok'.exfs b hb,.inl hb,fun x q e=>(ok'.exf b hb).2 x q e,fun p hp=>absurd (show p∈([]:QQz)from hp) (by simp)⟩
 have loop:∀s4:Shared,s4={s with heap:=Ξ,toks:=s.toks+([]:List (Str×Value)).length}->
   codeAny (model X.prog X.w) X.A (.compLoop (.ListComp Φ [⟨tgE,ο,ifs,0⟩] scope pos) 0 (.ref it) (.ref D) (compEnvC scope cl s3.heap.objs.size X.env)) (RR (.ref D) s3.heap.objs.size) s4:=by
  rintro s4 rfl
  have I4:Inv (blk X scope cl (cg η X.N) fp s3 H3) [] (List.replicate η.length none++σ) H3 {s with heap:=Ξ,toks:=s.toks+([]:List (Str×Value)).length}:=by
   have:=TF (t:=s.toks+([]:List (Str×Value)).length) I3 B.sc co hf3 hlt3 hns' hk3
   rw[hs3]at this⊢
   exact this
  refine yp (fun n s'=>∃i acc vs τ1 ξ H1,n=xs.length-i/\Inv (blk X scope cl (cg η X.N) fp s3 H3) [] ξ H1 s'/\tn i s'.heap/\(∀b∈fp,H1 b=none)/\
   LI X c tg cond elt xs ys τ (List.replicate η.length .un++env) σ (List.replicate η.length none++σ) H3 D η.length i acc vs τ1 ξ H1) ?_ xs.length ?_
  ·rintro n s1 ⟨i,acc,vs,τ1,ξ,H1,rfl,I1,t1,f1,L⟩
   by_cases hi:i<xs.length
   ·--one more turn
    obtain⟨d,hd⟩:∃d,xs[i]? =some d:=⟨xs[i],by simp[hi]⟩
    have q0:=L.go
    rw[wA hd,aN]at q0
    cases hset:eE tg d τ1 with
    |none=>rw[hset]at q0;cases q0
    |some τ2=>
     rw[hset]at q0
     simp only at q0
     have p1:=N3.pers.trans L.pers
     refine bK (T.item (blk X scope cl (cg η X.N) fp s3 H3) rfl rfl rfl hc i [] s1 ξ H1 _ I1 (fpk f1) t1 (G.go H1 p1 i d hd)) fun r s2⟨u,hr,h2⟩=>?_
     subst hr
     refine bK h2 fun _ s3'⟨x,H2,I2,r2,y2,t2,f2⟩=>?_
     obtain⟨Dx,lay⟩:=G.yld H1 p1 i d hd x H2 y2
     have N2:=L.gm.lay lay
     have D2:=N2.keep D _ L.cur (L.no noD)
     have I2':=I2.pinned (fpk f2) (T.obj _ _ t2)
     refine bK (B.tgt cl fp s3 H3 ok' _ s3' ξ H2 x u (fun ρ H'=>H'=H2/\jP X.K tg τ1 ξ τ2 ρ H2) I2' r2 ⟨τ1,d,τ2,N2.gm,Dx,hset,fun ρ st=>⟨rfl,st⟩⟩) fun _ s4'⟨ρ,H2',I3',hH,st⟩=>?_
     subst hH
     have ho:=(st.out B.small).trans L.out
     have C2:=N2.ch.trans st.ch
     have again:∀{s7:Shared}{H7:Hp}{acc':List Mini.D}{vs':List V}{τ7:Ev},Inv (blk X scope cl (cg η X.N) fp s3 H3) ([]++sJ fp s3'.heap) ρ H7 s7->
       LI X c tg cond elt xs ys τ (List.replicate η.length .un++env) σ (List.replicate η.length none++σ) H3 D η.length (i+1) acc' vs' τ7 ρ H7->
       ∃k,k<xs.length-i/\∃i acc vs τ1 ξ H1,k=xs.length-i/\Inv (blk X scope cl (cg η X.N) fp s3 H3) [] ξ H1 s7/\tn i s7.heap/\(∀b∈fp,H1 b=none)/\
        LI X c tg cond elt xs ys τ (List.replicate η.length .un++env) σ (List.replicate η.length none++σ) H3 D η.length i acc vs τ1 ξ H1:=fun{s7 H7 acc' vs' τ7}I7 L7=>by
      refine⟨xs.length- (i+1),by omega,i+1,acc',vs',τ7,ρ,H7,rfl,I7.dF,T.keep _ _ _ t2 fun b hb o e=>(I7.pin (b,o) (QVq _ (QVq _ (ju hb e)))).1,fun b hb=>?_,L7⟩
      obtain⟨o,e,_⟩:=T.obj _ _ t2 b hb
      exact(I7.pin (b,o) (QVq _ (QVq _ (ju hb e)))).2.1
     obtain⟨xc,dc,bc,τ3,e1,e2,e3,q1⟩:∃xc dc bc τ3,ev c cond τ2=.ok xc τ3/\xc.kI=some dc/\jk dc=some bc/\
       (if bc then(ev c elt τ3).au fun d σ₃=>aN tg (ev c cond) (ev c elt) (xs.drop (i+1)) (acc++[d]) σ₃ else aN tg (ev c cond) (ev c elt) (xs.drop (i+1)) acc τ3)=.ok ys τ:=by
      cases r:ev c cond τ2 with
      |bad=>rw[r]at q0;cases q0
      |exc k τ3=>rw[r]at q0;cases q0
      |ok xc τ3=>
       rw[r]at q0
       cases xc with
       |ref k=>cases q0
       |tmp zs=>cases q0
       |val dc=>
        simp only[Out.cM,Out.au]at q0
        cases q:jk dc with
        |none=>rw[q]at q0;cases q0
        |some bc=>rw[q]at q0;exact⟨_,dc,bc,τ3,rfl,rfl,q,q0⟩
       |new zs=>
        simp only[Out.cM,Out.au]at q0
        cases q:jk zs.d with
        |none=>rw[q]at q0;cases q0
        |some bc=>rw[q]at q0;exact⟨_,zs.d,bc,τ3,rfl,rfl,q,q0⟩
     have after:∀(s5:Shared)(H5:Hp),Inv (blk X scope cl (cg η X.N) fp s3 H3) ([]++sJ fp s3'.heap) ρ H5 s5->Nx X.K τ2 ρ H2' τ3 H5->
       (if bc=true then wpAny (model X.prog X.w) X.A (eval Φ (compEnvC scope cl s3.heap.objs.size X.env)) (fun x s₄=>
        wpAny (model X.prog X.w) X.A (call (.builtin "list.append") [.ref D,x]) (fun _ s₅=>∃m,m<xs.length-i/\∃i acc vs τ1 ξ H1,m=xs.length-i/\Inv (blk X scope cl (cg η X.N) fp s3 H3) [] ξ H1 s₅/\tn i s₅.heap/\(∀b∈fp,H1 b=none)/\
        LI X c tg cond elt xs ys τ (List.replicate η.length .un++env) σ (List.replicate η.length none++σ) H3 D η.length i acc vs τ1 ξ H1) (fun _ _=>False) s₄) (fun _ _=>False) s5
       else∃m,m<xs.length-i/\∃i acc vs τ1 ξ H1,m=xs.length-i/\Inv (blk X scope cl (cg η X.N) fp s3 H3) [] ξ H1 s5/\tn i s5.heap/\(∀b∈fp,H1 b=none)/\
        LI X c tg cond elt xs ys τ (List.replicate η.length .un++env) σ (List.replicate η.length none++σ) H3 D η.length i acc vs τ1 ξ H1):=fun s5 H5 I5 N5=>by
      have C5:=C2.trans N5.ch
      cases bc with
      |false=>
       exact again I5 (L.skip noD C5 hi ho q1)
      |true=>
       obtain⟨xe,de,τ4,e4,e5,q2⟩:∃xe de τ4,ev c elt τ3=.ok xe τ4/\xe.kI=some de/\aN tg (ev c cond) (ev c elt) (xs.drop (i+1)) (acc++[de]) τ4=.ok ys τ:=by
        cases r:ev c elt τ3 with
        |bad=>rw[r]at q1;cases q1
        |exc k τ3=>rw[r]at q1;cases q1
        |ok xe τ4=>
         rw[r]at q1
         cases xe with
         |ref k=>cases q1
         |tmp zs=>cases q1
         |val de=>exact⟨_,de,τ4,rfl,rfl,q1⟩
         |new zs=>exact⟨_,zs.d,τ4,rfl,rfl,q1⟩
       refine bK ((B.elts cl fp s3 H3 ok').d _ s5 ρ H5 (fun v H6=>Nx X.K τ3 ρ H5 τ4 H6/\aZ X.K H6 de v) I5 ⟨τ3,N5.gm,?_⟩) fun u s6⟨v,H6,I6,r6,N6,D6⟩=>?_
       ·rw[e4]
        cases xe with
        |ref k=>cases e5
        |tmp zs=>cases e5
        |val d'=>cases e5;exact fun v H' N Dv=>⟨N,Dv⟩
        |new zs=>cases e5;exact fun v H' N Dv=>⟨N,Dv⟩
       ·have C6:=C5.trans N6.ch
        have cur:=C6.keep D _ L.cur (L.no noD)
        have lenv:vs.length<sizeLine:=by
         have h1:=L.den.length
         have h2:=L.acl
         have h3:=G.len
         omega
        refine bK (o4 (X:=blk X scope cl (cg η X.N) fp s3 H3) _ s6 ρ H6 (.ref D) [v] (.ref D) [u] (fun _ H7=>H7=upd H6 D (.lst (vs++[v]))) I6 rfl (.cons r6 .nil) ⟨D,vs,v,rfl,rfl,cur,lenv,rfl⟩) fun _ s7⟨_,H7,I7,_,e7⟩=>?_
        subst e7
        exact again I7 (L.push noD C6 hi ho q2 D6)
     rcases B.tests with ⟨ei,ec⟩|⟨ce,ei,hC⟩
     ·subst ei ec
      cases e1
      cases e2
      cases e3
      exact QKq (after s4' H2' I3' (Nx.refl st.gm))
     ·subst ei
      refine wpAny_tests_one (bK (hC cl fp s3 H3 ok' _ s4' ρ H2' (fun k H'=>k=bc/\Nx X.K τ2 ρ H2' τ3 H') I3' ⟨τ2,st.gm,by rw[e1];exact⟨dc,bc,e2,e3,fun H' N=>⟨rfl,N⟩⟩⟩) fun k s5⟨H5,I5,hk',N5⟩=>?_)
      subst hk'
      exact after s5 H5 I5 N5
   ·--the end
    have e:=Nat.le_antisymm L.le (Nat.le_of_not_lt hi)
    have q0:=L.go
    rw[e,List.drop_length,aN]at q0
    cases q0
    refine bK (T.done (blk X scope cl (cg η X.N) fp s3 H3) rfl rfl rfl hc i [] s1 ξ H1 _ I1 (fpk f1) t1 (G.stop H1 (N3.pers.trans L.pers) i (by omega))) fun r s2⟨hr,I2⟩=>?_
    subst hr
    obtain⟨m,hm,_⟩:=I2.loc
    have IX:=Inv.call' I3 I2.os I2.base I2.hok I2.bare fun b hb=>⟨(hf3 b hb).2.2.2.1,(hf3 b hb).2.1,(hf3 b hb).2.2.2.2.1,(hf3 b hb).2.2.2.2.2⟩
    refine hRR D s3.heap.objs.size s2 H1 vs m IX ⟨?_,fun k a z=>?_,N3.pers.trans L.pers,fun b ws z w=>?_,fun b z=>N3.dom b (L.dom b z),fun k ws z=>?_⟩ L.cur L.den hDn hm (I3.xZ (QVz _) I2.free)
    ·have:=L.gm.drop (nl:=η.length)
     rw[L.out]at this
     exact this
    ·have z':aJ (τ.drop η.length) (ξ.drop η.length) k a:=by rw[L.out];exact z
     obtain⟨j,ej,o⟩:=jd (L.sub _ a (sU.mp z'))
     have:k=j:=by omega
     subst this
     exact o
    ·refine L.keep b ws (N3.keep b ws z w) (fun q=>?_) fun k o=>?_
     ·subst q;rw[hDn]at z;cases z
     ·obtain⟨j,_,o'⟩:=jd o
      exact w j o'
    ·obtain⟨ws',q⟩:=L.bors (η.length+k) ws (by rw[QHz (by simp)];simpa using z)
     exact⟨ws',by rw[List.getElem?_drop];exact q⟩
  ·refine⟨0,[],[],_,_,H3,rfl,I4,T.keep _ _ _ t0 fun b _ o e=>hk3 b o (hk b o e),fun b hb=>(hf3 b hb).1,⟨QHq _,hgo,N3.gm.front _,by simp,QVz _,hD3,ak.cZ,fun _ _ z=>z,bM.refl _,fun _ _ z _ _=>z,fun _ z=>z,fun _ ws z=>⟨ws,z⟩⟩⟩
 exact codeAny_compStart_list (loop _ rfl) (T.self _ 0 _ _ _ (T.keep _ _ _ t0 fun b _ o e=>hk3 b o (hk b o e)) (loop _ rfl))
section
def fL:Cm->CmpOp
 |.eq=>.Eq
 |.ne=>.NotEq
 |.lt=>.Lt
 |.le=>.LtE
 |.gt=>.Gt
 |.ge=>.GtE
 |.isin=>.In
 |.notin=>.NotIn
 |.nD=>.Is
 |.notN=>.IsNot
def iW(X:Cx)(op:CmpOp)(f:D->D->Option Bool):Prop:=
 ∃r,gJ X (compareOp op) r/\∀(H:Hp)(x y:D)(k:Bool)(v u:V)(Q:VK),aZ X.K H x v->dD X.K H y u->f x y=some k->Q (.bl k) H->r v u H Q
theorem dD.int{H:Hp}{v:V}(h:dD K H (.int i) v):v=.int i:=by
 rcases h with h|⟨o,a,q,_⟩
 ·exact h
 ·cases o<;>cases q
def BW{g:Int->Int->Bool}(ho:gJ X (compareOp op) (Le fun i j=>.bl (g i j)))(hf:∀x y k,f x y=some k->∃i j,x=.int i/\y=.int j/\k=g i j):iW X op f:=
 ⟨_,ho,fun H x y k v u Q Dx Dy e q=>by
  obtain⟨i,j,rfl,rfl,rfl⟩:=hf x y k e
  exact⟨i,j,Dx,Dy.int,q⟩⟩
def aba(hu:X.A.units+60<cLine):iW X .Eq (aK .eq):=⟨_,Xm hu,fun H x y k v u Q Dx Dy e q=>by
 unfold aK at e;dsimp only at e
 split at e
 ·rename_i h;cases e;exact⟨x,y,.inl Dx,Dy,h,q⟩
 ·cases e⟩
def aa4(hu:X.A.units+60<cLine):iW X .NotEq (aK .ne):=⟨_,Xg hu,fun H x y k v u Q Dx Dy e q=>by
 unfold aK at e;dsimp only at e
 split at e
 ·rename_i h;cases e;exact⟨x,y,.inl Dx,Dy,h,q⟩
 ·cases e⟩
def aa6:iW X .LtE (aK .le):=BW abw fun x y k e=>by
 cases x<;>cases y<;>(unfold aK at e;simp at e)
 exact⟨_,_,rfl,rfl,e.symm⟩
def aa9:iW X .GtE (aK .ge):=BW aby fun x y k e=>by
 cases x<;>cases y<;>(unfold aK at e;simp at e)
 exact⟨_,_,rfl,rfl,e.symm⟩
def dD.QZ{H:Hp}{v:V}(h:dD K H (.tup xs) v):Qd K H xs v:=by
 rcases h with h|⟨o,a,q,_⟩
 ·obtain⟨a,vs,rfl,hq,l⟩:=cU h
  exact⟨a,vs,rfl,.inr hq,l⟩
 ·cases o<;>cases q
def dD.KC{H:Hp}{v:V}(h:dD K H (.lst xs) v):Qd K H xs v:=by
 rcases h with h|⟨o,a,q,rfl,u,ha,hq⟩
 ·obtain⟨a,vs,rfl,hq,l⟩:=eO h
  exact⟨a,vs,rfl,.inl hq.sq,l⟩
 ·cases o<;>cases q
  obtain⟨vs,rfl,l⟩:=hq
  exact⟨a,vs,rfl,.inl (.inl (.inl ha)),l⟩
theorem dD.str{H:Hp}{v:V}(h:dD K H (.str x) v):v=.str x:=by
 rcases h with h|⟨o,a,q,_⟩
 ·exact h
 ·cases o<;>cases q
def Nr x y(h:x.length=1):(!(Builtin.Str.occurrences y x 0 y.length 1).isEmpty)=cF (.str x) (signs y):=by
 obtain⟨cps⟩:=x
 obtain⟨l⟩:=cps
 match l,h with
 |[k],_=>
  have:=PySem.StrLaws.found_one y k
  rw[this]
  unfold signs
  generalize y.cps.toList=cs
  induction cs with
  |nil=>rfl
  |cons z zs ih=>
   show decide _=(gH _ _||cF _ _)
   rw[<-ih]
   have e:gH (.str ⟨#[z]⟩) (.str ⟨#[k]⟩)=decide (k=z):=by
    simp only[gH]
    by_cases q:k=z
    ·subst q;simp
    ·have q':¬z=k:=fun e=>q e.symm
     simp[q,q']
   rw[e]
   by_cases q:k=z
   ·simp[q]
   ·simp[q]
def lB k:(eQ kvs k).isSome=cF (dj k) (kvs.map fun p=>dj p.1):=by
 induction kvs with
 |nil=>rfl
 |cons p r ih=>
  obtain⟨k',v⟩:=p
  show _=(gH _ _||cF _ _)
  rw[<-ih]
  have e:gH (dj k') (dj k)=decide (k'=k):=by
   cases k'<;>cases k<;>simp[dj,gH,Bool.beq_eq_decide_eq]
  rw[e]
  by_cases q:k'=k
  ·subst q;simp[iY]
  ·simp[q,iZ]
def gQ(h:keyOk x=true):∃k:Key,x=dj k:=by
 cases x<;>simp[keyOk]at h
 ·exact⟨.inl _,rfl⟩
 ·exact⟨.inr _,rfl⟩
def lO{H:Hp}{v:V}(h:aZ K H (dj k) v):v=kV k:=by
 cases k<;>exact h
def Ld(neg:Bool):R2:=fun x y H Q=>∃a k kvs,y=.ref a/\x=kV k/\Rd H a (.dK kvs)/\Q (.bl (if neg then !(eQ kvs k).isSome else(eQ kvs k).isSome)) H
def Ma(hu:X.A.units+1<cLine):gJ X (compareOp .In) (Ld false):=by
 intro γ s σ H x y v u Q I rx ry h
 obtain⟨a,k,kvs,rfl,rfl,hd,q⟩:=h
 cases ry
 exact af3 hu I (.inl ⟨kvs,k,hd,rfl,rfl⟩) rx fun s3 I3=>⟨.bl _,H,I3,rfl,q⟩
def zE(hu:X.A.units+1<cLine):gJ X (compareOp .NotIn) (Ld true):=by
 intro γ s σ H x y v u Q I rx ry h
 obtain⟨a,k,kvs,rfl,rfl,hd,q⟩:=h
 cases ry
 exact Tq hu I (.inl ⟨kvs,k,hd,rfl,rfl⟩) rx fun s3 I3=>⟨.bl _,H,I3,rfl,q⟩
def oE{H:Hp}{v:V}(h:dD K H (.dq ks ds) v):∃a kvs,v=.ref a/\Rd H a (.dK kvs)/\ks=kvs.map (fun p=>dj p.1)/\ak K H ds (kvs.map (·.2)):=by
 rcases h with h|⟨o,a,q,rfl,u,ha,hq⟩
 ·unfold aZ at h;obtain⟨a,o,kvs,e,r,k⟩:=h;exact⟨a,kvs,e,.inr ⟨o,r⟩,k⟩
 ·cases o<;>cases q
  obtain⟨kvs,rfl,k,l⟩:=hq
  exact⟨a,kvs,rfl,.inl ha,k,l⟩
def abj(K:QQq)(neg:Bool):R2:=fun x y H Q=>∃a d k xs,x=.ref a/\y=.ref d/\Rd H d (.dS xs)/\(∀x∈xs,cH K H x.1 x.2.1)/\cH K H k a/\Q (.bl (if neg then !(zQ k xs).isSome else(zQ k xs).isSome)) H
def Xk(hu:X.A.units+2<cLine):gJ X (compareOp .In) (abj X.K false):=by
 intro γ s σ H x y v u Q I rx ry h
 obtain⟨a,d,k,xs,rfl,rfl,hd,hk,ha,q⟩:=h
 cases rx
 cases ry
 exact aeh hu I hd hk ha fun s3 I3=>⟨.bl _,H,I3,rfl,q⟩
def Im(hu:X.A.units+2<cLine):gJ X (compareOp .NotIn) (abj X.K true):=by
 intro γ s σ H x y v u Q I rx ry h
 obtain⟨a,d,k,xs,rfl,rfl,hd,hk,ha,q⟩:=h
 cases rx
 cases ry
 exact Q3 hu I hd hk ha fun s3 I3=>⟨.bl _,H,I3,rfl,q⟩
def yj{H:Hp}{v:V}(h:dD K H (.lU ks ds) v):∃a xs,v=.ref a/\Rd H a (.dS xs)/\ks=xs.map (fun x=>gk x.1)/\(∀x∈xs,cH K H x.1 x.2.1)/\ak K H ds (xs.map (·.2.2)):=by
 rcases h with h|⟨o,a,q,rfl,u,ha,hq⟩
 ·unfold aZ at h;obtain⟨a,o,xs,e,r,k⟩:=h;exact⟨a,xs,e,.inr ⟨o,r⟩,k⟩
 ·cases o<;>cases q
  obtain⟨xs,rfl,k⟩:=hq
  exact⟨a,xs,rfl,.inl ha,k⟩
def aa7(hu:X.A.units+60<cLine):iW X .In (aK .isin):=
 ⟨_,(Xl hu).or ((Ma (by omega)).or (Ip.or (Xk (by omega)))),fun H x y k v u Q Dx Dy e q=>by
  cases y with
  |tup xs=>
   unfold aK at e;dsimp only at e
   split at e
   ·rename_i h;cases e;exact .inl ⟨x,xs,Dx,Dy.QZ,h,q⟩
   ·cases e
  |lst xs=>
   unfold aK at e;dsimp only at e
   split at e
   ·rename_i h;cases e;exact .inl ⟨x,xs,Dx,Dy.KC,h,q⟩
   ·cases e
  |dq ks vs=>
   unfold aK at e;dsimp only at e
   split at e
   ·rename_i h
    cases e
    obtain⟨k,rfl⟩:=gQ h
    obtain⟨a,kvs,rfl,ha,rfl,l⟩:=oE Dy
    exact .inr (.inl ⟨a,k,kvs,rfl,lO Dx,ha,by simpa[lB]using q⟩)
   ·cases e
  |lU ks vs=>
   unfold aK at e;dsimp only at e
   split at e
   ·rename_i h
    cases e
    obtain⟨k,rfl⟩:=j9 h
    obtain⟨a,rfl,ka⟩:=rH Dx
    obtain⟨d,xs,rfl,hd,rfl,hk,l⟩:=yj Dy
    exact .inr (.inr (.inr ⟨a,d,k,xs,rfl,rfl,hd,hk,ka,by rw[Gy]at q;simpa using q⟩))
   ·cases e
  |str y=>
   cases x with
   |str x=>
    unfold aK at e;dsimp only at e
    split at e
    ·rename_i h;cases e;exact .inr (.inr (.inl ⟨x,y,Dx,Dy.str,by rw[Nr x y h];exact q⟩))
    ·cases e
   |_=>unfold aK at e;simp at e
  |_=>unfold aK at e;simp at e⟩
def K4(hu:X.A.units+60<cLine):iW X .NotIn (aK .notin):=
 ⟨_,(Io hu).or ((zE (by omega)).or (Im (by omega))),fun H x y k v u Q Dx Dy e q=>by
  cases y with
  |tup xs=>
   unfold aK at e;dsimp only at e
   split at e
   ·rename_i h;cases e;exact .inl ⟨x,xs,Dx,Dy.QZ,h,q⟩
   ·cases e
  |lst xs=>
   unfold aK at e;dsimp only at e
   split at e
   ·rename_i h;cases e;exact .inl ⟨x,xs,Dx,Dy.KC,h,q⟩
   ·cases e
  |dq ks vs=>
   unfold aK at e;dsimp only at e
   split at e
   ·rename_i h
    cases e
    obtain⟨k,rfl⟩:=gQ h
    obtain⟨a,kvs,rfl,ha,rfl,l⟩:=oE Dy
    exact .inr (.inl ⟨a,k,kvs,rfl,lO Dx,ha,by simpa[lB]using q⟩)
   ·cases e
  |lU ks vs=>
   unfold aK at e;dsimp only at e
   split at e
   ·rename_i h
    cases e
    obtain⟨k,rfl⟩:=j9 h
    obtain⟨a,rfl,ka⟩:=rH Dx
    obtain⟨d,xs,rfl,hd,rfl,hk,l⟩:=yj Dy
    exact .inr (.inr ⟨a,d,k,xs,rfl,rfl,hd,hk,ka,by rw[Gy]at q;simpa using q⟩)
   ·cases e
  |_=>unfold aK at e;simp at e⟩
end
section
open PySem.SeqAt
open PySem.AutoSeq1 (wpAny_loadPart')
open PySem.MeetsSeq PySem.MeetsSeq2 PySem.MeetsSeq3
inductive BoolsAre:List Value->List Bool->Prop
 |nil:BoolsAre [] []
 |cons (b:Bool) {vs:List Value} {bs:List Bool}:BoolsAre vs bs->BoolsAre (.bool b::vs) (b::bs)
theorem BoolsAre.length{bs:List Bool}(h:BoolsAre vs bs):vs.length=bs.length:=by
 induction h with
 |nil=>rfl
 |cons b _ ih=>simp[ih]
def vR x y xs ys:lV (x::xs) (y::ys)=if x=y then lV xs ys else(!x&&y):=rfl
def Gm:lV [] []=false:=rfl
def Gn y ys:lV [] (y::ys)=true:=rfl
def Sh x xs:lV (x::xs) []=false:=rfl
def vG A s a c prog w E Q(h:Q (.bool (!a&&c)) s):
  wpAny (model prog w) A (richCompare .Lt (.bool a) (.bool c)) Q E s:=
 (PyProof.Rows.lt_bool (by cases a<;>cases c<;>exact h))
def rB l b items items2 n n2 dd dd2 sl sl2 ns ms(hi:BoolsAre items.toList ns)(hj:BoolsAre items2.toList ms):
  Meets (Builtin.«tuple.__lt__» ⟨[.ref l,.ref b],[]⟩)
   (fun _ R s=>s.heap.get? l=some {cls:=.type "tuple",dict:=dd,data:=.seq items n,slots:=sl}/\s.heap.get? b=some {cls:=.type "tuple",dict:=dd2,data:=.seq items2 n2,slots:=sl2}/\
    R (.ok (.ret (.bool (lV ns ms)))) s):=
 .of_wp fun prog w A R s h=>by
  obtain⟨hp,g,d,tk,os⟩:=s;obtain⟨hl,hb,h⟩:=h
  have f2:=AutoSeq1.sub_tuple_tuple
  have z1:items.size=ns.length:=by rw[<-hi.length];simp
  have z2:items2.size=ms.length:=by rw[<-hj.length];simp
  wp_walk using wpAny_loadPart' hl,wpAny_loadPart' hb,wpAny_forIn_list _ (fun rest b s'=>b.1=none/\s'=⟨hp,g,d,tk,os⟩/\∃(vs ws:List Value)(ns' ms':List Bool),rest=vs.zip ws/\
   BoolsAre vs ns'/\BoolsAre ws ms'/\ns'.length+items2.size=ms'.length+items.size/\R (.ok (.ret (.bool (lV ns' ms')))) ⟨hp,g,d,tk,os⟩) _
  case turn=>
   rintro ⟨y,x⟩ rest b s' ⟨hb',rfl,vs,ws,ns',ms',hz,hvi,hwi,hlen,hR⟩
   cases hvi with
   |nil=>rw[List.zip_nil_left]at hz;cases hz
   |cons a hvi'=>
    cases hwi with
    |nil=>rw[List.zip_nil_right]at hz;cases hz
    |cons c hwi'=>
     rw[List.zip_cons_cons]at hz
     injection hz with hyx hrest
     injection hyx with hy hx
     subst hy hx
     rw[vR]at hR
     simp only[QAz]at hlen
     refine QTz ((SeqAt.EqAt.bool_bool (A:=A.in1) (s:=⟨hp,g,d,tk,os⟩) a c) prog w _ _ ?_)
     by_cases hac:a=c
     ·subst hac
      rw[if_pos rfl]at hR
      rw[beq_self_eq_true]
      wp_walk
      exact⟨rfl,rfl,_,_,_,_,hrest,hvi',hwi',by omega,hR⟩
     ·rw[if_neg hac]at hR
      wp_walk using (vG A.in1 ⟨hp,g,d,tk,os⟩ a c prog w)
      exact⟨_,rfl,by simpa using hR⟩
  case fin=>
   rintro ⟨b1,b2⟩ s' ⟨hb',rfl,vs,ws,ns',ms',hz,hvi,hwi,hlen,hR⟩
   simp only at hb'
   subst hb'
   have hv:lV ns' ms'=decide (items.size<items2.size):=by
    cases hvi with
    |nil=>
     cases hwi with
     |nil=>
      rw[Gm]
      exact(QEq (by omega)).symm
     |cons c hw=>
      simp only[List.length_nil,QAz]at hlen
      rw[Gn]
      exact(decide_eq_true (by omega)).symm
    |cons a hv=>
     cases hwi with
     |nil=>
      simp only[List.length_nil,QAz]at hlen
      rw[Sh]
      exact(QEq (by omega)).symm
     |cons c hw=>
      rw[List.zip_cons_cons]at hz
      cases hz
   rw[hv]at hR
   wp_walk
   exact⟨_,rfl,by simpa[Builtin.Tuple.tupleCompareSizes]using hR⟩
  case h=>
   exact⟨rfl,rfl,items.toList,items2.toList,ns,ms,rfl,hi,hj,by omega,h⟩
end
theorem gR{K:QQq}{H:Hp}:∀{ds:List D}{vs:List V}{us:List Value}{bs:List Bool},bools ds=some bs->ak K H ds vs->Vals vs us->BoolsAre us bs
 |[],vs,us,bs,e,l,r=>by
  cases e
  rw[ak.bA.mp l]at r
  cases r
  exact .nil
 |d::ds,vs,us,bs,e,l,r=>by
  obtain⟨v,w,rfl,h1,h2⟩:=ak.aF.mp l
  cases d with
  |bl b=>
   simp only[bools,QJz]at e
   obtain⟨bs',e1,rfl⟩:=e
   cases h1
   cases r with
   |cons r1 r2=>cases r1;exact .cons b (gR e1 h2 r2)
  |_=>cases e
section
variable{m m1 m2 m3:E}
def aeU(K:QQq):R2:=fun x y H Q=>∃xs ys bs cs,aZ K H (.tup xs) x/\aZ K H (.tup ys) y/\bools xs=some bs/\bools ys=some cs/\Q (.bl (lV bs cs)) H
def Xj(hu:X.A.units<cLine):gJ X (compareOp .Lt) (aeU X.K):=by
 intro γ s σ H x y v u Q I rx ry h
 obtain⟨xs,ys,bs,cs,Dx,Dy,e1,e2,q⟩:=h
 obtain⟨a,vs,rfl,ha,la⟩:=cU Dx
 obtain⟨b,ws,rfl,hb,lb⟩:=cU Dy
 cases rx
 cases ry
 obtain⟨its,r1,p1,_⟩:=I.tuple ha
 obtain⟨its2,r2,p2,_⟩:=I.tuple hb
 obtain⟨⟨cls,dd,data,sl⟩,ho,hc,n,hd⟩:=id p1
 obtain⟨⟨cls2,dd2,data2,sl2⟩,ho2,hc2,n2,hd2⟩:=id p2
 subst hc hd hc2 hd2
 exact richCompare_meets_room (op:=.Lt) ⟨_,ho,rfl⟩ ⟨_,ho2,rfl⟩ PySem.F.slot_tuple_lt PySem.F.entry_tuple_lt (PySem.F.args_tuple_lt_2 _ _)
  (rB a b its.toArray its2.toArray n n2 dd dd2 sl sl2 bs cs (by simpa using gR e1 la r1) (by simpa using gR e2 lb r2))
  ⟨ho,ho2,show Value.bool _≠Value.notImplemented/\EP X γ σ Q _ s from⟨(fun x=>nomatch x),⟨.bl _,H,I,rfl,q⟩⟩⟩ hu
theorem dD.tup{K:QQq}{H:Hp}{xs:List D}{v:V}(h:dD K H (.tup xs) v):aZ K H (.tup xs) v:=by
 rcases h with h|⟨o,a,q,_⟩
 ·exact h
 ·cases o<;>cases q
def aa5(hu:X.A.units+60<cLine):iW X .Lt (aK .lt):=
 ⟨_,abv.or (Xj (by omega)),fun H x y k v u Q Dx Dy e q=>by
  cases x with
  |int i=>
   cases y with
   |int j=>cases e;exact .inl ⟨i,j,Dx,Dy.int,q⟩
   |_=>cases e
  |tup xs=>
   cases y with
   |tup ys=>
    unfold aK at e;dsimp only[ltD]at e
    cases e1:bools xs with
    |none=>rw[e1]at e;cases e
    |some bs=>
     cases e2:bools ys with
     |none=>rw[e1,e2]at e;cases e
     |some cs=>
      rw[e1,e2]at e
      cases e
      exact .inr ⟨xs,ys,bs,cs,Dx,Dy.tup,e1,e2,q⟩
   |_=>cases e
  |_=>cases y<;>cases e⟩
def aa8:iW X .Gt (aK .gt):=BW abx fun x y k e=>by
 cases x<;>cases y<;>(unfold aK at e;simp at e)
 exact⟨_,_,rfl,rfl,e.symm⟩
def qT{H:Hp}{v:V}(h:aZ K H d v):decide (v=.non)=gG d:=by
 cases d<;>unfold aZ at h<;>first
  |(obtain⟨a,_,rfl,_⟩:=h;rfl)
  |(obtain⟨a,_,_,rfl,_⟩:=h;rfl)
  |(subst h;rfl)
def WK:iW X .Is (aK .nD):=⟨_,CG,fun H x y k v u Q Dx Dy e q=>by
 cases y<;>(unfold aK at e;dsimp only at e;cases e)
 rcases Dy with h|⟨o,a,z,_⟩
 ·exact⟨h,by rw[qT Dx];exact q⟩
 ·cases o<;>cases z⟩
def Rj:iW X .IsNot (aK .notN):=⟨_,RM,fun H x y k v u Q Dx Dy e q=>by
 cases y<;>(unfold aK at e;dsimp only at e;cases e)
 rcases Dy with h|⟨o,a,z,_⟩
 ·exact⟨h,by rw[qT Dx];exact q⟩
 ·cases o<;>cases z⟩
def oX(hu:X.A.units+60<cLine)o:iW X (fL o) (aK o):=by
 cases o with
 |eq=>exact aba hu
 |ne=>exact aa4 hu
 |lt=>exact aa5 hu
 |le=>exact aa6
 |gt=>exact aa8
 |ge=>exact aa9
 |isin=>exact aa7 hu
 |notin=>exact K4 hu
 |nD=>exact WK
 |notN=>exact Rj
def fG{env:Ev}{H:Hp}{d:D}(S:Sat K env σ H)(h:bf k env=some d):∃v,σ[k]? =some (some v)/\dD K H d v:=by
 unfold bf at h
 cases e:env[k]? with
 |none=>rw[e]at h;cases h
 |some s=>
  rw[e]at h
  have q:=S.sl k s e
  cases s with
  |un=>cases h
  |val d'=>cases h;obtain⟨v,e1,e2⟩:=q;exact⟨v,cB e1,.inl e2⟩
  |own xs=>cases h;obtain⟨a,e1,e2⟩:=q;exact⟨.ref a,cB e1,.inr ⟨xs,a,rfl,rfl,e2⟩⟩
  |bor xs=>cases h;obtain⟨a,e1,e2⟩:=q;exact⟨.ref a,cB e1,.inr ⟨xs,a,rfl,rfl,e2⟩⟩
structure jL(X:Cx)(i:Nat)(x:Str):Prop where
 at_:X.N[i]? =some x
 vis:JN X.env.scope x
 nd:(x==("__debug__":Str))=false
 nc:(x==("__classdict__":Str))=false
def jL.pe{x:Str}(h:jL X i x):PE X (.Name x pos) (aV i):=cW h.at_ h.vis h.nd h.nc
def jL.ge{x:Str}(h:jL X i x):GE X W c (.var i) (.Name x pos):=Yl h.at_ h.vis h.nd h.nc
theorem Hd(R:iW X (fL o) (aK o))(hb:GE X W c m2 b)(hv:∀k,m2.aB=some k->∃x p,b=.Name x p/\jL X k x):
  ∃r tb,gJ X (compareOp (fL o)) r/\PE X b tb/\∀env σ H Q,tM X.K W env (ev c (.cmp o m1 m2) env) σ H Q->Ur r (aD X W c m1) tb σ H Q:=by
 obtain⟨r,ho,rule⟩:=R
 cases q:m2.aB with
 |some k=>
  obtain⟨x,p,rfl,nm⟩:=hv k q
  refine⟨r,aV k,ho,nm.pe,fun env σ H Q h=>?_⟩
  simp only[v_7,q]at h
  refine⟨env,aL h fun d δ v H1 N1 D1 h1=>?_⟩
  obtain⟨z,ez,S,q3⟩:=cT h1
  cases e1:bf k δ with
  |none=>rw[e1]at ez;cases ez
  |some d2=>
   rw[e1]at ez
   simp only[Option.bind]at ez
   obtain⟨u,eu,D2⟩:=fG S e1
   cases e2:aK o d d2 with
   |none=>rw[e2]at ez;cases ez
   |some k2=>
    rw[e2]at ez
    cases ez
    exact⟨u,eu,rule H1 d d2 k2 v u Q D1 D2 e2 (q3 _ H1 (Nx.refl S) rfl)⟩
 |none=>
  refine⟨r,aD X W c m2,ho,hb.d,fun env σ H Q h=>?_⟩
  simp only[v_7,q]at h
  refine⟨env,aL h fun d δ v H1 N1 D1 h1=>⟨δ,aL h1 fun d2 ε u H2 N2 D2 h2=>?_⟩⟩
  obtain⟨z,ez,S,q3⟩:=cT h2
  cases e2:aK o d d2 with
  |none=>rw[e2]at ez;cases ez
  |some k2=>
   rw[e2]at ez
   cases ez
   exact rule H2 d d2 k2 v u Q (D1.mono N2.pers) (.inl D2) e2 (q3 _ H2 (Nx.refl S) rfl)
def Yz(R:iW X (fL o) (aK o))(ha:GE X W c m1 a)(hb:GE X W c m2 b)(hv:∀k,m2.aB=some k->∃x p,b=.Name x p/\jL X k x)
  (hm:behindInMarks (fL o) b=false):GE X W c (.cmp o m1 m2) (.Compare a [fL o] [b] pos):=by
 intro env
 obtain⟨r,tb,ho,pb,imp⟩:=Hd R hb hv
 exact PE.imp (RG ho ha.d pb hm) fun σ H Q h=>imp env σ H Q h
theorem yO{env:Ev}{σ:St}{Q:Bool->Hp->Prop}(h:tT K W env r σ H Q)(hb:∀x env',r=.ok x env'->∃b,x=.val (.bl b)):
  tM K W env r σ H (fun v H'=>∃k,v=.bl k/\Q k H'):=by
 obtain⟨S,h⟩:=h
 refine⟨S,?_⟩
 cases r with
 |bad=>exact h
 |exc c δ=>exact h
 |ok x δ=>
  obtain⟨b,rfl⟩:=hb x δ rfl
  obtain⟨d,k,e1,e2,q⟩:=h
  cases e1
  cases e2
  exact fun v H' N z=>⟨b,z,q H' N⟩
def lM{o:Option Bool}(h:lift env (o.map fun q=>Rv.val (.bl q))=.ok x env'):∃b,x=.val (.bl b):=by
 cases o with
 |none=>cases h
 |some b=>cases h;exact⟨b,rfl⟩
def Ah{env env':Ev}(h:ev c (.cmp o m1 m2) env=.ok x env'):∃b,x=.val (.bl b):=by
 simp only[v_7]at h
 cases r:ev c m1 env with
 |bad=>rw[r]at h;cases h
 |exc k δ=>rw[r]at h;cases h
 |ok x1 δ=>
  rw[r]at h
  have go:∀d,(match m2.aB with
    |some k=>lift δ ((bf k δ).bind fun d'=>(aK o d d').map fun q=>Rv.val (.bl q))
    |none=>(ev c m2 δ).au fun y σ=>lift σ ((aK o d y).map fun q=>Rv.val (.bl q)))=.ok x env'->∃b,x=.val _:=fun d h=>by
   cases q:m2.aB with
   |some k=>
    simp only[q]at h
    cases e:bf k δ with
    |none=>simp only[e,Option.bind]at h;cases h
    |some d'=>simp only[e,Option.bind]at h;exact lM h
   |none=>
    simp only[q]at h
    cases r2:ev c m2 δ with
    |bad=>rw[r2]at h;cases h
    |exc k ε=>rw[r2]at h;cases h
    |ok x2 ε=>
     rw[r2]at h
     cases x2 with
     |val d2=>exact lM h
     |new xs=>exact lM h
     |ref i=>cases h
     |tmp xs=>cases h
  cases x1 with
  |val d=>exact go d h
  |new xs=>exact go xs.d h
  |ref i=>cases h
  |tmp xs=>cases h
def Yd(R:iW X (fL o) (aK o))(ha:GE X W c m1 a)(hb:GE X W c m2 b)(hv:∀k,m2.aB=some k->∃x p,b=.Name x p/\jL X k x)
  (hm:behindInMarks (fL o) b=false):GT X W c (.cmp o m1 m2) (.Compare a [fL o] [b] pos):=by
 obtain⟨r,tb,ho,pb,imp⟩:=Hd R hb hv
 exact PT.imp (xq ho ha.d pb hm) fun σ H Q⟨env,h⟩=>imp env σ H _ (yO h fun x env' e=>Ah e)
theorem wD(R1:iW X (fL υ) (aK υ))(R2:iW X (fL ψ) (aK ψ)):
  ∃r r',gJ X (compareOp (fL υ)) r/\gJ X (compareOp (fL ψ)) r'/\∀env σ H Q,tM X.K W env (ev c (.chain υ ψ m1 m2 m3) env) σ H Q->Br r r' (aD X W c m1) (aD X W c m2) (aD X W c m3) σ H Q:=by
 obtain⟨r,ho,rule⟩:=R1
 obtain⟨r',ho',rule'⟩:=R2
 refine⟨r,r',ho,ho',fun env σ H Q h=>?_⟩
 refine⟨env,aL h fun d δ v H1 N1 D1 h1=>⟨δ,aL h1 fun d2 ε u H2 N2 D2 h2=>?_⟩⟩
 cases e2:aK υ d d2 with
 |none=>rw[e2]at h2;exact h2.2.elim
 |some k=>
  rw[e2]at h2
  simp only[lift,Out.bind]at h2
  refine rule H2 d d2 k v u _ (D1.mono N2.pers) (.inl D2) e2 ⟨k,rfl,?_⟩
  cases k with
  |false=>
   exact eZ h2 rfl
  |true=>
   refine⟨ε,aL h2 fun d3 env3 w H3 N3 D3 h3=>?_⟩
   obtain⟨z,ez,S,q3⟩:=cT h3
   cases e3:aK ψ d2 d3 with
   |none=>rw[e3]at ez;cases ez
   |some k2=>
    rw[e3]at ez
    cases ez
    exact rule' H3 d2 d3 k2 u w Q (D2.mono N3.pers) (.inl D3) e3 (q3 _ H3 (Nx.refl S) rfl)
def uU{env env':Ev}(h:ev c (.chain υ ψ m1 m2 m3) env=.ok x env'):∃b,x=.val (.bl b):=by
 have val:∀{r:Out Rv}{f:D->Ev->Out Rv},r.au f=.ok x env'->∃d σ,f d σ=.ok x env':=fun{r f}q=>by
  cases r with
  |bad=>cases q
  |exc k e1=>cases q
  |ok y e1=>
   cases y with
   |val d=>exact⟨d,e1,q⟩
   |new xs=>exact⟨_,e1,q⟩
   |ref i=>cases q
   |tmp xs=>cases q
 obtain⟨d1,ξ,h⟩:=val h
 obtain⟨d2,ρ,h⟩:=val h
 cases e:aK υ d1 d2 with
 |none=>rw[e]at h;cases h
 |some k=>
  rw[e]at h
  simp only[lift,Out.bind]at h
  cases k with
  |false=>cases h;exact⟨false,rfl⟩
  |true=>
   obtain⟨d3,σ3,h⟩:=val h
   exact lM h
def Od{d:Expr}(R1:iW X (fL υ) (aK υ))(R2:iW X (fL ψ) (aK ψ))(ha:GE X W c m1 a)(hb:GE X W c m2 b)(hd:GE X W c m3 d)(hm:lastMarks [fL υ,fL ψ] [b,d]=false):
  GE X W c (.chain υ ψ m1 m2 m3) (.Compare a [fL υ,fL ψ] [b,d] pos):=by
 obtain⟨r,r',ho,ho',imp⟩:=wD R1 R2
 exact fun env=>PE.imp (LR ho ho' ha.d hb.d hd.d hm) fun σ H Q h=>imp env σ H Q h
def Ny{d:Expr}(R1:iW X (fL υ) (aK υ))(R2:iW X (fL ψ) (aK ψ))(ha:GE X W c m1 a)(hb:GE X W c m2 b)(hd:GE X W c m3 d)(hm:lastMarks [fL υ,fL ψ] [b,d]=false):
  GT X W c (.chain υ ψ m1 m2 m3) (.Compare a [fL υ,fL ψ] [b,d] pos):=by
 obtain⟨r,r',ho,ho',imp⟩:=wD R1 R2
 exact PT.imp (Li ho ho' ha.d hb.d hd.d hm) fun σ H Q⟨env,h⟩=>imp env σ H _ (yO h fun x env' e=>uU e)
def aaD(K:QQq)(ta:TE):TE:=fun σ H Q=>ta σ H fun x H1=>∃k,Ei K x H1 k/\Q (.bl (!k)) H1
def Ry(ha:PE X a ta):PE X (.UnaryOp .Not a pos) (aaD X.K ta):=by
 intro γ s σ H Q I h
 exact PyProof.Rows.UnaryOp_ (bK (ha γ s σ H _ I h) fun v s1⟨x,H1,I1,r1,k,t,q1⟩=>PyProof.Rows.not_of (bK (J3 γ s1 σ H1 x v _ I1 r1 ⟨k,t,q1⟩) fun b s2⟨H2,I2,q2⟩=>⟨.bl (!b),H2,I2,rfl,q2⟩))
def Yr(ha:GE X W c m1 a):GE X W c (.not m1) (.UnaryOp .Not a pos):=fun env=>
 PE.imp (Ry ha.d) fun σ H Q q=>⟨env,yV (yS (by simpa only[aaq]using q) fun k δ H1 N q1=>eZ (d:=.bl (!k)) q1 rfl)⟩
def Yb(ha:GT X W c m1 a):GT X W c (.not m1) (.UnaryOp .Not a pos):=by
 refine PT.imp (Lh ha) fun σ H Q⟨env,q⟩=>⟨env,q.1,?_⟩
 have q2:=q.2
 simp only[aaq]at q2
 cases r:ev c m1 env with
 |bad=>rw[r]at q2;exact q2
 |exc k δ=>rw[r]at q2;exact q2
 |ok x δ=>
  rw[r]at q2
  have go:∀d,x.kI=some d->(match (match jk d with|some b=>Out.ok (Rv.val (.bl (!b))) δ|none=>.bad)with
    |.ok x env'=>∃d b,x.kI=some d/\jk d=some b/\∀H',Nx X.K env σ H env' H'->Q b H'
    |.exc c env'=>∀H',Nx X.K env σ H env' H'->W c env' σ H'
    |.bad=>False)->∃d b,x.kI=some d/\jk d=some b/\∀H',Nx X.K env σ H δ H'->Q (!b) H':=fun d ed z=>by
   cases t:jk d with
   |none=>rw[t]at z;exact z.elim
   |some b=>
    rw[t]at z
    obtain⟨d',b',e1,e2,z⟩:=z
    cases e1
    cases e2
    exact⟨d,b,ed,t,z⟩
  cases x with
  |val d=>exact go d rfl q2
  |new o=>exact go o.d rfl q2
  |ref i=>exact q2.elim
  |tmp xs=>exact q2.elim
def Tf(ha:GE X W c m1 a):GE X W c (.and (.cons m1 .nil)) (.BoolOp .And [a] pos):=fun env=>by
 have:=Lx (op:=.And) (pos:=pos) (ha env)
 simpa only[v_9,iD]using this
def Yq(ha:GE X W c m1 a):GE X W c (.or (.cons m1 .nil)) (.BoolOp .Or [a] pos):=fun env=>by
 have:=Lx (op:=.Or) (pos:=pos) (ha env)
 simpa only[QC,oh]using this
end
def aM(X:Cx)(W:Wi)(c:Cf)(m:E):TE:=fun σ H Q=>∃env,tM X.K W env (ev c m env) σ H Q
def Up{W:Wi}{σ:St}{r:Out Rv}(h:tT K W env r σ H Q)(N:Nx K env σ H δ H1):tT K W δ r σ H1 Q:=by
 obtain⟨_,h⟩:=h
 refine⟨N.gm,?_⟩
 cases r with
 |bad=>exact h
 |exc c ε=>exact fun H' N'=>h H' (N.trans N')
 |ok x ε=>
  obtain⟨d,b,e1,e2,q⟩:=h
  exact⟨d,b,e1,e2,fun H' N'=>q H' (N.trans N')⟩
section
variable{es rest:List Expr}
def GE.am(h:GE X W c m e):PE X e (aM X W c m):=fun γ s σ H Q I⟨env,q⟩=>h env γ s σ H Q I q
def YB(ha:GE X W c m1 a)(hb:GE X W c (.and (.cons m2 m3)) (.BoolOp .And (b::rest) pos)):GE X W c (.and (.cons m1 (.cons m2 m3))) (.BoolOp .And (a::b::rest) pos):=by
 intro env
 refine PE.imp (Xa ha.d hb.am) fun σ H Q q=>?_
 refine⟨env,aL q fun d δ v H1 N1 D1 q1=>?_⟩
 cases d with
 |bl k=>
  refine⟨k,D1,?_⟩
  cases k with
  |true=>rw[if_pos rfl];exact⟨δ,by simpa only[v_9,iD]using q1⟩
  |false=>rw[if_neg Qjq];exact eZ q1 rfl
 |_=>exact q1.2.elim
def ab7(ha:GE X W c m1 a)(hb:GE X W c (.or (.cons m2 m3)) (.BoolOp .Or (b::rest) pos)):GE X W c (.or (.cons m1 (.cons m2 m3))) (.BoolOp .Or (a::b::rest) pos):=by
 intro env
 refine PE.imp (abp ha.d hb.am) fun σ H Q q=>?_
 refine⟨env,aL q fun d δ v H1 N1 D1 q1=>?_⟩
 cases d with
 |bl k=>
  refine⟨k,D1,?_⟩
  cases k with
  |true=>rw[if_pos rfl];exact eZ q1 rfl
  |false=>rw[if_neg Qjq];exact⟨δ,by simpa only[QC,oh]using q1⟩
 |_=>exact q1.2.elim
def GW(X:Cx)(W:Wi)(c:Cf)(m:E)(e:Expr):Prop:=PW X e (aT X W c m)
def PW.imp(h:PW X e t)(i:∀σ H Q,t' σ H Q->t σ H Q):PW X e t':=fun wh γ s σ H Q I q=>h wh γ s σ H Q I (i σ H Q q)
def GW.t(h:GW X W c m e):GT X W c m e:=PW.pt h
theorem yP{env:Ev}{σ:St}{Q R:Bool->Hp->Prop}(h:tT K W env (r.au f) σ H Q)
  (hf:∀d δ,(∀k,d≠ .bl k)->f d δ=.bad)
  (k:∀b δ H1,Nx K env σ H δ H1->tT K W δ (f (.bl b) δ) σ H1 Q->R b H1):tT K W env r σ H R:=by
 have step:∀d δ x,x.kI=some d->r=.ok x δ->∃b,jk d=some b/\∀H1,Nx K env σ H δ H1->R b H1:=fun d δ x ex er=>by
  subst er
  have h':tT K W env (f d δ) σ H Q:=by
   cases x with
   |val d'=>cases ex;exact h
   |new xs=>cases ex;exact h
   |ref i=>cases ex
   |tmp xs=>cases ex
  by_cases hb:∃b,d=.bl b
  ·obtain⟨b,rfl⟩:=hb
   exact⟨b,rfl,fun H1 N=>k b δ H1 N (Up h' N)⟩
  ·rw[hf d δ fun b e=>hb ⟨b,e⟩]at h'
   exact h'.2.elim
 refine⟨h.1,?_⟩
 cases r with
 |bad=>exact h.2
 |exc c δ=>exact h.2
 |ok x δ=>
  cases x with
  |val d=>obtain⟨b,e,q⟩:=step d δ _ rfl rfl;exact⟨d,b,rfl,e,q⟩
  |new xs=>obtain⟨b,e,q⟩:=step (xs.d) δ _ rfl rfl;exact⟨xs.d,b,rfl,e,q⟩
  |ref i=>exact h.2.elim
  |tmp xs=>exact h.2.elim
def SN(ha:GT X W c m1 a):GW X W c (.and (.cons m1 .nil)) (.BoolOp .And [a] pos):=PW.imp (Fw ha) fun σ H Q⟨env,q⟩=>⟨env,by simpa only[v_9,iD]using q⟩
def X8(ha:GT X W c m1 a):GW X W c (.or (.cons m1 .nil)) (.BoolOp .Or [a] pos):=PW.imp (WT ha) fun σ H Q⟨env,q⟩=>⟨env,by simpa only[QC,oh]using q⟩
def Ye(ha:GT X W c m1 a)(hb:GW X W c (.and (.cons m2 m3)) (.BoolOp .And (b::rest) pos)):GW X W c (.and (.cons m1 (.cons m2 m3))) (.BoolOp .And (a::b::rest) pos):=by
 refine PW.imp (Lg ha hb) fun σ H Q⟨env,q⟩=>⟨env,?_⟩
 refine yP q (fun d δ hd=>?_) fun k δ H1 N q1=>?_
 ·cases d with
  |bl k=>exact absurd rfl (hd k)
  |_=>rfl
 ·cases k with
  |true=>rw[if_pos rfl];exact⟨δ,by simpa only[v_9,iD]using q1⟩
  |false=>
   obtain⟨d,k',e1,e2,q3⟩:=q1.2
   cases e1
   cases e2
   exact q3 H1 (Nx.refl q1.1)
def ab3(ha:GT X W c m1 a)(hb:GW X W c (.or (.cons m2 m3)) (.BoolOp .Or (b::rest) pos)):GW X W c (.or (.cons m1 (.cons m2 m3))) (.BoolOp .Or (a::b::rest) pos):=by
 refine PW.imp (abm ha hb) fun σ H Q⟨env,q⟩=>⟨env,?_⟩
 refine yP q (fun d δ hd=>?_) fun k δ H1 N q1=>?_
 ·cases d with
  |bl k=>exact absurd rfl (hd k)
  |_=>rfl
 ·cases k with
  |false=>rw[if_neg Qjq];exact⟨δ,by simpa only[QC,oh]using q1⟩
  |true=>
   obtain⟨d,k',e1,e2,q3⟩:=q1.2
   cases e1
   cases e2
   exact q3 H1 (Nx.refl q1.1)
def Yu(ht:GT X W c m1 t)(ha:GE X W c m2 a)(hb:GE X W c m3 b):GE X W c (.ite m1 m2 m3) (.IfExp t a b pos):=by
 intro env
 refine PE.imp (sS ht ha.am hb.am) fun σ H Q q=>?_
 refine⟨env,yS q fun k δ H1 N q1=>?_⟩
 cases k with
 |true=>rw[if_pos rfl]at q1⊢;exact⟨δ,q1⟩
 |false=>rw[if_neg Qjq]at q1⊢;exact⟨δ,q1⟩
def Ef{i:Int}{K:QQq}{vs:List V}(h:at? xs i=some d)(l:ak K H xs vs):∃v,Zb vs i=some v/\aZ K H d v:=by
 unfold at? at h
 cases e:ix? xs.length i with
 |none=>rw[e]at h;cases h
 |some j=>
  rw[e]at h
  obtain⟨v,q1,q2⟩:=l.get (h)
  refine⟨v,?_,q2⟩
  unfold Zb
  have:Sw vs.length i=some j:=by
   unfold ix? at e
   unfold Sw
   rw[<-l.length]
   by_cases h0:i<0
   ·simp only[h0,if_true]at e
    split at e
    ·rename_i hc
     cases e
     rw[if_neg (by omega),if_pos (by omega)]
    ·cases e
   ·simp only[h0,if_false]at e
    split at e
    ·rename_i hc
     cases e
     rw[if_pos (by omega),if_pos (by omega)]
    ·cases e
  rw[this]
  exact q1
theorem o6{K:QQq}{H:Hp}(k:Key):∀{kvs:List (Key×V)}{ds:List D}{d:D},dH (dj k) (kvs.map fun p=>dj p.1) ds=some d->ak K H ds (kvs.map (·.2))->∃v,eQ kvs k=some v/\aZ K H d v
 |[],ds,d,h,_=>by cases h
 |(k',v)::r,ds,d,h,l=>by
  rw[Qyq]at h l
  cases ds with
  |nil=>obtain⟨⟩:=ak.bA.mp l
  |cons d' ds=>
   obtain⟨w,ws,e,h1,h2⟩:=ak.aF.mp l
   cases e
   have e:gH (dj k') (dj k)=decide (k'=k):=by
    cases k'<;>cases k<;>simp[dj,gH,Bool.beq_eq_decide_eq]
   simp only[dH,e]at h
   by_cases q:k'=k
   ·simp only[q,decide_true,if_true]at h
    cases h
    exact⟨v,iY q,h1⟩
   ·simp only[q,decide_false,Qyz,if_false]at h
    obtain⟨u,q1,q2⟩:=o6 k h h2
    exact⟨u,by rw[iZ q];exact q1,q2⟩
def abh:R2:=fun x y H Q=>∃a k kvs v,x=.ref a/\y=kV k/\Rd H a (.dK kvs)/\eQ kvs k=some v/\Q v H
def XQ(hu:X.A.units+1<cLine):JS X abh:=by
 intro value slice γ s σ H x y v u Q I rx ry h hs
 obtain⟨a,k,kvs,w,rfl,rfl,hd,hv,q⟩:=h
 cases rx
 have g:lA H a (kV k) _:=.inl ⟨kvs,k,hd,rfl,hv.symm⟩
 exact PyProof.Rows.tail_any (ql I g) PySem.F.slot_dict_getitem.lookup (wB hu I g ry fun w' s3 I3 rw'=>⟨w,H,I3,rw',q⟩) hs
def Lb(K:QQq):R2:=fun x y H Q=>∃d a k xs v,x=.ref d/\y=.ref a/\Rd H d (.dS xs)/\(∀x∈xs,cH K H x.1 x.2.1)/\cH K H k a/\zQ k xs=some v/\Q v H
def ab0(hu:X.A.units+2<cLine):JS X (Lb X.K):=by
 intro value slice γ s σ H x y v u Q I rx ry h hs
 obtain⟨d,a,k,xs,w,rfl,rfl,hd,hk,ka,hv,q⟩:=h
 cases rx
 cases ry
 obtain⟨ys,_,dd,_⟩:=oA I hd hk
 exact PyProof.Rows.tail_any dd.typeIs PySem.F.slot_dict_getitem.lookup (HQ hu I hd hk ka hv fun u s3 I3 ru=>⟨w,H,I3,ru,q⟩) hs
def abi(K:QQq):R2:=fun x y H Q=>WQ K x y H Q\/WP K x y H Q\/abh x y H Q\/Lb K x y H Q
def M8(hu:X.A.units+2<cLine):JS X (abi X.K):=Gw.or (M6.or ((XQ (by omega)).or (ab0 hu)))
def wz{H:Hp}{v u:V}(D1:dD K H d v)(D2:aZ K H y u)(e:getD d y=some z)(q:∀w,aZ K H z w->Q w H):abi K v u H Q:=by
 cases d with
 |tup xs=>
  cases y with
  |int i=>
   obtain⟨a,vs,rfl,hq,l⟩:=cU D1.tup
   obtain⟨w,e1,e2⟩:=Ef e l
   exact .inr (.inl ⟨a,vs,i,w,rfl,D2,hq,e1,q w e2⟩)
  |_=>cases e
 |lst xs=>
  cases y with
  |int i=>
   obtain⟨a,vs,rfl,hq,l⟩:=D1.KC
   rcases hq with hq|hq
   ·obtain⟨w,e1,e2⟩:=Ef e l
    exact .inl ⟨a,vs,i,w,rfl,D2,hq,e1,q w e2⟩
   ·obtain⟨w,e1,e2⟩:=Ef e l
    exact .inr (.inl ⟨a,vs,i,w,rfl,D2,hq,e1,q w e2⟩)
  |_=>cases e
 |dq ks ds=>
  have e':(if keyOk y=true then dH y ks ds else none)=some z:=by cases y<;>exact e
  split at e'
  ·rename_i hk
   obtain⟨k,rfl⟩:=gQ hk
   obtain⟨a,kvs,rfl,ha,rfl,l⟩:=oE D1
   obtain⟨w,e1,e2⟩:=o6 k e' l
   exact .inr (.inr (.inl ⟨a,k,kvs,w,rfl,lO D2,ha,e1,q w e2⟩))
  ·cases e'
 |lU ks ds=>
  have e':(if z8 y=true then dH y ks ds else none)=some z:=by cases y<;>exact e
  split at e'
  ·rename_i hk
   obtain⟨k,rfl⟩:=j9 hk
   obtain⟨a,rfl,ka⟩:=rH D2
   obtain⟨d,xs,rfl,hd,rfl,hks,l⟩:=yj D1
   obtain⟨w,e1,e2⟩:=Gh k e' l
   exact .inr (.inr (.inr ⟨d,a,k,xs,w,rfl,rfl,hd,hks,ka,e1,q w e2⟩))
  ·cases e'
 |_=>cases y<;>cases e
def Yw(hu:X.A.units+2<cLine)(ha:GE X W c m1 a)(hb:GE X W c m2 b)(hv:∀k,m1.aB=some k->∃x p,a=.Name x p/\jL X k x)(hs:yx b):GE X W c (.idx m1 m2) (.Subscript a b pos):=by
 intro env
 cases q:m1.aB with
 |some k=>
  obtain⟨x,p,rfl,nm⟩:=hv k q
  refine PE.imp (Va (M8 hu) nm.pe hb.d hs) fun σ H Q h=>?_
  simp only[V4,q]at h
  cases e0:bf k env with
  |none=>rw[e0]at h;exact h.2.elim
  |some d0=>
   rw[e0]at h
   obtain⟨u,eu,_⟩:=fG h.1 e0
   refine⟨u,eu,env,aL h fun d δ v H1 N1 D1 h1=>?_⟩
   obtain⟨z,ez,S,q3⟩:=cT h1
   cases e1:bf k δ with
   |none=>rw[e1]at ez;cases ez
   |some d2=>
    rw[e1]at ez
    simp only[Option.bind]at ez
    obtain⟨u',eu',D2⟩:=fG S e1
    rw[eu]at eu'
    cases eu'
    cases e2:getD d2 d with
    |none=>rw[e2]at ez;cases ez
    |some w=>
     rw[e2]at ez
     cases ez
     exact wz D2 D1 e2 fun w' hw=>q3 w' H1 (Nx.refl S) hw
 |none=>
  refine PE.imp (Va (M8 hu) ha.d hb.d hs) fun σ H Q h=>?_
  simp only[V4,q]at h
  refine⟨env,aL h fun d δ v H1 N1 D1 h1=>⟨δ,aL h1 fun d2 ε u H2 N2 D2 h2=>?_⟩⟩
  obtain⟨z,ez,S,q3⟩:=cT h2
  cases e2:getD d d2 with
  |none=>rw[e2]at ez;cases ez
  |some w=>
   rw[e2]at ez
   cases ez
   exact wz (.inl (D1.mono N2.pers)) D2 e2 fun w' hw=>q3 w' H2 (Nx.refl S) hw
end
structure Nz(K:QQq)(env:Ev)(σ:St)(H:Hp)(env':Ev)(ζ:St)(H':Hp):Prop where
 gm:Sat K env' ζ H'
 sub:∀(i:Nat)a,aJ env' ζ i a->aJ env σ i a\/H a=none
 pers:bM H H'
 keep:∀b u,H b=some u->(∀i,¬aJ env σ i b)->H' b=some u
 dom:∀b,H' b=none->H b=none
 bors:∀(i:Nat)xs,env[i]? =some (.bor xs)->(∃ys,env'[i]? =some (.bor ys))/\ζ[i]? =σ[i]?
section
theorem Nx.z(N:Nx K env σ H δ H1):Nz K env σ H δ σ H1:=⟨N.gm,fun i a z=>.inl (N.sub i a z),N.pers,N.keep,N.dom,fun i xs e=>⟨N.bors i xs e,rfl⟩⟩
theorem Nz.refl(S:Sat K env σ H):Nz K env σ H env σ H:=(Nx.refl S).z
theorem Nz.trans(a:Nz K env σ H δ ξ H1)(b:Nz K δ ξ H1 ε ρ H2):Nz K env σ H ε ρ H2 where
 gm:=b.gm
 sub:=fun i c z=>by
  rcases b.sub i c z with q|q
  ·exact a.sub i c q
  ·exact .inr (a.dom c q)
 pers:=a.pers.trans b.pers
 keep:=fun c vs z n=>b.keep c vs (a.keep c vs z n) fun i w=>by
  rcases a.sub i c w with q|q
  ·exact n i q
  ·rw[q]at z;cases z
 dom:=fun c z=>a.dom c (b.dom c z)
 bors:=fun i xs e=>by
  obtain⟨⟨ys,e1⟩,s1⟩:=a.bors i xs e
  obtain⟨q,s2⟩:=b.bors i ys e1
  exact⟨q,s2.trans s1⟩
noncomputable def Qe(K:QQq)(env:Ev)(σ:St)(H H':Hp):Rv->V->Prop
 |.val d,v=>aZ K H' d v
 |.new q,v=>∃a,v=.ref a/\jj K H' q a/\(H a=none\/∃(i:Nat)(ys:Ob),env[i]? =some (.own ys)/\σ[i]? =some (some (.ref a)))
 |_,_=>False
def Qe.back{v:V}(N:Nz K env σ H δ ξ H1)(h:Qe K δ ξ H1 H2 r v):Qe K env σ H H2 r v:=by
 cases r with
 |val d=>exact h
 |new xs=>
  obtain⟨a,e,p,z⟩:=h
  refine⟨a,e,p,?_⟩
  rcases z with z|⟨i,ys,z1,z2⟩
  ·exact .inl (N.dom a z)
  ·rcases N.sub i a ⟨⟨_,ys,z1,rfl⟩,z2⟩with ⟨⟨s,xs',q1,q2⟩,q3⟩|q
   ·cases s with
    |own w=>exact .inr ⟨i,w,q1,q3⟩
    |bor w=>
     obtain⟨⟨w',q⟩,_⟩:=N.bors i w q1
     rw[z1]at q;cases q
    |un=>cases q2
    |val d=>cases q2
   ·exact .inl q
 |ref i=>exact h.elim
 |tmp xs=>exact h.elim
end
noncomputable def tS(K:QQq)(W:Wi)(env:Ev)(f:Fl):TS:=fun D σ H=>Sat K env σ H/\match f with
 |.next env'=>∀ζ H',Nz K env σ H env' ζ H'->D.nx ζ H'
 |.ret r env'=>∀v ζ H',Nz K env σ H env' ζ H'->Qe K env σ H H' r v->D.rt v H'
 |.brk env'=>∀ζ H',Nz K env σ H env' ζ H'->D.bk ζ H'
 |.cont env'=>∀ζ H',Nz K env σ H env' ζ H'->D.ct ζ H'
 |.exc c env'=>∀ζ H',Nz K env σ H env' ζ H'->W c env' ζ H'
 |.bad=>False
def GS(X:Cx)(W:Wi)(c:Cf)(m:S)(st:Stmt):Prop:=∀env,PS X st (tS X.K W env (ex c m env))
def Qs(X:Cx)(W:Wi)(c:Cf)(m:S)(st:List Stmt):Prop:=∀env,uX X st (tS X.K W env (ex c m env))
section
def PS.imp(h:PS X st t)(i:∀D σ H,t' D σ H->t D σ H):PS X st t':=fun γ s σ H D I q=>h γ s σ H D I (i D σ H q)
def uX.imp(h:uX X sts t)(i:∀D σ H,t' D σ H->t D σ H):uX X sts t':=fun γ s σ H D I q=>h γ s σ H D I (i D σ H q)
def rD{env δ:Ev}{H H1:Hp}{D:Ends}(h:tS K W env f D σ H)(N:Nz K env σ H δ ξ H1):tS K W δ f D ξ H1:=by
 obtain⟨_,h⟩:=h
 refine⟨N.gm,?_⟩
 cases f with
 |next ε=>exact fun ζ H' N'=>h ζ H' (N.trans N')
 |ret r ε=>exact fun v ζ H' N' k=>h v ζ H' (N.trans N') (k.back N)
 |brk ε=>exact fun ζ H' N'=>h ζ H' (N.trans N')
 |cont ε=>exact fun ζ H' N'=>h ζ H' (N.trans N')
 |exc k ε=>exact fun ζ H' N'=>h ζ H' (N.trans N')
 |bad=>exact h
def SQ:Qs X W c .nil []:=fun env=>uX.imp xr fun D σ H q=>by
 exact q.2 σ H (Nz.refl q.1)
def NB(h:GS X W c m1 st)(t:Qs X W c m2 sts):Qs X W c (.cons m1 m2) (st::sts):=by
 intro env
 have B:uX X _ (jV (fun D σ H=>∃env,tS X.K W env _ D σ H) (fun D σ H=>∃env,tS X.K W env _ D σ H)):=
  bO (fun γ s σ H D I⟨env,q⟩=>h env γ s σ H D I q) (fun γ s σ H D I⟨env,q⟩=>t env γ s σ H D I q)
 refine uX.imp B fun D σ H q=>?_
 simp only[x_1]at q
 refine⟨env,q.1,?_⟩
 cases r:ex c m1 env with
 |next δ=>
  rw[r]at q
  exact fun ξ H1 N1=>⟨δ,rD q N1⟩
 |_=>rw[r]at q;exact q.2
theorem rE{env:Ev}{H:Hp}{D:Ends}{r:Out Rv}{R:VK}(h:tS K W env (r.qG f) D σ H)
  (k:∀d δ v H1,Nx K env σ H δ H1->aZ K H1 d v->tS K W δ (f d δ) D σ H1->R v H1):tD K W env r σ H R:=by
 have step:∀d δ,r.qG f=f d δ->∀v H1,Nx K env σ H δ H1->aZ K H1 d v->R v H1:=fun d δ e v H1 N Dv=>by
  rw[e]at h
  exact k d δ v H1 N Dv (rD h N.z)
 obtain⟨S,h⟩:=h
 refine⟨S,?_⟩
 cases r with
 |bad=>exact h
 |exc c δ=>exact fun H' N=>h σ H' N.z
 |ok x δ=>
  cases x with
  |val d=>exact fun v H1 N Dv=>step d δ rfl v H1 N Dv
  |new xs=>exact fun v H1 N Dv=>step xs.d δ rfl v H1 N Dv
  |ref i=>exact h
  |tmp xs=>exact h
theorem Kd{env:Ev}{H:Hp}{D:Ends}{f:Bool->Ev->Fl}(h:tS K W env (r.Oj f) D σ H)
  (k:∀b δ H1,Nx K env σ H δ H1->tS K W δ (f b δ) D σ H1->R b H1):tT K W env r σ H R:=by
 have step:∀d δ x,x.kI=some d->r=.ok x δ->∃b,jk d=some b/\∀H1,Nx K env σ H δ H1->R b H1:=fun d δ x ex er=>by
  subst er
  cases q:jk d with
  |none=>
   cases x with
   |val d'=>cases ex;simp only[Out.Oj,Out.qG,q]at h;exact h.2.elim
   |new xs=>cases ex;simp only[Out.Oj,Out.qG,q]at h;exact h.2.elim
   |ref i=>cases ex
   |tmp xs=>cases ex
  |some b=>
   refine⟨b,rfl,fun H1 N=>k b δ H1 N (rD ?_ N.z)⟩
   cases x with
   |val d'=>cases ex;simp only[Out.Oj,Out.qG,q]at h;exact h
   |new xs=>cases ex;simp only[Out.Oj,Out.qG,q]at h;exact h
   |ref i=>cases ex
   |tmp xs=>cases ex
 refine⟨h.1,?_⟩
 cases r with
 |bad=>exact h.2
 |exc c δ=>exact fun H' N=>h.2 σ H' N.z
 |ok x δ=>
  cases x with
  |val d=>obtain⟨b,e,q⟩:=step d δ _ rfl rfl;exact⟨d,b,rfl,e,q⟩
  |new xs=>obtain⟨b,e,q⟩:=step xs.d δ _ rfl rfl;exact⟨xs.d,b,rfl,e,q⟩
  |ref i=>exact h.2.elim
  |tmp xs=>exact h.2.elim
def ab4{te:Expr}(ht:GT X W c t te)(h1:Qs X W c m1 s1)(h2:Qs X W c m2 s2):GS X W c (.ite t m1 m2) (.If te s1 s2 pos):=by
 intro env
 refine PS.imp (Lj ht (t:=fun D σ H=>∃env,tS X.K W env _ D σ H) (u:=fun D σ H=>∃env,tS X.K W env _ D σ H)
  (fun γ s σ H D I⟨env,q⟩=>h1 env γ s σ H D I q) (fun γ s σ H D I⟨env,q⟩=>h2 env γ s σ H D I q)) fun D σ H q=>?_
 refine⟨env,Kd q fun b δ H1 N q1=>?_⟩
 cases b with
 |true=>rw[if_pos rfl]at q1⊢;exact⟨δ,q1⟩
 |false=>rw[if_neg Qjq]at q1⊢;exact⟨δ,q1⟩
def S6{m:E}(h:GE X W c m e)(hs:swapsWith e none pos.line X.env=pure false):GS X W c (.expr m) (.Expr e pos):=by
 intro env
 exact PS.imp (lF h.d hs) fun D σ H q=>⟨env,rE q fun d δ v H1 N Dv q1=>q1.2 σ H1 (Nz.refl q1.1)⟩
def NT:GS X W0 c (.raise k) st:=fun env γ s σ H D I q=>by
 exact(q.2 σ H (Nz.refl q.1)).elim
end
section
variable{env δ ε:Ev}{σ ξ ρ:St}
def lH{s:Sl}{a:Addr}(h:aJ (env.set i s) (σ.set i (some v)) j a)(hj:i≠j):aJ env σ j a:=by
 obtain⟨⟨t,xs,e1,e2⟩,e3⟩:=h
 rw[Qxq hj]at e1 e3
 exact⟨⟨t,xs,e1,e2⟩,e3⟩
def nQ{s:Sl}{a:Addr}(hi:i<env.length)(hs:i<σ.length)(h:aJ (env.set i s) (σ.set i (some v)) i a):isOwn s≠none/\v=.ref a:=by
 obtain⟨⟨t,xs,e1,e2⟩,e3⟩:=h
 rw[Qxz hi]at e1
 rw[Qxz hs]at e3
 cases e1
 cases e3
 exact⟨by rw[e2];simp,rfl⟩
def Sat.Cj{q:Ob}(S:Sat K env σ H)(hi:i<env.length)(ha:jj K H q a)(no:∀k,¬aJ env σ k a):Sat K (env.set i (.own q)) (σ.set i (some (.ref a))) H:=by
 have hs:i<σ.length:=by rw[<-S.len];exact hi
 refine⟨by simpa using S.len,fun j s e=>?_,fun j k b h1 h2=>?_⟩
 ·by_cases hj:i=j
  ·subst hj
   rw[Qxz hi]at e
   cases e
   exact⟨a,by rw[Qxz hs];rfl,ha⟩
  ·rw[Qxq hj]at e⊢
   exact S.sl j s e
 ·by_cases hj:i=j
  ·subst hj
   by_cases hk:i=k
   ·exact hk
   ·obtain⟨_,z⟩:=nQ hi hs h1
    cases z
    exact absurd (lH h2 hk) (no k)
  ·by_cases hk:i=k
   ·subst hk
    obtain⟨_,z⟩:=nQ hi hs h2
    cases z
    exact absurd (lH h1 hj) (no j)
   ·exact S.ne j k b (lH h1 hj) (lH h2 hk)
theorem Nz.put{x:Rv}{v:V}(S:Sat K env σ H)(N:Nx K env σ H δ H1)(hx:iy K σ H H1 x v)(hs:x.BJ=some s)(h:fP i s δ=some ε):Nz K env σ H ε (σ.set i (some v)) H1:=by
 obtain⟨rfl,hi,nb⟩:=rT h
 have hsl:i<σ.length:=by rw[<-N.gm.len];exact hi
 have bors:∀(j:Nat)xs,env[j]? =some _->(∃ys,(δ.set i s)[j]? =some _)/\(σ.set i (some v))[j]? =σ[j]? :=fun j xs e=>by
  obtain⟨ys,e1⟩:=N.bors j xs e
  have hj:i≠j:=fun z=>by subst z;exact nb ys e1
  exact⟨⟨ys,by rw[Qxq hj];exact e1⟩,by rw[Qxq hj]⟩
 cases x with
 |val d=>
  cases hs
  refine⟨N.gm.put hi hx,fun j a z=>.inl ?_,N.pers,N.keep,N.dom,bors⟩
  by_cases hj:i=j
  ·subst hj
   exact absurd rfl (nQ hi hsl z).1
  ·exact N.sub j a (lH z hj)
 |new q=>
  cases hs
  obtain⟨a,rfl,oa,h0⟩:=hx
  refine⟨N.gm.Cj hi oa fun k z=>S.mR h0 k (N.sub k a z),fun j b z=>?_,N.pers,N.keep,N.dom,bors⟩
  by_cases hj:i=j
  ·subst hj
   obtain⟨_,z⟩:=nQ hi hsl z
   cases z
   exact .inr h0
  ·exact .inl (N.sub j b (lH z hj))
 |ref j=>cases hs
 |tmp q=>cases hs
end
section
theorem Uq{env:Ev}{H:Hp}{D:Ends}{r:Out Rv}{R:VK}(h:tS K W env (r.fl f) D σ H)
  (k:∀x δ v H1,Nx K env σ H δ H1->iy K σ H H1 x v->tS K W env (f x δ) D σ H->R v H1):tM K W env r σ H R:=by
 obtain⟨S,h⟩:=h
 refine⟨S,?_⟩
 cases r with
 |bad=>exact h
 |exc c δ=>exact fun H' N=>h σ H' N.z
 |ok x δ=>exact fun v H1 N z=>k x δ v H1 N z ⟨S,h⟩
def Ff{i:Nat}{D:Ends}{H:Hp}(q:tS K W env (ex c (.set i m) env) D σ H):tM K W env (ev c m env) σ H fun v H1=>D.nx (σ.set i (some v)) H1:=by
 refine Uq q fun x δ v H1 N z q1=>?_
 cases e1:x.BJ with
 |none=>rw[e1]at q1;exact q1.2.elim
 |some s=>
  rw[e1]at q1
  simp only[Option.bind]at q1
  cases e2:fP i s δ with
  |none=>rw[e2]at q1;exact q1.2.elim
  |some ε=>
   rw[e2]at q1
   exact q1.2 _ _ (Nz.put q1.1 N z e1 e2)
def NQ{x:Str}(h:GE X W c m e)(hN:X.N.Nodup)(hi:X.N[i]? =some x)(hx:Loc X.env.scope x)(hf:X.fn x=true\/X.env.scope.names.lookup x=some .local)
  (hs:swapsWith e (some (.Name x pos')) pos.line X.env=pure false):GS X W c (.set i m) (.Assign [.Name x pos'] e pos):=fun env=>
 PS.imp (sG hN hi hx h.am hs hf) fun D σ H q=>⟨env,Ff q⟩
def Kw{env:Ev}{D:Ends}{H:Hp}(q:tS K W env (ex c (.setT is m) env) D σ H):tD K W env (ev c m env) σ H fun v H1=>tG K (.tup is) v σ H1 D.nx:=by
 refine rE q fun d δ v H1 N Dv q1=>?_
 cases e2:eE _ d δ with
 |none=>rw[e2]at q1;exact q1.2.elim
 |some ε=>
  rw[e2]at q1
  exact⟨δ,d,ε,q1.1,Dv,e2,fun ζ st=>q1.2 ζ H1 ⟨st.gm,fun i a z=>.inl (st.sub z),bM.refl _,fun _ _ z _=>z,fun _ z=>z,fun i xs e=>⟨⟨xs,(st.same i (st.bors i xs e)).1.trans e⟩,(st.same i (st.bors i xs e)).2⟩⟩⟩
def SX{tg:Expr}(h:GE X W c m e)(hg:GG X (.tup is) tg)(hs:swapsWithSole [tg] e pos.line X.env=pure false)(hw:swappedStores [tg] e X.env=pure none)
  (h1:(assignEach [tg] X.env).map (·.2)=[assign tg X.env]):GS X W c (.setT is m) (.Assign [tg] e pos):=fun env=>
 PS.imp (Lk h.d hg hs hw h1) fun D σ H q=>⟨env,Kw q⟩
end
theorem DN(env:Env):∀(names:List (Str×NameKind))(cs:List (Str×Addr)),(∀x∈names,x.2=.free->∃c,env.cells.lookup x.1=some c)->(∀x c,cs.lookup x=some c->env.cells.lookup x=some c)->
  ∃cl,(do
   let s<-forIn names cs (fun(x:Str×NameKind)cs=>match x with
    |(name,kind)=>if (kind==NameKind.free)=true then do
      let a<-cellOf env name
      pure (ForInStep.yield ((name,a)::cs))
     else pure (ForInStep.yield cs))
   pure s:Sem (List (Str×Addr)))=(pure cl:Sem _)/\
   (∀x c,cl.lookup x=some c->env.cells.lookup x=some c)/\(∀x,(x,NameKind.free)∈names->∃c,cl.lookup x=some c)/\∀x c,cs.lookup x=some c->∃c,cl.lookup x=some c:=by
 intro names
 induction names with
 |nil=>intro cs h1 h2;exact⟨cs,rfl,h2,by simp,fun x c e=>⟨c,e⟩⟩
 |cons p r ih=>
  intro cs h1 h2
  obtain⟨n,k⟩:=p
  by_cases hk:k=.free
  ·subst hk
   obtain⟨c,hc⟩:=h1 _ QYz rfl
   have q2:∀x d,((n,c)::cs).lookup x=some d->env.cells.lookup x=some d:=fun x d e=>by
    rw[QFz]at e
    cases hx:x==n with
    |true=>rw[hx]at e;cases e;rw[eq_of_beq hx];exact hc
    |false=>rw[hx]at e;exact h2 x d e
   obtain⟨cl,e1,e2,e3,e4⟩:=ih _ (fun x hx=>h1 x (QYq _ hx)) q2
   have own:=e4 n c (by simp[QFz])
   refine⟨cl,?_,e2,fun x hx=>?_,fun x d e=>?_⟩
   ·rw[<-e1]
    have:cellOf env n=pure c:=by unfold cellOf;rw[hc]
    simp only[List.forIn_cons]
    rw[if_pos (show(NameKind.free==NameKind.free)=true from rfl),this]
    rfl
   ·rcases QBz.mp hx with z|z
    ·cases z;exact own
    ·exact e3 x z
   ·cases hx:x==n with
    |true=>rw[eq_of_beq hx];exact own
    |false=>exact e4 x d (by rw[QFz,hx];exact e)
  ·obtain⟨cl,e1,e2,e3,e4⟩:=ih cs (fun x hx=>h1 x (QYq _ hx)) h2
   refine⟨cl,?_,e2,fun x hx=>?_,e4⟩
   ·rw[<-e1]
    simp only[List.forIn_cons]
    rw[if_neg (fun z=>hk (eq_of_beq z))]
    rfl
   ·rcases QBz.mp hx with z|z
    ·cases z;exact absurd rfl hk
    ·exact e3 x z
def af7{env:Env}(h:∀x∈scope.names,x.2=.free->∃c,env.cells.lookup x.1=some c):∃cl,Qk scope env cl:=by
 obtain⟨cl,e1,e2,e3,_⟩:=DN env scope.names [] h (by simp)
 refine⟨cl,?_,e2,fun x hx=>e3 x (PySem.mem_of_lookup hx)⟩
 have q:closureFor scope env=(forIn scope.names [] (fun(x:Str×NameKind)cs=>match x with
    |(name,kind)=>if (kind==NameKind.free)=true then do
      let a<-cellOf env name
      pure (ForInStep.yield ((name,a)::cs))
     else pure (ForInStep.yield cs)))>>=pure:=rfl
 rw[q,e1]
 rfl
section
variable{it cond elt:E}{pos spos py:Pos}
theorem Hc{env:Ev}{H:Hp}{Q:VK}
  (q:tM K W env (ev c (.comp nl tg it cond elt) env) σ H Q)
  (k:∀J H1 δ xs ys τ,Nx K env σ H δ H1->Gives K J xs H1->aN tg (ev c cond) (ev c elt) xs [] (List.replicate nl Sl.un++δ)=.ok ys τ->
   (∀v H2,Nx K env σ H (τ.drop nl) H2->iy K σ H H2 (.new (.lst ys)) v->Q v H2)->R J H1):tI K W env (ev c it env) σ H R:=by
 simp only[rm]at q
 obtain⟨S,q⟩:=q
 refine⟨S,?_⟩
 cases r:ev c it env with
 |bad=>rw[r]at q;exact q
 |exc k δ=>rw[r]at q;exact q
 |ok x δ=>
  rw[r]at q
  have go:∀d,x.kI=some d->(match (match items d with
    |some xs=>match aN tg (ev c cond) (ev c elt) xs [] (List.replicate nl Sl.un++δ)with
     |.ok ys τ=>Out.ok (Rv.new (.lst ys)) (τ.drop nl)
     |_=>.bad
    |none=>.bad)with
   |.ok x env'=>∀v H',Nx K env σ H env' H'->iy K σ H H' x v->Q v H'
   |.exc c env'=>∀H',Nx K env σ H env' H'->W c env' σ H'
   |.bad=>False)->∃d xs,x.kI=some d/\items d=some xs/\∀J H',Nx K env σ H δ H'->Gives K J xs H'->R J H':=fun d ed z=>by
   cases e1:items d with
   |none=>rw[e1]at z;exact z.elim
   |some xs=>
    rw[e1]at z
    simp only at z
    cases e2:aN tg _ _ xs [] _ with
    |bad=>rw[e2]at z;exact z.elim
    |exc k τ=>rw[e2]at z;exact z.elim
    |ok ys τ=>
     rw[e2]at z
     exact⟨d,xs,ed,e1,fun J H1 N G=>k J H1 δ xs ys τ N G e2 z⟩
  cases x with
  |val d=>exact go d rfl q
  |new o=>exact go o.d rfl q
  |ref i=>exact q.elim
  |tmp o=>exact q.elim
def Inv.letGo{σ:St}{H:Hp}{C:Addr}(I:Inv X γ σ H s)(f:dW X γ H C)(hs:Heap.SameBut C s.heap h'):Inv X γ σ H {s with heap:=h'}:=by
 exact I.turned (fun b o hb e=>(hs.2 b hb).trans e) f.1 f.2.1 f.2.2.2.1 f.2.2.2.2.1 f.2.2.2.2.2
theorem JP.cl{σ:St}{H:Hp}(sc:JP X.env.scope scope η X.N)(I:Inv X γ σ H s):∃cl,Qk scope X.env cl:=
 af7 fun x hx hf=>I.ok.has x.1 (sc.fre x hx hf)
def Td(B:Bb X c scope η tg cond elt tgE Φ ifs)(hi:GI X W c it tgE ο)(hc:X.calm=true)(hs:∀x,foldedSetIterable ο X.env x=pure x):
  GE X W c (.comp η.length tg it cond elt) (.ListComp Φ [⟨tgE,ο,ifs,0⟩] scope pos):=by
 intro env γ s σ H Q I q
 obtain⟨cl,co⟩:=B.sc.cl I
 refine wpAny_comprehension_free rfl hs co.eq B.sc.kind B.sc.locs (bK (hi env γ s σ H _ I (Hc q (R:=fun J H1=>∃δ xs ys τ,Nx X.K env σ H δ H1/\Gives X.K J xs H1/\aN tg _ _ xs [] _=.ok ys τ/\
  (∀v H2,Nx X.K env σ H _ H2->iy X.K σ H H2 _ v->Q v H2)) fun J H1 δ xs ys τ N G e z=>⟨δ,xs,ys,τ,N,G,e,z⟩)) fun v s1 h1=>bK h1 fun itv s2 h2=>?_)
 obtain⟨ita,fp,tn,J,H1,rfl,I1,T,t0,hf,δ,xs,ys,τ,N,G,e,z⟩:=h2
 refine wC B hc co I1 N.gm T t0 hf G e fun D C s' H' vs m I' N' hD hl hn hC fC=>?_
 refine⟨m,hC,fun h' hs'=>⟨.ref D,H',Inv.letGo I' fC hs',rfl,z _ _ (N.trans N') ⟨D,rfl,⟨_,hD,vs,rfl,hl⟩,N.dom D hn⟩⟩⟩
def De{x:Str}(B:Bb X c scope η tg cond elt tgE Φ ifs)(hi:GI X W c it tgE ο)(hc:X.calm=true)(hs:∀x,foldedSetIterable ο X.env x=pure x)
  (hN:X.N.Nodup)(hx:X.N[i]? =some x)(hl:Loc X.env.scope x)(hf:X.fn x=true\/X.env.scope.names.lookup x=some .local)
  (hsw:swapsWith (.ListComp Φ [⟨tgE,ο,ifs,0⟩] scope pos) (some (.Name x py)) spos.line X.env=pure true):
  GS X W c (.set i (.comp η.length tg it cond elt)) (.Assign [.Name x py] (.ListComp Φ [⟨tgE,ο,ifs,0⟩] scope pos) spos):=by
 intro env γ s σ H D I q
 obtain⟨cl,co⟩:=B.sc.cl I
 rw[exec_Assign_Name_used _ _ _ _ hsw]
 refine QTz (wpAny_standAt (QTz ?_))
 refine QTz (QKz (wpAny_comprehension_free rfl hs co.eq B.sc.kind B.sc.locs
  (bK (hi env γ s σ H _ I (Hc (Ff q) (R:=fun J H1=>∃δ xs ys τ,Nx X.K env σ H δ H1/\Gives X.K J xs H1/\aN tg _ _ xs [] _=.ok ys τ/\
  (∀v H2,Nx X.K env σ H _ H2->iy X.K σ H H2 _ v->D.nx _ H2)) fun J H1 δ xs ys τ N G e z=>⟨δ,xs,ys,τ,N,G,e,z⟩)) fun v s1 h1=>bK h1 fun itv s2 h2=>?_))
  (fun _ s' hq=>QKq (QKq hq)) fun _ _ e=>e)
 obtain⟨ita,fp,tn,J,H1,rfl,I1,T,t0,hf',δ,xs,ys,τ,N,G,e,z⟩:=h2
 refine wC B hc co I1 N.gm T t0 hf' G e fun A C s' H' vs m I' N' hD hl' hn hC fC=>?_
 refine wpAny_assign_Name (vf (v:=.ref A) I' hN hx hl rfl (fun s'' I''⟨a,ha,hor⟩=>?_) hf)
 have hCa:C≠a:=by
  rcases hor with rfl|hor
  ·exact fC.2.1
  ·exact fun z=>fC.2.2.2.2.1 x a hor z.symm
 refine⟨m,hC.sameBut ha hCa,fun h' hs'=>⟨_,H',Inv.letGo I'' fC hs',z _ _ (N.trans N') ⟨A,rfl,⟨_,hD,vs,rfl,hl'⟩,N.dom A hn⟩⟩⟩
end
section
theorem Jv(hq:jl K H a vs)(l:ak K H xs vs)(hz:vs.length<=sizeLine):Gives K (Itt K a) xs H where
 go:=fun H1 p i d e=>by
  obtain⟨v,ev,_⟩:=l.get e
  exact⟨vs,v,p.Hz hq,ev⟩
 yld:=fun H1 p i d e x H2 y=>by
  obtain⟨rfl,y⟩:=y
  obtain⟨v,ev,dv⟩:=l.get e
  have:=y vs (p.Hz hq)
  rw[ev]at this
  cases this
  exact⟨dv.mono p,.inl rfl⟩
 stop:=fun H1 p i hi=>⟨vs,p.Hz hq,by rw[<-l.length];exact hi⟩
 len:=by rw[l.length];exact hz
theorem Jw(hq:Qh K H a vs)(l:ak K H xs vs)(hz:vs.length<=sizeLine):Gives K (Itl K a) xs H where
 go:=fun H1 p i d e=>by
  obtain⟨v,ev,_⟩:=l.get e
  exact⟨vs,v,(p.YD hq).sq,ev⟩
 yld:=fun H1 p i d e x H2 y=>by
  obtain⟨rfl,y⟩:=y
  obtain⟨v,ev,dv⟩:=l.get e
  have:=y vs (p.YD hq).sq
  rw[ev]at this
  cases this
  exact⟨dv.mono p,.inl rfl⟩
 stop:=fun H1 p i hi=>⟨vs,(p.YD hq).sq,by rw[<-l.length];exact hi⟩
 len:=by rw[l.length];exact hz
def Its(x:Str):It:=⟨fun i _=>i<x.cps.size,fun i H v H'=>H'=H/\∃c,x.cps[i]? =some c/\v=.str ⟨#[c]⟩,fun i _=>x.cps.size<=i⟩
def signs_get{i:Nat}(h:(signs x)[i]? =some d):∃c,x.cps[i]? =some c/\d=.str ⟨#[c]⟩:=by
 unfold signs at h
 rw[QEz]at h
 cases e:x.cps.toList[i]? with
 |none=>rw[e]at h;cases h
 |some c=>rw[e]at h;cases h;exact⟨c,by simpa using e,rfl⟩
def oV x:(signs x).length=x.cps.size:=by simp[signs]
theorem ww(hz:x.cps.size<=sizeLine):Gives K (Its x) (signs x) H where
 go:=fun H1 p i d e=>by
  have:=(QCq.mp e).1
  rw[oV]at this
  exact this
 yld:=fun H1 p i d e v H2 y=>by
  obtain⟨rfl,c,e1,rfl⟩:=y
  obtain⟨c',e2,rfl⟩:=signs_get e
  rw[e1]at e2
  cases e2
  exact⟨rfl,.inl rfl⟩
 stop:=fun H1 p i hi=>by rw[oV]at hi;exact hi
 len:=by rw[oV];exact hz
end
section
theorem yI it x t ty(W:∀A':Around,A'.handled=none->Walks P w A' it [it] [it] x.cps.size (SignAt x) (fun i h=>h.IsStrIter it ty x t i))
  (hn:["enumerate","zip","dict_itemiterator","dict_reverseitemiterator","odict_iterator","itertools.zip_longest","itertools.pairwise"].contains ty=false)
  (hself:∀(A:Around)(i:Nat)(s:Shared)(Q:QZq)(E:QZq),s.heap.IsStrIter it ty x t i->Q (.ref it) s->wpAny (model P w) A (pyIter (.ref it)) Q E s):
  Turn P w K tg (Its x) [it] it (fun i h=>h.IsStrIter it ty x t i/\i<=x.cps.size) where
 mem:=by simp
 obj:=fun i h st b hb=>by
  have e:b=it:=by simpa using hb
  subst e
  obtain⟨⟨o,e,_,d⟩,_⟩:=st
  exact⟨o,e,fun v z=>by rw[d]at z;cases z⟩
 keep:=fun i h h' st k=>⟨let ⟨o,e,r⟩:=st.1;⟨o,k it (by simp) o e,r⟩,st.2⟩
 item:=by
  intro X hP hw hK hc i γ s σ H E I hf st hg
  obtain⟨f0,f1,f2,f3,f4,f5⟩:=hf it (by simp)
  refine(W X.A (I.ok.hd hc)).item i s _ _ hg st.1 fun v h' tk hv st' kk=>?_
  obtain⟨c,t,hx,rfl⟩:=hv
  obtain⟨o,e,cl,d⟩:=id st'
  exact⟨_,rfl,Gz e cl d hn ⟨.str ⟨#[c]⟩,H,(I.turned (fun b o hb e=>kk b o (by simpa using hb) e) f0 f1 f3 f4 f5),⟨t,rfl⟩,⟨rfl,c,hx,rfl⟩,⟨st',hg⟩,fun b hb=>(hf b hb).1⟩⟩
 done:=by
  intro X hP hw hK hc i γ s σ H E I hf st hg
  obtain⟨f0,f1,f2,f3,f4,f5⟩:=hf it (by simp)
  have e:=Nat.le_antisymm st.2 hg
  subst e
  exact(W X.A (I.ok.hd hc)).done s _ _ st.1 fun h' tk kk=>⟨rfl,I.turned (fun b o hb e=>kk b o (by simpa using hb) e) f0 f1 f3 f4 f5⟩
 self:=fun A i s Q E st h=>hself A i s Q E st.1 h
end
section
theorem G7:∀cs:List Bool,ak K H (cs.map .bl) (cs.map .bl)
 |[]=>ak.cZ
 |c::cs=>ak.aF.mpr ⟨_,_,rfl,by rfl,G7 cs⟩
def YQ(h:cH K H k a):aZ K H (gk k) (.ref a):=by
 obtain⟨b,q1,q2⟩:=h
 exact⟨a,_,rfl,q1,ak.aF.mpr ⟨_,_,rfl,⟨b,_,rfl,q2,G7 _⟩,ak.aF.mpr ⟨_,_,rfl,by rfl,ak.cZ⟩⟩⟩
end
section
end
section
theorem M9{σ:St}{s:Shared}{d:D}{v:V}(I:Inv X γ σ H s)(rv:RelV v u)(hd:aZ X.K H d v)(hi:items d=some xs)(q:∀J,Gives X.K J xs H->R J H):
  wpAny (model X.prog X.w) X.A (pyIter u) (PIE X γ σ tg R) X.xe s:=by
 cases d with
 |tup ds=>
  cases hi
  obtain⟨a,vs,rfl,hq,l⟩:=cU hd
  cases rv
  obtain⟨its,r,p,hz⟩:=I.tuple hq
  refine wpAny_pyIter_tuple (p) ?_
  refine⟨s.heap.objs.size,[s.heap.objs.size],_,_,H,rfl,I.kept fun b o e=>QWq _ e,Bl a _,⟨_,Qqz _ rfl,rfl,rfl⟩,fun b hb=>?_,q _ (Jv hq l hz)⟩
  have e:b=s.heap.objs.size:=by simpa using hb
  subst e
  exact I.xZ (QVz _) (I.hok.fresh (QVz _))
 |lst ds=>
  cases hi
  obtain⟨a,vs,rfl,hq,l⟩:=eO hd
  cases rv
  obtain⟨its,r,p,hz⟩:=I.list hq.sq
  refine wpAny_pyIter_list p.isList ?_
  refine⟨s.heap.objs.size,[s.heap.objs.size],_,_,H,rfl,I.kept fun b o e=>QWq _ e,oO a _,⟨_,Qqz _ rfl,rfl,rfl⟩,fun b hb=>?_,q _ (Jw hq l hz)⟩
  have e:b=s.heap.objs.size:=by simpa using hb
  subst e
  exact I.xZ (QVz _) (I.hok.fresh (QVz _))
 |str x=>
  simp only[items]at hi
  split at hi
  ·rename_i hf
   cases hi
   cases hd
   obtain⟨t,rfl⟩:=rv
   have hz:=fJ hf
   have fin:∀b∈[s.heap.objs.size],dW X γ H b:=fun b hb=>by
    have e:b=s.heap.objs.size:=by simpa using hb
    subst e
    exact I.xZ (QVz _) (I.hok.fresh (QVz _))
   cases ha:x.cps.all _
   ·exact wpAny_pyIter_wide ha ⟨s.heap.objs.size,[s.heap.objs.size],_,_,H,rfl,I.kept fun b o e=>QWq _ e,yI _ x t "str_iterator" (fun A' hA=>Walks.strWide hA _ x t) (by decide) (fun A i s Q E st h=>wpAny_pyIter_striter_wide st h),⟨⟨_,Qqz _ rfl,rfl,rfl⟩,QHq _⟩,fin,q _ (ww hz)⟩
   ·exact wpAny_pyIter_ascii ha ⟨s.heap.objs.size,[s.heap.objs.size],_,_,H,rfl,I.kept fun b o e=>QWq _ e,yI _ x t "str_ascii_iterator" (fun A' hA=>Walks.strAscii hA _ x t) (by decide) (fun A i s Q E st h=>wpAny_pyIter_striter_ascii st h),⟨⟨_,Qqz _ rfl,rfl,rfl⟩,QHq _⟩,fin,q _ (ww hz)⟩
  ·cases hi
 |_=>cases hi
def ab6(h:GE X W c m e):GI X W c m tg e:=by
 intro env γ s σ H R I q
 refine bK (h.d γ s σ H (fun v H'=>∃d xs,aZ X.K H' d v/\items d=some xs/\∀J,Gives X.K J xs H'->R J H') I ⟨env,q.1,?_⟩) fun u s1⟨v,H1,I1,r1,d,xs,hd,hi,q1⟩=>M9 I1 r1 hd hi q1
 have q2:=q.2
 cases r:ev c m env with
 |bad=>rw[r]at q2;exact q2
 |exc k δ=>rw[r]at q2;exact q2
 |ok x δ=>
  rw[r]at q2
  obtain⟨d,xs,ed,ei,q3⟩:=q2
  cases x with
  |val d'=>cases ed;exact fun v H' N Dv=>⟨d,xs,Dv,ei,fun J G=>q3 J H' N G⟩
  |new o=>cases ed;exact fun v H' N Dv=>⟨o.d,xs,Dv,ei,fun J G=>q3 J H' N G⟩
  |ref i=>cases ed
  |tmp o=>cases ed
end
def tyN:Ty->String
 |.tup=>"tuple"
 |.lst=>"list"
 |.str=>"str"
 |.bool=>"bool"
 |.int=>"int"
 |.dq=>"dict"
section
def aeV(K:QQq):List V->Hp->VK->Prop:=fun xs H Q=>∃d v t,xs=[v,.ty (tyN t)]/\aZ K H d v/\Q (.bl (tL t d)) H
def Pn:gq X (.builtin "isinstance") (aeV X.K):=by
 intro γ s σ H xs us Q I r h
 obtain⟨d,v,t,rfl,hd,q⟩:=h
 obtain⟨u,u',rfl,ru,rt⟩:=Vals.two r
 cases rt
 have fin:∀k,Q _ H->EP X γ σ Q _ {s with toks:=s.toks+1}:=fun k z=>⟨.bl k,H,I.tok _,rfl,z⟩
 have fin0:∀k,Q _ H->EP X γ σ Q _ s:=fun k z=>⟨.bl k,H,I,rfl,z⟩
 cases d with
 |non=>
  cases hd;cases ru
  cases t with
  |tup=>exact IsiPair.NoneType_tuple (fin _ q)
  |lst=>exact IsiPair.NoneType_list (fin _ q)
  |str=>exact IsiPair.NoneType_str (fin _ q)
  |bool=>exact IsiPair.NoneType_bool (fin _ q)
  |int=>exact IsiPair.NoneType_int (fin _ q)
  |dq=>exact IsiPair.NoneType_dict (fin _ q)
 |bl k=>
  cases hd;cases ru
  cases t with
  |tup=>exact IsiPair.bool_tuple (fin _ q)
  |lst=>exact IsiPair.bool_list (fin _ q)
  |str=>exact IsiPair.bool_str (fin _ q)
  |bool=>exact IsiPair.bool_bool (fin0 _ q)
  |int=>exact IsiPair.bool_int (fin0 _ q)
  |dq=>exact IsiPair.bool_dict (fin _ q)
 |int k=>
  cases hd;obtain⟨tk,rfl⟩:=ru
  cases t with
  |tup=>exact IsiPair.int_tuple (fin _ q)
  |lst=>exact IsiPair.int_list (fin _ q)
  |str=>exact IsiPair.int_str (fin _ q)
  |bool=>exact IsiPair.int_bool (fin _ q)
  |int=>exact IsiPair.int_int (fin0 _ q)
  |dq=>exact IsiPair.int_dict (fin _ q)
 |str k=>
  cases hd;obtain⟨tk,rfl⟩:=ru
  cases t with
  |tup=>exact IsiPair.str_tuple (fin _ q)
  |lst=>exact IsiPair.str_list (fin _ q)
  |str=>exact IsiPair.str_str (fin0 _ q)
  |bool=>exact IsiPair.str_bool (fin _ q)
  |int=>exact IsiPair.str_int (fin _ q)
  |dq=>exact IsiPair.str_dict (fin _ q)
 |tup ds=>
  obtain⟨a,vs,rfl,hq,_⟩:=cU hd
  cases ru
  obtain⟨its,_,⟨o,e,cl,_⟩,_⟩:=I.tuple hq
  cases t with
  |tup=>exact IsiPair.tuple_tuple e cl (fin0 _ q)
  |lst=>exact IsiPair.tuple_list e cl (fin _ q)
  |str=>exact IsiPair.tuple_str e cl (fin _ q)
  |bool=>exact IsiPair.tuple_bool e cl (fin _ q)
  |int=>exact IsiPair.tuple_int e cl (fin _ q)
  |dq=>exact IsiPair.tuple_dict e cl (fin _ q)
 |lst ds=>
  obtain⟨a,vs,rfl,hq,_⟩:=eO hd
  cases ru
  obtain⟨its,_,⟨o,n,e,cl,_⟩,_⟩:=I.list hq.sq
  cases t with
  |tup=>exact IsiPair.list_tuple e cl (fin _ q)
  |lst=>exact IsiPair.list_list e cl (fin0 _ q)
  |str=>exact IsiPair.list_str e cl (fin _ q)
  |bool=>exact IsiPair.list_bool e cl (fin _ q)
  |int=>exact IsiPair.list_int e cl (fin _ q)
  |dq=>exact IsiPair.list_dict e cl (fin _ q)
 |dq ks ds=>
  obtain⟨a,o,kvs,rfl,ha,_⟩:=hd
  cases ru
  obtain⟨e,_,_,_,_,o',_,_,e',ex,_⟩:=I.hok a _ ha
  rw[e]at e'
  cases e'
  have cl:=ex.1
  cases t with
  |tup=>exact IsiPair.dict_tuple e cl (fin _ q)
  |lst=>exact IsiPair.dict_list e cl (fin _ q)
  |str=>exact IsiPair.dict_str e cl (fin _ q)
  |bool=>exact IsiPair.dict_bool e cl (fin _ q)
  |int=>exact IsiPair.dict_int e cl (fin _ q)
  |dq=>exact IsiPair.dict_dict e cl (fin0 _ q)
 |lU ks ds=>
  obtain⟨a,o,kvs,rfl,ha,_⟩:=hd
  cases ru
  obtain⟨e,_,_,_,_,o',_,_,_,e',ex,_⟩:=I.hok a _ ha
  rw[e]at e'
  cases e'
  have cl:=ex.1
  cases t with
  |tup=>exact IsiPair.dict_tuple e cl (fin _ q)
  |lst=>exact IsiPair.dict_list e cl (fin _ q)
  |str=>exact IsiPair.dict_str e cl (fin _ q)
  |bool=>exact IsiPair.dict_bool e cl (fin _ q)
  |int=>exact IsiPair.dict_int e cl (fin _ q)
  |dq=>exact IsiPair.dict_dict e cl (fin0 _ q)
def Yv{x:Str}(ha:GE X W c m a)(hx:x=Str.ofString (tyN t))(hg:Gl X x)(hm:X.mg x=none)(hi:Gl X "isinstance")(hmi:X.mg "isinstance"=none)
  (hs:starEach [a,.Name x p'] X.env=(false,eval a X.env)::starEach [.Name x p'] X.env):
  GE X W c (.isi m t) (.Call (.Name "isinstance" p) [a,.Name x p'] [] pos):=by
 intro env
 have hv:bootBuiltins x=some (.type (tyN t)):=by subst hx;cases t<;>kernel_rfl
 have N:PE X (.Name x p') (tC (.ty _)):=RJ hg hm hv rfl (by subst hx;cases t<;>decide+kernel) (by subst hx;cases t<;>decide+kernel)
 exact PE.imp (nP Pn hi hmi (by kernel_rfl) (aC ha.d (aC N bF rfl) hs) (by decide+kernel) (by decide+kernel) hs rfl) fun σ H Q q=>⟨env,aL q fun d δ v H1 N1 D1 q1=>⟨d,v,t,rfl,D1,eZ q1 rfl⟩⟩
end
def qI(X:Cx)(r:List V->Hp->VK->Prop)(f:D->Option Rv):Prop:=
 ∀(env:Ev)(σ:St)(H:Hp)(x:D)(z:Rv)(v:V)(Q:VK),Sat X.K env σ H->dD X.K H x v->f x=some z->(∀w H',Nx X.K env σ H env H'->iy X.K σ H H' z w->Q w H')->r [v] H Q
section
def Pr{r:List V->Hp->VK->Prop}(R:qI X r (b1 bb)){σ:St}{Q:VK}(hv:m.aB=none)(q:tM X.K W env (ev c (.bi bb m) env) σ H Q):aD X W c m σ H fun v H1=>r [v] H1 Q:=by
 simp only[uH,hv]at q
 refine⟨env,aL q fun d δ v H1 N1 D1 q1=>?_⟩
 obtain⟨z,ez,S,q3⟩:=cT q1
 exact R δ σ H1 d z v Q S (.inl D1) ez q3
def Hi{r:List V->Hp->VK->Prop}(R:qI X r (b1 bb)){σ:St}{Q:VK}(hv:m.aB=some k)(q:tM X.K W env (ev c (.bi bb m) env) σ H Q):aV k σ H fun v H1=>r [v] H1 Q:=by
 simp only[uH,hv]at q
 obtain⟨z,ez,S,q3⟩:=cT q
 cases e0:bf k env with
 |none=>rw[e0]at ez;cases ez
 |some d0=>
  rw[e0]at ez
  obtain⟨u,eu,Du⟩:=fG S e0
  exact⟨u,eu,R env σ H d0 z u Q S Du ez q3⟩
theorem xY{id:String}{x:Str}(C:gq X (.builtin id) r)(R:qI X r (b1 bb))(ha:GE X W c m a)(hv:∀k,m.aB=some k->∃x p,a=.Name x p/\jL X k x)
  (hg:Gl X x)(hm:X.mg x=none)(hb:bootBuiltins x=some (.builtin id))(hn:x≠"__name__")(hd:(x==("__debug__":Str))=false)(hs:starEach [a] X.env=[(false,eval a X.env)]):
  GE X W c (.bi bb m) (.Call (.Name x p) [a] [] pos):=by
 intro env
 cases q:m.aB with
 |none=>exact PE.imp (nP C hg hm hb (aC ha.d bF hs) hn hd hs rfl) fun σ H Q h=>Pr R q h
 |some k=>
  obtain⟨y,p',rfl,nm⟩:=hv k q
  exact PE.imp (nP C hg hm hb (aC nm.pe bF hs) hn hd hs rfl) fun σ H Q h=>Hi R q h
theorem Dm{id:String}{x:Str}(C:gq X (.type id) r)(R:qI X r (b1 bb))(ha:GE X W c m a)(hv:∀k,m.aB=some k->∃x p,a=.Name x p/\jL X k x)
  (hg:Gl X x)(hm:X.mg x=none)(hb:bootBuiltins x=some (.type id))(hn:x≠"__name__")(hd:(x==("__debug__":Str))=false)(hs:starEach [a] X.env=[(false,eval a X.env)]):
  GE X W c (.bi bb m) (.Call (.Name x p) [a] [] pos):=by
 intro env
 cases q:m.aB with
 |none=>exact PE.imp (lG C hg hm hb (aC ha.d bF hs) hn hd hs rfl) fun σ H Q h=>Pr R q h
 |some k=>
  obtain⟨y,p',rfl,nm⟩:=hv k q
  exact PE.imp (lG C hg hm hb (aC nm.pe bF hs) hn hd hs rfl) fun σ H Q h=>Hi R q h
def dD.seq{H:Hp}{xs:List D}(h:dD K H d v)(e:bH d=some xs):∃a vs,v=.ref a/\(lu K H a vs\/jl K H a vs)/\ak K H xs vs:=by
 cases d with
 |tup ys=>cases e;exact h.QZ
 |lst ys=>cases e;exact h.KC
 |_=>cases e
theorem dD.dq{H:Hp}{v:V}(h:dD K H (.dq ks ds) v):∃a kvs,v=.ref a/\Rd H a (.dK kvs)/\ks=kvs.map (fun p=>dj p.1)/\ak K H ds (kvs.map (·.2)):=by
 rcases h with h|⟨o,a,q,rfl,u,ha,hq⟩
 ·unfold aZ at h
  obtain⟨a,o,kvs,rfl,ha,k,l⟩:=h
  exact⟨a,kvs,rfl,.inr ⟨o,ha⟩,k,l⟩
 ·cases o<;>cases q
  obtain⟨kvs,rfl,k,l⟩:=hq
  exact⟨a,kvs,rfl,.inl ha,k,l⟩
def WN(K:QQq):List V->Hp->VK->Prop:=fun xs H Q=>(∃x n,xs=[x]/\T6 K x H n/\Q (.int n) H)\/∃a kvs,xs=[.ref a]/\Rd H a (.dK kvs)/\Q (.int kvs.length) H
def JD:gq X (.builtin "len") (WN X.K):=by
 intro γ s σ H xs us Q I r h
 rcases h with h|⟨a,kvs,rfl,e,q⟩
 ·exact Ao γ s σ H xs us Q I r h
 ·obtain⟨u,rfl,ru⟩:=vals1 r
  cases ru
  exact ach I e fun t s' I'=>⟨.int kvs.length,H,I',⟨t,rfl⟩,q⟩
def Ra:qI X (WN X.K) (b1 .len):=by
 intro env σ H x z v Q S Dx e q
 have go:∀n,zT x=some n->T6 X.K v H n->WN X.K [v] H Q:=fun n en ln=>by
  simp only[b1,en]at e
  cases e
  exact .inl ⟨v,n,rfl,ln,q _ H (Nx.refl S) rfl⟩
 cases x with
 |tup xs=>
  obtain⟨a,vs,rfl,hq,l⟩:=Dx.QZ
  refine go xs.length rfl ?_
  rcases hq with hq|hq
  ·exact .inl ⟨vs,hq,l.length⟩
  ·exact .inr ⟨vs,hq,l.length⟩
 |lst xs=>
  obtain⟨a,vs,rfl,hq,l⟩:=Dx.KC
  refine go xs.length rfl ?_
  rcases hq with hq|hq
  ·exact .inl ⟨vs,hq,l.length⟩
  ·exact .inr ⟨vs,hq,l.length⟩
 |str y=>
  have:=Dx.str
  subst this
  by_cases hf:fits y.length=true
  ·exact go y.length (by simp[zT,hf]) ⟨fJ hf,rfl⟩
  ·simp[b1,zT,hf]at e
 |dq ks ds=>
  cases e
  obtain⟨a,kvs,rfl,hr,hk,l⟩:=Dx.dq
  have e2:ks.length=kvs.length:=by rw[hk,Qvz]
  exact .inr ⟨a,kvs,rfl,hr,by rw[<-e2];exact q _ H (Nx.refl S) rfl⟩
 |_=>cases e
def Rb:qI X (fun xs H Q=>(∃i,xs=[.int i]/\Q (.int i) H)\/∃k,xs=[.bl k]/\Q (.int (if k then 1 else 0)) H) (b1 .int):=by
 intro env σ H x z v Q S Dx e q
 cases x with
 |int i=>
  cases e
  have:=Dx.int
  subst this
  exact .inl ⟨i,rfl,q _ H (Nx.refl S) rfl⟩
 |bl k=>
  cases e
  rcases Dx with h|⟨o,a,q',_⟩
  ·cases h
   exact .inr ⟨k,rfl,q _ H (Nx.refl S) (by cases k<;>rfl)⟩
  ·cases o<;>cases q'
 |_=>cases e
def HW:qI X (fun xs H Q=>∃p ys,xs=[.ref p]/\((lu X.K H p ys/\∀l,H l=none->Q (.ref l) (upd H l (.tup ys)))\/(jl X.K H p ys/\Q (.ref p) H))) (b1 .tuple):=by
 intro env σ H x z v Q S Dx e q
 simp only[b1]at e
 cases es:bH x with
 |none=>rw[es]at e;cases e
 |some xs=>
  rw[es]at e
  cases e
  obtain⟨a,vs,rfl,hq,l⟩:=Dx.seq es
  refine⟨a,vs,rfl,?_⟩
  rcases hq with hq|hq
  ·refine .inl ⟨hq,fun p hp=>?_⟩
   have N:=Nx.laid (o:=.tup vs) S hp
   exact q _ _ N (eF (.inl (.inl az)) (l.mono N.pers))
  ·exact .inr ⟨hq,q _ H (Nx.refl S) (eF hq l)⟩
theorem dD.lU{H:Hp}{v:V}(h:dD K H (.lU ks ds) v):∃a xs,v=.ref a/\Rd H a (sD xs)/\ks=xs.map (fun x=>gk x.1)/\∀x∈xs,cH K H x.1 x.2.1:=by
 rcases h with h|⟨o,a,q,rfl,u,ha,hq⟩
 ·unfold aZ at h
  obtain⟨a,o,xs,rfl,ha,k,ka,l⟩:=h
  exact⟨a,xs,rfl,.inr ⟨o,ha⟩,k,ka⟩
 ·cases o<;>cases q
  obtain⟨xs,rfl,k,ka,l⟩:=hq
  exact⟨a,xs,rfl,.inl ha,k,ka⟩
theorem GZ{H:Hp}:∀{xs:List SV},(∀x∈xs,cH K H x.1 x.2.1)->ak K H (xs.map fun x=>gk x.1) (xs.map fun x=>.ref x.2.1)
 |[]=>fun _=>ak.cZ
 |x::xs=>fun h=>ak.aF.mpr ⟨_,_,rfl,YQ (h x QYz),GZ fun y hy=>h y (QYq _ hy)⟩
def K1:qI X (fun xs H Q=>(∃p ys,xs=[.ref p]/\(lu X.K H p ys\/jl X.K H p ys)/\∀l,H l=none->Q (.ref l) (upd H l (.lst ys)))\/∃a ks,xs=[.ref a]/\Rd H a (sD ks)/\∀l,H l=none->Q (.ref l) (upd H l (.lst (ks.map fun x=>.ref x.2.1)))) (b1 .list):=by
 intro env σ H x z v Q S Dx e q
 have go:∀{xs:List D},bH x=some xs->TJ .list xs=some z->∃p ys,[v]=[V.ref p]/\(lu X.K H p ys\/jl X.K H p ys)/\∀l,H l=none->Q (.ref l) (upd H l (.lst ys)):=fun es e=>by
  cases e
  obtain⟨a,vs,rfl,hq,l⟩:=Dx.seq es
  exact⟨a,vs,rfl,hq,fun p hp=>q _ _ (Nx.laid S hp) (lK S l hp)⟩
 cases x with
 |lU ks ds=>
  cases e
  obtain⟨a,xs,rfl,hr,rfl,ka⟩:=Dx.lU
  exact .inr ⟨a,xs,rfl,hr,fun p hp=>q _ _ (Nx.laid S hp) (lK S (GZ ka) hp)⟩
 |tup xs=>exact .inl (go rfl e)
 |lst xs=>exact .inl (go rfl e)
 |_=>cases e
def BoolsAre.get{vs:List Value}{bs:List Bool}(h:BoolsAre vs bs):∀{i:Nat}{v:Value},vs[i]? =some v->∃b,bs[i]? =some b/\v=.bool b:=by
 induction h with
 |nil=>intro i v e;simp at e
 |cons b t ih=>
  intro i v e
  cases i with
  |zero=>simp at e;subst e;exact⟨b,rfl,rfl⟩
  |succ i=>exact ih (by simpa using e)
def range_all(bs:List Bool):((List.range bs.length).all fun i=>bs.getD i false)=bs.all id:=by
 rw[Bool.eq_iff_iff]
 simp only[List.all_eq_true,List.mem_range,id]
 constructor
 ·intro h b hb
  obtain⟨i,hi,e⟩:=List.mem_iff_getElem.mp hb
  have:=h i hi
  rw[List.getD_eq_getElem?_getD,QXq hi]at this
  simpa[e]using this
 ·intro h i hi
  rw[List.getD_eq_getElem?_getD,QXq hi]
  exact h _ (List.getElem_mem hi)
def range_any(bs:List Bool):((List.range bs.length).any fun i=>bs.getD i false)=bs.any id:=by
 rw[Bool.eq_iff_iff]
 simp only[List.any_eq_true,List.mem_range,id]
 constructor
 ·rintro ⟨i,hi,h⟩
  rw[List.getD_eq_getElem?_getD,QXq hi]at h
  exact⟨bs[i],List.getElem_mem hi,by simpa using h⟩
 ·rintro ⟨b,hb,h⟩
  obtain⟨i,hi,e⟩:=List.mem_iff_getElem.mp hb
  exact⟨i,hi,by rw[List.getD_eq_getElem?_getD,QXq hi];simpa[e]using h⟩
def ZF(K:QQq)(f:List Bool->Bool):List V->Hp->VK->Prop:=fun xs H Q=>∃p vs ds bs,xs=[.ref p]/\(lu K H p vs\/jl K H p vs)/\ak K H ds vs/\bools ds=some bs/\Q (.bl (f bs)) H
def pN{w:World}{its:List Value}(hb:BoolsAre its bs):TruthOf P w A (fun i v=>its.toArray[i]? =some v) fun i=>bs.getD i false:=by
 intro i v s Q E hv h
 obtain⟨b,e,rfl⟩:=hb.get (by simpa using hv)
 have h:Q (bs.getD i false) s:=h
 rw[List.getD_eq_getElem?_getD,e]at h
 exact wpAny_truthy_bool h
def ul{id:String}{g:Nat->(Nat->Bool)->Bool}(hc:X.calm=true)(hg:∀bs:List Bool,g bs.length (fun i=>bs.getD i false)=f bs)
  (hcall:∀{E:QZq}{s:Shared}{x:Value}{Q:QZq},
   wpAny (model X.prog X.w) X.A.in1 (pyIter x) (fun it Δ=>∃I fp wr n P St tr,it=.ref I/\Walks X.prog X.w X.A.in1 I fp wr n P St/\St 0 Δ.heap/\TruthOf X.prog X.w X.A.in1 P tr/\
    ∀h' tk,(∀b o,b∉wr->Δ.heap.get? b=some o->h'.get? b=some o)->Q (.bool (g n tr)) {Δ with heap:=h',toks:=tk}) E s->wpAny (model X.prog X.w) X.A (call (.builtin id) [x]) Q E s):
  gq X (.builtin id) (ZF X.K f):=by
 intro γ s σ H xs us Q I r h
 obtain⟨a,vs,ds,bs,rfl,hq,l,hb,q⟩:=h
 obtain⟨u,rfl,ru⟩:=Vals.one r
 cases ru
 have hh:X.A.in1.handled=none:=I.ok.hd hc
 refine hcall ?_
 have fin:∀its o,Vals vs its->∀h' tk,(∀b o',b∉[s.heap.objs.size]->(s.heap.push o).get? b=some o'->h'.get? b=some o')->EP X γ σ Q (.bool (g its.toArray.size fun i=>bs.getD i false)) {s with heap:=h',toks:=tk}:=fun its o rv h' tk k=>by
  have hl:its.toArray.size=bs.length:=by
   have:=(gR hb l rv).length
   simpa using this
  rw[hl,hg]
  refine⟨.bl (f bs),H,I.kept fun b o' e=>k b o' ?_ (QWq _ e),rfl,q⟩
  simp only[QDq]
  exact Qvq (Qqq e)
 rcases hq with hq|hq
 ·obtain⟨its,rv,p,hz⟩:=I.list hq
  have hlt:a≠s.heap.objs.size:=by
   obtain⟨o,n,e,_⟩:=p
   exact Qvq (Qqq e)
  refine wpAny_pyIter_list p.isList ⟨s.heap.objs.size,[s.heap.objs.size,a],[s.heap.objs.size],its.toArray.size,_,_,_,rfl,Walks.list hh _ a hlt its.toArray,⟨⟨_,Qqz _ rfl,rfl,rfl⟩,p.isList.at fun o e=>QWq _ e⟩,pN (gR hb l rv),fin its _ rv⟩
 ·obtain⟨its,rv,p,hz⟩:=I.tuple hq
  have hlt:a≠s.heap.objs.size:=by
   obtain⟨o,e,_⟩:=p
   exact Qvq (Qqq e)
  have p':s.heap.IsTuple a its.toArray:=p
  refine wpAny_pyIter_tuple p' ⟨s.heap.objs.size,[s.heap.objs.size,a],[s.heap.objs.size],its.toArray.size,_,_,_,rfl,Walks.tuple hh _ a hlt its.toArray,⟨⟨_,Qqz _ rfl,rfl,rfl⟩,p'.at fun o e=>QWq _ e⟩,pN (gR hb l rv),fin its _ rv⟩
def JH(hc:X.calm=true):gq X (.builtin "all") (ZF X.K (·.all id)):=ul hc range_all call_all_walk
def JG(hc:X.calm=true):gq X (.builtin "any") (ZF X.K (·.any id)):=ul hc range_any call_any_walk
def vz{f:List Bool->Bool}(hb:∀xs,TJ bb xs=(bools xs).map fun bs=>.val (.bl (f bs)))(h1:∀x,b1 bb x=(bH x).bind (TJ bb)):qI X (ZF X.K f) (b1 bb):=by
 intro env σ H x z v Q S Dx e q
 rw[h1]at e
 cases es:bH x with
 |none=>rw[es]at e;cases e
 |some xs=>
  rw[es]at e
  simp only[Option.bind,hb]at e
  cases eb:bools xs with
  |none=>rw[eb]at e;cases e
  |some bs=>
   rw[eb]at e
   cases e
   obtain⟨a,vs,rfl,hq,l⟩:=Dx.seq es
   exact⟨a,vs,xs,bs,rfl,hq,l,eb,q _ H (Nx.refl S) rfl⟩
def Rf:qI X (ZF X.K (·.all id)) (b1 .all):=vz (fun _=>rfl) fun _=>rfl
def Rc:qI X (ZF X.K (·.any id)) (b1 .any):=vz (fun _=>rfl) fun _=>rfl
end
end Mini
end
section
namespace HT
open PySem PySem.Spec PyProof.Rows
section
def lW{t sl:Addr}{vl vu:Value}{lo hi:Option Int}(ht:IsTup s.heap t items)(hs:s.heap.IsSliceOf sl vl vu .none)(pl:IsPart vl lo)(pu:IsPart vu hi)
  (hw:gr items.size 0 lo=0/\gr items.size items.size hi=items.size)(h:Q (.ref t) s):wpAny (model prog w) A (getItem (.ref t) (.ref sl)) Q E s:=by
 obtain⟨os,hos,hcs,hds⟩:=id hs
 unfold getItem
 try with_reducible refine QGz ?_
 first|refine QTz _|skip
 refine QTz (wpAny_sequenceKey ht.typeIs (by decide) ?_)
 refine QTz (wpAny_callSpecial?_slot ht.typeIs PyProof.Rows.slot_tuple_getitem
  (Qzq PyProof.Rows.slot_tuple_getitem ht.typeIs entry_tuple_getitem ?_ (args_tuple_getitem _ _)))
 show wpAny _ _ (Builtin.Tuple.tupleItemsOf _>>=_) _ _ s
 refine QTz (tupleItemsOf_ ht ?_)
 refine QTz (wpAny_typeOf ⟨os,hos,hcs⟩ ?_)
 refine QTz (jb hs pl pu ?_)
 have hno:((((gr items.size 0 lo):Int)==0&&(1:Int)==1&&(gr items.size items.size hi-gr items.size 0 lo)==items.size)=true):=by
  rw[hw.1,hw.2];simp
 show wpAny _ _ (if (((gr items.size 0 lo):Int)==0&&1==1&&_==items.size)=true then _ else _) _ _ s
 rw[if_pos hno]
 exact QTz (QTz (wpAny_typeOf ht.typeIs (QKq (QTz (wpAny_rule (QKq ⟨_,rfl,QKq h⟩))))))
end
end HT
namespace Mini
open PySem L2
section
def UW(K:QQq):V->Option Int->Option Int->Hp->VK->Prop:=fun x lo hi H Q=>∃a xs,x=.ref a/\jl K H a xs/\
 (HT.gr xs.length 0 lo=0/\HT.gr xs.length xs.length hi=xs.length)/\Q (.ref a) H
def QR:T4 X (UW X.K):=by
 intro γ s σ H x v vl vu lo hi sl Q I rx hs pl pu h
 obtain⟨a,xs,rfl,hx,hw,q⟩:=h
 cases rx
 obtain⟨its,r,ht,hz⟩:=I.tuple hx
 have hlen:its.toArray.size=xs.length:=by rw[Qjz];exact r.length.symm
 exact⟨"tuple",_,PyProof.Rows.slot_tuple_getitem.lookup,ht.typeIs,HT.lW ht hs pl pu (by rw[hlen];exact hw) ⟨.ref a,H,I,rfl,q⟩⟩
def abf(K:QQq):V->Option Int->Option Int->Hp->VK->Prop:=fun x lo hi H Q=>abd K x lo hi H Q\/UW K x lo hi H Q\/abe K x lo hi H Q
def Ww:T4 X (abf X.K):=Wv.or (QR.or QS)
def qW n i d:clip n i=HT.gr n d (some i):=by
 unfold clip HT.gr
 dsimp only
 by_cases h:i<0
 ·rw[if_pos h,if_pos h]
  split
  ·omega
  ·split<;>omega
 ·rw[if_neg h,if_neg h,if_neg h]
  split<;>omega
def YT{α:Type}(xs:List α)a b:(xs.take b).drop a=(xs.drop a).take (b-a):=by
 rw[List.drop_take]
def ym{H:Hp}{vs:List V}(l:ak K H ds vs)lo hi:ak K H (cut ds lo hi) (yo vs lo hi):=by
 have hl:=l.length
 unfold cut yo
 rw[YT]
 cases lo with
 |none=>
  cases hi with
  |none=>rw[HT.nJ,HT.nJ,<-hl];exact(l.drop _).take _
  |some j=>rw[HT.nJ,<-hl,<-qW];exact(l.drop _).take _
 |some i=>
  cases hi with
  |none=>rw[HT.nJ,<-hl,<-qW];exact(l.drop _).take _
  |some j=>rw[<-hl,<-qW,<-qW];exact(l.drop _).take _
def JC{lo hi:Option Int}(h:HT.gr vs.length 0 lo=0/\HT.gr vs.length vs.length hi=vs.length):yo vs lo hi=vs:=by
 unfold yo
 rw[h.1,h.2]
 simp
def By{env:Ev}{H:Hp}{z:Rv}{lo hi:Option Int}(S:Sat K env σ H)(D1:aZ K H d v)(e:jX d lo hi=some z)(q:∀w H',Nx K env σ H env H'->iy K σ H H' z w->Q w H'):abf K v lo hi H Q:=by
 cases d with
 |tup xs=>
  cases e
  obtain⟨a,vs,rfl,hq,l⟩:=cU D1
  by_cases hw:HT.gr vs.length 0 lo=0/\HT.gr vs.length vs.length hi=vs.length
  ·refine .inr (.inl ⟨a,vs,rfl,hq,hw,q _ H (Nx.refl S) ?_⟩)
   have:=ym l lo hi
   rw[JC hw]at this
   exact eF hq this
  ·refine .inl ⟨a,vs,rfl,hq,hw,fun p hp=>?_⟩
   have N:=Nx.laid (o:=.tup (yo vs lo hi)) S hp
   exact q _ _ N (eF (.inl (.inl az)) ((ym l lo hi).mono N.pers))
 |lst xs=>
  cases e
  obtain⟨a,vs,rfl,hq,l⟩:=eO D1
  exact .inr (.inr ⟨a,vs,rfl,hq.sq,fun p hp=>q _ _ (Nx.laid S hp) (lK S (ym l lo hi) hp)⟩)
 |_=>cases e
def GO(X:Cx)(W:Wi)(c:Cf)(m:E)(eo:Option Expr):Prop:=(m=.noneE/\eo=Option.none)\/∃e,eo=Option.some e/\m.nD=false/\GE X W c m e
def tPt(X:Cx)(W:Wi)(c:Cf)(m:E):TO:=fun σ H Q=>∃env,tD X.K W env (ev c m env) σ H fun v H1=>∀d,aZ X.K H1 d v->∃o,fj m.nD d=some o/\Q o H1
def GO.po(h:GO X W c m eo):PO X eo (tPt X W c m):=by
 rcases h with ⟨rfl,rfl⟩|⟨e,rfl,hn,h⟩
 ·intro γ s σ H Q I q
  obtain⟨env,q⟩:=q
  obtain⟨o,e,z⟩:=q.2 .non H (Nx.refl q.1) rfl .non rfl
  cases e
  exact Rt γ s σ H Q I z
 ·intro γ s σ H Q I q
  obtain⟨env,q⟩:=q
  refine Rr h.d γ s σ H Q I ⟨env,q.1,?_⟩
  have q2:=q.2
  have go:∀d v H',aZ X.K H' d v->(∀d,aZ X.K H' d v->∃o,fj m.nD d=some o/\Q o H')->∃i,v=.int i/\Q (some i) H':=fun d v H' Dv z=>by
   obtain⟨o,e,z⟩:=z d Dv
   rw[hn]at e
   cases d with
   |int i=>cases e;exact⟨i,Dv,z⟩
   |_=>cases e
  cases r:ev c m env with
  |bad=>rw[r]at q2;exact q2
  |exc k δ=>rw[r]at q2;exact q2
  |ok x δ=>
   rw[r]at q2
   cases x with
   |val d=>exact fun v H' N Dv=>go d v H' Dv (q2 v H' N Dv)
   |new o=>exact fun v H' N Dv=>go o.d v H' Dv (q2 v H' N Dv)
   |ref i=>exact q2
   |tmp o=>exact q2
def zA{H:Hp}{d d':D}{o:Option Int}(h:aZ K H d v)(e:fj nD d=some o)(h':aZ K H d' v):fj nD d'=some o:=by
 cases nD with
 |true=>exact e
 |false=>
  cases d with
  |int i=>
   subst h
   cases d' with
   |int j=>cases (h');exact e
   |non=>cases (h')
   |bl b=>cases (h')
   |str x=>cases (h')
   |tup ds=>obtain⟨a,vs,z,_⟩:=cU h';cases z
   |lst ds=>obtain⟨a,vs,z,_⟩:=eO h';cases z
   |dq ks ds=>unfold aZ at h';obtain⟨a,o,kvs,z,_⟩:=h';cases z
   |lU ks ds=>unfold aZ at h';obtain⟨a,o,xs,z,_⟩:=h';cases z
  |_=>cases e
def Yo(ha:GE X W c m1 a)(hl:GO X W c m2 lo)(hh:GO X W c m3 hi):GE X W c (.slc m1 m2 m3) (.Subscript a (.Slice lo hi none p2) pos):=by
 intro env
 refine PE.imp (Lw Ww ha.d hl.po hh.po) fun σ H Q q=>?_
 refine⟨env,aL q fun d δ v H1 N1 D1 q1=>⟨δ,aL q1 fun dl ε vl H2 N2 D2 q2 dl' D2'=>?_⟩⟩
 cases el:fj m2.nD dl with
 |none=>rw[el]at q2;exact q2.2.elim
 |some l=>
  rw[el]at q2
  refine⟨l,zA D2 el D2',ε,aL q2 fun dh env3 vh H3 N3 D3 q3 dh' D3'=>?_⟩
  obtain⟨z,ez,S,q4⟩:=cT q3
  cases eh:fj m3.nD dh with
  |none=>rw[eh]at ez;cases ez
  |some h=>
   rw[eh]at ez
   exact⟨h,zA D3 eh D3',By S (D1.mono (N2.trans N3).pers) ez q4⟩
def acO(X:Cx)(x:Str)(d:D):Prop:=∃v u,X.mg x=some u/\RelV v u/\∀H,aZ X.K H d v
def S8{x:Str}(hk:c.gl k=some d)(h:acO X x d)(hg:Gl X x)(hd:(x==("__debug__":Str))=false):GE X W c (.glob k) (.Name x pos):=by
 obtain⟨v,u,hm,r,hD⟩:=h
 intro env
 refine PE.imp (Fy hg hm r hd) fun σ H Q q=>?_
 simp only[v_2,hk]at q
 exact eZ q (hD H)
end
def jc{a:Addr}(h:H a=some u)(hu:JT u):bM H (upd H a u'):=by
 refine⟨fun b xs q=>?_,fun b o' w q=>?_⟩
 ·rw[aq (fun z=>by subst z;rw[h]at q;cases q;exact hu.tup xs rfl)];exact q
 ·rw[aq (fun z=>by subst z;rw[h]at q;cases q;exact hu.frz o' w rfl)];exact q
def rA{f:Ob->Option Ob}(h:fM k f env=some env'):∃o o',f o=some o'/\((env[k]? =some (.own o)/\env'=env.set k (.own o'))\/(env[k]? =some (.bor o)/\env'=env.set k (.bor o'))):=by
 unfold fM at h
 cases e:env[k]? with
 |none=>rw[e]at h;cases h
 |some s=>
  rw[e]at h
  cases s with
  |un=>cases h
  |val d=>cases h
  |own o=>
   cases e2:f o with
   |none=>simp only[e2]at h;cases h
   |some o'=>simp only[e2]at h;cases h;exact⟨o,o',e2,.inl ⟨rfl,rfl⟩⟩
  |bor o=>
   cases e2:f o with
   |none=>simp only[e2]at h;cases h
   |some o'=>simp only[e2]at h;cases h;exact⟨o,o',e2,.inr ⟨rfl,rfl⟩⟩
def Nx.turn{env:Ev}{H:Hp}{sl sl':Sl}{a:Addr}(S:Sat K env σ H)(hs:(sl=.own o/\sl'=.own o')\/(sl=.bor o/\sl'=.bor o'))(e:env[k]? =some sl)(es:σ[k]? =some (some (.ref a)))
  (ha:H a=some u)(hu:JT u)(hd:JQ K H o' u'):Nx K env σ H (env.set k sl') (upd H a u'):=by
 have p:=jc (u':=u') ha hu
 have ow:isOwn sl=some o/\isOwn sl'=some o':=by rcases hs with ⟨rfl,rfl⟩|⟨rfl,rfl⟩<;>exact⟨rfl,rfl⟩
 have oa:aJ env σ k a:=⟨⟨_,o,e,ow.1⟩,es⟩
 have hi:=(QCq.mp e).1
 have sub:∀j b,aJ (env.set k sl') σ j b->aJ env σ j b:=fun j b z=>by
  obtain⟨⟨s,ys,e1,e2⟩,e3⟩:=z
  by_cases hj:k=j
  ·subst hj;exact⟨⟨sl,o,e,ow.1⟩,e3⟩
  ·rw[Qxq hj]at e1;exact⟨⟨s,ys,e1,e2⟩,e3⟩
 refine⟨⟨by simpa using S.len,fun j s ej=>?_,fun j l b z w=>S.ne j l b (sub j b z) (sub l b w)⟩,sub,p,fun b w q n=>?_,fun b q=>?_,fun j ys ej=>?_⟩
 ·by_cases hj:k=j
  ·subst hj
   rw[Qxz hi]at ej
   cases ej
   have at_:jj K _ o' a:=⟨u',az,hd.mono p⟩
   rcases hs with ⟨_,rfl⟩|⟨_,rfl⟩
   ·exact⟨a,by rw[es];rfl,at_⟩
   ·exact⟨a,by rw[es];rfl,at_⟩
  ·rw[Qxq hj]at ej
   refine(S.sl j s ej).keep p fun b w ho ev hb=>?_
   have nb:b≠a:=fun z=>by
    subst z
    exact hj (S.ne k j b oa (xG ej ho ev))
   rw[aq nb];exact hb
 ·rw[aq (fun z=>by subst z;exact n k oa)];exact q
 ·by_cases hb:b=a
  ·subst hb;rw[az]at q;cases q
  ·rw[aq hb]at q;exact q
 ·by_cases hj:k=j
  ·subst hj
   rw[e]at ej
   cases ej
   rcases hs with ⟨z,_⟩|⟨_,rfl⟩
   ·cases z
   ·exact⟨o',by rw[Qxz hi]⟩
  ·exact⟨ys,by rw[Qxq hj];exact ej⟩
def Et{env env':Ev}{H:Hp}{f:Ob->Option Ob}(S:Sat K env σ H)(h:fM k f env=some env'):
  ∃o o' a u,f o=some o'/\σ[k]? =some (some (.ref a))/\H a=some u/\JQ K H o u/\bf k env=some o.d/\∀u',JQ K H o' u'->Nx K env σ H env' (upd H a u'):=by
 obtain⟨o,o',ef,hh⟩:=rA h
 rcases hh with ⟨e,rfl⟩|⟨e,rfl⟩
 ·obtain⟨a,e1,u,e2,e3⟩:=S.sl k _ e
  exact⟨o,o',a,u,ef,cB e1,e2,e3,by unfold bf;rw[e],fun u' hd=>Nx.turn S (.inl ⟨rfl,rfl⟩) e (cB e1) e2 e3.pX hd⟩
 ·obtain⟨a,e1,u,e2,e3⟩:=S.sl k _ e
  exact⟨o,o',a,u,ef,cB e1,e2,e3,by unfold bf;rw[e],fun u' hd=>Nx.turn S (.inr ⟨rfl,rfl⟩) e (cB e1) e2 e3.pX hd⟩
def Mg{o o':Ob}(h:Iu f o=some o'):∃xs ys,o=.lst xs/\f xs=some ys/\o'=.lst ys:=by
 cases o with
 |lst xs=>
  simp only[Iu]at h
  cases e:f xs with
  |none=>rw[e]at h;cases h
  |some ys=>rw[e]at h;cases h;exact⟨xs,ys,rfl,e,rfl⟩
 |dct ks vs=>cases h
 |sdt ks vs=>cases h
def yJ{env env':Ev}{H:Hp}{f:List D->Option (List D)}(S:Sat K env σ H)(h:fM k (Iu f) env=some env'):
  ∃xs ys a vs,f xs=some ys/\σ[k]? =some (some (.ref a))/\H a=some (.lst vs)/\ak K H xs vs/\bf k env=some (.lst xs)/\∀ws,ak K H ys ws->Nx K env σ H env' (upd H a (.lst ws)):=by
 obtain⟨o,o',a,u,ef,es,ha,hd,lk,N⟩:=Et S h
 obtain⟨xs,ys,rfl,e,rfl⟩:=Mg ef
 obtain⟨vs,rfl,l⟩:=hd
 exact⟨xs,ys,a,vs,e,es,ha,l,lk,fun ws hw=>N _ ⟨ws,rfl,hw⟩⟩
theorem dD.lst{K:QQq}{H:Hp}{xs:List D}{v:V}(h:dD K H (.lst xs) v):∃a vs,v=.ref a/\lu K H a vs/\ak K H xs vs:=by
 rcases h with h|⟨o,a,q,rfl,u,ha,hq⟩
 ·obtain⟨a,vs,rfl,hq,l⟩:=eO h
  exact⟨a,vs,rfl,hq.sq,l⟩
 ·cases o<;>cases q
  obtain⟨vs,rfl,l⟩:=hq
  exact⟨a,vs,rfl,.inl (.inl ha),l⟩
structure Ek(X:Cx)(o:Expr)(name:Str)(apos:Pos)(e:Expr)(cpos:Pos):Prop where
 base:attributeBase o name X.env (eval o X.env)=eval o X.env
 line:(apos.endLine==cpos.line)=true
 star:starEach [e] X.env=[(false,eval e X.env)]
section
def Ek.few(h:Ek X o name apos e cpos):((backTo cpos (starEach [e] X.env)).all (fun x=> !x.1)&&(backToKw cpos (keywordEach [] X.env)).all (fun x=>x.1.isSome)
   &&decide ([e].length+([]:List Keyword).length+(if ([]:List Keyword).isEmpty then 0 else 1)<30))=true:=by
 rw[h.star];rfl
def Ly{id:String}{to:TE}(M:Ek X o name apos e cpos)(slot:Slot "list" name id)(hty:typeOf (.builtin id)=pure (.type "method_descriptor"))(hm:MtR X id r)(ho:PE X o to)(he:PE X e te):
  PE X (.Call (.Attribute o name apos) [e] [] cpos) (tBM X.K "list" r to (aG te cN)):=
 abq PySem.F.plainAttrs_list slot hty hm ho (aC he bF M.star) M.base M.few M.line M.star rfl
def countV{K:QQq}{H:Hp}{p:D}{x:V}(Dp:aZ K H p x)(fp:flat p=true):∀{ds:List D}{vs:List V}{us:List Value},ak K H ds vs->Vals vs us->ds.all flat=true->vs.all jN=true/\us.countP (Vo x)=ik p ds:=by
 intro ds
 induction ds with
 |nil=>intro vs us l r _;rw[ak.bA.mp l]at r⊢;cases r;exact⟨rfl,rfl⟩
 |cons d ds ih=>
  intro vs us l r f
  obtain⟨v,vs',rfl,hd,l'⟩:=ak.aF.mp l
  rw[List.all_cons,QUq]at f
  cases r with
  |cons r1 r2=>
   obtain⟨i1,i2⟩:=ih l' r2 f.2
   obtain⟨j1,j2⟩:=xV Dp fp (ak.aX hd ak.cZ) (by simp[f.1])
   simp only[List.all_cons,List.all_nil,Bool.and_true]at j1
   have j3:Oq v x=gH d p:=by simpa[inV,cF]using j2
   refine⟨by rw[List.all_cons,j1,i1];rfl,?_⟩
   rw[List.countP_cons,i2,Do r1 j1,j3,ik]
   split<;>omega
def Rn(K:QQq):V->List V->Hp->VK->Prop:=fun x ys H Q=>∃a vs ds d y,x=.ref a/\ys=[y]/\(lu K H a vs\/jl K H a vs)/\ak K H ds vs/\aZ K H d y/\flat d=true/\ds.all flat=true/\Q (.int (ik d ds)) H
def Oi{H:Hp}{v:V}(h:aZ K H d v)(f:flat d=true):jN v=true:=by
 cases d with
 |non=>cases h;rfl
 |bl b=>cases h;rfl
 |int i=>cases h;rfl
 |str x=>cases h;rfl
 |_=>cases f
def IV:MtR X "list.count" (fun x ys H Q=>(∃a vs,x=.ref a/\lu X.K H a vs)/\Rn X.K x ys H Q):=by
 intro γ s σ H x ys v us Q I rx ry h
 obtain⟨⟨a,vs,rfl,hq⟩,a',vs',ds,d,y,e1,rfl,hq',l,hd,f1,f2,q⟩:=h
 cases e1
 cases rx
 obtain⟨u,rfl,ru⟩:=Vals.one ry
 have hv:vs'=vs:=by
  rcases hq' with z|z
  ·exact I.zR z hq
  ·obtain⟨_,_,⟨o,e,c,_⟩,_⟩:=I.tuple z
   obtain⟨_,_,⟨o',_,e',c',_⟩,_⟩:=I.list hq
   rw[e]at e';cases e';rw[c]at c';injection c' with z;exact absurd z (by decide)
 subst hv
 obtain⟨its,r,pl,hz⟩:=I.list hq
 obtain⟨⟨cls,dd,data,sl⟩,n,ho,hc,hdd,hdt⟩:=id pl
 subst hc hdt
 obtain⟨g1,g2⟩:=countV hd f1 l r f2
 refine call_meets PySem.F.slot_list_count ⟨_,ho,rfl⟩ PySem.F.entry_list_count (PySem.F.args_list_count_2 _ _) (SeqAt.list_countAt a its.toArray n dd sl u _) ⟨ho,fun w hw=>ie ru (Oi hd f1) r g1 w (by simpa using hw),?_⟩
 refine⟨.int _,H,I.tok _,⟨s.toks,?_⟩,q⟩
 rw[show its.toArray.toList=its from rfl,g2]
def IK:MtR X "tuple.count" (fun x ys H Q=>(∃a vs,x=.ref a/\jl X.K H a vs)/\Rn X.K x ys H Q):=by
 intro γ s σ H x ys v us Q I rx ry h
 obtain⟨⟨a,vs,rfl,hq⟩,a',vs',ds,d,y,e1,rfl,hq',l,hd,f1,f2,q⟩:=h
 cases e1
 cases rx
 obtain⟨u,rfl,ru⟩:=Vals.one ry
 have hv:vs'=vs:=by
  rcases hq' with z|z
  ·obtain⟨_,_,⟨o,e,c,_⟩,_⟩:=I.tuple hq
   obtain⟨_,_,⟨o',_,e',c',_⟩,_⟩:=I.list z
   rw[e]at e';cases e';rw[c]at c';injection c' with z;exact absurd z (by decide)
  ·exact I.u0 z hq
 subst hv
 obtain⟨its,r,pl,hz⟩:=I.tuple hq
 obtain⟨⟨cls,dd,data,sl⟩,ho,hc,n,hdt⟩:=id pl
 subst hc hdt
 obtain⟨g1,g2⟩:=countV hd f1 l r f2
 refine call_meets PySem.F.slot_tuple_count ⟨_,ho,rfl⟩ PySem.F.entry_tuple_count (PySem.F.args_tuple_count_2 _ _) (SeqAt.tuple_countAt a its.toArray n dd sl u _) ⟨ho,fun w hw=>ie ru (Oi hd f1) r g1 w (by simpa using hw),?_⟩
 refine⟨.int _,H,I.tok _,⟨s.toks,?_⟩,q⟩
 rw[show its.toArray.toList=its from rfl,g2]
noncomputable def ad8(K:QQq)(to te:TE):TE:=fun σ H Q=>to σ H fun x H1=>∃a vs,x=.ref a/\((lu K H1 a vs/\te σ H1 fun y H2=>(∃a vs,x=.ref a/\lu K H2 a vs)/\Rn K x [y] H2 Q)\/(jl K H1 a vs/\te σ H1 fun y H2=>(∃a vs,x=.ref a/\jl K H2 a vs)/\Rn K x [y] H2 Q))
def W8(M:Ek X o "count" apos e cpos)(ho:PE X o to)(he:PE X e te):PE X (.Call (.Attribute o "count" apos) [e] [] cpos) (ad8 X.K to te):=by
 intro γ s σ H Q I h
 refine wpAny_Call_method_late M.base M.few M.line rfl (bK (ho γ s σ H _ I h) fun v s1⟨x,H1,I1,r1,a,vs,ex,q1⟩=>?_)
 subst ex
 cases r1
 have arg:∀{id:String}{r:V->List V->Hp->VK->Prop},MtR X id r->(te σ H1 fun y H2=>r _ [y] H2 Q)->wpAny _ X.A (callWith cpos _ [.ref a] (backTo cpos (starEach [e] X.env)) _) _ X.xe s1:=fun{id r}hm z=>by
  have hA:=aC he bF M.star cpos γ s1 σ H1 (fun vs H2=>r (.ref a) vs H2 Q) I1 z
  rw[M.star]at hA⊢
  exact Calls.callWith_builtin rfl (Calls.evalArgs_plain (bK hA fun us s2⟨vs,H2,I2,r2,q2⟩=>hm γ s2 σ H2 (.ref a) vs _ us Q I2 rfl r2 q2))
 rcases q1 with ⟨hq,z⟩|⟨hq,z⟩
 ·obtain⟨its,r,pl,hz⟩:=I1.list hq
  refine⟨"list","list.count",PySem.F.plainAttrs_list,PySem.F.slot_list_count,PySem.F.type_list_count,pl.isList.typeIs,fun b eb=>?_,arg IV z⟩
  cases eb
  obtain⟨o,n,e,c,hd,_⟩:=pl
  exact⟨o,e,hd⟩
 ·obtain⟨its,r,⟨o,eo,ec,hd,n,dt⟩,hz⟩:=I1.Bo hq
  refine⟨"tuple","tuple.count",PySem.F.plainAttrs_tuple,PySem.F.slot_tuple_count,PySem.F.type_tuple_count,⟨o,eo,ec⟩,fun b eb=>?_,arg IK z⟩
  cases eb
  exact⟨o,eo,hd⟩
def Oc(M:Ek X o "count" apos e cpos)(ho:GE X W c m1 o)(he:GE X W c m2 e):GE X W c (.count m1 m2) (.Call (.Attribute o "count" apos) [e] [] cpos):=by
 intro env
 refine PE.imp (W8 M ho.d he.d) fun σ H Q q=>?_
 refine⟨env,aL q fun d δ v H1 N1 D1 q1=>?_⟩
 cases d with
 |tup xs=>
  obtain⟨a,vs,rfl,hq,l⟩:=cU D1
  refine⟨a,vs,rfl,.inr ⟨hq,δ,aL q1 fun d2 ε y H2 N2 D2 q2=>?_⟩⟩
  obtain⟨z,ez,S,q3⟩:=cT q2
  simp only[DG]at ez
  split at ez
  ·rename_i hf
   cases ez
   rw[QUq]at hf
   exact⟨⟨a,vs,rfl,N2.pers.Hz hq⟩,a,vs,xs,d2,y,rfl,rfl,.inr (N2.pers.Hz hq),l.mono N2.pers,D2,hf.1,hf.2,q3 _ H2 (Nx.refl S) rfl⟩
  ·cases ez
 |lst xs=>
  obtain⟨a,vs,rfl,hq,l⟩:=eO D1
  refine⟨a,vs,rfl,.inl ⟨hq.sq,δ,aL q1 fun d2 ε y H2 N2 D2 q2=>?_⟩⟩
  obtain⟨z,ez,S,q3⟩:=cT q2
  simp only[DG]at ez
  split at ez
  ·rename_i hf
   cases ez
   rw[QUq]at hf
   exact⟨⟨a,vs,rfl,(N2.pers.YD hq).sq⟩,a,vs,xs,d2,y,rfl,rfl,.inl (N2.pers.YD hq).sq,l.mono N2.pers,D2,hf.1,hf.2,q3 _ H2 (Nx.refl S) rfl⟩
  ·cases ez
 |_=>exact q1.2.elim
def M7{i:Int}(h:ix? n i=some j)(hn:n<=sizeLine): -(2 ^63)<=i/\i<2 ^63/\seqIndex? i n=some j/\j<n:=by
 have hl:=sizeLine_eq
 unfold ix? at h
 by_cases h0:i<0
 ·simp only[h0,if_true]at h
  by_cases hj:0<=i+n/\i+n<n
  ·rw[if_pos hj]at h
   have e:=QDz h
   exact⟨by omega,by omega,by rw[seqIndex_neg (by omega) (by omega),e],by omega⟩
  ·rw[if_neg hj]at h;cases h
 ·simp only[h0,if_false]at h
  by_cases hj:0<=i/\i<n
  ·rw[if_pos hj]at h
   have e:=QDz h
   exact⟨by omega,by omega,by rw[seqIndex_of (by omega) (by omega),e],by omega⟩
  ·rw[if_neg hj]at h;cases h
def tO(h:ig d=true):∃xs,d=some (.lst xs):=by
 cases d with
 |none=>cases h
 |some d=>cases d with
  |lst xs=>exact⟨xs,rfl⟩
  |_=>cases h
def XF k k':gH (dj k') (dj k)=decide (k'=k):=by
 cases k'<;>cases k<;>simp[dj,gH,Bool.beq_eq_decide_eq]
def N8{x:Str}(M:Ek X (.Name x p) "pop" apos e cpos)(nm:jL X k x)(he:GE X W c m e):GE X W c (.popAt k m) (.Call (.Attribute (.Name x p) "pop" apos) [e] [] cpos):=by
 intro env γ s σ H Q I q
 refine PE.imp (Ly M PySem.F.slot_list_pop PySem.F.type_list_pop My nm.pe he.d) (t':=fun ζ H' Q'=>ζ=σ/\H'=H/\Q'=Q) (fun ζ H' Q'⟨e1,e2,e3⟩=>?_) γ s σ H Q I ⟨rfl,rfl,rfl⟩
 subst e1 e2 e3
 simp only[adU]at q
 cases hl:ig _ with
 |false=>rw[hl]at q;exact q.2.elim
 |true=>
  rw[hl]at q
  obtain⟨xs0,e0⟩:=tO hl
  obtain⟨u,eu,Du⟩:=fG q.1 e0
  obtain⟨a0,vs0,rfl,hq0,l0⟩:=Du.lst
  refine⟨.ref a0,eu,.inl ⟨rfl,vs0,hq0⟩,env,aL q fun d δ y H1 N1 D1 q1=>?_⟩
  unfold sH at q1
  cases d with
  |int i=>
   cases e1:bf k δ with
   |none=>rw[e1]at q1;exact q1.2.elim
   |some d1=>
    rw[e1]at q1
    cases d1 with
    |lst xs=>
     simp only at q1
     cases hz:fits xs.length with
     |false=>rw[hz]at q1;exact q1.2.elim
     |true=>
     rw[hz]at q1
     cases e2:ix? xs.length i with
     |none=>rw[e2]at q1;exact q1.2.elim
     |some j=>
      rw[e2]at q1
      simp only at q1
      cases e3:xs[j]? with
      |none=>rw[e3]at q1;exact q1.2.elim
      |some dd=>
       cases e4:fM k _ δ with
       |none=>rw[e3,e4]at q1;exact q1.2.elim
       |some ε=>
        rw[e3,e4]at q1
        obtain⟨zs,ys,a,vs,ef,es,ha,l,lk,N⟩:=yJ q1.1 e4
        rw[e1]at lk
        cases lk
        cases ef
        rw[eu]at es
        cases es
        subst D1
        obtain⟨w,ew,dw⟩:=l.get e3
        obtain⟨b1,b2,b3,b4⟩:=M7 e2 (fJ hz)
        exact⟨a0,vs,i,j,w,rfl,rfl,ha,b1,b2,by rw[<-l.length];exact b3,ew,q1.2 w _ (N _ (l.eraseIdx j)) (dw.mono (N _ (l.eraseIdx j)).pers)⟩
    |_=>exact q1.2.elim
  |_=>exact q1.2.elim
def Ju{x:Str}(M:Ek X (.Name x p) "append" apos e cpos)(nm:jL X k x)(he:GE X W c m e):GS X W c (.append k m) (.Expr (.Call (.Attribute (.Name x p) "append" apos) [e] [] cpos) pos):=by
 intro env
 refine PS.imp (lF (Ly M PySem.F.slot_list_append PySem.F.type_list_append o4 nm.pe he.d) rfl) fun D σ H q=>?_
 simp only[x_9]at q
 cases hl:ig _ with
 |false=>rw[hl]at q;exact q.2.elim
 |true=>
  rw[hl]at q
  obtain⟨xs0,e0⟩:=tO hl
  obtain⟨u,eu,Du⟩:=fG q.1 e0
  obtain⟨a0,vs0,rfl,hq0,l0⟩:=Du.lst
  refine⟨.ref a0,eu,.inl ⟨rfl,vs0,hq0⟩,env,rE q fun d δ y H1 N1 D1 q1=>?_⟩
  cases e4:fM k _ δ with
  |none=>rw[e4]at q1;exact q1.2.elim
  |some ε=>
   rw[e4]at q1
   obtain⟨zs,ys,a,vs,ef,es,ha,l,lk,N⟩:=yJ q1.1 e4
   rw[eu]at es
   cases es
   split at ef
   ·rename_i hf
    cases ef
    have:=fJ hf
    refine⟨a0,vs,y,rfl,rfl,ha,by rw[<-l.length];omega,q1.2 _ _ (N _ (l.append (ak.aX D1 ak.cZ))).z⟩
   ·cases ef
def U4:V->V->V->Hp->(Hp->Prop)->Prop:=fun o i v H Q=>∃a H',o=.ref a/\Qj H a i v H'/\Q H'
def QW(hu:X.A.units+1<cLine):Qf X U4:=by
 intro γ s σ H o i v ov iv u Q I ro ri rv h
 obtain⟨a,H',rfl,g,q⟩:=h
 cases ro
 exact JB hu I g ri rv fun s4 I4=>⟨H',I4,q⟩
noncomputable def U0(K:QQq):V->V->V->Hp->(Hp->Prop)->Prop:=fun o i v H Q=>∃d a k xs,o=.ref d/\i=.ref a/\H d=some (.dS xs)/\(∀x∈xs,cH K H x.1 x.2.1)/\cH K H k a/\xs.length<sizeLine/\Q (upd H d (.dS (uN k a v xs)))
def Wx(hu:X.A.units+2<cLine):Qf X (U0 X.K):=by
 intro γ s σ H o i v ov iv u Q I ro ri rv h
 obtain⟨d,a,k,xs,rfl,rfl,hd,hk,ka,hl,q⟩:=h
 cases ro
 cases ri
 exact HN hu I hd hk ka hl rv fun s4 I4=>⟨_,I4,q⟩
def abg(K:QQq):V->V->V->Hp->(Hp->Prop)->Prop:=fun o i v H Q=>U3 o i v H Q\/U4 o i v H Q\/U0 K o i v H Q
def QX(hu:X.A.units+2<cLine):Qf X (abg X.K):=by
 intro γ s σ H o i v ov iv u Q I ro ri rv h
 rcases h with h|h|h
 ·exact set_list γ s σ H o i v ov iv u Q I ro ri rv h
 ·exact QW (by omega) γ s σ H o i v ov iv u Q I ro ri rv h
 ·exact Wx hu γ s σ H o i v ov iv u Q I ro ri rv h
def XN{i:Int}(h:ix? n i=some j):Sw n i=some j:=by
 unfold ix? at h
 unfold Sw
 by_cases h0:i<0
 ·simp only[h0,if_true]at h
  rw[if_neg (by omega)]
  by_cases hj:0<=i+n/\i+n<n
  ·rw[if_pos hj]at h;rw[if_pos (by omega)];exact h
  ·rw[if_neg hj]at h;cases h
 ·simp only[h0,if_false]at h
  rw[if_pos (by omega)]
  by_cases hj:0<=i/\i<n
  ·rw[if_pos hj]at h;rw[if_pos hj.2];exact h
  ·rw[if_neg hj]at h;cases h
theorem zf{H:Hp}{d:D}(hv:aZ K H d v):∀{kvs:List (Key×V)}{ds:List D},ak K H ds (kvs.map (·.2))->
  ak K H (vD (dj k) d (kvs.map fun p=>dj p.1) ds) ((kvs.map fun kv=>if kv.1=k then(kv.1,v)else kv).map (·.2))
 |[],ds,l=>by
  have:ds=[]:=by have:=l.length;cases ds<;>simp_all
  exact ak.cZ
 |(k',u)::r,ds,l=>by
  cases ds with
  |nil=>have:=l.length;simp at this
  |cons x ds=>
   obtain⟨w,ws,e,h1,h2⟩:=ak.aF.mp l
   cases e
   have ih:=zf (k:=k) hv h2
   simp only[Qyq,vD,XF]
   by_cases q:k'=k
   ·simp only[q,decide_true,if_true]
    exact ak.aX hv ih
   ·simp only[q,decide_false,Qyz,if_false]
    exact ak.aX h1 ih
theorem vC{v:V}:∀(kvs:List (Key×V)),(kvs.map fun kv=>if kv.1=k then(kv.1,v)else kv).map (fun p=>dj p.1)=kvs.map fun p=>dj p.1
 |[]=>rfl
 |(k',u)::r=>by
  simp only[Qyq,vC r]
  split<;>rfl
def Fx{H:Hp}{d:D}(hv:aZ K H d v){ds:List D}(l:ak K H ds (kvs.map (·.2))):
  (putD (dj k) d (kvs.map fun p=>dj p.1) ds).1=(putK kvs k v).map (fun p=>dj p.1)/\ak K H (putD (dj k) d (kvs.map fun p=>dj p.1) ds).2 ((putK kvs k v).map (·.2)):=by
 unfold putD putK
 rw[<-lB,<-q9]
 split
 ·rename_i h
  exact⟨(vC kvs).symm,zf hv l⟩
 ·refine⟨by simp,?_⟩
  rw[List.map_append]
  exact l.append (ak.aX hv ak.cZ)
theorem UT{H:Hp}{d:D}(hv:aZ K H d v):∀{xs:List SV}{ds:List D},ak K H ds (xs.map (·.2.2))->
  ak K H (vD (gk k) d (xs.map fun x=>gk x.1) ds) ((xs.map fun x=>if x.1=k then(x.1,x.2.1,v)else x).map (·.2.2))
 |[],ds,l=>by
  have:ds=[]:=by have:=l.length;cases ds<;>simp_all
  exact ak.cZ
 |x::r,ds,l=>by
  cases ds with
  |nil=>have:=l.length;simp at this
  |cons z ds=>
   obtain⟨w,ws,e,h1,h2⟩:=ak.aF.mp l
   cases e
   have ih:=UT (k:=k) hv h2
   simp only[Qyq,vD,Dn]
   by_cases q:x.1=k
   ·simp only[q,decide_true,if_true]
    exact ak.aX hv ih
   ·simp only[q,decide_false,Qyz,if_false]
    exact ak.aX h1 ih
theorem rW{v:V}:∀xs:List SV,(xs.map fun x=>if x.1=k then(x.1,x.2.1,v)else x).map (fun x=>gk x.1)=xs.map fun x=>gk x.1
 |[]=>rfl
 |x::r=>by
  simp only[Qyq,rW r]
  split<;>rfl
def WW{H:Hp}{a:Addr}{v:V}(hv:aZ K H d v)(ka:cH K H k a){ds:List D}(hk:∀x∈xs,cH K H x.1 x.2.1)(l:ak K H ds (xs.map (·.2.2))):
  (putD (gk k) d (xs.map fun x=>gk x.1) ds).1=(uN k a v xs).map (fun x=>gk x.1)/\(∀x∈uN k a v xs,cH K H x.1 x.2.1)/\ak K H (putD (gk k) d (xs.map fun x=>gk x.1) ds).2 ((uN k a v xs).map (·.2.2)):=by
 unfold putD uN
 rw[Gy]
 split
 ·refine⟨(rW xs).symm,fun x hx=>?_,UT hv l⟩
  obtain⟨y,hy,rfl⟩:=QCz.mp hx
  split
  ·exact hk y hy
  ·exact hk y hy
 ·refine⟨by simp,fun x hx=>?_,?_⟩
  ·rcases QXz.mp hx with z|z
   ·exact hk x z
   ·rw[QDq.mp z];exact ka
  ·rw[List.map_append]
   exact l.append (ak.aX hv ak.cZ)
theorem NP{x:Str}{ixe:Expr}(nm:jL X k x)(he:GE X W c m e)(hi:GE X W c ix ixe)
  (ha:∀v,assign (.Subscript (.Name x p) ixe tp) X.env v=(do
   let ov<-holding [v] (eval (.Name x p) X.env)
   let iv<-holding [v,ov] (eval ixe X.env)
   standAt tp
   holding [v,ov,iv] (setItem ov iv v)
   release [v,ov,iv] []))
  (hs:swapsWithSole [.Subscript (.Name x p) ixe tp] e pos.line X.env=pure false)(hw:swappedStores [.Subscript (.Name x p) ixe tp] e X.env=pure none)(hu:X.A.units+2<cLine)
  (h1:(assignEach [.Subscript (.Name x p) ixe tp] X.env).map (·.2)=[assign (.Subscript (.Name x p) ixe tp) X.env]):
  GS X W c (.setIx k ix m) (.Assign [.Subscript (.Name x p) ixe tp] e pos):=by
 intro env
 refine PS.imp (Lk he.d (W7 nm.pe hi.d (QX hu) ha) hs hw h1) fun D σ H q=>?_
 refine⟨env,rE q fun d δ v H1 N1 D1 q1=>?_⟩
 cases e0:bf k δ with
 |none=>rw[e0]at q1;exact q1.2.elim
 |some d0=>
  rw[e0]at q1
  obtain⟨u,eu,Du⟩:=fG q1.1 e0
  refine⟨u,eu,δ,rE q1 fun d2 ε y H2 N2 D2 q2=>?_⟩
  cases e4:fM k _ ε with
  |none=>rw[e4]at q2;exact q2.2.elim
  |some env3=>
   rw[e4]at q2
   obtain⟨o,o',a,w,ef,es,hA,hd,lk,N⟩:=Et q2.1 e4
   rw[eu]at es
   cases es
   cases o with
   |lst xs=>
    obtain⟨vs,rfl,l⟩:=hd
    cases d2 with
    |int i=>
     simp only[Ck]at ef
     cases e5:ix? xs.length i with
     |none=>rw[e5]at ef;cases ef
     |some j=>
      rw[e5]at ef
      cases ef
      subst D2
      exact .inl ⟨a,vs,i,j,rfl,rfl,hA,by rw[<-l.length];exact XN e5,q2.2 _ _ (N _ ⟨_,rfl,l.set (D1.mono N2.pers) j⟩).z⟩
    |_=>cases ef
   |dct ks ds=>
    obtain⟨kvs,rfl,rfl,l⟩:=hd
    simp only[Ck]at ef
    split at ef
    ·rename_i hk
     rw[QUq]at hk
     cases ef
     obtain⟨kk,rfl⟩:=gQ hk.1
     have ek:=lO D2
     subst ek
     obtain⟨g1,g2⟩:=Fx (D1.mono N2.pers) l
     have hf:=fJ hk.2
     rw[Qvz]at hf
     exact .inr (.inl ⟨a,_,rfl,Qj.k hA (by omega),q2.2 _ _ (N _ ⟨_,rfl,g1,g2⟩).z⟩)
    ·cases ef
   |sdt ks ds=>
    obtain⟨xs,rfl,rfl,hks,l⟩:=hd
    simp only[Ck]at ef
    split at ef
    ·rename_i hk
     rw[QUq]at hk
     cases ef
     obtain⟨kk,rfl⟩:=j9 hk.1
     obtain⟨b,rfl,kb⟩:=rH D2
     obtain⟨g1,g2,g3⟩:=WW (D1.mono N2.pers) kb hks l
     have hf:=fJ hk.2
     rw[Qvz]at hf
     exact .inr (.inr ⟨a,b,kk,xs,rfl,rfl,hA,hks,kb,by omega,q2.2 _ _ (N _ ⟨_,rfl,g1,g2,g3⟩).z⟩)
    ·cases ef
end
section
def Yg(he:GE X W c m e)(hv:∀k,m.aB=some k->∃x p,e=.Name x p/\jL X k x):GS X W c (.ret m) (.Return (some e) pos):=by
 intro env
 have plain:∀D σ H,tS X.K W env ((ev c m env).fl w6) D σ H->QH (aM X W c m) D σ H:=fun D σ H q=>by
  refine⟨env,Uq q fun x δ v H1 N z q1=>?_⟩
  cases x with
  |val d=>exact q1.2 v σ H1 N.z z
  |new o=>
   obtain⟨a,e1,e2,e3⟩:=z
   exact q1.2 v σ H1 N.z ⟨a,e1,e2,.inl e3⟩
  |ref i=>exact q1.2.elim
  |tmp o=>exact q1.2.elim
 cases q0:m.aB with
 |none=>exact PS.imp (iK he.am) fun D σ H q=>plain D σ H (by simpa only[Hq,q0]using q)
 |some k=>
  cases e0:env[k]? with
  |none=>exact PS.imp (iK he.am) fun D σ H q=>plain D σ H (by simpa only[Hq,q0,e0]using q)
  |some sl=>
   cases sl with
   |un=>exact PS.imp (iK he.am) fun D σ H q=>plain D σ H (by simpa only[Hq,q0,e0]using q)
   |val d=>exact PS.imp (iK he.am) fun D σ H q=>plain D σ H (by simpa only[Hq,q0,e0]using q)
   |bor o=>exact PS.imp (iK he.am) fun D σ H q=>plain D σ H (by simpa only[Hq,q0,e0]using q)
   |own o=>
    obtain⟨x,p,rfl,nm⟩:=hv k q0
    refine PS.imp (iK nm.pe) fun D σ H q=>?_
    simp only[Hq,q0,e0]at q
    obtain⟨a,e1,e2⟩:=q.1.sl k _ e0
    have es:=cB e1
    have hi:=(QCq.mp e0).1
    have sub:∀j b,aJ (env.set k .un) σ j b->aJ env σ j b:=fun j b z=>by
     obtain⟨⟨s,ys,z1,z2⟩,z3⟩:=z
     by_cases hj:k=j
     ·subst hj;rw[Qxz hi]at z1;cases z1;cases z2
     ·rw[Qxq hj]at z1;exact⟨⟨s,ys,z1,z2⟩,z3⟩
    refine⟨.ref a,es,q.2 _ σ H ⟨⟨by simpa using q.1.len,fun j s ej=>?_,fun j l b z w=>q.1.ne j l b (sub j b z) (sub l b w)⟩,fun j b z=>.inl (sub j b z),bM.refl H,fun _ _ z _=>z,fun _ z=>z,fun j ys ej=>?_⟩ ⟨a,rfl,e2,.inr ⟨k,o,e0,es⟩⟩⟩
    ·by_cases hj:k=j
     ·subst hj;rw[Qxz hi]at ej;cases ej;trivial
     ·rw[Qxq hj]at ej;exact q.1.sl j s ej
    ·exact⟨⟨ys,by rw[Qxq (fun z=>by subst z;rw[e0]at ej;cases ej)];exact ej⟩,rfl⟩
def S5:GS X W c ACN (.Return none pos):=fun env=>PS.imp Rp fun D σ H q=>by
 exact q.2 .non σ H (Nz.refl q.1) rfl
theorem mK lo:∀(n i:Nat)(d:D),(cV lo n)[i]? =some d->d=.int (lo+i)/\i<n
 |0,i=>fun d h=>by simp[cV]at h
 |n+1,0=>fun d h=>by simp[cV]at h;exact⟨by rw[<-h];simp,by omega⟩
 |n+1,i+1=>fun d h=>by
  obtain⟨e,l⟩:=mK _ n i d h
  refine⟨by rw[e];congr 1;push_cast;omega,by omega⟩
theorem mJ lo:∀n,(cV lo n).length=n
 |0=>rfl
 |n+1=>by rw[cV,QAz,mJ]
theorem Ac{H:Hp}{n:Nat}(hz:n<=sizeLine):Gives K (Itr lo n) (cV lo n) H where
 go:=fun H1 p i d e=>(mK lo n i d e).2
 yld:=fun H1 p i d e x H2 y=>by
  obtain⟨rfl,rfl⟩:=y
  rw[(mK lo n i d e).1]
  exact⟨rfl,.inl rfl⟩
 stop:=fun H1 p i hi=>by rw[mJ]at hi;exact hi
 len:=by rw[mJ];exact hz
def MJ(h:Gd i=true): -(2 ^62)<=i/\i<2 ^62:=by
 simp only[Gd,QUz]at h
 omega
def Jx(ha:GE X W c m a)(hg:Gl X "range")(hm:X.mg "range"=none)(hs:starEach [a] X.env=[(false,eval a X.env)]):GI X W c (.range1 m) tg (.Call (.Name "range" p) [a] [] pos):=by
 intro env γ s σ H R I q
 refine Il hg hm (aC ha.d bF hs) hs γ s σ H R I ⟨env,q.1,?_⟩
 have q2:=q.2
 simp only[adW]at q2
 have go:∀d δ v H',Nx X.K env σ H δ H'->aZ X.K H' d v->(match (lift δ (match d with|.int n=>if fits n.toNat&&Gd n then some (Rv.val (.lst (cV 0 n.toNat)))else none|_=>none))with
   |.ok x env'=>∃d xs,x.kI=some d/\items d=some xs/\∀J H',Nx X.K env σ H env' H'->Gives X.K J xs H'->R J H'
   |.exc c env'=>∀H',Nx X.K env σ H env' H'->W c env' σ H'
   |.bad=>False)->∃j:Int,[v]=[.int j]/\ -(2 ^62)<=j/\j<2 ^62/\R (Itr 0 j.toNat) H':=fun d δ v H' N Dv z=>by
  cases d with
  |int n=>
   simp only at z
   by_cases hf:(fits n.toNat&&Gd n)=true
   ·rw[if_pos hf]at z
    rw[QUq]at hf
    obtain⟨d',xs,e1,e2,z⟩:=z
    cases e1
    cases e2
    subst Dv
    exact⟨n,rfl,(MJ hf.2).1,(MJ hf.2).2,z _ H' N (Ac (fJ hf.1))⟩
   ·rw[if_neg hf]at z;exact z.elim
  |_=>exact z.elim
 cases r:ev c m env with
 |bad=>rw[r]at q2;exact q2
 |exc k δ=>rw[r]at q2;exact q2
 |ok x δ=>
  rw[r]at q2
  cases x with
  |val d=>exact fun v H' N Dv=>go d δ v H' N Dv q2
  |new o=>exact fun v H' N Dv=>go o.d δ v H' N Dv q2
  |ref i=>exact q2
  |tmp o=>exact q2
theorem jP.z{tg:Tg}{σ ζ:St}(st:jP K tg env σ env' ζ H):Nz K env σ H env' ζ H:=
 ⟨st.gm,fun i a z=>.inl (st.sub z),bM.refl _,fun _ _ z _=>z,fun _ z=>z,fun i xs e=>⟨⟨xs,(st.same i (st.bors i xs e)).1.trans e⟩,(st.same i (st.bors i xs e)).2⟩⟩
theorem Ex{env:Ev}{H:Hp}{f:Fl}{D:Ends}(q:tS K W env (f.turn g) D σ H)
  (k:∀ε ρ H2,Nz K env σ H ε ρ H2->tS K W ε (g ε) D ρ H2->N ρ H2):tS K W env f {D with nx:=N,ct:=N,bk:=D.nx} σ H:=by
 refine⟨q.1,?_⟩
 cases f with
 |next ε=>exact fun ρ H2 N2=>k ε ρ H2 N2 (rD q N2)
 |cont ε=>exact fun ρ H2 N2=>k ε ρ H2 N2 (rD q N2)
 |brk ε=>exact q.2
 |ret r ε=>exact q.2
 |exc j ε=>exact q.2
 |bad=>exact q.2
theorem Yh{tg:Tg}{it:E}{b:S}(hp:PassesOwn (model X.prog X.w) X.A X.env X.xe)(hc:X.calm=true)(hi:GI X W c it tgE ο)(hg:GG X tg tgE)(hb:Qs X W c b body)
  (hs:∀x,foldedSetIterable ο X.env x=pure x):GS X W c (.for_ tg it b) (.For tgE ο body [] pos):=by
 intro env γ s σ H D I q
 refine(W4 (pos:=pos) hp hc (wi:=fun ζ H' R=>ζ=σ/\H'=H/\tI X.K W env (ev c it env) σ H R) (fun γ s ζ H' R I'⟨e1,e2,z⟩=>by subst e1 e2;exact hi env γ s _ _ R I' z) hg (tb:=fun D σ H=>∃env,tS X.K W env _ D σ H) (fun γ s σ H D I⟨env,z⟩=>hb env γ s σ H D I z) hs) γ s σ H D I ⟨rfl,rfl,?_⟩
 simp only[adR]at q
 have tur:∀δ xs J H1,Nx X.K env σ H δ H1->Gives X.K J xs H1->tS X.K W δ _ D σ H1->∃W':Nat->Nat->St->Hp->Prop,(∃m,W' 0 m σ H1)/\∀i m σ H,W' i m σ H->
   (J.stop i H/\D.nx σ H)\/(J.go i H/\∃N:St->Hp->Prop,(∀ζ H',N ζ H'->∃m',m'<m/\W' (i+1) m' ζ H')/\∀x H',J.yld i H x H'->tG X.K tg x σ H' fun ρ H2=>∃env,tS X.K W env (ex c b env) {D with nx:=N,ct:=N,bk:=D.nx} ρ H2):=fun δ xs J H1 N1 G z=>by
  refine⟨fun i m ζ H'=>i<=xs.length/\m=xs.length-i/\bM H1 H'/\∃env',tS X.K W env' (eY tg (ex c b) (xs.drop i) env') D ζ H',⟨xs.length,QHq _,by simp,bM.refl _,δ,z⟩,?_⟩
  rintro i m ζ H' ⟨hi,rfl,pe,env',z⟩
  by_cases hl:i<xs.length
  ·obtain⟨d,hd⟩:∃d,xs[i]? =some d:=⟨xs[i],by simp[hl]⟩
   rw[wA hd,eY]at z
   cases e:eE tg d env' with
   |none=>rw[e]at z;exact z.2.elim
   |some ε=>
    rw[e]at z
    refine .inr ⟨G.go H' pe i d hd,fun ρ H2=>bM H1 H2/\∃env3,tS X.K W env3 _ D ρ H2,fun ρ H2⟨p2,w⟩=>⟨xs.length- (i+1),by omega,hl,rfl,p2,w⟩,fun x H2 y=>?_⟩
    obtain⟨Dx,lay⟩:=G.yld H' pe i d hd x H2 y
    have N2:=z.1.lay lay
    refine⟨env',d,ε,N2.gm,Dx,e,fun ρ st=>⟨ε,Ex (rD z (N2.z.trans st.z)) fun env3 σ3 H3 N3 w=>⟨(pe.trans N2.pers).trans N3.pers,env3,w⟩⟩⟩
  ·have e:i=xs.length:=by omega
   subst e
   rw[List.drop_length,eY]at z
   exact .inl ⟨G.stop H' pe _ (QVz _),z.2 ζ H' (Nz.refl z.1)⟩
 refine⟨q.1,?_⟩
 have go:∀(x:Rv)δ d,x.kI=some d->(match (match items d with|some xs=>eY tg (ex c b) xs δ|none=>Fl.bad)with
   |.next env'=>∀ζ H',Nz X.K env σ H env' ζ H'->D.nx ζ H'
   |.ret r env'=>∀v ζ H',Nz X.K env σ H env' ζ H'->Qe X.K env σ H H' r v->D.rt v H'
   |.brk env'=>∀ζ H',Nz X.K env σ H env' ζ H'->D.bk ζ H'
   |.cont env'=>∀ζ H',Nz X.K env σ H env' ζ H'->D.ct ζ H'
   |.exc c env'=>∀ζ H',Nz X.K env σ H env' ζ H'->W c env' ζ H'
   |.bad=>False)->∃d xs,x.kI=some d/\items d=some xs/\∀J H',Nx X.K env σ H δ H'->Gives X.K J xs H'->∃W':Nat->Nat->St->Hp->Prop,(∃m,W' 0 m σ H')/\∀i m σ H,W' i m σ H->
   (J.stop i H/\D.nx σ H)\/(J.go i H/\∃N:St->Hp->Prop,(∀ζ H',N ζ H'->∃m',m'<m/\W' (i+1) m' ζ H')/\∀x H',J.yld i H x H'->tG X.K tg x σ H' fun ρ H2=>∃env,tS X.K W env (ex c b env) {D with nx:=N,ct:=N,bk:=D.nx} ρ H2):=fun x δ d ed z=>by
  cases e1:items d with
  |none=>rw[e1]at z;exact z.elim
  |some xs=>
   rw[e1]at z
   exact⟨d,xs,ed,e1,fun J H1 N G=>tur δ xs J H1 N G (rD ⟨q.1,z⟩ N.z)⟩
 have q2:=q.2
 cases r:ev c it env with
 |bad=>rw[r]at q2;exact q2
 |exc k δ=>rw[r]at q2;exact fun H' N=>q2 σ H' N.z
 |ok x δ=>
  rw[r]at q2
  cases x with
  |val d=>exact go _ δ d rfl q2
  |new o=>exact go _ δ o.d rfl q2
  |ref i=>exact q2.elim
  |tmp o=>exact q2.elim
def NK{t:E}{b:S}(hp:PassesOwn (model X.prog X.w) X.A X.env X.xe)(ht:GT X W c t te)(hb:Qs X W c b body):GS X W c (.while_ t b) (.While te body [] pos):=by
 intro env
 refine PS.imp (zy hp ht (tb:=fun D σ H=>∃env,tS X.K W env _ D σ H) (fun γ s σ H D I⟨env,z⟩=>hb env γ s σ H D I z)) fun D σ H q=>?_
 refine⟨fun n ζ H'=>∃env',tS X.K W env' (gh _ _ n env') D ζ H',⟨c.turns,env,q⟩,?_⟩
 rintro n ξ H1 ⟨δ,q1⟩
 cases n with
 |zero=>exact q1.2.elim
 |succ n=>
  refine⟨δ,Kd q1 fun k ε H2 N2 q2=>?_⟩
  cases k with
  |true=>
   refine⟨fun ζ H'=>∃env',tS X.K W env' _ D ζ H',fun ζ H' w=>⟨n,Nat.lt_succ_self n,w⟩,ε,Ex q2 fun env3 σ3 H3 N3 w=>⟨env3,w⟩⟩
  |false=>
   exact q2.2 ξ H2 (Nz.refl q2.1)
end
structure Cz(K:QQq)(ps:List Sl)(vs:List V)(H:Hp)(qs:List Sl)(H':Hp):Prop where
 bor:∀(i:Nat)o,ps[i]? =some (.bor o)->∃o' a,qs[i]? =some (.bor o')/\vs[i]? =some (.ref a)/\jj K H' o' a
 pers:bM H H'
 keep:∀b u,H b=some u->(∀i,¬aJ ps (vs.map some) i b)->H' b=some u
 dom:∀b,H' b=none->H b=none
def acG(K:QQq)(H H':Hp):Rv->V->Prop
 |.val d,v=>aZ K H' d v
 |.new q,v=>∃a,v=.ref a/\jj K H' q a/\H a=none
 |_,_=>False
def noOwn(ps:List Sl):Prop:=∀(i:Nat)o,ps[i]? ≠some (.own o)
noncomputable def cA(K:QQq)(n:Nat)(f:List Sl->Res):Sp:=fun vs H Q _=>∃ps,vs.length=n/\Sat K ps (vs.map some) H/\noOwn ps/\match f ps with
 |.ok r qs=>∀v H',Cz K ps vs H qs H'->acG K H H' r v->Q v H'
 |.exc _ qs=>∀H',Cz K ps vs H qs H'->False
 |.bad=>False
def xF{ps:List Sl}{vs:List V}{b:Addr}(hl:ps.length=vs.length):aJ (ps++List.replicate k .un) (vs.map some++List.replicate k none) i b↔aJ ps (vs.map some) i b:=by
 constructor
 ·rintro ⟨⟨s,o,e1,e2⟩,e3⟩
  by_cases hi:i<ps.length
  ·rw[Qwq hi]at e1
   rw[Qwq (by simpa[<-hl]using hi)]at e3
   exact⟨⟨s,o,e1,e2⟩,e3⟩
  ·rw[QHz (by omega),List.getElem?_replicate]at e1
   split at e1
   ·cases e1;cases e2
   ·cases e1
 ·rintro ⟨⟨s,o,e1,e2⟩,e3⟩
  have hi:=(QCq.mp e1).1
  exact⟨⟨s,o,by rw[Qwq hi];exact e1,e2⟩,by rw[Qwq (by simpa[<-hl]using hi)];exact e3⟩
def Sat.pad{ps:List Sl}{vs:List V}(S:Sat K ps (vs.map some) H)k:Sat K (ps++List.replicate k .un) (vs.map some++List.replicate k none) H:=by
 have hl:ps.length=vs.length:=by simpa using S.len
 refine⟨by simp[hl],fun i s e=>?_,fun i j a h1 h2=>S.ne i j a ((xF hl).mp h1) ((xF hl).mp h2)⟩
 by_cases hi:i<ps.length
 ·rw[Qwq hi]at e
  rw[Qwq (by simpa[<-hl]using hi)]
  exact S.sl i s e
 ·rw[QHz (by omega),List.getElem?_replicate]at e
  split at e
  ·cases e;trivial
  ·cases e
def Nz.cz{ps:List Sl}{H H':Hp}{k n:Nat}{ζ:St}(S:Sat K ps (vs.map some) H)(hn:vs.length=n)(N:Nz K (ps++List.replicate k .un) (vs.map some++List.replicate k none) H env' ζ H'):Cz K ps vs H (env'.take n) H':=by
 have hl:ps.length=vs.length:=by simpa using S.len
 refine⟨fun i o e=>?_,N.pers,fun b u hb no=>N.keep b u hb fun i z=>no i ((xF hl).mp z),N.dom⟩
 have hi:=(QCq.mp e).1
 obtain⟨⟨o',e1⟩,e2⟩:=N.bors i o (by rw[Qwq hi];exact e)
 obtain⟨a,z1,z2⟩:=N.gm.sl i _ e1
 rw[e2,Qwq (by simpa[<-hl]using hi),QEz]at z1
 refine⟨o',a,by rw[List.getElem?_take_of_lt (by omega)];exact e1,?_,z2⟩
 cases q:vs[i]? with
 |none=>rw[q]at z1;cases z1
 |some v=>rw[q]at z1;simp at z1;rw[z1]
section
theorem Th{st:Stmt}{fd:FuncData}{k:Nat}{g:Fn}(F:Hk K x qual st f fd)(S:dX N ps (ao st))(hp:g.pars=ps.length)(hn:g.names=N.length)
  (hb:∀(cdv:Value)(A:Around)(outer:List Env)(s:Shared)(H:Hp)(E:XK),dC k (A.deeper (PyProof.Rows.envOfC qual (ao st) s.heap.objs.size f cdv))->Qs (gn fZ P w K mg base N qual (ao st) f cdv A outer s H E).qL W0 c g.body (bY st)):
  bV P w K mg base fZ (k+1) f fd ps (cA K ps.length (gY c g)):=by
 refine F.ok S (fun vs H Q E h=>?_) (fun cdv A outer s H vs Q E hr h=>?_)
 ·obtain⟨_,h,_⟩:=h
  exact h
 ·obtain⟨sl,hl,S0,no,q⟩:=h
  refine⟨_,hb cdv A outer s H E hr (sl++List.replicate (g.names-g.pars) .un),?_⟩
  have hlen:sl.length=vs.length:=by simpa using S0.len
  have hst:L2.start N vs=vs.map some++List.replicate (g.names-g.pars) none:=by
   unfold L2.start
   rw[hn,hp,hl]
  have e0:gY c g sl=match ex c g.body (sl++List.replicate (g.names-g.pars) .un)with
    |.next σ=>.ok (.val .non) (σ.take g.pars)
    |.ret r σ=>.ok r (σ.take g.pars)
    |.exc k σ=>.exc k (σ.take g.pars)
    |_=>.bad:=by
   unfold gY
   rw[if_pos (by rw[hp,<-hl,hlen])]<;>cases ex c g.body _<;>rfl
  rw[e0]at q
  rw[hst]
  refine⟨S0.pad _,?_⟩
  have hg:vs.length=g.pars:=by rw[hl,hp]
  cases r:ex c g.body _ with
  |next env'=>rw[r]at q;exact fun ζ H' N=>q .non H' (N.cz S0 hg) rfl
  |ret rv env'=>
   rw[r]at q
   refine fun v ζ H' N z=>q v H' (N.cz S0 hg) ?_
   cases rv with
   |val d=>exact z
   |new o=>
    obtain⟨a,e1,e2,e3⟩:=z
    refine⟨a,e1,e2,?_⟩
    rcases e3 with e3|⟨i,ys,e3,_⟩
    ·exact e3
    ·by_cases hi:i<sl.length
     ·rw[Qwq hi]at e3
      exact absurd e3 (no i ys)
     ·rw[QHz (by omega),List.getElem?_replicate]at e3
      split at e3<;>cases e3
   |ref i=>exact z.elim
   |tmp o=>exact z.elim
  |brk env'=>rw[r]at q;exact q.elim
  |cont env'=>rw[r]at q;exact q.elim
  |exc j env'=>rw[r]at q;exact fun ζ H' N=>q H' (N.cz S0 hg)
  |bad=>rw[r]at q;exact q.elim
end
inductive En(K:QQq)(env:Ev)(σ:St)(H0 H:Hp):List Rv->List Sl->List V->Prop
 |nil:En K env σ H0 H [] [] []
 |val {d:D} {v:V} {rs:List Rv} {ps:List Sl} {vs:List V}:aZ K H d v->En K env σ H0 H rs ps vs->En K env σ H0 H (.val d::rs) (.val d::ps) (v::vs)
 |tmp {o:Ob} {a:Addr} {rs:List Rv} {ps:List Sl} {vs:List V}:jj K H o a->H0 a=none->(∀q,Rv.tmp q∉rs)->En K env σ H0 H rs ps vs->En K env σ H0 H (.tmp o::rs) (.bor o::ps) (.ref a::vs)
 |ref {o:Ob} {j:Nat} {a:Addr} {s:Sl} {rs:List Rv} {ps:List Sl} {vs:List V}:env[j]? =some s->isOwn s=some o->σ[j]? =some (some (.ref a))->jj K H o a->Rv.ref j∉rs->En K env σ H0 H rs ps vs->En K env σ H0 H (.ref j::rs) (.bor o::ps) (.ref a::vs)
section
theorem kE(S:Sat K env σ H):∀{rs:List Rv}{ps:List Sl}{vs:List V},enter rs env=some ps->ji K σ H0 H rs vs->En K env σ H0 H rs ps vs
 |[],ps,vs,h,r=>by
  cases h
  have:=r
  subst this
  exact .nil
 |x::rs,ps,vs,h,r=>by
  obtain⟨v,vr,rfl,h1,h2⟩:=r
  cases x with
  |val d=>
   simp only[enter]at h
   cases e:enter rs env with
   |none=>rw[e]at h;cases h
   |some ps'=>rw[e]at h;cases h;exact .val h1 (kE S e h2)
  |new o=>cases h
  |tmp o=>
   simp only[enter]at h
   split at h
   ·cases h
   ·rename_i hn
    cases e:enter rs env with
    |none=>rw[e]at h;cases h
    |some ps'=>
     rw[e]at h
     cases h
     obtain⟨a,rfl,oa,ha⟩:=h1
     exact .tmp oa ha (fun q hq=>hn (List.any_eq_true.mpr ⟨_,hq,rfl⟩)) (kE S e h2)
  |ref j=>
   simp only[enter]at h
   split at h
   ·cases h
   ·rename_i hn
    have nr:Rv.ref j∉rs:=fun hq=>hn (List.any_eq_true.mpr ⟨_,hq,by simp[jA]⟩)
    cases e1:env[j]? with
    |none=>rw[e1]at h;cases h
    |some s=>
     rw[e1]at h
     have h1':=h1
     cases s with
     |un=>cases h
     |val d=>cases h
     |own o=>
      cases e:enter rs env with
      |none=>simp only[e]at h;cases h
      |some ps'=>
       simp only[e]at h
       cases h
       obtain⟨a,z1,z2⟩:=S.sl j _ e1
       rw[h1']at z1
       cases z1
       exact .ref e1 rfl h1' z2 nr (kE S e h2)
     |bor o=>
      cases e:enter rs env with
      |none=>simp only[e]at h;cases h
      |some ps'=>
       simp only[e]at h
       cases h
       obtain⟨a,z1,z2⟩:=S.sl j _ e1
       rw[h1']at z1
       cases z1
       exact .ref e1 rfl h1' z2 nr (kE S e h2)
def En.len{ps:List Sl}(h:En K env σ H0 H rs ps vs):ps.length=vs.length/\rs.length=vs.length:=by
 induction h with
 |nil=>exact⟨rfl,rfl⟩
 |val _ _ ih=>simp[ih.1,ih.2]
 |tmp _ _ _ _ ih=>simp[ih.1,ih.2]
 |ref _ _ _ _ _ _ ih=>simp[ih.1,ih.2]
theorem En.noOwn{ps:List Sl}(h:En K env σ H0 H rs ps vs):noOwn ps:=by
 induction h with
 |nil=>intro i o e;simp at e
 |val _ _ ih=>intro i o e;cases i with
  |zero=>simp at e
  |succ i=>exact ih i o (by simpa using e)
 |tmp _ _ _ _ ih=>intro i o e;cases i with
  |zero=>simp at e
  |succ i=>exact ih i o (by simpa using e)
 |ref _ _ _ _ _ _ ih=>intro i o e;cases i with
  |zero=>simp at e
  |succ i=>exact ih i o (by simpa using e)
def En.lent{ps:List Sl}(h:En K env σ H0 H rs ps vs):∀{i:Nat}{a:Addr},aJ ps (vs.map some) i a->(∃o,rs[i]? =some (.tmp o)/\H0 a=none)\/∃j,rs[i]? =some (.ref j)/\aJ env σ j a:=by
 induction h with
 |nil=>rintro i a ⟨⟨s,o,e,_⟩,_⟩;simp at e
 |val _ _ ih=>
  rintro i a ⟨⟨s,o,e1,e2⟩,e3⟩
  cases i with
  |zero=>simp at e1;subst e1;cases e2
  |succ i=>simpa using ih ⟨⟨s,o,by simpa using e1,e2⟩,by simpa using e3⟩
 | @tmp o b rs ps vs oa h0 _ _ ih=>
  rintro i a ⟨⟨s,o',e1,e2⟩,e3⟩
  cases i with
  |zero=>
   simp at e3
   subst e3
   exact .inl ⟨o,rfl,h0⟩
  |succ i=>simpa using ih ⟨⟨s,o',by simpa using e1,e2⟩,by simpa using e3⟩
 | @ref o j b s rs ps vs e1 e2 e3 oa nr _ ih=>
  rintro i a ⟨⟨s',o',z1,z2⟩,z3⟩
  cases i with
  |zero=>
   simp at z3
   subst z3
   exact .inr ⟨j,rfl,⟨⟨s,o,e1,e2⟩,e3⟩⟩
  |succ i=>simpa using ih ⟨⟨s',o',by simpa using z1,z2⟩,by simpa using z3⟩
def En.gm(S0:Sat K env0 σ H0)(S:Sat K env σ H)(sub:∀(i:Nat)a,aJ env σ i a->aJ env0 σ i a){ps:List Sl}(h:En K env σ H0 H rs ps vs):Sat K ps (vs.map some) H:=by
 refine⟨by simpa using h.len.1,?_,?_⟩
 ·clear S0 sub
  induction h with
  |nil=>intro i s e;simp at e
  |val hd _ ih=>
   intro i s e
   cases i with
   |zero=>simp at e;subst e;exact⟨_,rfl,hd⟩
   |succ i=>simpa using ih i s (by simpa using e)
  |tmp oa _ _ _ ih=>
   intro i s e
   cases i with
   |zero=>simp at e;subst e;exact⟨_,rfl,oa⟩
   |succ i=>simpa using ih i s (by simpa using e)
  |ref _ _ _ oa _ _ ih=>
   intro i s e
   cases i with
   |zero=>simp at e;subst e;exact⟨_,rfl,oa⟩
   |succ i=>simpa using ih i s (by simpa using e)
 ·--no two slots have one address
  have fresh:=fun a ha j z=>S0.mR ha j (sub j a z)
  induction h with
  |nil=>rintro i j a ⟨⟨s,o,e,_⟩,_⟩;simp at e
  |val hd t ih=>
   rintro i j a ⟨⟨s,o,e1,e2⟩,e3⟩ ⟨⟨s',o',e1',e2'⟩,e3'⟩
   cases i with
   |zero=>simp at e1;subst e1;cases e2
   |succ i=>cases j with
    |zero=>simp at e1';subst e1';cases e2'
    |succ j=>rw[ih i j a ⟨⟨s,o,by simpa using e1,e2⟩,by simpa using e3⟩ ⟨⟨s',o',by simpa using e1',e2'⟩,by simpa using e3'⟩]
  | @tmp o b rs ps vs oa h0 nt t ih=>
   have clash:∀i,¬aJ ps _ i b:=fun i z=>by
    rcases t.lent z with ⟨q,e,_⟩|⟨q,_,ow⟩
    ·exact nt q (QBq e)
    ·exact fresh b h0 q ow
   rintro i j a ⟨⟨s,o,e1,e2⟩,e3⟩ ⟨⟨s',o',e1',e2'⟩,e3'⟩
   cases i with
   |zero=>
    simp at e3
    subst e3
    cases j with
    |zero=>rfl
    |succ j=>exact absurd ⟨⟨s',o',by simpa using e1',e2'⟩,by simpa using e3'⟩ (clash j)
   |succ i=>cases j with
    |zero=>
     simp at e3'
     subst e3'
     exact absurd ⟨⟨s,o,by simpa using e1,e2⟩,by simpa using e3⟩ (clash i)
    |succ j=>rw[ih i j a ⟨⟨s,o,by simpa using e1,e2⟩,by simpa using e3⟩ ⟨⟨s',o',by simpa using e1',e2'⟩,by simpa using e3'⟩]
  | @ref o k b s0 rs ps vs z1 z2 z3 oa nr t ih=>
   have ok:aJ env σ k b:=⟨⟨s0,o,z1,z2⟩,z3⟩
   have clash:∀i,¬aJ ps _ i b:=fun i z=>by
    rcases t.lent z with ⟨q,e,h0⟩|⟨q,e,ow⟩
    ·exact fresh b h0 k ok
    ·have:=S.ne k q b ok ow
     subst this
     exact nr (QBq e)
   rintro i j a ⟨⟨s,o,e1,e2⟩,e3⟩ ⟨⟨s',o',e1',e2'⟩,e3'⟩
   cases i with
   |zero=>
    simp at e3
    subst e3
    cases j with
    |zero=>rfl
    |succ j=>exact absurd ⟨⟨s',o',by simpa using e1',e2'⟩,by simpa using e3'⟩ (clash j)
   |succ i=>cases j with
    |zero=>
     simp at e3'
     subst e3'
     exact absurd ⟨⟨s,o,by simpa using e1,e2⟩,by simpa using e3⟩ (clash i)
    |succ j=>rw[ih i j a ⟨⟨s,o,by simpa using e1,e2⟩,by simpa using e3⟩ ⟨⟨s',o',by simpa using e1',e2'⟩,by simpa using e3'⟩]
end
def Sl.Gk(o':Ob):Sl->Option Sl
 |.own _=>some (.own o')
 |.bor _=>some (.bor o')
 |_=>none
def J1{o':Ob}(h:fM j (fun _=>some o') env=some env'):∃s s',env[j]? =some s/\s.Gk o'=some s'/\env'=env.set j s':=by
 obtain⟨o,q,e,hh⟩:=rA h
 cases e
 rcases hh with ⟨e,rfl⟩|⟨e,rfl⟩
 ·exact⟨_,_,e,rfl,rfl⟩
 ·exact⟨_,_,e,rfl,rfl⟩
theorem pA:∀{rs:List Rv}{qs:List Sl}{env ε:Ev},giveBack rs qs env=some ε->ε.length=env.length/\∀j:Nat,
  ((∀i:Nat,rs[i]? ≠some (Rv.ref j))/\ε[j]? =env[j]?)\/∃(i:Nat)(o':Ob)(s s':Sl),rs[i]? =some (.ref j)/\qs[i]? =some (.bor o')/\env[j]? =some s/\s.Gk o'=some s'/\ε[j]? =some s'
 |[],[],env,ε,h=>by
  cases h
  exact⟨rfl,fun j=>.inl ⟨fun i=>by simp,rfl⟩⟩
 |[],_::_,env,ε,h=>by cases h
 |x::rs,[],env,ε,h=>by cases x<;>cases h
 |x::rs,q::qs,env,ε,h=>by
  have skip:giveBack rs qs env=some ε->(∀j,x≠ .ref j)->ε.length=env.length/\∀j:Nat,
    ((∀i:Nat,(x::rs)[i]? ≠some _)/\ε[j]? =env[j]?)\/∃(i:Nat)(o':Ob)(s s':Sl),(x::rs)[i]? =some _/\(q::qs)[i]? =some (.bor o')/\env[j]? =some s/\s.Gk o'=some s'/\ε[j]? =some s':=fun h nx=>by
   obtain⟨l,g⟩:=pA h
   refine⟨l,fun j=>?_⟩
   rcases g j with ⟨g1,g2⟩|⟨i,o',s,s',g1,g2,g3⟩
   ·refine .inl ⟨fun i e=>?_,g2⟩
    cases i with
    |zero=>simp at e;exact nx j e
    |succ i=>exact g1 i (by simpa using e)
   ·exact .inr ⟨i+1,o',s,s',by simpa using g1,by simpa using g2,g3⟩
  cases x with
  |val d=>exact skip h fun j z=>by cases z
  |new o=>exact skip h fun j z=>by cases z
  |tmp o=>exact skip h fun j z=>by cases z
  |ref k=>
   cases q with
   |bor o=>
    change Option.bind _ _=some ε at h
    cases e:fM k _ env with
    |none=>rw[e]at h;cases h
    |some δ=>
     rw[e]at h
     obtain⟨s0,s1,z1,z2,rfl⟩:=J1 e
     have hk:=(QCq.mp z1).1
     obtain⟨l,g⟩:=pA h
     refine⟨by simpa using l,fun j=>?_⟩
     rcases g j with ⟨g1,g2⟩|⟨i,o',s,s',g1,g2,g3,g4,g5⟩
     ·by_cases hj:k=j
      ·subst hj
       rw[Qxz hk]at g2
       exact .inr ⟨0,o,s0,s1,rfl,rfl,z1,z2,g2⟩
      ·rw[Qxq hj]at g2
       refine .inl ⟨fun i e=>?_,g2⟩
       cases i with
       |zero=>simp at e;exact hj e
       |succ i=>exact g1 i (by simpa using e)
     ·by_cases hj:k=j
      ·subst hj
       rw[Qxz hk]at g3
       cases g3
       refine .inr ⟨i+1,o',s0,s',by simpa using g1,by simpa using g2,z1,?_,g5⟩
       cases s0 with
       |own q=>cases z2;exact g4
       |bor q=>cases z2;exact g4
       |un=>cases z2
       |val d=>cases z2
      ·rw[Qxq hj]at g3
       exact .inr ⟨i+1,o',s,s',by simpa using g1,by simpa using g2,g3,g4,g5⟩
   |un=>cases h
   |val d=>cases h
   |own o=>cases h
def MN{o':Ob}(h:s.Gk o'=some s'):(∃o,isOwn s=some o)/\isOwn s'=some o':=by
 cases s with
 |own q=>cases h;exact⟨⟨q,rfl⟩,rfl⟩
 |bor q=>cases h;exact⟨⟨q,rfl⟩,rfl⟩
 |un=>cases h
 |val d=>cases h
section
def En.WF(h:En K env σ H0 H rs ps vs):∀{i j:Nat},rs[i]? =some (.ref j)->∃o a,ps[i]? =some (.bor o)/\vs[i]? =some (.ref a)/\σ[j]? =some (some (.ref a)):=by
 induction h with
 |nil=>intro i j e;simp at e
 |val _ _ ih=>intro i j e;cases i with
  |zero=>simp at e
  |succ i=>simpa using ih (by simpa using e)
 |tmp _ _ _ _ ih=>intro i j e;cases i with
  |zero=>simp at e
  |succ i=>simpa using ih (by simpa using e)
 | @ref o k a s rs ps vs e1 e2 e3 oa nr t ih=>
  intro i j e
  cases i with
  |zero=>simp at e;subst e;exact⟨o,a,rfl,rfl,e3⟩
  |succ i=>simpa using ih (by simpa using e)
def Tz(S0:Sat K env0 σ H0)(N:Nx K env0 σ H0 env H)(E:En K env σ H0 H rs ps vs)(C:Cz K ps vs H qs H2)(g:giveBack rs qs env=some ε):Nx K env0 σ H0 ε H2:=by
 have S:=N.gm
 have sub:=N.sub
 obtain⟨gl,gs⟩:=pA g
 have own2:∀j b,aJ ε σ j b->aJ env σ j b:=fun j b z=>by
  obtain⟨⟨s,o,e1,e2⟩,e3⟩:=z
  rcases gs j with ⟨_,g2⟩|⟨i,o',s0,s1,_,_,g3,g4,g5⟩
  ·rw[g2]at e1;exact⟨⟨s,o,e1,e2⟩,e3⟩
  ·obtain⟨⟨q,hq⟩,_⟩:=MN g4
   exact⟨⟨s0,q,g3,hq⟩,e3⟩
 have notLent:∀j b,aJ env σ j b->(∀i:Nat,rs[i]? ≠some _)->∀i,¬aJ ps _ i b:=fun j b ow nr i z=>by
  rcases E.lent z with ⟨q,_,h0⟩|⟨k,e,ow'⟩
  ·exact(fun a ha j z=>S0.mR ha j (sub j a z)) b h0 j ow
  ·have:=S.ne j k b ow ow'
   subst this
   exact nr i e
 refine⟨⟨by rw[gl];exact S.len,fun j s e=>?_,fun j k b z w=>S.ne j k b (own2 j b z) (own2 k b w)⟩,fun j b z=>sub j b (own2 j b z),N.pers.trans C.pers,fun b u hb no=>C.keep b u (N.keep b u hb no) fun i z=>?_,fun b z=>N.dom b (C.dom b z),fun j xs e=>?_⟩
 ·rcases gs j with ⟨g1,g2⟩|⟨i,o',s0,s1,g1,g2,g3,g4,g5⟩
  ·rw[g2]at e
   exact(S.sl j s e).keep C.pers fun b u ho ev hb=>C.keep b u hb (notLent j b (xG e ho ev) g1)
  ·rw[g5]at e
   cases e
   obtain⟨o,a,p1,p2,p3⟩:=E.WF g1
   obtain⟨o'',a',c1,c2,c3⟩:=C.bor i o p1
   rw[g2]at c1
   cases c1
   rw[p2]at c2
   cases c2
   cases s0 with
   |own q=>cases g4;exact⟨a,by rw[p3];rfl,c3⟩
   |bor q=>cases g4;exact⟨a,by rw[p3];rfl,c3⟩
   |un=>cases g4
   |val d=>cases g4
 ·rcases E.lent z with ⟨q,_,h0⟩|⟨k,e,ow⟩
  ·rw[h0]at hb;cases hb
  ·exact no k (sub k b ow)
 ·obtain⟨xs,e⟩:=N.bors j xs e
  rcases gs j with ⟨g1,g2⟩|⟨i,o',s0,s1,g1,g2,g3,g4,g5⟩
  ·exact⟨xs,by rw[g2];exact e⟩
  ·rw[e]at g3
   cases g3
   cases g4
   exact⟨o',g5⟩
end
section
theorem Te(F:bV X.prog X.w X.K X.mg X.base fZ k f fd ps (cA X.K ps.length (c.fn g)))(hr:dC k X.A)(hg:Gl X x)(hm:X.mg x=some (.ref f))(hk:PySem.W.keepIn X.K (.ref f)=true)(hb:Binds X.K fd ps [])
  (hd:(x==("__debug__":Str))=false)(ha:GA X W c m (e::es))(he:starEach (e::es) X.env=(false,eval e X.env)::starEach es X.env)(hpl:(backTo pos (starEach es X.env)).any (·.1)=false)(hn:∀sl,c.fn g sl=.bad\/sl.length=ps.length):
  GE X W c (.call g m) (.Call (.Name x p) (e::es) [] pos):=by
 intro env γ s σ H Q I q
 refine gM F hr hg hm hk hb .nil iB (t:=fun ζ H' R=>ζ=σ/\H'=H/\Ut X.K W env (evs c m env) σ H R) (fun p γ s ζ H' R I'⟨e1,e2,z⟩=>by subst e1 e2;exact ha env p γ s _ _ R I' z) hd he hpl γ s σ H Q I ⟨rfl,rfl,?_⟩
 simp only[adY]at q
 obtain⟨S,q⟩:=q
 refine⟨S,?_⟩
 cases r:evs c m env with
 |bad=>rw[r]at q;exact q
 |exc j δ=>rw[r]at q;exact q
 |ok rs δ=>
  rw[r]at q
  simp only[Out.bind,uo]at q
  intro vs H1 N rv
  rw[List.append_nil]
  cases e1:enter rs δ with
  |none=>rw[e1]at q;exact q.elim
  |some sl=>
   rw[e1]at q
   simp only at q
   have E:=kE N.gm e1 rv
   refine⟨sl,?_,E.gm S N.gm N.sub,E.noOwn,?_⟩
   ·rcases hn sl with z|z
    ·rw[z]at q;exact q.elim
    ·rw[<-E.len.1,z]
   ·cases e2:c.fn g sl with
    |bad=>rw[e2]at q;exact q.elim
    |ok rv qs=>
     rw[e2]at q
     simp only at q
     intro v H2 C z
     cases e3:giveBack rs qs δ with
     |none=>rw[e3]at q;exact q.elim
     |some ε=>
      rw[e3]at q
      refine q v H2 (Tz S N E C e3) ?_
      cases rv with
      |val d=>exact z
      |new o=>obtain⟨a,z1,z2,z3⟩:=z;exact⟨a,z1,z2,N.dom a z3⟩
      |ref i=>exact z.elim
      |tmp o=>exact z.elim
    |exc j qs=>rw[e2]at q;exact q.elim
end
def HS c g sl:gY c g sl=.bad\/sl.length=g.pars:=by
 unfold gY
 split
 ·exact .inr (by assumption)
 ·exact .inl rfl
end Mini
end
section
namespace Mini
open PySem L2 PyProof.Rows
structure Az(z TI TO i1 i2:Addr)(b1 b2:Bool)(l1 l2:Addr)(k:Nat)(h:Heap):Prop where
 zr:∃f0 f1,jK h z TI TO f0 f1/\F0 f0
 ti:IsPair h TI (.ref i1) (.ref i2)
 to:∃a b,IsPair h TO a b
 it1:uC b1 h i1 l1 k
 it2:uC b2 h i2 l2 k
section
variable{E:QZq}
def wG{b1 b2:Bool}{xs ys:Array Value}(hl1:yD b1 s.heap l1 xs)(hl2:yD b2 s.heap l2 ys)
  (h:∀h',Az (s.heap.objs.size+4) (s.heap.objs.size+2) (s.heap.objs.size+3) s.heap.objs.size (s.heap.objs.size+1) b1 b2 l1 l2 0 h'->h'.objs.size=s.heap.objs.size+5->
   (∀c o,s.heap.get? c=some o->h'.get? c=some o)->Q (.ref (s.heap.objs.size+4)) {s with heap:=h'}):
  wpAny (model prog w) A (call (.type "zip") [.ref l1,.ref l2]) Q E s:=by
 refine callType_new PySem.F.called_zip (by decide) (PySem.F.typeCall_zip_2 _ _) (PySem.F.newCall_zip_2 _ _) (fun obj=>PySem.F.args_object_init_3 obj _ _) PySem.F.entry_zip_new
  (JV b1 b2 l1 l2 xs ys) ⟨hl1,hl2,?_⟩
 have z1:(zH1 b1 s.heap l1).objs.size=s.heap.objs.size+1:=Heap.size_push ..
 have z2:(zH2 b1 b2 s.heap l1 l2).objs.size=s.heap.objs.size+2:=by rw[Heap.size_push,z1]
 have z3:(zH3 b1 b2 s.heap l1 l2).objs.size=s.heap.objs.size+3:=by rw[Heap.size_push,z2]
 have z4:(zH4 b1 b2 s.heap l1 l2).objs.size=s.heap.objs.size+4:=by rw[Heap.size_push,z3]
 have g5:(Zj b1 b2 s.heap l1 l2).get? (zH4 b1 b2 s.heap l1 l2).objs.size=some _:=Qqz _ rfl
 have g4:(Zj b1 b2 s.heap l1 l2).get? (zH3 b1 b2 s.heap l1 l2).objs.size=some _:=QWq _ (Qqz _ rfl)
 have g3:(Zj b1 b2 s.heap l1 l2).get? (zH2 b1 b2 s.heap l1 l2).objs.size=some _:=QWq _ (QWq _ (Qqz _ rfl))
 have g2:(Zj b1 b2 s.heap l1 l2).get? (zH1 b1 s.heap l1).objs.size=some _:=QWq _ (QWq _ (QWq _ (Qqz _ rfl)))
 rw[z2,z3,z4]at g5
 rw[z1,z2]at g3
 rw[z3]at g4
 rw[z1]at g2
 rw[z4]
 have i1:uC b1 (Zj b1 b2 s.heap l1 l2) s.heap.objs.size l1 0:=by cases b1<;>exact⟨_,(QWq _ (QWq _ (QWq _ (QWq _ (Qqz _ rfl))))),rfl,rfl⟩
 exact⟨⟨_,g5,rfl⟩,h _ ⟨⟨_,_,g5,.inl rfl⟩,g3,⟨_,_,g4⟩,i1,(by cases b2<;>exact⟨_,g2,rfl,rfl⟩)⟩ (by rw[Heap.size_push,z4]) fun c o x=>
  QWq _ (QWq _ (QWq _ (QWq _ (QWq _ x))))⟩
end
def uY(h1:l1<n)(h2:l2<n):ZipApart (n+4) (n+2) (n+3) n (n+1) l1 l2:=zipApart_new h1 h2
def Inv.nG{X:Cx}{σ:L2.St}{H:Hp}{h':Heap}{ch:List Addr}(I:Inv X γ σ H s)(k:∀b o,b∉ch->s.heap.get? b=some o->h'.get? b=some o)(hf:∀b∈ch,dW X γ H b):
  Inv X γ σ H {s with heap:=h',toks:=t'}:=by
 have nit:∀b u,H b=some u->b∉ch:=fun b u e z=>by rw[(hf b z).1]at e;cases e
 refine I.step (fun b hb=>⟨(hf b hb).2.2.2.1,(hf b hb).2.1,(hf b hb).2.2.2.2.1,(hf b hb).2.2.2.2.2⟩) (fun b o _ _ hc e _=>k b o hc e) (fun b o _ _ hc e _=>⟨o.slots,k b o hc e⟩) (fun _ _ _ _ n=>n)
  (fun b o hc e=>⟨o,k b o hc e⟩) (fun _ _ e=>e) (fun _ _ _ e=>e) (fun b ps e=>⟨#[],by rw[e];simp⟩) (fun m hm=>?_) (fun b u e=>?_) I.bare
 ·obtain⟨o,es,ep,ho,r⟩:=hm
  exact⟨o,es,ep,k _ o (fun z=>(hf _ z).2.1 rfl) ho,r⟩
 ·refine(I.hok b u e).stay (fun c v hc q=>k c v ?_ q) (fun _ q=>q) fun _ _ q=>q
  rcases hc with z|z
  ·rw[z];exact nit b u e
  ·exact nit c _ z
def Inv.Ht{X:Cx}{σ:L2.St}{H:Hp}{h':Heap}{ch:List Addr}{a:Addr}(I:Inv X γ σ H s)(k:∀b o,b∉ch->s.heap.get? b=some o->h'.get? b=some o)(hf:∀b∈ch,dW X γ H b)
  (ha:s.heap.objs.size<=a)(new:cG X.prog X.w (upd H a u) h' a u):Inv X γ σ (upd H a u) {s with heap:=h',toks:=t'}:=by
 have nit:∀b u,H b=some u->b∉ch:=fun b u e z=>by rw[(hf b z).1]at e;cases e
 have ne:∀b w,H b=some w->b≠a:=fun b w e z=>by subst z;rw[I.hok.fresh ha]at e;cases e
 refine I.step (fun b hb=>⟨(hf b hb).2.2.2.1,(hf b hb).2.1,(hf b hb).2.2.2.2.1,(hf b hb).2.2.2.2.2⟩) (fun b o _ _ hc e _=>k b o hc e) (fun b o _ _ hc e _=>⟨o.slots,k b o hc e⟩)
  (fun b o _ e n=>by rw[aq (Qvq (Qwz (Qqq e) ha))];exact n)
  (fun b o hc e=>⟨o,k b o hc e⟩) (fun b xs e=>by rw[aq (ne b _ e)];exact e) (fun b o w e=>by rw[aq (ne b _ e)];exact e) (fun b ps e=>⟨#[],by rw[aq (ne b _ e),e];simp⟩) (fun m hm=>?_) (fun b w e=>?_) I.bare
 ·obtain⟨o,es,ep,ho,r⟩:=hm
  exact⟨o,es,ep,k _ o (fun z=>(hf _ z).2.1 rfl) ho,r⟩
 ·by_cases hb:b=a
  ·subst hb
   rw[az]at e
   cases e
   exact new
  ·rw[aq hb]at e
   refine(I.hok b w e).stay (fun c v hc q=>k c v ?_ q) (fun c q=>by rw[aq (ne c _ q)];exact q) fun c xs q=>by rw[aq (ne c _ q)];exact q
   rcases hc with z|z
   ·rw[z];exact nit b w e
   ·exact nit c _ z
def Qc(K:QQq)(b:Bool)(H:Hp)(l:Addr)(vs:List V):Prop:=match b with|true=>Qh K H l vs|false=>jl K H l vs
def bM.wY{K:QQq}{b:Bool}{l:Addr}(p:bM H H')(h:Qc K b H l vs):Qc K b H' l vs:=by
 cases b with
 |true=>exact p.YD h
 |false=>exact p.Hz h
def Inv.wY{X:Cx}{σ:L2.St}{H:Hp}{b:Bool}{l:Addr}(I:Inv X γ σ H s)(h:Qc X.K b H l vs):∃its:List Value,Vals vs its/\yD b s.heap l its.toArray/\vs.length<=sizeLine/\l<s.heap.objs.size:=by
 cases b with
 |true=>
  obtain⟨its,r,p,z⟩:=I.list (Qh.sq h)
  obtain⟨o,e,_⟩:=p.isList
  exact⟨its,r,p.isList,z,Qqq e⟩
 |false=>
  obtain⟨its,r,p,z⟩:=I.tuple h
  obtain⟨o,e,_⟩:=id p
  exact⟨its,r,p,z,Qqq e⟩
noncomputable def Itz(K:QQq)(b1 b2:Bool)(l1 l2:Addr)(vs ws:List V):It:=
 ⟨fun i H=>Qc K b1 H l1 vs/\Qc K b2 H l2 ws/\∃v u,vs[i]? =some v/\ws[i]? =some u,
  fun i H x H'=>∃p v u,H p=none/\x=.ref p/\vs[i]? =some v/\ws[i]? =some u/\H'=upd H p (.tup [v,u]),
  fun i H=>Qc K b1 H l1 vs/\Qc K b2 H l2 ws/\(vs.length<=i\/ws.length<=i)⟩
theorem jT{w:World}{K:QQq}{z TI TO i1 i2 l1 l2:Addr}{b1 b2:Bool}(D:ZipApart z TI TO i1 i2 l1 l2):
  Turn P w K tg (Itz K b1 b2 l1 l2 vs ws) [z,TI,TO,i1,i2] z (fun i h=>Az z TI TO i1 i2 b1 b2 l1 l2 i h) where
 mem:=by simp
 obj:=fun i h st b hb=>by
  obtain⟨f0,f1,zr,_⟩:=st.zr
  obtain⟨x,y,to⟩:=st.to
  simp only[QBz,QAq,or_false]at hb
  rcases hb with rfl|rfl|rfl|rfl|rfl
  ·exact⟨_,zr,fun v z=>by cases z⟩
  ·exact⟨_,st.ti,fun v z=>by cases z⟩
  ·exact⟨_,to,fun v z=>by cases z⟩
  ·exact st.it1.obj
  ·exact st.it2.obj
 keep:=fun i h h' st k=>by
  obtain⟨f0,f1,zr,hf⟩:=st.zr
  obtain⟨x,y,to⟩:=st.to
  exact⟨⟨f0,f1,k z (by simp) _ zr,hf⟩,k TI (by simp) _ st.ti,⟨x,y,k TO (by simp) _ to⟩,st.it1.at fun o e=>k i1 (by simp) o e,st.it2.at fun o e=>k i2 (by simp) o e⟩
 item:=by
  intro X hP hw hK hc i γ s σ H E I hf st hg
  subst hP hw hK
  obtain⟨hq1,hq2,v,u,ev,eu⟩:=hg
  obtain⟨its,r1,p1,_,_⟩:=Inv.wY I hq1
  obtain⟨its2,r2,p2,_,_⟩:=Inv.wY I hq2
  obtain⟨x,ex,rx⟩:=r1.get ev
  obtain⟨y,ey,ry⟩:=r2.get eu
  obtain⟨f0,f1,zr,h0⟩:=st.zr
  obtain⟨a,b,to⟩:=st.to
  refine qy D zr h0 st.ti to st.it1 st.it2 p1 p2 (by simpa using ex) (by simpa using ey) fun h' T=>?_
  obtain⟨g0,g1,zr',h0'⟩:=T.zr
  refine⟨_,rfl,Je zr' h0' fun h'' q0 zr'' hq0 sb=>?_⟩
  have f1':∀b∈[z,TO,i1,i2],dW X γ H b:=fun b hb=>hf b (by
   simp only[QBz,QAq,or_false]at hb⊢
   rcases hb with h|h|h|h<;>simp[h])
  have kk:∀b o,b∉[z,TO,i1,i2]->s.heap.get? b=some o->h''.get? b=some o:=fun b o hb e=>by
   simp only[QBz,QAq,or_false,not_or]at hb
   exact sb.extBut _ _ hb.1 (T.keep b o hb.1 hb.2.1 hb.2.2.1 hb.2.2.2 e)
  have new'':=sb.extBut _ _ (by
   obtain⟨q,e,_⟩:∃q,s.heap.get? z=some q/\True:=⟨_,zr,trivial⟩
   exact Nat.ne_of_gt (Qqq e)) T.new
  have I1:Inv X γ σ (upd H s.heap.objs.size (.tup [v,u])) {s with heap:=h''}:=by
   refine Inv.Ht I kk f1' (QVz _) ⟨by show 2<=sizeLine;rw[sizeLine_eq];decide,[x,y],.cons rx (.cons ry .nil),_,new'',rfl,rfl,_,rfl⟩
  refine⟨.ref s.heap.objs.size,upd H s.heap.objs.size _,I1,rfl,⟨_,v,u,I.hok.fresh (QVz _),rfl,ev,eu,rfl⟩,?_,fun b hb=>?_⟩
  ·have up:∀c o,c≠z->h'.get? c=some o->h''.get? c=some o:=fun c o hcz e=>sb.extBut _ _ hcz e
   obtain⟨a',b',to'⟩:=T.to
   exact⟨⟨q0,g1,zr'',hq0⟩,up _ _ D.TIz T.ti,⟨a',b',up _ _ D.TOz to'⟩,T.it1.at fun o e=>up _ o D.i1z e,T.it2.at fun o e=>up _ o D.i2z e⟩
  ·have lt:b<s.heap.objs.size:=by
    simp only[QBz,QAq,or_false]at hb
    rcases hb with rfl|rfl|rfl|rfl|rfl
    ·exact Qqq zr
    ·exact Qqq st.ti
    ·exact Qqq to
    ·exact st.it1.lt
    ·exact st.it2.lt
   rw[aq (Qvq lt)]
   exact(hf b hb).1
 done:=by
  intro X hP hw hK hc i γ s σ H E I hf st hg
  subst hP hw hK
  obtain⟨hq1,hq2,hend⟩:=hg
  obtain⟨its,r1,p1,_,_⟩:=Inv.wY I hq1
  obtain⟨its2,r2,p2,_,_⟩:=Inv.wY I hq2
  have l1:=r1.length
  have l2:=r2.length
  obtain⟨f0,f1,zr,h0⟩:=st.zr
  obtain⟨a,b,to⟩:=st.to
  refine sE (I.ok.hd hc) D zr h0 st.ti to st.it1 st.it2 p1 p2 ?_ fun h' kk=>⟨rfl,?_⟩
  ·rcases hend with h|h
   ·exact .inl (by simp;omega)
   ·exact .inr (by simp;omega)
  ·refine Inv.nG (ch:=[z,TO,i1,i2]) I (fun b o hb e=>?_) fun b hb=>hf b (by
    simp only[QBz,QAq,or_false]at hb⊢
    rcases hb with h|h|h|h<;>simp[h])
   simp only[QBz,QAq,or_false,not_or]at hb
   exact kk b o hb.1 hb.2.1 hb.2.2.1 hb.2.2.2 e
 self:=fun A i s Q E st h=>by
  obtain⟨f0,f1,zr,h0⟩:=st.zr
  exact jq zr h
end Mini
end
section
namespace Mini
open PySem L2
theorem q8:∀{xs ys:List D}{i:Nat}{d:D},(aP xs ys)[i]? =some d->∃x y,xs[i]? =some x/\ys[i]? =some y/\d=.tup [x,y]
 |[],_,i,d,h=>by simp[aP]at h
 |_::_,[],i,d,h=>by simp[aP]at h
 |x::xs,y::ys,0,d,h=>by simp[aP]at h;exact⟨x,y,rfl,rfl,h.symm⟩
 |x::xs,y::ys,i+1,d,h=>by
  rw[aP,List.getElem?_cons_succ]at h
  simpa using q8 h
theorem qY:∀(xs ys:List D),(aP xs ys).length=min xs.length ys.length
 |[],ys=>by simp[aP]
 |_::_,[]=>by simp[aP]
 |x::xs,y::ys=>by rw[aP,QAz,qY xs ys,QAz,QAz];omega
theorem wu{H:Hp}{b1 b2:Bool}{vs ws:List V}(h1:Qc K b1 H l1 vs)(h2:Qc K b2 H l2 ws)(d1:ak K H xs vs)(d2:ak K H ys ws)(hz:vs.length<=sizeLine):
  Gives K (Itz K b1 b2 l1 l2 vs ws) (aP xs ys) H where
 go:=fun H1 p i d e=>by
  obtain⟨x,y,ex,ey,_⟩:=q8 e
  obtain⟨v,ev,_⟩:=d1.get ex
  obtain⟨u,eu,_⟩:=d2.get ey
  exact⟨p.wY h1,p.wY h2,v,u,ev,eu⟩
 yld:=fun H1 p i d e x H2 y=>by
  obtain⟨a,v,u,hn,rfl,ev,eu,rfl⟩:=y
  obtain⟨dx,dy,ex,ey,rfl⟩:=q8 e
  obtain⟨v',ev',dv⟩:=d1.get ex
  obtain⟨u',eu',du⟩:=d2.get ey
  rw[ev]at ev'
  rw[eu]at eu'
  cases ev'
  cases eu'
  have pp:bM H1 (upd H1 a (.tup [v,u])):=by
   refine⟨fun b xs q=>?_,fun b o w q=>?_⟩
   ·rw[aq (fun z=>by subst z;rw[hn]at q;cases q)];exact q
   ·rw[aq (fun z=>by subst z;rw[hn]at q;cases q)];exact q
  exact⟨eF (.inl (.inl az)) (ak.aX ((dv.mono p).mono pp) (ak.aX ((du.mono p).mono pp) ak.cZ)),.inr ⟨a,_,hn,rfl⟩⟩
 stop:=fun H1 p i hi=>by
  rw[qY]at hi
  have:=d1.length
  have:=d2.length
  exact⟨p.wY h1,p.wY h2,by omega⟩
 len:=by rw[qY];have:=d1.length;omega
def aZ.wY{H:Hp}{xs:List D}(h:aZ K H d v)(e:bH d=some xs):∃b l vs,v=.ref l/\Qc K b H l vs/\ak K H xs vs:=by
 cases d with
 |tup ys=>cases e;obtain⟨a,vs,rfl,hq,l⟩:=cU h;exact⟨false,a,vs,rfl,hq,l⟩
 |lst ys=>cases e;obtain⟨a,vs,rfl,hq,l⟩:=eO h;exact⟨true,a,vs,rfl,hq,l⟩
 |_=>cases e
section
def aaG{H1:Hp}(h:tI K W env r σ H R)(N:Nx K env σ H δ H1):tI K W δ r σ H1 R:=by
 obtain⟨_,h⟩:=h
 refine⟨N.gm,?_⟩
 cases r with
 |bad=>exact h
 |exc c ε=>exact fun H' N'=>h H' (N.trans N')
 |ok x ε=>
  obtain⟨d,xs,e1,e2,z⟩:=h
  exact⟨d,xs,e1,e2,fun J H' N' G=>z J H' (N.trans N') G⟩
theorem yU{f:D->Ev->Out Rv}(h:tI K W env (r.au f) σ H R)
  (k:∀d δ v H1,Nx K env σ H δ H1->aZ K H1 d v->tI K W δ (f d δ) σ H1 R->R' v H1):tD K W env r σ H R':=by
 have step:∀d δ,r.au f=f d δ->∀v H1,Nx K env σ H δ H1->aZ K H1 d v->R' v H1:=fun d δ e v H1 N D=>by
  rw[e]at h
  exact k d δ v H1 N D (aaG h N)
 obtain⟨S,h⟩:=h
 refine⟨S,?_⟩
 cases r with
 |bad=>exact h
 |exc c δ=>exact h
 |ok x δ=>
  cases x with
  |val d=>exact fun v H1 N D=>step d δ rfl v H1 N D
  |new xs=>exact fun v H1 N D=>step xs.d δ rfl v H1 N D
  |ref i=>exact h
  |tmp xs=>exact h
end
section
theorem Yk(ha:GE X W c m1 a)(hb:GE X W c m2 b)(hg:Gl X "zip")(hm:X.mg "zip"=none)(hs:starEach [a,b] X.env=[(false,eval a X.env),(false,eval b X.env)])(hs2:starEach [b] X.env=[(false,eval b X.env)]):
  GI X W c (.zip m1 m2) tg (.Call (.Name "zip" p) [a,b] [] pos):=by
 intro env γ s σ H R I q
 let RR:List V->Hp->Prop:=fun vs H'=>∃ε d1 d2 xs ys v1 v2,vs=[v1,v2]/\aZ X.K H' d1 v1/\aZ X.K H' d2 v2/\bH d1=some xs/\bH d2=some ys/\Sat X.K ε σ H'/\∀J H2,Nx X.K ε σ H' ε H2->Gives X.K J (aP xs ys) H2->R J H2
 have go:aD X W c m1 σ H fun v1 H1=>aD X W c m2 σ H1 fun v2 H2=>RR [v1,v2] H2:=by
  refine⟨env,yU q fun d1 δ v1 H1 N1 D1 q1=>⟨δ,yU q1 fun d2 ε v2 H2 N2 D2 q2=>?_⟩⟩
  cases e1:bH d1 with
  |none=>rw[e1]at q2;exact q2.2.elim
  |some xs=>
   cases e2:bH d2 with
   |none=>rw[e1,e2]at q2;exact q2.2.elim
   |some ys=>
    rw[e1,e2]at q2
    obtain⟨S,d,zs,z1,z2,z3⟩:=q2
    cases z1
    cases z2
    exact⟨ε,d1,d2,xs,ys,v1,v2,rfl,D1.mono N2.pers,D2,e1,e2,S,z3⟩
 refine wpAny_Call_Name_kw (jw I hg hm PyProof.Rows.boot_zip ?_ (by decide) (by decide))
 refine PyProof.Rows.callWith_type1 (bK (aC ha.d (aC hb.d bF hs2) (by rw[hs,hs2]) pos γ s σ H RR I go) fun us s1⟨vs,H1,I1,r1,q1⟩=>?_) (by rw[hs,hs2]) (by rw[hs2];rfl)
 obtain⟨ε,d1,d2,xs,ys,v1,v2,rfl,D1,D2,e1,e2,S2,q3⟩:=q1
 obtain⟨b1,l1,vs,rfl,h1,dl1⟩:=D1.wY e1
 obtain⟨b2,l2,ws,rfl,h2,dl2⟩:=D2.wY e2
 obtain⟨u1,u2,rfl,ru1,ru2⟩:=Vals.two r1
 cases ru1
 cases ru2
 obtain⟨its,rr1,p1,z1,lt1⟩:=Inv.wY I1 h1
 obtain⟨its2,rr2,p2,z2,lt2⟩:=Inv.wY I1 h2
 refine wG p1 p2 fun h' st sz kk=>?_
 obtain⟨f0,f1,zr,h0⟩:=st.zr
 refine jq zr ?_
 refine⟨s1.heap.objs.size+4,[s1.heap.objs.size+4,s1.heap.objs.size+2,s1.heap.objs.size+3,s1.heap.objs.size,s1.heap.objs.size+1],_,_,H1,rfl,I1.kept kk,jT (uY lt1 lt2),st,fun b hb=>?_,q3 _ H1 (Nx.refl S2) (wu h1 h2 dl1 dl2 z1)⟩
 have hb':s1.heap.objs.size<=b:=by
  simp only[QBz,QAq,or_false]at hb
  rcases hb with rfl|rfl|rfl|rfl|rfl<;>omega
 exact I1.xZ hb' (I1.hok.fresh hb')
end
def Nx.chg{env:Ev}{H0 H:Hp}{u u':HO}(N:Nx K env σ H0 env H)(S:Sat K env σ H0)(h0:H0 d=none)(h:H d=some u)(hu:JT u):Nx K env σ H0 env (upd H d u'):=by
 have p:=jc (u':=u') h hu
 refine⟨N.gm.keep p fun i b w ow hb=>?_,N.sub,N.pers.trans p,fun b w q n=>?_,fun b q=>?_,N.bors⟩
 ·rw[aq (fun z=>by subst z;exact S.mR h0 i (N.sub i b ow))];exact hb
 ·rw[aq (fun z=>by subst z;rw[h0]at q;cases q)];exact N.keep b w q n
 ·refine N.dom b ?_
  by_cases hb:b=d
  ·subst hb;rw[az]at q;cases q
  ·rw[aq hb]at q;exact q
def Pa:JT (.dK kvs):=by
 constructor
 all_goals (intros;intro z;cases z)
def Hg:JT (.lst vs):=by
 constructor
 all_goals (intros;intro z;cases z)
def Cx.under(X:Cx)(A:Around):Cx:={X with A:=A}
theorem Inv.under{A:Around}{σ:St}{H:Hp}(I:Inv X γ σ H s)(h1:A.handled=X.A.handled)(h2:A.frames=X.A.frames):Inv (Cx.under X A) γ σ H s:=
 ⟨⟨I.ok.mod,I.ok.kind,I.ok.glob,I.ok.blt,I.ok.above,I.ok.inj,I.ok.has,I.ok.cab,fun hc=>h1.trans (I.ok.hd hc),h2.trans I.ok.frames,I.ok.stk,I.ok.exf,I.ok.bs,I.ok.bsz,I.ok.noex,I.ok.exfs,I.ok.lX,I.ok.frf⟩,
  I.os,I.bare,I.base,I.loc,I.cell,I.free,I.freeC,I.pin,I.hok,I.len⟩
def Inv.back{A:Around}{σ:St}{H:Hp}(I:Inv (Cx.under X A) γ σ H s)(h1:X.A.handled=A.handled)(h2:X.A.frames=A.frames):Inv X γ σ H s:=
 Inv.under (X:=Cx.under X A) I h1 h2
def qQ{M:Model}{β:Type}{p:Pos}{m:Sem β}{Q:β->Shared->Prop}{E:QZq}
  (h:wpAny M A (letOwnedTupleGo (.Name x p) it u) (fun _ s=>wpAny M A m Q E s) E s):wpAny M A m Q E s:=by
 have:=QTz h
 exact this
def jO:entryFor table "dict.update.loop"=some Builtin.«dict.update.loop»:=entryFor_of_tree (by kernel_rfl)
def eN:plainId "dict.update.loop"=true:=by decide+kernel
def Ak{d:D}(h:dictOf ks vs (d::r)=some p):∃k v,d=.tup [k,v]/\keyOk k=true/\dictOf (putD k v ks vs).1 (putD k v ks vs).2 r=some p:=by
 unfold dictOf at h
 split at h
 ·rename_i e;cases e
 ·rename_i k v r' e
  cases e
  split at h
  ·rename_i hk
   exact⟨k,v,rfl,hk,h⟩
  ·cases h
 ·cases h
def GQ{xs:List D}(h:i<xs.length):∃d,xs[i]? =some d/\xs.drop i=d::xs.drop (i+1):=⟨xs[i],QXq h,List.drop_eq_getElem_cons h⟩
section
theorem Jy(hA:X.A=A.in1)(hc:X.calm=true)(T:Turn X.prog X.w X.K (.Name x p) J fp it tn)(G:Gives X.K J xs H1)(S:Sat X.K env τ H0)(h0:H0 d=none)
  (fin:∀s H,Inv X γ σ H s->Nx X.K env τ H0 env H->jj X.K H (.dct ks' vs') d->R (.ok (.ret .none)) s):
  ∀(n i:Nat)(s:Shared)(H:Hp)(kvs:List (Key×V))(vs:List D),xs.length-i=n->Inv X γ σ H s->(∀b∈fp,dW X γ H b)->tn i s.heap->bM H1 H->Nx X.K env τ H0 env H->H d=some (.dK kvs)->
   ak X.K H vs (kvs.map (·.2))->dictOf (kvs.map fun q=>dj q.1) vs (xs.drop i)=some (ks',vs')->kvs.length<=i->i<=xs.length->
   codeAny (model X.prog X.w) A (.builtin "dict.update.loop" ⟨[.ref d,.ref it,rawInt ((i:Nat):Int),.none],[]⟩) R s:=by
 intro n
 induction n with
 |zero=>
  intro i s H kvs vs hn I hf st P N hd dl ho hk hi
  refine codeAny_builtin jO ?_
  rw[Around.under_plainId eN _,<-hA]
  refine QTz (QKz (T.done X rfl rfl rfl hc i γ s σ H _ I hf st (G.stop H P i (by omega))) (fun r s1 h=>?_) fun _ _ h=>h)
  obtain⟨rfl,I1⟩:=h
  rw[List.drop_eq_nil_of_le (by omega)]at ho
  cases ho
  exact QTz (QKq (QKq (fin s1 H I1 N ⟨_,hd,kvs,rfl,rfl,dl⟩)))
 |succ n ih=>
  intro i s H kvs vs hn I hf st P N hd dl ho hk hi
  have hlt:i<xs.length:=by omega
  obtain⟨dd,ed,edr⟩:=GQ hlt
  rw[edr]at ho
  obtain⟨k,v,rfl,hkk,ho'⟩:=Ak ho
  refine codeAny_builtin jO ?_
  rw[Around.under_plainId eN _,<-hA]
  refine QTz (QKz (T.item X rfl rfl rfl hc i γ s σ H _ I hf st (G.go H P i _ ed)) (fun r s1 h=>?_) fun _ _ h=>h)
  obtain⟨u,rfl,h⟩:=h
  refine qQ (QKz h (fun _ s2 h2=>?_) fun _ _ h=>h)
  obtain⟨y,H',I',ry,yl,st',nf⟩:=h2
  obtain⟨Dy,hH⟩:=G.yld H P i _ ed y H' yl
  obtain⟨a,ws,rfl,hq,l⟩:=cU Dy
  cases ry
  obtain⟨vk,r1,rfl,Dk,l⟩:=ak.aF.mp l
  obtain⟨vv,r2,rfl,Dv,l⟩:=ak.aF.mp l
  have:=ak.bA.mp l
  subst this
  obtain⟨kk,rfl⟩:=gQ hkk
  have ek:=lO Dk
  subst ek
  obtain⟨its,rr,pt,_⟩:=I'.tuple hq
  obtain⟨uk,uv,rfl,rk,rv⟩:=Vals.two rr
  obtain⟨o,eo,ec,nn,edt⟩:=pt
  have N':Nx X.K env τ H0 env H'/\bM H H'/\H' d=some (.dK kvs):=by
   rcases hH with rfl|⟨q,ws,hq0,rfl⟩
   ·exact⟨N,bM.refl _,hd⟩
   ·have NL:=Nx.laid (o:=.tup ws) N.gm hq0
    exact⟨N.trans NL,NL.pers,by rw[aq (fun z=>by subst z;rw[hq0]at hd;cases hd)];exact hd⟩
  obtain⟨N',PP,hd'⟩:=N'
  refine QTz (QGz ?_)
  refine QTz (wpAny_tryCatch ?_)
  refine QTz (wpAny_typeOf ⟨o,eo,ec⟩ ?_)
  refine QTz (wpAny_seqItems eo edt (QKq ?_))
  refine QGz ?_
  obtain⟨z,hds,vvs,rel,dd⟩:=GR I'.hok hd'
  have hz:vvs.length<=sizeLine:=by rw[<-rel.length];exact z
  have hG:=G.len
  have hl:(putK kvs kk vv).length<=i+1:=by have:=j6 kvs kk vv;omega
  refine wpAny_dictSet_pairs (qd rk) dd fun h' dd' hs=>?_
  have he:∃q,h'.get? d=some q:=let ⟨q,_,_,hq,_⟩:=dd';⟨q,hq⟩
  have p2:=jc (u':=.dK (putK kvs kk vv)) hd' Pa
  obtain⟨g1,g2⟩:=Fx Dv (dl.mono PP)
  refine QKq ⟨plainId_quiet eN _,?_⟩
  refine ih (i+1) _ _ _ _ (by omega) (lQ I' (by rw[hd'];exact True.intro) hs he (Dr (by omega) hds (rel.put kk rv) dd')) (fun b hb=>?_) (T.keep _ _ _ st' fun b hb o e=>?_) ((P.trans PP).trans p2) (Nx.chg (u':=.dK (putK kvs kk vv)) N' S h0 hd' Pa) az (g2.mono p2) ?_ hl (by omega)
  ·exact⟨by rw[aq (fun e=>by subst e;rw[nf b hb]at hd';cases hd')];exact nf b hb,(hf b hb).2⟩
  ·exact(hs.2 b (fun e=>by subst e;rw[nf b hb]at hd';cases hd')).trans e
  ·rw[<-g1];exact ho'
end
section
variable{E:QZq}
def um(hc:X.calm=true)(I:Inv X γ σ H s)(S:Sat X.K env τ H)(ho:s.heap.get? o=some ob)(hcl:ob.cls=.type T)(hT:(T !="dict")=true)(hd:dictOf [] [] xs=some pr)
  (hkey:∀(s1:Shared)(E:QZq)(Q:Option Value->Shared->Prop),s1.heap.get? o=some ob->(∀h' tk,(∀b u,s1.heap.get? b=some u->h'.get? b=some u)->Q none {s1 with heap:=h',toks:=tk})->
   wpAny (model X.prog X.w) X.A.in1.in1 (getAttr? (.ref o) "keys") Q E s1)
  (hit:∀(s1:Shared)(u:HO)(E:QZq)(Q:QZq),Inv (Cx.under X X.A.in1.in1) γ σ (upd H s.heap.objs.size u) s1->Nx X.K env τ H env (upd H s.heap.objs.size u)->(∀b u,s.heap.get? b=some u->s1.heap.get? b=some u)->
   (∀s2 it fp tn J,Inv (Cx.under X X.A.in1.in1) γ σ (upd H s.heap.objs.size u) s2->Turn X.prog X.w X.K (.Name x p) J fp it tn->tn 0 s2.heap->(∀b∈fp,dW X γ (upd H s.heap.objs.size u) b)->Gives X.K J xs (upd H s.heap.objs.size u)->Q (.ref it) s2)->
   wpAny (model X.prog X.w) X.A.in1.in1 (pyIter (.ref o)) Q E s1)
  (h:∀a s' H',Inv X γ σ H' s'->Nx X.K env τ H env H'->jj X.K H' (.dct pr.1 pr.2) a->H a=none->Q (.ref a) s'):
  wpAny (model X.prog X.w) X.A (call (.type "dict") [.ref o]) Q E s:=by
 refine callType_codes (Q₁:=fun obj θ=>obj=.ref s.heap.objs.size/\θ={s with heap:=s.heap.push {cls:=.type "dict",data:=.dict #[]}}) PySem.F.kt_called_dict (PySem.F.kt_typeCall_dict_1 _) PySem.F.entry_dict_init (kt_code_dict_new _ ⟨rfl,rfl⟩) ?_
 rintro obj θ ⟨rfl,rfl⟩
 have hnew:(s.heap.push {cls:=.type "dict",data:=.dict #[]}).DictOf (cD X.prog X.w) s.heap.objs.size []:=Heap.DictOf.new s.heap
 have k1:∀b u,s.heap.get? b=some u->(s.heap.push {cls:=.type "dict",data:=.dict #[]}).get? b=some u:=fun _ _ q=>QWq _ q
 have hfr:=I.hok.fresh (QVz _)
 have N1:=Nx.laid (o:=.dK []) S hfr
 refine⟨hnew.typeIs,PySem.F.args_dict_init_2 _ _,?_⟩
 refine QTz ?_
 refine QTz (wpAny_notOrdered_dict hnew.typeIs ?_)
 refine QKq ?_
 show wpAny _ _ _ _ _ _
 refine QTz (wpAny_typeOf ⟨ob,k1 o ob ho,hcl⟩ ?_)
 have ht:((Value.type T) !=(Value.type "dict"))=true:=by
  have:T≠"dict":=by simpa using hT
  simpa using this
 rw[if_pos ht]
 refine QTz (hkey _ _ _ (k1 o ob ho) fun h2 tk k2=>?_)
 refine QTz (wpAny_rule ?_)
 refine QTz (hit _ _ _ _ (Inv.under ((I.laid (t':=s.toks) k1 (QVz _) (uf s.heap I.big)).kept (t':=tk) k2) rfl rfl) N1 (fun b u q=>k2 b u (k1 b u q)) fun s3 it fp tn J I3 Tn st hf G=>?_)
 exact QTz (QKq (QKq ⟨plainId_quiet eN _,Jy (X:=Cx.under X X.A.in1.in1) rfl hc Tn G S hfr (fun s4 H4 I4 N4 O4=>⟨rfl,h _ s4 H4 (Inv.back I4 rfl rfl) N4 O4 hfr⟩) xs.length 0 s3 _ [] [] rfl I3 hf st (bM.refl _) N1 az ak.cZ hd (QVz _) (QHq _)⟩))
end
def Bh:typeLookup (.type "zip") "__len__"=pure none:=by rw[typeLookup_type,builtinLookup_eq_fast];kernel_rfl
def yE:typeLookup (.type "zip") "__length_hint__"=pure none:=by rw[typeLookup_type,builtinLookup_eq_fast];kernel_rfl
section
def Inv.abn{s:Shared}{y:V}{u:Value}{E:QZq}(I:Inv X γ σ H s)(hd:H d=some (.lst vs))(ry:RelV y u)(hz:vs.length<sizeLine)
  (h:∀h',(∀b o,b≠d->s.heap.get? b=some o->h'.get? b=some o)->Inv X γ σ (upd H d (.lst (vs++[y]))) {s with heap:=h'}->Q () {s with heap:=h'}):
  wpAny (model X.prog X.w) A (updateSeq d (·.push u)) Q E s:=by
 obtain⟨z,its,n,r,e⟩:=(I.hok d _ hd)
 have hl:=r.length
 refine wpAny_updateSeq e rfl ?_ (by show its.toArray.size<=_;rw[Qjz];omega) (by show(its.toArray.push u).size<=_;rw[Array.size_push,Qjz];omega)
 have es:=Heap.get?_update_self (Obj.mapSeq (·.push u)) e rfl
 have oth:∀b o,b≠d->s.heap.get? b=some o->(s.heap.update d (Obj.mapSeq (·.push u))).get? b=some o:=fun b o hb q=>(Heap.get?_update_other _ _ (Ne.symm hb)).trans q
 refine h _ oth (I.write (by rw[hd];exact True.intro) (.inl rfl) (fun b q hb z=>oth b q hb z) ⟨_,es⟩ ?_)
 have ea:(its++[u]).toArray=its.toArray.push u:=by simp
 exact⟨by simp;omega,its++[u],_,Vals.append r (.cons ry .nil),by rw[ea];exact es⟩
theorem Jd(hA:X.A=A.in1)(hc:X.calm=true)(T:Turn X.prog X.w X.K (.Name x p) J fp it tn)(G:Gives X.K J xs H1)(S:Sat X.K env τ H0)(h0:H0 d=none)
  (fin:∀s H,Inv X γ σ H s->Nx X.K env τ H0 env H->jj X.K H (.lst xs) d->R (.ok (.ret .none)) s):
  ∀(n i:Nat)(s:Shared)(H:Hp)(vs:List V),xs.length-i=n->Inv X γ σ H s->(∀b∈fp,dW X γ H b)->tn i s.heap->bM H1 H->Nx X.K env τ H0 env H->H d=some (.lst vs)->
   ak X.K H (xs.take i) vs->i<=xs.length->
   codeAny (model X.prog X.w) A (.builtin "list.extend.loop" ⟨[.ref d,.ref it,.none],[]⟩) R s:=by
 intro n
 induction n with
 |zero=>
  intro i s H vs hn I hf st P N hd dl hi
  refine codeAny_builtin PySem.F.entry_extend_loop ?_
  rw[Around.under_plainId PySem.F.plain_extend_loop _,<-hA]
  refine QTz (QKz (T.done X rfl rfl rfl hc i γ s σ H _ I hf st (G.stop H P i (by omega))) (fun r s1 h=>?_) fun _ _ h=>h)
  obtain⟨rfl,I1⟩:=h
  rw[List.take_of_length_le (by omega)]at dl
  exact QKq (fin s1 H I1 N ⟨_,hd,vs,rfl,dl⟩)
 |succ n ih=>
  intro i s H vs hn I hf st P N hd dl hi
  have hlt:i<xs.length:=by omega
  obtain⟨dd,ed,edr⟩:=GQ hlt
  refine codeAny_builtin PySem.F.entry_extend_loop ?_
  rw[Around.under_plainId PySem.F.plain_extend_loop _,<-hA]
  refine QTz (QKz (T.item X rfl rfl rfl hc i γ s σ H _ I hf st (G.go H P i _ ed)) (fun r s1 h=>?_) fun _ _ h=>h)
  obtain⟨u,rfl,h⟩:=h
  refine qQ (QKz h (fun _ s2 h2=>?_) fun _ _ h=>h)
  obtain⟨y,H',I',ry,yl,st',nf⟩:=h2
  obtain⟨Dy,hH⟩:=G.yld H P i _ ed y H' yl
  have N':Nx X.K env τ H0 env H'/\bM H H'/\H' d=some (.lst vs):=by
   rcases hH with rfl|⟨q,ws,hq0,rfl⟩
   ·exact⟨N,bM.refl _,hd⟩
   ·have NL:=Nx.laid (o:=.tup ws) N.gm hq0
    exact⟨N.trans NL,NL.pers,by rw[aq (fun z=>by subst z;rw[hq0]at hd;cases hd)];exact hd⟩
  obtain⟨N',PP,hd'⟩:=N'
  have hG:=G.len
  have lv:=dl.length
  rw[List.length_take]at lv
  refine QTz (Inv.abn I' hd' ry (by omega) fun h' oth I2=>?_)
  have p2:=jc (u':=.lst (vs++[y])) hd' Hg
  refine QKq ⟨plainId_quiet PySem.F.plain_extend_loop _,?_⟩
  refine ih _ _ _ _ (by omega) I2 (fun b hb=>?_) (T.keep _ _ _ st' fun b hb o e=>?_) ((P.trans PP).trans p2) (Nx.chg (u':=.lst (vs++[y])) N' S h0 hd' Hg) az ?_ (by omega)
  ·exact⟨by rw[aq (fun e=>by subst e;rw[nf b hb]at hd';cases hd')];exact nf b hb,(hf b hb).2⟩
  ·exact oth b o (fun e=>by subst e;rw[nf b hb]at hd';cases hd') e
  ·have:xs.take (i+1)=xs.take i++[dd]:=by rw[List.take_add_one,ed];rfl
   rw[this]
   exact((dl.mono PP).append (ak.aX Dy ak.cZ)).mono p2
end
section
variable{E:QZq}
def Ea(hc:X.calm=true)(I:Inv X γ σ H s)(S:Sat X.K env τ H)(ho:s.heap.get? o=some ob)(hcl:ob.cls=.type "zip")
  (hself:∀(s1:Shared)(E:QZq)(Q:QZq),(∀b u,s.heap.get? b=some u->s1.heap.get? b=some u)->Q (.ref o) s1->wpAny (model X.prog X.w) X.A.in1.in1 (pyIter (.ref o)) Q E s1)
  (hit:∀(s1:Shared)(u:HO),Nx X.K env τ H env (upd H s.heap.objs.size u)->(∀b u,s.heap.get? b=some u->s1.heap.get? b=some u)->
   ∃fp tn J,Turn X.prog X.w X.K (.Name x p) J fp o tn/\tn 0 s1.heap/\(∀b∈fp,dW X γ (upd H s.heap.objs.size u) b)/\Gives X.K J xs (upd H s.heap.objs.size u))
  (h:∀a s' H',Inv X γ σ H' s'->Nx X.K env τ H env H'->jj X.K H' (.lst xs) a->H a=none->Q (.ref a) s'):
  wpAny (model X.prog X.w) X.A (call (.type "list") [.ref o]) Q E s:=by
 refine callType_codes (Q₁:=fun obj θ=>obj=.ref s.heap.objs.size/\θ={s with heap:=s.heap.push {cls:=.type "list",data:=.seq #[]}}) PySem.F.called_list (PySem.F.typeCall_list_1 _) PySem.F.entry_list_init
  (code_list_new _ ⟨rfl,rfl⟩) fun obj θ Ξ=>?_
 obtain⟨rfl,rfl⟩:=Ξ
 have hS:(s.heap.push {cls:=.type "list",data:=.seq #[]}).get? s.heap.objs.size=some {cls:=.type "list",data:=.seq #[]}:=Qqz _ rfl
 have hfr:=I.hok.fresh (QVz _)
 have hne:s.heap.objs.size≠o:=fun e=>absurd (Qqq ho) (by rw[e];exact Nat.lt_irrefl _)
 have oth:∀f(h':Heap)b u,b≠s.heap.objs.size->h'.get? b=some u->(h'.update s.heap.objs.size (Obj.mapSeq f)).get? b=some u:=
  fun f h' b u hb e=>(Heap.get?_update_other _ _ (Ne.symm hb)).trans e
 have old:∀b u,s.heap.get? b=some u->b≠s.heap.objs.size:=fun b u e=>Qvq (Qqq e)
 refine⟨⟨_,hS,rfl⟩,PySem.F.args_list_init_2 _ _,?_⟩
 refine QTz ?_
 refine QTz (wpAny_seqItems hS rfl (QKq ?_))
 refine QTz (wpAny_updateSeq hS rfl ?_)
 have hS₂:=Heap.get?_update_self (Obj.mapSeq (fun _=>(#[]))) hS rfl
 have k2:∀b u,s.heap.get? b=some u->((s.heap.push {cls:=.type "list",data:=.seq #[]}).update s.heap.objs.size (Obj.mapSeq (fun _=>(#[])))).get? b=some u:=fun b u e=>oth _ _ b u (old b u e) ((fun _ _ q=>QWq _ q) b u e)
 refine QTz (wpAny_letGo ?_)
 have hty:(⟨(s.heap.push {cls:=.type "list",data:=.seq #[]}).update s.heap.objs.size (Obj.mapSeq (fun _=>(#[]))),s.gens,s.drawn,s.toks,s.os⟩:Shared).TypeIs (.ref o) "zip":=⟨ob,k2 o ob ho,hcl⟩
 refine QTz (wpAny_typeOf hty ?_)
 have h1:Builtin.List.listSameRef (.ref s.heap.objs.size) (.ref o)=false:=by simp[Builtin.List.listSameRef,hne]
 have h2:(Value.type "zip"==Value.type "list")=false:=by decide
 have h3:(Value.type "zip"==Value.type "tuple")=false:=by decide
 simp only[h1,h2,h3,Bool.or_false,Qyz,if_false]
 refine QTz (hself _ _ _ k2 ?_)
 refine QTz (QGz ?_)
 refine QTz (wpAny_specialOf hty Bh ?_)
 refine QTz (wpAny_specialOf hty yE ?_)
 refine QKq ?_
 refine QTz (wpAny_rule ?_)
 refine QTz ?_
 refine QTz (wpAny_updateSeq hS₂ rfl ?_)
 have hS₃:=Heap.get?_update_self (Obj.mapSeq (·.push Value.none)) hS₂ rfl
 refine wpAny_updateSeq hS₃ rfl ?_
 have k4:∀b u,s.heap.get? b=some u->((((s.heap.push {cls:=.type "list",data:=.seq #[]}).update s.heap.objs.size (Obj.mapSeq (fun _=>(#[])))).update s.heap.objs.size (Obj.mapSeq (·.push Value.none))).update s.heap.objs.size (Obj.mapSeq (·.pop))).get? b=some u:=
  fun b u e=>oth _ _ b u (old b u e) (oth _ _ b u (old b u e) (k2 b u e))
 have N1:=Nx.laid (o:=.lst []) S hfr
 obtain⟨fp,tn,J,Tn,st,hf,G⟩:=hit {s with heap:=_} _ N1 k4
 refine QKq ⟨plainId_quiet PySem.F.plain_extend_loop _,?_⟩
 exact Jd (X:=Cx.under X X.A.in1.in1) rfl hc Tn G S hfr (fun s4 H4 I4 N4 O4=>⟨rfl,h _ s4 H4 (Inv.back I4 rfl rfl) N4 O4 hfr⟩) xs.length 0 _ _ [] rfl (Inv.under (I.laid (o:=.lst []) (t':=s.toks) k4 (QVz _) ⟨QHq _,[],_,.nil,Heap.get?_update_self (Obj.mapSeq (·.pop)) hS₃ rfl⟩) rfl rfl) hf st (bM.refl _) N1 az ak.cZ (QHq _)
end
def Gives.mono{J:It}{H H':Hp}(g:Gives K J xs H)(p:bM H H'):Gives K J xs H':=
 ⟨fun H1 q=>g.go H1 (p.trans q),fun H1 q=>g.yld H1 (p.trans q),fun H1 q=>g.stop H1 (p.trans q),g.len⟩
def Inv.Er{E:QZq}{σ:St}{H:Hp}(I:Inv X γ σ H s):Inv {X with xe:=E} γ σ H s:=
 ⟨⟨I.ok.mod,I.ok.kind,I.ok.glob,I.ok.blt,I.ok.above,I.ok.inj,I.ok.has,I.ok.cab,I.ok.hd,I.ok.frames,I.ok.stk,I.ok.exf,I.ok.bs,I.ok.bsz,I.ok.noex,I.ok.exfs,I.ok.lX,I.ok.frf⟩,
  I.os,I.bare,I.base,I.loc,I.cell,I.free,I.freeC,I.pin,I.hok,I.len⟩
def Inv.unE{E:QZq}{σ:St}{H:Hp}(I:Inv {X with xe:=E} γ σ H s):Inv X γ σ H s:=Inv.Er (X:={X with xe:=E}) I
theorem Inv.seqObj{X:Cx}{σ:St}{H:Hp}{b:Bool}{l:Addr}(I:Inv X γ σ H s)(h:Qc X.K b H l vs):
  ∃(its:Array Value)(k:Nat)(sl:Array (Option Value)),s.heap.get? l=some {cls:=.type (if b then "list" else "tuple"),dict:=none,data:=.seq its k,slots:=sl}:=by
 cases b with
 |true=>
  obtain⟨its,r,⟨o,n,e,c,d,dt⟩,z⟩:=I.list (Qh.sq h)
  obtain⟨oc,od,odt,os⟩:=o
  subst c d dt
  exact⟨_,_,_,e⟩
 |false=>
  obtain⟨its,r,⟨o,e,c,d,n,dt⟩,z⟩:=I.Bo h
  obtain⟨oc,od,odt,os⟩:=o
  subst c d dt
  exact⟨_,_,_,e⟩
def xU{xs:List D}(h:bH d=some xs):items d=some xs:=by
 cases d<;>simp[bH]at h<;>simp[items,h]
noncomputable def U6(K:QQq):List V->Hp->VK->Prop:=fun us H Q=>∃env τ v d xs pr,us=[v]/\Sat K env τ H/\aZ K H d v/\bH d=some xs/\dictOf [] [] xs=some pr/\
 ∀a H',Nx K env τ H env H'->jj K H' (.dct pr.1 pr.2) a->H a=none->Q (.ref a) H'
section
def Eb(hc:X.calm=true):gq X (.type "dict") (U6 X.K):=by
 intro γ s σ H us ws Q I r h
 obtain⟨env,τ,v,d,xs,pr,rfl,S,Dv,es,hd,q⟩:=h
 obtain⟨u,rfl,ru⟩:=vals1 r
 obtain⟨bb,l,vs,rfl,hq,dl⟩:=Dv.wY es
 cases ru
 obtain⟨its,k,sl,eo⟩:=Inv.seqObj I hq
 refine um (x:=("_")) (p:=default) hc I S eo rfl (by cases bb<;>decide) hd (fun s1 E Q e1 k1=>?_) (fun s1 u E Q I1 N1 k1 hQ=>?_) fun a s' H' I' N' O' h'=>⟨.ref a,H',I',rfl,q a H' N' O' h'⟩
 ·cases bb with
  |true=>exact tH e1 (I.ok.hd hc) k1
  |false=>exact qz e1 (I.ok.hd hc) k1
 ·refine QKz (M9 (tg:=.Name ("_") default) (R:=fun J H'=>Gives X.K J xs H'/\H'=upd H s.heap.objs.size u) (Inv.Er I1) (show RelV (.ref l) _ from rfl) (Dv.mono N1.pers) (xU es) fun J g=>⟨g,rfl⟩) (fun v2 s2 h2=>?_) fun _ _ h=>h
  obtain⟨it,fp,tn,J,H',rfl,I2,T,st,hf,g,rfl⟩:=h2
  exact hQ s2 it fp tn J (Inv.unE I2) T st hf g
def OJ{σ:St}{Q:VK}(hv:m.aB=none)(q:tM X.K W env (ev c (.bi .dict m) env) σ H Q):aD X W c m σ H fun v H1=>U6 X.K [v] H1 Q:=by
 simp only[uH,hv]at q
 refine⟨env,aL q fun d δ v H1 N1 D1 q1=>?_⟩
 obtain⟨z,ez,S,q3⟩:=cT q1
 simp only[b1]at ez
 cases es:bH d with
 |none=>rw[es]at ez;cases ez
 |some xs=>
  rw[es]at ez
  simp only[QFq,TJ]at ez
  cases ed:dictOf [] [] xs with
  |none=>rw[ed]at ez;cases ez
  |some pr=>
   rw[ed]at ez
   cases ez
   exact⟨δ,σ,v,d,xs,pr,rfl,S,D1,es,ed,fun a H' N O h0=>q3 _ H' N ⟨a,rfl,O,h0⟩⟩
def Tc(hc:X.calm=true)(ha:GE X W c m a)(hv:m.aB=none)(hg:Gl X "dict")(hm:X.mg "dict"=none)(hs:starEach [a] X.env=[(false,eval a X.env)]):
  GE X W c (.bi .dict m) (.Call (.Name "dict" p) [a] [] pos):=fun env=>
 PE.imp (lG (Eb hc) hg hm PyProof.Rows.boot_dict (aC ha.d bF hs) (by decide) (by decide) hs rfl) fun σ H Q h=>OJ hv h
structure agl(X:Cx)(W:Wi)(γ:QQz)(σ:St)(Q:VK)(f:D->Ev->Out Rv)(v:Value)(s:Shared):Prop where
 go:∃z TI TO i1 i2 b1 b2 l1 l2 vs ws xs ys env H,v=.ref z/\Inv X γ σ H s/\Az z TI TO i1 i2 b1 b2 l1 l2 0 s.heap/\ZipApart z TI TO i1 i2 l1 l2/\(∀b∈[z,TI,TO,i1,i2],dW X γ H b)/\
  Gives X.K (Itz X.K b1 b2 l1 l2 vs ws) (aP xs ys) H/\tM X.K W env (f (.lst (aP xs ys)) env) σ H Q
theorem yF{env:Ev}{s:Shared}{σ:St}{Q:VK}(ha:GE X W c m1 a)(hb:GE X W c m2 b)(hg:Gl X "zip")(hm:X.mg "zip"=none)
  (hs:starEach [a,b] X.env=[(false,eval a X.env),(false,eval b X.env)])(hs2:starEach [b] X.env=[(false,eval b X.env)])(I:Inv X γ σ H s)(q:tM X.K W env ((ev c (.zip m1 m2) env).au f) σ H Q):
  wpAny (model X.prog X.w) X.A (eval (.Call (.Name "zip" p) [a,b] [] pos) X.env) (agl X W γ σ Q f) X.xe s:=by
 simp only[adV]at q
 let RR:List V->Hp->Prop:=fun vs H'=>∃ε d1 d2 xs ys v1 v2,vs=[v1,v2]/\aZ X.K H' d1 v1/\aZ X.K H' d2 v2/\bH d1=some xs/\bH d2=some ys/\tM X.K W ε (f (.lst (aP xs ys)) ε) σ H' Q
 have asc:∀(o:Out Rv)g,(o.au g).au f=o.au fun d e=>(g d e).au f:=fun o g=>by
  cases o with
  |ok x e=>cases x<;>rfl
  |exc c e=>rfl
  |bad=>rfl
 rw[asc]at q
 have go:aD X W c m1 σ H fun v1 H1=>aD X W c m2 σ H1 fun v2 H2=>RR [v1,v2] H2:=by
  refine⟨env,aL q fun d1 δ v1 H1 N1 D1 q1=>⟨δ,?_⟩⟩
  rw[asc]at q1
  refine aL q1 fun d2 ε v2 H2 N2 D2 q2=>?_
  cases e1:bH d1 with
  |none=>rw[e1]at q2;exact q2.2.elim
  |some xs=>
   cases e2:bH d2 with
   |none=>rw[e1,e2]at q2;exact q2.2.elim
   |some ys=>
    rw[e1,e2]at q2
    exact⟨ε,d1,d2,xs,ys,v1,v2,rfl,D1.mono N2.pers,D2,e1,e2,q2⟩
 refine wpAny_Call_Name_kw (jw I hg hm PyProof.Rows.boot_zip ?_ (by decide) (by decide))
 refine PyProof.Rows.callWith_type1 (bK (aC ha.d (aC hb.d bF hs2) (by rw[hs,hs2]) pos γ s σ H RR I go) fun us s1⟨vs,H1,I1,r1,q1⟩=>?_) (by rw[hs,hs2]) (by rw[hs2];rfl)
 obtain⟨ε,d1,d2,xs,ys,v1,v2,rfl,D1,D2,e1,e2,q3⟩:=q1
 obtain⟨b1,l1,vs,rfl,h1,dl1⟩:=D1.wY e1
 obtain⟨b2,l2,ws,rfl,h2,dl2⟩:=D2.wY e2
 obtain⟨u1,u2,rfl,ru1,ru2⟩:=Vals.two r1
 cases ru1
 cases ru2
 obtain⟨its,rr1,p1,z1,lt1⟩:=Inv.wY I1 h1
 obtain⟨its2,rr2,p2,z2,lt2⟩:=Inv.wY I1 h2
 refine wG p1 p2 fun h' st sz kk=>?_
 refine⟨s1.heap.objs.size+4,s1.heap.objs.size+2,s1.heap.objs.size+3,s1.heap.objs.size,s1.heap.objs.size+1,b1,b2,l1,l2,vs,ws,xs,ys,ε,H1,rfl,I1.kept kk,st,uY lt1 lt2,fun b hb=>?_,wu h1 h2 dl1 dl2 z1,q3⟩
 have hb':s1.heap.objs.size<=b:=by
  simp only[QBz,QAq,or_false]at hb
  rcases hb with rfl|rfl|rfl|rfl|rfl<;>omega
 exact I1.xZ hb' (I1.hok.fresh hb')
theorem Az.lt{z TI TO i1 i2:Addr}{b1 b2:Bool}{k:Nat}(st:Az z TI TO i1 i2 b1 b2 l1 l2 k h):∀b∈[z,TI,TO,i1,i2],b<h.objs.size:=by
 intro b hb
 obtain⟨f0,f1,zr,_⟩:=st.zr
 obtain⟨x,y,to⟩:=st.to
 simp only[QBz,QAq,or_false]at hb
 rcases hb with rfl|rfl|rfl|rfl|rfl
 ·exact Qqq zr
 ·exact Qqq st.ti
 ·exact Qqq to
 ·exact st.it1.lt
 ·exact st.it2.lt
theorem Dl(hc:X.calm=true)(ha:GE X W c m1 a)(hb:GE X W c m2 b)(hg:Gl X "zip")(hm:X.mg "zip"=none)
  (hs:starEach [a,b] X.env=[(false,eval a X.env),(false,eval b X.env)])(hs2:starEach [b] X.env=[(false,eval b X.env)])(hg':Gl X "dict")(hm':X.mg "dict"=none)
  (hs':starEach [.Call (.Name "zip" q1) [a,b] [] q2] X.env=[(false,eval (.Call (.Name "zip" q1) [a,b] [] q2) X.env)]):
  GE X W c (.bi .dict (.zip m1 m2)) (.Call (.Name "dict" p) [.Call (.Name "zip" q1) [a,b] [] q2] [] pos):=by
 intro env γ s σ H Q I q
 simp only[uH,E.aB]at q
 refine wpAny_Call_Name_kw (jw I hg' hm' PyProof.Rows.boot_dict ?_ (by decide) (by decide))
 refine PyProof.Rows.callWith_type1 ?_ hs' rfl
 refine Calls.spliced_cons (bK (yF ha hb hg hm hs hs2 I (by simpa only[uH]using q)) fun u s1 h1=>Calls.spliced_nil ?_)
 obtain⟨z,TI,TO,i1,i2,b1,b2,l1,l2,vs,ws,xs,ys,δ,H1,rfl,I1,st,ap,hf,G,q1⟩:=h1.go
 obtain⟨r,er,S,q3⟩:=cT q1
 simp only[Mini.b1,bH,QFq,TJ]at er
 cases ed:dictOf [] [] _ with
 |none=>rw[ed]at er;cases er
 |some pr=>
  rw[ed]at er
  cases er
  obtain⟨f0,f1,zr,h0⟩:=st.zr
  refine um (x:=("_")) (p:=default) hc I1 S zr rfl (by decide) ed (fun s2 E Q e1 k1=>uR e1 (I1.ok.hd hc) k1) (fun s2 u E Q I2 N2 k2 hQ=>?_)
   fun a s' H' I' N' O' h'=>⟨.ref a,H',I',rfl,q3 _ H' N' ⟨a,rfl,O',h'⟩⟩
  refine jq (k2 _ _ zr) (hQ s2 z [z,TI,TO,i1,i2] _ _ I2 (jT ap) ((jT (P:=X.prog) (w:=X.w) (K:=X.K) (tg:=.Name ("_") default) (vs:=vs) (ws:=ws) ap).keep 0 _ _ st fun b _ o e=>k2 b o e) (fun b hb=>⟨?_,(hf b hb).2⟩) (G.mono N2.pers))
  rw[aq (Qvq (st.lt b hb))]
  exact(hf b hb).1
def Dj(hc:X.calm=true)(ha:GE X W c m1 a)(hb:GE X W c m2 b)(hg:Gl X "zip")(hm:X.mg "zip"=none)
  (hs:starEach [a,b] X.env=[(false,eval a X.env),(false,eval b X.env)])(hs2:starEach [b] X.env=[(false,eval b X.env)])(hg':Gl X "list")(hm':X.mg "list"=none)
  (hs':starEach [.Call (.Name "zip" q1) [a,b] [] q2] X.env=[(false,eval (.Call (.Name "zip" q1) [a,b] [] q2) X.env)]):
  GE X W c (.bi .list (.zip m1 m2)) (.Call (.Name "list" p) [.Call (.Name "zip" q1) [a,b] [] q2] [] pos):=by
 intro env γ s σ H Q I q
 simp only[uH,E.aB]at q
 refine wpAny_Call_Name_kw (jw I hg' hm' PyProof.Rows.boot_list ?_ (by decide) (by decide))
 refine PyProof.Rows.callWith_type1 ?_ hs' rfl
 refine Calls.spliced_cons (bK (yF ha hb hg hm hs hs2 I (by simpa only[uH]using q)) fun u s1 h1=>Calls.spliced_nil ?_)
 obtain⟨z,TI,TO,i1,i2,b1,b2,l1,l2,vs,ws,xs,ys,δ,H1,rfl,I1,st,ap,hf,G,q1⟩:=h1.go
 obtain⟨r,er,S,q3⟩:=cT q1
 cases er
 obtain⟨f0,f1,zr,h0⟩:=st.zr
 refine Ea (x:=("_")) (p:=default) hc I1 S zr rfl (fun s2 E Q k2 hQ=>jq (k2 _ _ zr) hQ) (fun s2 u N2 k2=>?_)
  fun a s' H' I' N' O' h'=>⟨.ref a,H',I',rfl,q3 _ H' N' ⟨a,rfl,O',h'⟩⟩
 refine⟨[z,TI,TO,i1,i2],_,_,jT ap,(jT (P:=X.prog) (w:=X.w) (K:=X.K) (tg:=.Name ("_") default) (vs:=vs) (ws:=ws) ap).keep 0 _ _ st fun b _ o e=>k2 b o e,fun b hb=>⟨?_,(hf b hb).2⟩,G.mono N2.pers⟩
 rw[aq (Qvq (st.lt b hb))]
 exact(hf b hb).1
end
section
variable{E:QZq}
def yu{Q:QZq}(h:Q (.bool (!a&&b)) s):wpAny (model prog w) A (call (.builtin "int.__lt__") [.bool a,.bool b]) Q E s:=by
 refine Qzq PySem.F.slot_bool_lt (PyProof.Rows.typeIs_bool' s a) PySem.F.entry_int_lt ?_ (PySem.F.args_int_lt_2 _ _)
 have e:(decide ((if a=true then 1 else 0)< (if b=true then(1:Int)else 0)))=(!a&&b):=by cases a<;>cases b<;>rfl
 show wpAny _ _ (ret (.bool (decide ((if a=true then 1 else 0)< (if b=true then 1 else 0))))) _ _ s
 rw[e]
 exact QKq ⟨_,rfl,h⟩
def zF{Q:Bool->Shared->Prop}(h:Q (!a&&b) s):wpAny (model prog w) A (PyProof.Rows.oneLt' true (.bool a) (.bool b)) Q E s:=by
 rw[PyProof.Rows.oneLt'_eq]
 refine QTz (wpAny_cRoomFor_byValue rfl ?_)
 refine QTz (wpAny_callSpecialIfBound?_slot (PyProof.Rows.typeIs_bool' s a) PySem.F.slot_bool_lt (yu ?_))
 exact wpAny_truthy_bool h
def CJ{Q:Bool->Shared->Prop}(h:Q (!a&&b) s):wpAny (model prog w) A (PyProof.Rows.oneLt' c (.bool a) (.bool b)) Q E s:=by
 cases c with
 |true=>exact zF h
 |false=>exact PySem.W.kat_one _ _ (vG A s a b prog w _ _ h)
theorem vZ{b fin:Bool}{Q:Bool->Shared->Prop}{nx ny:Nat}:∀{vs ws:List Value}{ns ms:List Bool}(i:Nat),BoolsAre vs ns->BoolsAre ws ms->ns.length+ny=ms.length+nx->fin=decide (nx<ny)->Q (lV ns ms) s->
  PySem.W.KatLex prog w A b fin Q (vs.zip ws) i s
 |_,_,_,_,i,.nil,hw=>fun hl hf h=>by
  refine PySem.W.kat_nil ?_
  cases hw with
  |nil=>rw[Gm]at h;rw[hf];simp at hl;rw[QEq (by omega)];exact h
  |cons c hw=>rw[Gn]at h;rw[hf];simp at hl;rw[decide_eq_true (by omega)];exact h
 |_,_,_,_,i,.cons a hv,.nil=>fun hl hf h=>by
  refine PySem.W.kat_nil ?_
  rw[hf]
  simp at hl
  rw[QEq (by omega)]
  exact h
 |_,_,_,_,i,.cons a hv,.cons c hw=>fun hl hf h=>by
  rw[vR]at h
  simp only[QAz]at hl
  refine PySem.W.kat_cons (SeqAt.EqAt.bool_bool a c prog w _ _ ?_)
  by_cases hac:a=c
  ·subst hac
   rw[if_pos rfl]at h
   rw[beq_self_eq_true]
   exact PySem.W.kat_yes (vZ _ hv hw (by omega) hf h)
  ·rw[if_neg hac]at h
   rw[beq_eq_false_iff_ne.mpr hac]
   exact PySem.W.kat_no (CJ h)
def zW{x y:Addr}{ns ms:List Bool}(hx:∃o n,s.heap.get? x=some o/\o.data=.seq xs n)(hy:∃o n,s.heap.get? y=some o/\o.data=.seq ys n)(bx:BoolsAre xs.toList ns)(by':BoolsAre ys.toList ms)
  (h:Q (lV ns ms) s):wpAny (model prog w) A (PyProof.Rows.keyLt' (PyProof.Rows.tuples' b) (.ref x) (.ref y)) Q E s:=by
 obtain⟨ox,nx,ex,dx⟩:=hx
 obtain⟨oy,ny,ey,dy⟩:=hy
 have l1:=bx.length
 have l2:=by'.length
 simp at l1 l2
 exact PySem.W.kat_lt ex dx ey dy (vZ 0 bx by' (by omega) rfl h)
end
end Mini
end
section
namespace Mini
open PySem L2 PyProof.Rows
section
variable{E:QZq}
def xP{vs out:List Value}{P:PySem.Fin->Shared->Prop}(ho:s.heap.get? a=some (seqObj "list" vs.toArray n))(h64:vs.length<64)(hl:out.length=vs.length)
  (h1:vs.length<2->out=vs)
  (h2:2<=vs.length->∀h':Heap,(∀b o,b≠a->s.heap.get? b=some o->h'.get? b=some o)->wpAny (model prog w) A (keyKind' vs.toArray) (fun κ s'=>s'={s with heap:=h'}/\
   (PySem.W.kas_sort vs.length).kasWp (PySem.W.kas_ask prog w A κ vs) (fun p s''=>s''={s with heap:=h'}/\(p.toList.map fun i=>vs.getD i Value.none)=out) s') (fun _ _=>False) {s with heap:=h'})
  (h:P (.done (.ret .none)) {s with heap:=sortedHeap s.heap a vs out.toArray}):
  wpAny (model prog w) A (Builtin.«list.sort» ⟨[.ref a],[]⟩) P E s:=by
 rw[list_sort_plain]
 have ha:=Qqq ho
 have hz:vs.length<=sizeLine:=by rw[sizeLine_eq];omega
 refine QTz (listItems_at ho rfl ?_)
 refine QTz (listUpdate_at ho rfl ?_ (by rw[Qjz];exact hz) (QHq _))
 obtain⟨e1,ho1⟩:∃e1,(s.heap.update a _).get? a=some (seqObj "list" #[] e1):=⟨_,get?_update_seq ho (fun _=> #[])⟩
 refine QTz (seqEpoch_at ho1 rfl ?_)
 refine QTz (wpAny_newTuple ?_ (by show vs.length<=_;exact hz))
 refine QTz (wpAny_newList ?_ (QHq _))
 refine QGz ?_
 have ho6:(((s.heap.update a (Obj.mapSeq fun _=> #[])).push (seqObj "tuple" vs.toArray 0)).push (seqObj "list" #[] 0)).get? a=some (seqObj "list" #[] e1):=by
  rw[Heap.get?_push_ne _ _ _ (by rw[size_push',Heap.size_update];exact Qvq (Nat.lt_succ_of_lt ha)),Heap.get?_push_ne _ _ _ (by rw[Heap.size_update];exact Qvq ha)]
  exact ho1
 have kp:∀b o,b≠a->s.heap.get? b=some o->(((s.heap.update a (Obj.mapSeq fun _=> #[])).push (seqObj "tuple" vs.toArray 0)).push (seqObj "list" #[] 0)).get? b=some o:=fun b o hb e=>
  QWq _ (QWq _ ((Heap.get?_update_other _ _ (Ne.symm hb)).trans e))
 by_cases hn:vs.toArray.size<2
 ·rw[if_pos hn,if_pos hn]
  refine QTz (QKq ?_)
  refine QTz (QKq ?_)
  have em:(arrOf (SortSt.mk' general' (vs.toArray.zip vs.toArray) #[] 7 none)).map (·.2)=out.toArray:=by
   rw[h1 (by simpa using hn)]
   apply Array.toList_inj.mp
   simp[List.map_snd_zip]
  refine QTz (seqEpoch_at ho6 rfl ?_)
  rw[em]
  refine QTz (listUpdate_at ho6 rfl ?_ (QHq _) (by show out.toArray.size<=_;rw[Qjz];omega))
  simp only[bne_self_eq_false,Qyz,if_false]
  exact QKq h
 ·rw[if_neg hn,if_neg hn]
  have hn2:2<=vs.length:=by simpa using hn
  refine QTz (QKz (h2 hn2 _ kp) (fun κ s0 hk=>?_) fun _ _ x=>x.elim)
  obtain⟨rfl,hk⟩:=hk
  refine QTz (QKz (PySem.W.kat_run (Q:=fun st' s'=>∃p:Array Nat,arrOf st'=p.map _/\failedOf st'=none/\s'={s with heap:=((s.heap.update a _).push _).push _}/\(p.toList.map fun i=>vs.getD i Value.none)=out)
   rfl hn2 h64 (fun p' st' s' a1 a2 a3 a4=>⟨p',a2,a3,a4.1,a4.2⟩) hk) ?_ fun _ _ e=>e)
  rintro ⟨⟨⟩,st'⟩ s' ⟨p,har,hf,rfl,hp⟩
  have em:(arrOf st').map (·.2)=out.toArray:=by rw[PySem.W.kat_snds rfl har,hp]
  refine QTz (seqEpoch_at ho6 rfl ?_)
  rw[em]
  refine QTz (listUpdate_at ho6 rfl ?_ (QHq _) (by show out.toArray.size<=_;rw[Qjz];omega))
  rw[hf]
  simp only[bne_self_eq_false,Qyz,if_false]
  exact QKq h
def vm{vs out:List Value}(hls:s.heap.IsList l vs.toArray)(h64:vs.length<64)(hl:out.length=vs.length)(h1:vs.length<2->out=vs)
  (h2:2<=vs.length->∀h':Heap,(∀b o,s.heap.get? b=some o->h'.get? b=some o)->wpAny (model prog w) A.in1.in1 (keyKind' vs.toArray) (fun κ s'=>s'={s with heap:=h'}/\
   (PySem.W.kas_sort vs.length).kasWp (PySem.W.kas_ask prog w A.in1.in1 κ vs) (fun p s''=>s''={s with heap:=h'}/\(p.toList.map fun i=>vs.getD i Value.none)=out) s') (fun _ _=>False) {s with heap:=h'})
  (h:Q (.ref (s.heap.objs.size+1)) {s with heap:=sortedAll s.heap vs out.toArray}):
  wpAny (model prog w) A (call (.builtin "sorted") [.ref l]) Q E s:=by
 refine Calls.call_function_entry kind_sorted plain_sorted entry_sorted (args_sorted1 _) ?_
 have hz:vs.length<=sizeLine:=by rw[sizeLine_eq];omega
 refine QTz (QKq ?_)
 refine QTz (collect_list hls ?_ hz)
 refine QTz (wpAny_newList ?_ hz)
 have hsz:((s.heap.push (seqObj "list" #[] 0)).update s.heap.objs.size (Obj.mapSeq (· ++vs.toArray))).objs.size=s.heap.objs.size+1:=by
  rw[Heap.size_update,size_push']
 have hoL:(((s.heap.push (seqObj "list" #[] 0)).update s.heap.objs.size (Obj.mapSeq (· ++vs.toArray))).push (seqObj "list" vs.toArray 0)).get? (s.heap.objs.size+1)=some (seqObj "list" vs.toArray 0):=by
  rw[<-hsz];exact Qqz _ rfl
 have keep:∀b o,s.heap.get? b=some o->(((s.heap.push _).update s.heap.objs.size _).push (seqObj "list" vs.toArray 0)).get? b=some o:=fun b o q=>by
  have hlt:=Qqq q
  rw[Heap.get?_push_ne _ _ _ (by rw[hsz];exact Qvq (Nat.lt_succ_of_lt hlt)),Heap.get?_update_ne _ _ _ _ (Qvq hlt),Heap.get?_push_ne _ _ _ (Qvq hlt)]
  exact q
 rw[hsz]
 refine QTz (QGz (Qzq slot_list_sort ⟨_,hoL,rfl⟩ entry_list_sort (xP hoL h64 hl h1 (fun hn h' kp=>?_) ⟨_,rfl,?_⟩) (args_list_sort _)))
 ·exact h2 hn h' fun b o e=>kp b o (Qvq (Nat.lt_succ_of_lt (Qqq e))) (keep b o e)
 ·exact QKq ⟨_,rfl,h⟩
theorem tK{α:Type}{cmp:Nat->Nat->(Bool->Shared->Prop)->Shared->Prop}{f:Nat->Nat->Option Bool}{Q:α->Shared->Prop}{a:α}(hc:∀i j b(C:Bool->Shared->Prop),f i j=some b->C b s->cmp i j C s):
  ∀(t:PySem.W.KasT α),KZ f t=some a->Q a s->t.kasWp cmp Q s
 |.ret x,e,q=>by cases e;exact q
 |.ask i j k,e,q=>by
  simp only[KZ]at e
  cases z:f i j with
  |none=>rw[z]at e;cases e
  |some b=>rw[z]at e;exact hc i j b _ z (tK hc (k b) e q)
end
end Mini
end
section
namespace Mini
open PySem L2
inductive gA(h:Heap):List Value->List (List Bool)->Prop
 |nil:gA h [] []
 |cons {a:Addr} {o:Obj} {arr:Array Value} {n:Nat} {b:Bool} {bs:List Bool} {vs:List Value} {rs:List (List Bool)}:h.get? a=some o->o.cls=.type "tuple"->o.data=.seq arr n->BoolsAre arr.toList (b::bs)->gA h vs rs->gA h (.ref a::vs) ((b::bs)::rs)
theorem gA.mono(k:∀b o,h.get? b=some o->h'.get? b=some o):∀{vs:List Value}{rs:List (List Bool)},gA h vs rs->gA h' vs rs
 |_,_,.nil=>.nil
 |_,_,.cons e c d b r=>.cons (k _ _ e) c d b (gA.mono k r)
theorem gA.tups:∀{vs:List Value}{rs:List (List Bool)},gA h vs rs->∃fs,PySem.W.KatTups h vs fs/\fs.length=vs.length/\∀v∈fs,∃b,v=.bool b
 |_,_,.nil=>⟨[],PySem.W.KatTups.nil,rfl,fun v z=>nomatch z⟩
 |_,_,.cons (b:=b) e c d bb r=>by
  obtain⟨fs,t,l,f⟩:=r.tups
  have h0:∃x,(‹Array Value›)[0]? =some x/\x=.bool b:=by
   rename_i arr _ _ _ _
   cases q:arr.toList with
   |nil=>rw[q]at bb;cases bb
   |cons x xs=>
    rw[q]at bb
    cases bb
    refine⟨.bool b,?_,rfl⟩
    have:arr=(Value.bool b::xs).toArray:=by rw[<-q]
    rw[this]
    rfl
  obtain⟨x,hx,rfl⟩:=h0
  refine⟨.bool b::fs,PySem.W.KatTups.cons e c d hx t,by simp[l],fun v z=>?_⟩
  rcases QBz.mp z with rfl|z
  ·exact⟨b,rfl⟩
  ·exact f v z
theorem gA.at{h:Heap}:∀{vs:List Value}{rs:List (List Bool)},gA h vs rs->∀{i:Nat}{r:List Bool},rs[i]? =some r->∃a o arr n,vs.getD i Value.none=.ref a/\h.get? a=some o/\o.data=.seq arr n/\BoolsAre arr.toList r
 |_,_,.cons e c d b t,0,r,q=>by cases q;exact⟨_,_,_,_,rfl,e,d,b⟩
 |_,_,.cons e c d b t,i+1,r,q=>by
  obtain⟨a,o,arr,n,z⟩:=t.at (by simpa using q)
  exact⟨a,o,arr,n,by simpa using z⟩
theorem uq{K:QQq}{H:Hp}:∀{ys:List D}{bs:List Bool}{vs:List V}{us:List Value},bools ys=some bs->ak K H ys vs->Vals vs us->BoolsAre us bs
 |[],bs,vs,us,e,d,v=>by
  cases e
  rw[ak.bA.mp d]at v
  cases v
  exact .nil
 |y::ys,bs,vs,us,e,d,v=>by
  obtain⟨w,ws,rfl,h1,h2⟩:=ak.aF.mp d
  cases v with
  |cons r t=>
   cases y with
   |bl b=>
    simp only[bools]at e
    cases q:bools ys with
    |none=>rw[q]at e;cases e
    |some bs'=>
     rw[q]at e
     cases e
     cases h1
     cases r
     exact .cons b (uq q h2 t)
   |_=>simp[bools]at e
theorem Fq{X:Cx}{γ:QQz}{σ:St}{H:Hp}{s:Shared}(I:Inv X γ σ H s):∀{xs:List D}{rs:List (List Bool)}{vs:List V}{us:List Value},jM xs=some rs->ak X.K H xs vs->Vals vs us->gA s.heap us rs
 |[],rs,vs,us,e,d,v=>by
  cases e
  rw[ak.bA.mp d]at v
  cases v
  exact .nil
 |y::ys,rs,vs,us,e,d,v=>by
  obtain⟨w,ws,rfl,h1,h2⟩:=ak.aF.mp d
  cases v with
  |cons r t=>
   cases y with
   |tup zs=>
    simp only[jM]at e
    cases q:bools zs with
    |none=>rw[q]at e;cases e
    |some bs=>
     cases bs with
     |nil=>rw[q]at e;cases e
     |cons b bs=>
      rw[q]at e
      cases q2:jM ys with
      |none=>rw[q2]at e;cases e
      |some rs'=>
       rw[q2]at e
       cases e
       obtain⟨a,us',rfl,hq,l⟩:=cU h1
       cases r
       obtain⟨its,rr,⟨o,eo,c,n,dt⟩,_⟩:=I.tuple hq
       exact .cons eo c dt (by simpa using uq q l rr) (Fq I q2 h2 t)
   |_=>simp[jM]at e
theorem qe{H:Hp}{vs:List V}(d:ak K H xs vs)(v:Vals vs us):∀{is:List Nat}{ys:List D},tW xs is=some ys->∃ws,ak K H ys ws/\Vals ws (is.map fun i=>us.getD i Value.none)
 |[],ys,e=>by cases e;exact⟨[],ak.cZ,.nil⟩
 |i::is,ys,e=>by
  simp only[tW]at e
  cases q:xs[i]? with
  |none=>rw[q]at e;cases e
  |some x=>
   rw[q]at e
   cases q2:tW xs is with
   |none=>rw[q2]at e;cases e
   |some ys'=>
    rw[q2]at e
    cases e
    obtain⟨ws,h1,h2⟩:=qe d v q2
    obtain⟨w,ew,dw⟩:=d.get q
    obtain⟨u,eu,ru⟩:=v.get ew
    refine⟨w::ws,ak.aX dw h1,?_⟩
    rw[Qyq]
    have:us.getD i Value.none=u:=by simp[List.getD,eu]
    rw[this]
    exact .cons ru h2
def dD.ae3{H:Hp}{v:V}(h:dD K H (.lst xs) v):∃a vs,v=.ref a/\lu K H a vs/\ak K H xs vs:=by
 rcases h with h|⟨o,a,q,rfl,u,ha,hq⟩
 ·obtain⟨a,vs,rfl,hq,l⟩:=eO h
  exact⟨a,vs,rfl,hq.sq,l⟩
 ·cases o<;>cases q
  obtain⟨vs,rfl,l⟩:=hq
  exact⟨a,vs,rfl,.inl (.inl ha),l⟩
def UV(K:QQq):List V->Hp->VK->Prop:=fun us H Q=>∃l vs xs ys,us=[.ref l]/\lu K H l vs/\ak K H xs vs/\pU xs=some ys/\∀ws,ak K H ys ws->∀a,H a=none->Q (.ref a) (upd H a (.lst ws))
section
def yr:gq X (.builtin "sorted") (UV X.K):=by
 intro γ s σ H us ws Q I r h
 obtain⟨l,vs,xs,ys,rfl,hq,dl,es,q⟩:=h
 obtain⟨u,rfl,ru⟩:=vals1 r
 cases ru
 obtain⟨its,rr,pl,hz⟩:=I.list hq
 have lx:=dl.length
 have lv:=rr.length
 have fin:∀zs out,ak X.K H ys zs->Vals zs out->out.length<=sizeLine->EP X γ σ Q _ {s with heap:=PyProof.Rows.sortedAll s.heap its out.toArray}:=fun zs out d v lz=>by
  obtain⟨e,ea⟩:=PyProof.Rows.sortedAll_at s.heap its out.toArray
  exact⟨.ref _,_,I.laid (fun b o x=>PyProof.Rows.sortedAll_old x) (Nat.le_succ _) (show cG X.prog X.w _ _ _ (.lst zs)from⟨by rw[v.length];exact lz,out,e,v,ea⟩),rfl,q zs d _ (I.hok.fresh (Nat.le_succ _))⟩
 unfold pU at es
 by_cases h1:xs.length<2
 ·rw[if_pos h1]at es
  cases es
  exact vm pl.isList (by omega) rfl (fun _=>rfl) (fun z=>absurd z (by omega)) (fin vs its dl rr (by omega))
 ·rw[if_neg h1]at es
  by_cases h64:xs.length<64
  ·rw[if_pos h64]at es
   unfold acu at es
   cases e1:jM xs with
   |none=>
    rw[e1]at es
    cases es
   |some rs=>
    rw[e1]at es
    simp only[QFq]at es
    cases e2:KZ _ _ with
    |none=>rw[e2]at es;cases es
    |some p=>
     rw[e2]at es
     simp only[QFq]at es
     by_cases e3:p.size=xs.length
     ·rw[if_pos e3]at es
      obtain⟨zs,d,v⟩:=qe dl rr es
      have lo:(p.toList.map fun i=>its.getD i Value.none).length=its.length:=by rw[Qvz,Array.length_toList];omega
      refine vm pl.isList (by omega) lo (fun z=>absurd z (by omega)) (fun _ h' kp=>?_) (fin zs _ d v (by omega))
      have RA':=(Fq I e1 dl rr).mono kp
      obtain⟨fs,t,lf,fb⟩:=RA'.tups
      refine PySem.W.kat_kind (T:=.type "bool") t (by omega) (fun v hv=>?_) (by decide) ⟨rfl,?_⟩
      ·obtain⟨b,rfl⟩:=fb v hv
       exact PySem.W.Looks.of_pure rfl
      ·have el:its.length=xs.length:=by omega
       rw[el]
       refine tK (fun i j b C e c=>?_) _ e2 ⟨rfl,rfl⟩
       unfold acv at e
       cases ei:rs[i]? with
       |none=>rw[ei]at e;cases e
       |some ri=>
        cases ej:rs[j]? with
        |none=>rw[ei,ej]at e;cases e
        |some rj=>
         rw[ei,ej]at e
         cases e
         obtain⟨ai,oi,arri,ni,x1,x2,x3,x4⟩:=RA'.at ei
         obtain⟨aj,oj,arrj,nj,y1,y2,y3,y4⟩:=RA'.at ej
         show wpAny _ _ _ _ _ _
         rw[x1,y1]
         exact zW ⟨oi,ni,x2,x3⟩ ⟨oj,nj,y2,y3⟩ x4 y4 c
     ·rw[if_neg e3]at es;cases es
  ·rw[if_neg h64]at es;cases es
def BP:qI X (UV X.K) (b1 .sorted):=by
 intro env σ H x z v Q S Dx e q
 simp only[b1]at e
 cases x with
 |lst xs=>
  simp only[zO,QFq,TJ]at e
  cases es:pU xs with
  |none=>rw[es]at e;cases e
  |some ys=>
   rw[es]at e
   cases e
   obtain⟨a,vs,rfl,hq,l⟩:=Dx.ae3
   exact⟨a,vs,xs,ys,rfl,hq,l,es,fun ws d p hp=>q _ _ (Nx.laid S hp) (lK S d hp)⟩
 |_=>simp[zO]at e
end
section
def Yp{x:Str}(nm:jL X k x):GE X W c (.ref k) (.Name x pos):=by
 intro env
 refine PE.imp nm.pe fun σ H Q q=>?_
 simp only[aap]at q
 have go:∀o,(env[k]? =some (.own o)\/env[k]? =some (.bor o))->tM X.K W env (.ok (.ref k) env) σ H Q->aV k σ H Q:=fun o e q=>by
  have:∃a,(σ[k]?).join=some (.ref a):=by
   rcases e with e|e
   ·obtain⟨a,z,_⟩:=q.1.sl k _ e;exact⟨a,z⟩
   ·obtain⟨a,z,_⟩:=q.1.sl k _ e;exact⟨a,z⟩
  obtain⟨a,z⟩:=this
  exact⟨.ref a,cB z,q.2 _ H (Nx.refl q.1) (cB z)⟩
 cases e:env[k]? with
 |none=>rw[e]at q;exact q.2.elim
 |some s=>
  rw[e]at q
  cases s with
  |un=>exact q.2.elim
  |val d=>exact q.2.elim
  |own o=>exact go o (.inl e) q
  |bor o=>exact go o (.inr e) q
def Yn(h:GE X W c m e):GE X W c (.tmp m) e:=by
 intro env
 refine PE.imp (h env) fun σ H Q q=>?_
 simp only[adX]at q
 refine⟨q.1,?_⟩
 have q2:=q.2
 cases r:ev c m env with
 |bad=>rw[r]at q2;exact q2
 |exc k δ=>rw[r]at q2;exact q2
 |ok x δ=>
  rw[r]at q2
  cases x with
  |val d=>exact False.elim q2
  |ref i=>exact False.elim q2
  |tmp o=>exact False.elim q2
  |new o=>exact q2
theorem Kc{env:Ev}{H:Hp}{f:Bool->Ev->Out Rv}(h:tT K W env (r.cM jk f) σ H Q)
  (k:∀b δ H1,Nx K env σ H δ H1->tT K W δ (f b δ) σ H1 Q->R b H1):tT K W env r σ H R:=by
 have step:∀d δ x,x.kI=some d->r=.ok x δ->∃b,jk d=some b/\∀H1,Nx K env σ H δ H1->R b H1:=fun d δ x ex er=>by
  subst er
  cases q:jk d with
  |none=>
   cases x with
   |val d'=>cases ex;simp only[Out.cM,Out.au,q]at h;exact h.2.elim
   |new xs=>cases ex;simp only[Out.cM,Out.au,q]at h;exact h.2.elim
   |ref i=>cases ex
   |tmp xs=>cases ex
  |some b=>
   refine⟨b,rfl,fun H1 N=>k b δ H1 N (Up ?_ N)⟩
   cases x with
   |val d'=>cases ex;simp only[Out.cM,Out.au,q]at h;exact h
   |new xs=>cases ex;simp only[Out.cM,Out.au,q]at h;exact h
   |ref i=>cases ex
   |tmp xs=>cases ex
 refine⟨h.1,?_⟩
 cases r with
 |bad=>exact h.2
 |exc c δ=>exact h.2
 |ok x δ=>
  cases x with
  |val d=>obtain⟨b,e,q⟩:=step d δ _ rfl rfl;exact⟨d,b,rfl,e,q⟩
  |new xs=>obtain⟨b,e,q⟩:=step xs.d δ _ rfl rfl;exact⟨xs.d,b,rfl,e,q⟩
  |ref i=>exact h.2.elim
  |tmp xs=>exact h.2.elim
def Yc(ht:GT X W c m1 t)(ha:GT X W c m2 a)(hb:GT X W c m3 b):GT X W c (.ite m1 m2 m3) (.IfExp t a b pos):=by
 intro γ s σ H Q I ⟨env,q⟩
 have e:∀w,isTrue (.IfExp t a b pos) X.env w=(isTrue t X.env _>>=fun q=>if q=true then isTrue a X.env _ else isTrue b X.env _):=fun w=>by first|rfl|rw[PySem.isTrue]|simp only[PySem.isTrue]
 refine QTz (bK (ht γ s σ H (fun k H1=>∃δ,tT X.K W δ _ σ H1 Q) I ⟨env,Kc q fun k δ H1 N q1=>⟨δ,q1⟩⟩) fun k s1⟨H1,I1,δ,q1⟩=>?_)
 cases k with
 |true=>rw[if_pos rfl]at q1⊢;exact ha γ s1 σ H1 Q I1 ⟨δ,q1⟩
 |false=>rw[if_neg Qjq]at q1⊢;exact hb γ s1 σ H1 Q I1 ⟨δ,q1⟩
end
section
def NZ{H:Hp}{v y w:V}{Q:VK}(D1:dD K H d v)(D2:aZ K H k y)(D3:aZ K H x w)(e:qg d k x=some z)(q:∀u,aZ K H z u->Q u H):∃a,v=.ref a/\∃o,lA H a y o/\Q (o.getD w) H:=by
 cases d with
 |dq ks ds=>
  simp only[qg]at e
  split at e
  ·rename_i hk
   cases e
   obtain⟨kk,rfl⟩:=gQ hk
   have ek:=lO D2
   subst ek
   obtain⟨a,kvs,rfl,ha,rfl,l⟩:=oE D1
   refine⟨a,rfl,eQ kvs kk,.inl ⟨kvs,kk,ha,rfl,rfl⟩,q _ ?_⟩
   cases e1:dH _ _ ds with
   |some d=>
    obtain⟨w,e2,e3⟩:=o6 kk e1 l
    rw[e2]
    exact e3
   |none=>
    have n:=lB (kvs:=kvs) kk
    have e4:∀{ks vs:List D},vs.length=ks.length->dH (dj kk) ks vs=none->cF (dj kk) ks=false:=by
     intro ks
     induction ks with
     |nil=>intro vs _ _;rfl
     |cons k' ks ih=>
      intro vs hl h
      cases vs with
      |nil=>simp at hl
      |cons v vs=>
       simp only[dH]at h
       split at h
       ·cases h
       ·rename_i ne
        simp[cF,ne,ih (by simpa using hl) h]
    rw[e4 (by have:=l.length;simpa using this) e1]at n
    have e5:eQ kvs kk=none:=by
     cases e6:eQ kvs kk with
     |none=>rfl
     |some w=>rw[e6]at n;cases n
    rw[e5]
    exact D3
  ·cases e
 |_=>cases e
def Ng{H:Hp}{v:V}(D1:dD K H d v)(e:tR (some d)=true):∃a,v=.ref a/\IsD H a:=by
 cases d with
 |dq ks ds=>
  obtain⟨a,kvs,rfl,ha,_⟩:=oE D1
  exact⟨a,rfl,.inl ⟨kvs,ha⟩⟩
 |_=>cases e
def S9(hu:X.A.units+1<cLine)(M:M2 X o "get" apos e f cpos)(hv:∀k,m1.aB=some k->∃x p,o=.Name x p/\jL X k x)(hd:GE X W c m1 o)(hk:GE X W c m2 e)(hx:GE X W c m3 f):GE X W c (.get2 m1 m2 m3) (.Call (.Attribute o "get" apos) [e,f] [] cpos):=by
 intro env
 cases qv:m1.aB with
 |some i=>
  obtain⟨x,p,rfl,nm⟩:=hv i qv
  refine PE.imp (LQ hu nm.pe hk.d hx.d M) fun σ H Q q=>?_
  simp only[V3,qv]at q
  cases e0:tR _ with
  |false=>rw[e0]at q;exact q.2.elim
  |true=>
   rw[e0]at q
   cases e1:bf i env with
   |none=>rw[e1]at e0;cases e0
   |some d0=>
    rw[e1]at e0
    obtain⟨u,eu,D0⟩:=fG q.1 e1
    obtain⟨a,rfl,ia⟩:=Ng D0 e0
    refine⟨.ref a,eu,a,rfl,ia,env,aL q fun k ε y H2 N2 D2 q2=>⟨ε,aL q2 fun x env3 z H3 N3 D3 q3=>?_⟩⟩
    obtain⟨r,er,S,q4⟩:=cT q3
    cases e2:bf i env3 with
    |none=>rw[e2]at er;cases er
    |some d3=>
     rw[e2]at er
     simp only[Option.bind]at er
     obtain⟨u',eu',D4⟩:=fG S e2
     rw[eu]at eu'
     cases eu'
     cases e3:qg d3 k x with
     |none=>rw[e3]at er;cases er
     |some w=>
      rw[e3]at er
      cases er
      obtain⟨a',ea,o,g,q5⟩:=NZ D4 (D2.mono N3.pers) D3 e3 fun u hu=>q4 u H3 (Nx.refl S) hu
      cases ea
      exact⟨o,g,q5⟩
 |none=>
  intro γ s σ H Q I q
  simp only[V3,qv]at q
  exact q.2.elim
def aA(X:Cx)(W:Wi)(c:Cf)(m:E):TE:=fun σ H Q=>∃env,tA X.K W env (ev c m env) σ H Q
inductive Kv(X:Cx)(W:Wi)(c:Cf):E->List (Option Expr)->List Expr->List (TE×TE)->Prop
 |nil:Kv X W c .nil [] [] []
 |cons {k v r:E} {ke ve:Expr} {ks:List (Option Expr)} {vs:List Expr} {nC:List (TE×TE)}:GE X W c k ke->GE X W c v ve->Kv X W c r ks vs nC->Kv X W c (.cons k (.cons v r)) (some ke::ks) (ve::vs) ((aA X W c k,aA X W c v)::nC)
def yR{env:Ev}{H:Hp}{Q:VK}(q:Ut K W env (evs c (.cons m1 m2) env) σ H R)(k:∀v H1 δ,Ut K W δ (evs c m2 δ) σ H1 (fun vs H2=>R (v::vs) H2)->Q v H1):tA K W env (ev c m1 env) σ H Q:=by
 obtain⟨S,q⟩:=q
 refine⟨S,?_⟩
 simp only[evs]at q
 cases r:ev c m1 env with
 |bad=>rw[r]at q;exact q.elim
 |exc k δ=>rw[r]at q;exact q
 |ok x δ=>
  rw[r]at q
  intro v H1 N1 k1
  refine k v H1 δ ⟨N1.gm,?_⟩
  simp only[Out.bind]at q
  cases r2:evs c m2 δ with
  |bad=>rw[r2]at q;exact q.elim
  |exc k ε=>rw[r2]at q;exact fun H2 N2=>q H2 (N1.trans N2)
  |ok xs ε=>
   rw[r2]at q
   intro vs H2 N2 k2
   exact q _ H2 (N1.trans N2) ⟨v,vs,rfl,k1.on S N1 N2,k2.weaken N1.dom⟩
def oM:List (V×V)->List V
 |[]=>[]
 |p::r=>p.1::p.2::oM r
theorem rn:∀{a b:List (V×V)},oM a=oM b->a=b
 |[],[]=>fun _=>rfl
 |[],_::_=>fun h=>by cases h
 |_::_,[]=>fun h=>by cases h
 |(x,y)::a,_::b=>fun h=>by
  simp only[oM,List.cons.injEq]at h
  obtain⟨rfl,rfl,h⟩:=h
  rw[rn h]
def Kv.pps{ks:List (Option Expr)}{nC:List (TE×TE)}(h:Kv X W c es ks vs nC):PPs X pos ks vs nC:=by
 induction h with
 |nil=>exact Rq
 |cons hk hv _ ih=>exact Lp (fun γ s σ H Q I⟨env,q⟩=>hk.ag env γ s σ H Q I q) (fun γ s σ H Q I⟨env,q⟩=>hv.ag env γ s σ H Q I q) ih
def Kv.go{ks:List (Option Expr)}{nC:List (TE×TE)}(h:Kv X W c es ks vs nC):∀{env:Ev}{σ:St}{H:Hp}{R:List V->Hp->Prop},Ut X.K W env (evs c es env) σ H R->wV nC σ H fun ps H2=>R (oM ps) H2:=by
 induction h with
 |nil=>
  intro env σ H R q
  obtain⟨S,q⟩:=q
  exact q [] H (Nx.refl S) rfl
 |cons hk hv _ ih=>
  intro env σ H R q
  exact⟨env,yR q fun x H1 δ q1=>⟨δ,yR q1 fun y H2 ε q2=>ih q2⟩⟩
def Nx.relaid{env δ:Ev}{σ:St}{p:Addr}(S:Sat K env σ H)(hp:H p=none)(hu:JT u)(N:Nx K env σ (upd H p u) δ H2):H2 p=some u/\Nx K env σ H δ (upd H2 p u'):=by
 have no:=S.mR hp
 have e:=N.keep p u az no
 have N0:=(Nx.laid S hp).trans N
 have P:=jc (u':=u') e hu
 refine⟨e,⟨N.gm.keep P fun i b w o q=>?_,N0.sub,N0.pers.trans P,fun b w q n=>?_,fun b q=>?_,N0.bors⟩⟩
 ·rw[aq (fun z=>by subst z;exact no i (N.sub i _ o))];exact q
 ·rw[aq ((fun b w q z=>by subst z;rw[hp]at q;cases q) b w q)];exact N0.keep b w q n
 ·by_cases hb:b=p
  ·subst hb;exact hp
  ·rw[aq hb]at q;exact N0.dom b q
def Ox{r:Rv}(h:Tj ds=some r):∃(k:SK)(v:D),ds=[gk k,v]/\r=.new (.sdt [gk k] [v]):=by
 unfold Tj at h
 split at h
 ·split at h
  ·rename_i hk
   obtain⟨k,rfl⟩:=j9 hk
   cases h
   exact⟨k,_,rfl,rfl⟩
  ·cases h
 ·cases h
def Yx(hu:X.A.units+2<cLine){ks:List (Option Expr)}{nC:List (TE×TE)}(h:Kv X W c es ks vs nC)(hall:ks.all (·.isSome)=true)(hl:ks.length=vs.length)(h0:ks≠[])(h15:ks.length<=15):GE X W c (.dsp es) (.Dict ks vs pos):=by
 intro env
 refine PE.imp (RD hu h.pps hall hl h0 h15) fun σ H Q q p hp=>?_
 simp only[adT]at q
 obtain⟨S,q⟩:=q
 have go:Ut X.K W env (evs c es env) σ (upd H p (.dK [])) (fun us H2=>H2 p=some (.dK [])/\∃k a v,us=oM [(.ref a,v)]/\cH X.K H2 k a/\Q (.ref p) (upd H2 p (sD [(k,a,v)]))):=by
  refine⟨(Nx.laid (o:=.dK []) S hp).gm,?_⟩
  cases r:evs c es env with
  |bad=>rw[r]at q;exact q.elim
  |exc k δ=>rw[r]at q;exact fun H2 N=>q H2 ((Nx.laid S hp).trans N)
  |ok rs δ=>
   rw[r]at q
   simp only[Out.bind]at q
   cases e1:bj rs with
   |none=>rw[e1]at q;exact q.elim
   |some ds=>
    rw[e1]at q
    simp only[QFq]at q
    unfold Tp at q
    by_cases hd:(decide (ds.length<=30)&& !ds.isEmpty)=true
    ·rw[if_pos hd]at q
     cases e0:Tj ds with
     |some rv0=>
      rw[e0]at q
      intro us H2 N rv
      obtain⟨k,v,rfl,rfl⟩:=Ox e0
      obtain⟨x,w1,rfl,h1,l1⟩:=ak.aF.mp (ji.ds (by rw[Ag es env r];exact rv) e1)
      obtain⟨y,w2,rfl,h2,l2⟩:=ak.aF.mp l1
      cases ak.bA.mp l2
      obtain⟨a,rfl,ka⟩:=rH h1
      obtain⟨b1,b2⟩:=Nx.relaid S hp (by constructor<;>(intros;intro z;cases z)) N
      have P:=jc (u':=sD [(k,a,y)]) b1 (by constructor<;>(intros;intro z;cases z))
      refine⟨b1,⟨k,a,y,rfl,ka,q _ _ b2 ⟨p,rfl,⟨_,az,[(k,a,y)],rfl,rfl,fun x hx=>?_,?_⟩,hp⟩⟩⟩
      ·cases QDq.mp hx
       obtain⟨b,q1,q2⟩:=ka
       exact⟨b,P.Hz q1,P.Hz q2⟩
      ·exact ak.aF.mpr ⟨y,[],rfl,h2.mono P,ak.cZ⟩
     |none=>rw[e0]at q;exact q.elim
    ·rw[if_neg hd]at q;exact q.elim
 have:=h.go go
 refine cast ?_ this
 congr 1
 funext ps H2
 refine propext ⟨fun⟨z,f⟩=>⟨z,?_⟩,fun⟨z,f⟩=>⟨z,?_⟩⟩
 ·obtain⟨k,a,v,e,h⟩:=f
  exact⟨k,a,v,rn e,h⟩
 ·obtain⟨k,a,v,e,h⟩:=f
  exact⟨k,a,v,by rw[e],h⟩
def Oa:GE X W c .emp (.Dict [] [] pos):=by
 intro env
 refine PE.imp LK fun σ H Q q p hp=>?_
 obtain⟨S,q⟩:=q
 exact q _ _ (Nx.laid S hp) ⟨p,rfl,⟨_,az,[],rfl,rfl,ak.cZ⟩,hp⟩
end
section
end
end Mini
end
section
namespace Mini
open PySem
structure Ct where
 N:List Str
 sc:Scope
 fns:List (Str×List Bool)
 gj:List Str
 exs:List Str:=[]
 rz:List Str:=[]
def ph:List Str->Str->Option Nat
 |[],_=>none
 |y::r,x=>if x=y then some 0 else(ph r x).map (· +1)
def O5:Const->Option D
 |.none=>some .non
 |.bool b=>some (.bl b)
 |.int i=>some (.int i)
 |.str x=>some (.str x)
 |_=>none
def V2(sc:Scope)(x:Str):Bool:=match sc.names.lookup x with
 |some .local=>true
 |some .cell=>true
 |some .free=>true
 |_=>false
def Bg(sc:Scope)(x:Str):Bool:=sc.names.lookup x==some .globalImplicit
def Iz(x:Str):Bool:= !(x==("__debug__":Str))&& !(x==("__classdict__":Str))
def jU(C:Ct)(x:Str):Option E:=
 if Iz x then
  match ph C.N x with
  |some k=>if V2 C.sc x then some (.var k)else none
  |none=>if Bg C.sc x then(ph C.gj x).map .glob else none
 else none
def opB:Operator->Option Zg
 |.Add=>some .add
 |.Sub=>some .sub
 |.Mult=>some .mul
 |.Mod=>some .mod
 |.FloorDiv=>some .fdiv
 |.Pow=>some .pow
 |_=>none
def cmB:CmpOp->Option Cm
 |.Eq=>some .eq
 |.NotEq=>some .ne
 |.Lt=>some .lt
 |.LtE=>some .le
 |.Gt=>some .gt
 |.GtE=>some .ge
 |.In=>some .isin
 |.NotIn=>some .notin
 |.Is=>some .nD
 |.IsNot=>some .notN
def tyB(x:Str):Option Ty:=
 if x="tuple" then some .tup else if x="list" then some .lst else if x="str" then some .str else if x="bool" then some .bool else if x="int" then some .int else if x="dict" then some .dq else none
noncomputable def Z2(x:Str):Option Bi:=
 if x="len" then some .len else if x="int" then some .int else if x="tuple" then some .tuple else if x="list" then some .list else if x="all" then some .all else if x="any" then some .any
 else if x="sorted" then some .sorted else if x="dict" then some .dict else none
def plain:Expr->Bool
 |.BoolOp .. |.BinOp .. |.UnaryOp .. |.IfExp .. |.ListComp .. |.Compare .. |.Call .. |.Constant .. |.Subscript .. |.Name .. |.List .. |.Tuple .. |.Dict .. =>true
 |_=>false
def E.Nj:E->Bool
 |.nil=>true
 |_=>false
def fnAt(C:Ct)(x:Str):Option (Nat×List Bool):=(ph (C.fns.map (·.1)) x).bind fun g=>(C.fns[g]?).map fun p=>(g,p.2)
def rY(scope outer:Scope):Scope:=
 {scope with names:=scope.names.map fun(n,k)=>if (k== .free&&outer.kind== .function&&outer.names.lookup n==some .cell)then(n,.cell)else(n,k)}
def rR(η N:List Str):List Str:=η++N.map fun x=>if η.contains x then(".":Str)++x else x
def uQ:Expr->Option Str
 |.Name x _=>some x
 |_=>none
def Wb:Expr->Option (List Str×Tg)
 |.Name x _=>some ([x],.name 0)
 |.Tuple es _ _=>(es.mapM uQ).map fun xs=>(xs,.tup (List.range xs.length))
 |_=>none
noncomputable def Wz(outer inner:Scope)(η N:List Str):Bool:=
 decide (inner.kind=.function)&&decide ((rR η N).Nodup)
 &&(inner.names.all fun p=>(p.2 != .local)||((η.contains p.1||p.1==(".0":Str))&&inner.names.lookup p.1==some .local))
 &&(η.all fun x=>inner.names.lookup x==some .local)
 &&(inner.names.all fun p=>p.2 != .cell)
 &&(inner.names.all fun p=>(p.2 != .free)||outer.names.lookup p.1==some .cell||outer.names.lookup p.1==some .free)
 &&(N.all fun x=> !η.contains x||(inner.names.lookup ((".":Str)++x)).isNone)
 && !N.contains (".0":Str)
def isCall:Expr->Bool
 |.Call .. =>true
 |_=>false
def Mh(ap cp:Pos):Bool:=ap.endLine==cp.line
mutual
noncomputable def dZ:Nat->Ct->Expr->Option E
 |0,_,_=>none
 |n+1,C,e=>match e with
  |.Constant k _ _=>(O5 k).map .con
  |.Name x _=>jU C x
  |.Tuple es _ _=>(wR n C es).map .tup
  |.List es _=>(wR n C es).map .lis
  |.BinOp a o b _=>(opB o).bind fun o=>(dZ n C a).bind fun a=>(dZ n C b).map fun b=>.op o a b
  |.UnaryOp o a _=>match o with
   |.USub=>(dZ n C a).map .neg
   |.Not=>(dZ n C a).map .not
   |_=>none
  |.BoolOp o es _=>(wR n C es).bind fun m=>if m.Nj then none else match o with
   |.And=>some (.and m)
   |.Or=>some (.or m)
  |.Compare a ops cs _=>match ops,cs with
   |[o],[b]=>(cmB o).bind fun o=>(dZ n C a).bind fun a=>(dZ n C b).map fun b=>.cmp o a b
   |[o,o2],[b,d]=>(cmB o).bind fun o=>(cmB o2).bind fun o2=>(dZ n C a).bind fun a=>(dZ n C b).bind fun b=>(dZ n C d).map fun d=>.chain o o2 a b d
   |_,_=>none
  |.IfExp t a b _=>(dZ n C t).bind fun t=>(dZ n C a).bind fun a=>(dZ n C b).map fun b=>.ite t a b
  |.Subscript a i _=>match i with
   |.Slice lo hi st _=>match st with
    |none=>(dZ n C a).bind fun a=>(Zy n C lo).bind fun lo=>(Zy n C hi).map fun hi=>.slc a lo hi
    |some _=>none
   |i=>(dZ n C a).bind fun a=>(dZ n C i).map fun i=>.idx a i
  |.Call f args kw cp=>match kw with
   |[]=>match f with
    |.Name x _=>if Iz x&&Bg C.sc x then(match fnAt C x with
      |some (g,fl)=>(Hv n C fl args).bind fun m=>if m.Nj then none else some (.call g m)
      |none=>trB n C x args)else none
    |.Attribute o name ap=>if Mh ap cp then(match args with
      |[e]=>if name="count" then(dZ n C o).bind fun m1=>(if plain o&& !isCall o then some ()else none).bind fun _=>(dZ n C e).map fun m2=>.count m1 m2
       else if name="pop" then(match o with
        |.Name x _=>(jU C x).bind fun m=>match m with
         |.var k=>(dZ n C e).map fun m2=>.popAt k m2
         |_=>none
        |_=>none)
       else none
      |[e,f]=>if name="get" then(dZ n C o).bind fun m1=>(if plain o&& !isCall o then some ()else none).bind fun _=>(dZ n C e).bind fun m2=>(dZ n C f).map fun m3=>.get2 m1 m2 m3 else none
      |_=>none)else none
    |_=>none
   |_=>none
  |.Dict ks vs _=>if ks.isEmpty&&vs.isEmpty then some .emp else if ks.length=vs.length&&decide (ks.length<=15)&& !ks.isEmpty then(Hu n C ks vs).map .dsp else none
  |.ListComp elt gens sc _=>match gens with
   |[g]=>trC n C elt g sc
   |_=>none
  |_=>none
noncomputable def Hu:Nat->Ct->List (Option Expr)->List Expr->Option E
 |0,_,_,_=>none
 |n+1,C,ks,vs=>match ks,vs with
  |[],[]=>some .nil
  |some k::ks,v::vs=>(dZ n C k).bind fun k=>(dZ n C v).bind fun v=>(Hu n C ks vs).map fun r=>.cons k (.cons v r)
  |_,_=>none
noncomputable def trC:Nat->Ct->Expr->Comprehension->Scope->Option E
 |0,_,_,_,_=>none
 |n+1,C,elt,g,sc=>if g.is_async=0 then(Wb g.target).bind fun(η,tg)=>
   if Wz C.sc sc η C.N then
    let C2:Ct:={C with N:=rR η C.N,sc:=rY sc C.sc}
    (Zz n C g.iter).bind fun it=>(match g.ifs with
     |[]=>some (E.con (.bl true))
     |[c]=>dZ n C2 c
     |_=>none).bind fun cond=>(dZ n C2 elt).map fun m=>.comp η.length tg it cond m
   else none else none
noncomputable def Zz:Nat->Ct->Expr->Option E
 |0,_,_=>none
 |n+1,C,e=>match e with
  |.Call f args kw cp=>match f,args,kw with
   |.Name x _,[a],[]=>if x="range"&&Bg C.sc x&&(fnAt C x).isNone then(dZ n C a).map .range1 else dZ n C e
   |.Name x _,[a,b],[]=>if x="zip"&&Bg C.sc x&&(fnAt C x).isNone then(dZ n C a).bind fun a=>(dZ n C b).map fun b=>.zip a b else dZ n C e
   |_,_,_=>dZ n C e
  |_=>dZ n C e
noncomputable def trB:Nat->Ct->Str->List Expr->Option E
 |0,_,_,_=>none
 |n+1,C,x,args=>match args with
  |[a,t]=>if x="isinstance" then(match t with
    |.Name y _=>if Bg C.sc y then(tyB y).bind fun t=>(dZ n C a).map fun a=>.isi a t else none
    |_=>none)else none
  |[a]=>match a with
   |.Call f zs kw _=>(match f,zs,kw with
    |.Name z _,[p,q],[]=>if z="zip"&&Bg C.sc z&&(fnAt C z).isNone then
      (if x="dict" then(dZ n C p).bind fun p=>(dZ n C q).map fun q=>.bi .dict (.zip p q)
       else if x="list" then(dZ n C p).bind fun p=>(dZ n C q).map fun q=>.bi .list (.zip p q)else none)
     else(Z2 x).bind fun b=>(dZ n C a).bind fun m=>if b=.dict&&m.aB.isSome then some (.bi b (.rd m))else some (.bi b m)
    |_,_,_=>(Z2 x).bind fun b=>(dZ n C a).bind fun m=>if b=.dict&&m.aB.isSome then some (.bi b (.rd m))else some (.bi b m))
   |a=>(Z2 x).bind fun b=>(dZ n C a).bind fun m=>if b=.dict&&m.aB.isSome then some (.bi b (.rd m))else some (.bi b m)
  |_=>none
noncomputable def Hv:Nat->Ct->List Bool->List Expr->Option E
 |0,_,_,_=>none
 |n+1,C,fl,es=>match fl,es with
  |[],[]=>some .nil
  |false::fl,e::es=>(dZ n C e).bind fun m=>(Hv n C fl es).map fun ms=>.cons m ms
  |true::fl,e::es=>(match e with
    |.Name x _=>(jU C x).bind fun m=>match m with
     |.var k=>some (E.ref k)
     |_=>none
    |e=>(dZ n C e).map E.tmp).bind fun m=>(Hv n C fl es).map fun ms=>.cons m ms
  |_,_=>none
noncomputable def Zy:Nat->Ct->Option Expr->Option E
 |0,_,_=>none
 |n+1,C,o=>match o with
  |none=>some .noneE
  |some e=>dZ n C e
noncomputable def wR:Nat->Ct->List Expr->Option E
 |0,_,_=>none
 |n+1,C,es=>match es with
  |[]=>some .nil
  |e::es=>(dZ n C e).bind fun m=>(wR n C es).map fun ms=>.cons m ms
end
def K6(C:Ct)(e f:Option Expr):Nat:=match e,f with
 |some (.Call (.Name x _) [.Constant (.str _) _ _] [] _),none=>if Bg C.sc x&&Iz x then(match ph C.exs x with|some k=>k+1|none=>0)else 0
 |_,_=>0
def Jc(sc:Scope)(x:Str):Bool:=sc.names.lookup x==some .local||sc.names.lookup x==some .cell
def slotsOf(C:Ct):List Expr->Option (List Nat)
 |[]=>some []
 |.Name x _::es=>if Jc C.sc x then(ph C.N x).bind fun i=>(slotsOf C es).map (i:: ·)else none
 |_=>none
def J5(C:Ct):Expr->Option Tg
 |.Name x _=>if Jc C.sc x then(ph C.N x).map .name else none
 |.Tuple es _ _=>(slotsOf C es).map .tup
 |_=>none
def isTup:Expr->Bool
 |.Tuple .. =>true
 |_=>false
def pq:Expr->Bool
 |.ListComp .. =>true
 |_=>false
def isSlice:Expr->Bool
 |.Slice .. =>true
 |_=>false
def rzB(C:Ct):Expr->Bool
 |.Name x _=>C.rz.contains x
 |_=>false
noncomputable def trX(n:Nat)(C:Ct)(f:Expr)(args:List Expr)(kw:List Keyword):Option S:=
 match f,kw with
 |.Name x _,[]=>if Iz x&&Bg C.sc x then(match fnAt C x with
   |some (g,fl)=>(Hv n C fl args).bind fun m=>if m.Nj then none else some (.callx g m)
   |none=>none)else none
 |_,_=>none
mutual
noncomputable def Uo:Nat->Ct->Stmt->Option S
 |0,_,_=>none
 |n+1,C,st=>match st with
  |.Return v _=>match v with
   |none=>some ACN
   |some e=>(dZ n C e).map .ret
  |.Assign ts e _=>match ts with
   |[t]=>match t with
    |.Name x _=>if Jc C.sc x then(ph C.N x).bind fun i=>(dZ n C e).map fun m=>.set i m else none
    |.Tuple es _ _=>if isTup e||pq e then none else(slotsOf C es).bind fun is=>(dZ n C e).map fun m=>.setT is m
    |.Subscript o ix _=>match o with
     |.Name x _=>if pq e||isSlice ix then none else(jU C x).bind fun v=>match v with
      |.var k=>(dZ n C ix).bind fun i=>(dZ n C e).map fun m=>.setIx k i m
      |_=>none
     |_=>none
    |_=>none
   |_=>none
  |.Expr e _=>match e with
   |.Call f args kw cp=>match f,args,kw with
    |.Attribute o name ap,[a],[]=>match o with
     |.Name x _=>if Mh ap cp&&name="append" then(jU C x).bind fun v=>(match v with
       |.var k=>(dZ n C a).map fun m=>.append k m
       |_=>none)
      else(dZ n C e).map .expr
     |_=>none
    |f,args,kw=>if rzB C f then trX n C f args kw else(dZ n C e).map .expr
   |_=>none
  |.If t a b _=>(dZ n C t).bind fun t=>(rC n C a).bind fun a=>(rC n C b).map fun b=>.ite t a b
  |.For tg it b el _=>match el with
   |[]=>(J5 C tg).bind fun tg'=>(Zz n C it).bind fun it=>(rC n C b).map fun b=>.for_ tg' it b
   |_=>none
  |.While t b el _=>match el with
   |[]=>(dZ n C t).bind fun t=>(rC n C b).map fun b=>.while_ t b
   |_=>none
  |.Raise e f _=>some (.raise (K6 C e f))
  |_=>none
noncomputable def rC:Nat->Ct->List Stmt->Option S
 |0,_,_=>none
 |n+1,C,ss=>match ss with
  |[]=>some .nil
  |s::ss=>(Uo n C s).bind fun m=>(rC n C ss).map fun ms=>.cons m ms
end
end Mini
end
section
namespace Mini
open PySem L2
def qX:List Str:=["isinstance","tuple","list","str","bool","int","dict","len","all","any","sorted","zip","range","enumerate"]
def Zi(X:Cx)(c:Cf)(g:Nat)(x:Str):Prop:=∃k f fd ps,bV X.prog X.w X.K X.mg X.base fZ k f fd ps (cA X.K ps.length (c.fn g))/\dC k X.A/\X.mg x=some (.ref f)/\PySem.W.keepIn X.K (.ref f)=true/\Binds X.K fd ps []/\∀sl,c.fn g sl=.bad\/sl.length=ps.length
structure jg(C:Ct)(X:Cx)(c:Cf):Prop where
 N:X.N=C.N
 sc:X.env.scope=C.sc
 nd:C.N.Nodup
 calm:X.calm=true
 hu:X.A.units+60<cLine
 bi:∀x∈qX,X.mg x=none
 gl:∀k x,C.gj[k]? =some x->∃d,c.gl k=some d/\acO X x d
 fn:∀g x fl,C.fns[g]? =some (x,fl)->Zi X c g x
structure Sd(X:Cx)(c:Cf)(m:E)(e:Expr):Prop where
 ge:GE X W0 c m e
 gt:GT X W0 c m e
 pl:plain e=true
 va:∀k,m.aB=some k->∃x p,e=.Name x p/\jL X k x
 nn:m.nD=false
theorem jy:∀{N:List Str}{x:Str}{k:Nat},ph N x=some k->N[k]? =some x
 |[],_,_,h=>by cases h
 |y::r,x,k,h=>by
  unfold ph at h
  split at h
  ·rename_i e;cases h;subst e;rfl
  ·cases q:ph r x with
   |none=>rw[q]at h;cases h
   |some j=>rw[q]at h;cases h;simpa using jy q
def V1{x:Str}(h:V2 sc x=true):JN sc x:=by
 unfold V2 at h
 unfold JN
 cases q:sc.names.lookup x with
 |none=>rw[q]at h;cases h
 |some k=>rw[q]at h;cases k<;>simp at h<;>simp
def FP(h:Iz x=true):(x==("__debug__":Str))=false/\(x==("__classdict__":Str))=false:=by
 unfold Iz at h
 rw[QUq]at h
 exact⟨by simpa using h.1,by simpa using h.2⟩
section
def nZ(O:jg C X c)(h:Bg C.sc x=true):Gl X x:=by
 unfold Bg at h
 show X.env.scope.names.lookup x=_
 rw[O.sc]
 simpa using h
def bB(h:plain e=true)es env:starEach (e::es) env=(false,eval e env)::starEach es env:=by
 cases e<;>first|rfl|exact absurd (h) Qjq
def sX(h:plain e=true)o:behindInMarks o e=false:=by
 cases e<;>first|rfl|exact absurd (h) Qjq
def yc(h:plain e=true)env x:foldedSetIterable e env x=pure x:=by
 cases e<;>first|rfl|exact absurd (h) Qjq
def Cp(h:plain e=true):yx e:=by
 intro o i
 cases e<;>first|rfl|exact absurd (h) Qjq
def tame:Expr->Bool
 |.UnaryOp .Not .. |.BoolOp .. |.IfExp .. |.Compare .. =>false
 |_=>true
def Nv(h:GE X W0 c m e)(hp:plain e=true)(ht:tame e=true):GT X W0 c m e:=by
 refine h.t fun whole=>?_
 cases e with
 |UnaryOp o a q=>cases o<;>first|rfl|exact absurd (ht) Qjq
 |_=>first|rfl|exact absurd (hp) Qjq|exact absurd (ht) Qjq
def Fg(O:jg C X c)(h:jU C x=some m):Sd X c m (.Name x p):=by
 unfold jU at h
 split at h
 ·rename_i nb
  obtain⟨n1,n2⟩:=FP nb
  cases q:ph C.N x with
  |some k=>
   rw[q]at h
   simp only at h
   split at h
   ·rename_i hv
    cases h
    have nm:jL X k x:=⟨by rw[O.N];exact jy q,by rw[O.sc];exact V1 hv,n1,n2⟩
    exact⟨nm.ge,Nv nm.ge rfl rfl,rfl,fun k' e=>by cases e;exact⟨x,p,rfl,nm⟩,rfl⟩
   ·cases h
  |none=>
   rw[q]at h
   simp only at h
   split at h
   ·rename_i hg
    cases q2:ph C.gj x with
    |none=>rw[q2]at h;cases h
    |some k=>
     rw[q2]at h
     cases h
     obtain⟨d,hk,ok⟩:=O.gl k x (jy q2)
     have ge:GE X W0 c _ (.Name x p):=S8 hk ok (nZ O hg) n1
     exact⟨ge,Nv ge rfl rfl,rfl,fun k' e=>(by cases e),rfl⟩
   ·cases h
 ·cases h
def FQ(O:jg C X c)(h:jU C x=some (.var k)):jL X k x:=by
 obtain⟨y,q,e,nm⟩:=(Fg (p:=default) O h).va k rfl
 cases e
 exact nm
inductive Al(X:Cx)(c:Cf):E->List Expr->Prop
 |nil:Al X c .nil []
 |cons {m ms:E} {e:Expr} {es:List Expr}:Sd X c m e->Al X c ms es->Al X c (.cons m ms) (e::es)
theorem Al.ga:∀{ms:E}{es:List Expr},Al X c ms es->GA X W0 c ms es
 |_,_,.nil=>Oe
 |_,_,.cons h t=>GC h.ge t.ga (bB h.pl _ _)
theorem Al.and{es:List Expr}:∀{m ms:E}{e:Expr},Al X c (.cons m ms) (e::es)->GE X W0 c (.and (.cons m ms)) (.BoolOp .And (e::es) pos)/\GW X W0 c (.and (.cons m ms)) (.BoolOp .And (e::es) pos):=by
 induction es with
 |nil=>intro m ms e h;cases h with|cons h t=>cases t;exact⟨Tf h.ge,SN h.gt⟩
 |cons e2 es ih=>intro m ms e h;cases h with|cons h t=>cases t with|cons h2 t=>exact⟨YB h.ge (ih (.cons h2 t)).1,Ye h.gt (ih (.cons h2 t)).2⟩
theorem Al.or{es:List Expr}:∀{m ms:E}{e:Expr},Al X c (.cons m ms) (e::es)->GE X W0 c (.or (.cons m ms)) (.BoolOp .Or (e::es) pos)/\GW X W0 c (.or (.cons m ms)) (.BoolOp .Or (e::es) pos):=by
 induction es with
 |nil=>intro m ms e h;cases h with|cons h t=>cases t;exact⟨Yq h.ge,X8 h.gt⟩
 |cons e2 es ih=>intro m ms e h;cases h with|cons h t=>cases t with|cons h2 t=>exact⟨ab7 h.ge (ih (.cons h2 t)).1,ab3 h.gt (ih (.cons h2 t)).2⟩
def Xo{q:Zg}(h:opB o=some q):o=abA q:=by
 cases o<;>first|(cases (h);rfl)|cases (h)
def DK{q:Cm}(h:cmB o=some q):o=fL q:=by
 cases o<;>first|(cases (h);rfl)|cases (h)
def O3{d:D}(h:O5 k=some d):FN d k=true:=by
 cases k<;>simp[O5]at h<;>subst h<;>simp[FN]
def V7(h:tyB x=some t):x=Str.ofString (tyN t)/\x∈qX:=by
 unfold tyB at h
 split at h
 ·rename_i e;cases h;subst e;exact⟨rfl,by decide⟩
 split at h
 ·rename_i e;cases h;subst e;exact⟨rfl,by decide⟩
 split at h
 ·rename_i e;cases h;subst e;exact⟨rfl,by decide⟩
 split at h
 ·rename_i e;cases h;subst e;exact⟨rfl,by decide⟩
 split at h
 ·rename_i e;cases h;subst e;exact⟨rfl,by decide⟩
 split at h
 ·rename_i e;cases h;subst e;exact⟨rfl,by decide⟩
 cases h
def Vn(O:jg C X c)(h:Z2 x=some bb)(hg:Bg C.sc x=true)(ha:Sd X c m a)(hd:bb=.dict->m.aB=none):GE X W0 c (.bi bb m) (.Call (.Name x p) [a] [] pos):=by
 have hs:=bB ha.pl [] X.env
 have hG:=nZ O hg
 unfold Z2 at h
 split at h
 ·rename_i e;cases h;subst e;exact xY JD Ra ha.ge ha.va hG (O.bi _ (by decide)) PySem.boot_len (by decide) (by decide) hs
 split at h
 ·rename_i e;cases h;subst e;exact Dm JF Rb ha.ge ha.va hG (O.bi _ (by decide)) PyProof.Rows.boot_int (by decide) (by decide) hs
 split at h
 ·rename_i e;cases h;subst e;exact Dm uW HW ha.ge ha.va hG (O.bi _ (by decide)) PyProof.Rows.boot_tuple (by decide) (by decide) hs
 split at h
 ·rename_i e;cases h;subst e;exact Dm (DX O.calm) K1 ha.ge ha.va hG (O.bi _ (by decide)) PyProof.Rows.boot_list (by decide) (by decide) hs
 split at h
 ·rename_i e;cases h;subst e;exact xY (JH O.calm) Rf ha.ge ha.va hG (O.bi _ (by decide)) PyProof.Rows.boot_all (by decide) (by decide) hs
 split at h
 ·rename_i e;cases h;subst e;exact xY (JG O.calm) Rc ha.ge ha.va hG (O.bi _ (by decide)) PyProof.Rows.boot_any (by decide) (by decide) hs
 split at h
 ·rename_i e;cases h;subst e;exact xY yr BP ha.ge ha.va hG (O.bi _ (by decide)) PyProof.Rows.boot_sorted (by decide) (by decide) hs
 split at h
 ·rename_i e;cases h;subst e;exact Tc O.calm ha.ge (hd rfl) hG (O.bi _ (by decide)) hs
 cases h
end
def BV{env:Env}(h:env.scope=outer):relabel sc env=rY sc outer:=by
 subst h
 rfl
def KJ{η N:List Str}(h:Wz outer inner η N=true):(rR η N).Nodup:=by
 unfold Wz at h
 simp only[QUq,QUz]at h
 exact h.1.1.1.1.1.1.2
def KH{η N:List Str}(h:Wz outer inner η N=true):JP outer inner η N:=by
 unfold Wz at h
 simp only[QUq,QUz,List.all_eq_true,Bool.or_eq_true,bne_iff_ne,beq_iff_eq,Bool.not_eq_true',ne_eq]at h
 obtain⟨⟨⟨⟨⟨⟨⟨h1,h2⟩,h3⟩,h4⟩,h5⟩,h6⟩,h7⟩,h8⟩:=h
 refine⟨h1,h2,fun x hx=>?_,fun p hp hl=>?_,h4,h5,fun p hp hf=>?_,fun x hx ht=>?_,fun hx=>?_⟩
 ·rcases h3 _ (PySem.mem_of_lookup hx)with z|z
  ·exact absurd rfl z
  ·rcases z.1 with z|z
   ·exact .inl (by simpa using z)
   ·exact .inr z
 ·rcases h3 p hp with z|z
  ·exact absurd hl z
  ·exact z.2
 ·rcases h6 p hp with (z|z)|z
  ·exact absurd hf z
  ·exact .inl z
  ·exact .inr z
 ·rcases h7 x hx with z|z
  ·rw[ht]at z;cases z
  ·simpa using z
 ·have:N.contains (".0")=true:=by simpa using hx
  rw[this]at h8;cases h8
section
variable{sc:Scope}
theorem jg.blk(O:jg C X c)(hs:Wz C.sc sc η C.N=true){fp:List Addr}{H₀:Hp}:jg {C with N:=rR η C.N,sc:=rY sc C.sc} (Mini.blk X sc cl (cg η X.N) fp s₀ H₀) c:=
 ⟨by show cg η X.N=rR η C.N;rw[O.N];rfl,BV O.sc,KJ hs,O.calm,O.hu,O.bi,O.gl,O.fn⟩
theorem sV{sc:Scope}{N:List Str}:∀{es:List Expr}{xs:List Str}(k:Nat),es.mapM uQ=some xs->(∀j x,xs[j]? =some x->N[k+j]? =some x)->(∀x∈xs,sc.names.lookup x=some .local)->iC sc N (List.range' k xs.length) es=true
 |[],xs,k,h,_,_=>by
  simp at h;subst h;rfl
 |e::es,xs,k,h,hN,hl=>by
  rw[List.mapM_cons]at h
  cases q:uQ e with
  |none=>rw[q]at h;cases h
  |some x=>
   rw[q]at h
   cases q2:es.mapM uQ with
   |none=>rw[q2]at h;cases h
   |some ys=>
    rw[q2]at h
    cases h
    cases e<;>simp[uQ]at q
    subst q
    rw[QAz,List.range'_succ]
    unfold iC
    rw[sV _ q2 (fun j y e=>by have:=hN (j+1) y (by simpa using e);rw[<-this];congr 1;omega) (fun y hy=>hl y (QYq _ hy))]
    have:=hN 0 _ rfl
    simp at this
    simp[this,hl _ QYz]
theorem sW:∀{es:List Expr}{xs:List Str},es.mapM uQ=some xs->(assignEach es env).length=xs.length/\(assignEach es env).findIdx? (·.1)=none
 |[],xs,h=>by simp at h;subst h;exact⟨rfl,rfl⟩
 |e::es,xs,h=>by
  rw[List.mapM_cons]at h
  cases q:uQ e with
  |none=>rw[q]at h;cases h
  |some x=>
   rw[q]at h
   cases q2:es.mapM uQ with
   |none=>rw[q2]at h;cases h
   |some ys=>
    rw[q2]at h
    cases h
    obtain⟨i1,i2⟩:=sW (env:=env) q2
    cases e<;>simp[uQ]at q
    constructor
    ·show(_::assignEach es env).length=_
     simp[i1]
    ·show(List.findIdx? (·.1) ((false,_)::assignEach es env))=none
     rw[List.findIdx?_cons]
     simp[i2]
def aaA(O:jg C X c){tgE:Expr}(ht:Wb tgE=some (η,tg))(hs:Wz C.sc sc η C.N=true):(∀i∈slots tg,i<η.length)/\∀(cl:List (Str×Addr))(fp:List Addr)(s₀:Shared)(H₀:Hp),GG (Mini.blk X sc cl (cg η X.N) fp s₀ H₀) tg tgE:=by
 have lc:∀x∈η,∀cl fp s₀ H₀,(Mini.blk X sc cl (cg η X.N) fp s₀ H₀).env.scope.names.lookup x=some .local:=fun x hx cl fp s₀ H₀=>lookup_relabel_local ((KH hs).tg x hx)
 have nd:∀cl fp s₀ H₀,(Mini.blk X sc cl (cg η X.N) fp s₀ H₀).N.Nodup:=fun cl fp s₀ H₀=>by
  rw[O.N]
  exact KJ hs
 cases tgE<;>simp only[Wb]at ht<;>try (cases ht;done)
 ·rename_i x q
  cases ht
  refine⟨fun i hi=>?_,fun cl fp s₀ H₀=>xX (nd cl fp s₀ H₀) rfl (.inl (lc x (by simp) cl fp s₀ H₀)) (.inr (lc x (by simp) cl fp s₀ H₀))⟩
  simp[slots]at hi
  subst hi
  simp
 ·rename_i es k q
  cases qm:es.mapM uQ with
  |none=>rw[qm]at ht;cases ht
  |some xs=>
   rw[qm]at ht
   cases ht
   refine⟨fun i hi=>by simpa[slots]using hi,fun cl fp s₀ H₀=>?_⟩
   obtain⟨l1,l2⟩:=sW qm
   refine Dg (nd cl fp s₀ H₀) O.calm (Ml ?_) (by simp[l1]) l2
   have:=sV (N:=(Mini.blk X sc cl (cg η X.N) fp s₀ H₀).N) 0 qm (fun j x e=>?_) (fun x hx=>lc x hx cl fp s₀ H₀)
   ·rwa[List.range_eq_range']
   ·show(cg η X.N)[0+j]? =some x
    unfold cg
    rw[Nat.zero_add,Qwq (QCq.mp e).1]
    exact e
end
inductive Ar(X:Cx)(c:Cf):E->List Expr->Prop
 |nil:Ar X c .nil []
 |cons {m ms:E} {e:Expr} {es:List Expr}:GE X W0 c m e->plain e=true->Ar X c ms es->Ar X c (.cons m ms) (e::es)
theorem Ar.ga{c:Cf}:∀{ms:E}{es:List Expr},Ar X c ms es->GA X W0 c ms es
 |_,_,.nil=>Oe
 |_,_,.cons h p t=>GC h t.ga (bB p _ _)
theorem Ar.plain{c:Cf}:∀{ms:E}{es:List Expr},Ar X c ms es->(backTo pos (starEach es X.env)).any (·.1)=false
 |_,_,.nil=>rfl
 |_,_,.cons h p t=>by
  rw[bB p]
  have:=t.plain (pos:=pos)
  simpa[backTo]using this
def El(X:Cx)(c:Cf)(m:E)(elt:Expr)(g:Comprehension)(sc:Scope):Prop:=
 ∃η tg it cond m',m=.comp η.length tg it cond m'/\Bb X c sc η tg cond m' g.target elt g.ifs/\GI X W0 c it g.target g.iter/\plain g.iter=true/\g.is_async=0
structure Ih(c:Cf)(n:Nat):Prop where
 e:∀C X e m,jg C X c->dZ n C e=some m->Sd X c m e
 es:∀C X es m,jg C X c->wR n C es=some m->Al X c m es
 a:∀C X fl es m,jg C X c->Hv n C fl es=some m->Ar X c m es
 o:∀C X o m,jg C X c->Zy n C o=some m->GO X W0 c m o
 b:∀C X x args m p pos,jg C X c->Bg C.sc x=true->trB n C x args=some m->GE X W0 c m (.Call (.Name x p) args [] pos)/\m.aB=none/\m.nD=false
 i:∀C X tg e m,jg C X c->Zz n C e=some m->GI X W0 c m tg e/\plain e=true
 k:∀C X elt g sc m,jg C X c->trC n C elt g sc=some m->El X c m elt g sc
 d:∀C X ks vs m,jg C X c->Hu n C ks vs=some m->∃nC,Kv X W0 c m ks vs nC/\ks.all (·.isSome)=true
def ih0 c:Ih c 0:=by
 constructor
 all_goals (intros;rename_i h;first|(rw[dZ]at h;cases h)|(rw[wR]at h;cases h)|(rw[Hv]at h;cases h)|(rw[Zy]at h;cases h)|(rw[trB]at h;cases h)|(rw[Zz]at h;cases h)|(rw[trC]at h;cases h)|(rw[Hu]at h;cases h))
section
def QQ(I:Ih c n)(O:jg C X c)(h:wR (n+1) C es=some m):Al X c m es:=by
 cases es with
 |nil=>rw[wR]at h;cases h;exact .nil
 |cons e es=>
  rw[wR]at h
  simp only[QJq,QJz]at h
  obtain⟨m1,h1,m2,h2,rfl⟩:=h
  exact .cons (I.e C X e m1 O h1) (I.es C X es m2 O h2)
def Wq(I:Ih c n)(O:jg C X c){vs:List Expr}(h:Hu (n+1) C ks vs=some m):∃nC,Kv X W0 c m ks vs nC/\ks.all (·.isSome)=true:=by
 unfold Hu at h
 split at h
 ·cases h;exact⟨[],.nil,rfl⟩
 ·simp only[QJq,QJz]at h
  obtain⟨k1,h1,v1,h2,r,h3,rfl⟩:=h
  obtain⟨nC,K,a⟩:=I.d C X _ _ r O h3
  exact⟨_,.cons (I.e C X _ k1 O h1).ge (I.e C X _ v1 O h2).ge K,by simpa using a⟩
 ·cases h
def Wl(I:Ih c n)(O:jg C X c)(h:Zy (n+1) C o=some m):GO X W0 c m o:=by
 cases o with
 |none=>rw[Zy]at h;cases h;exact .inl ⟨rfl,rfl⟩
 |some e=>
  have s:=I.e C X e m O h
  exact .inr ⟨e,rfl,s.nn,s.ge⟩
def Ws(I:Ih c n)(O:jg C X c){es:List Expr}(h:Hv (n+1) C fl es=some m):Ar X c m es:=by
 cases fl with
 |nil=>
  cases es with
  |nil=>rw[Hv]at h;cases h;exact .nil
  |cons e es=>rw[Hv]at h<;>first|cases h|(intros;simp_all)
 |cons f fl=>
  cases es with
  |nil=>rw[Hv]at h<;>first|cases h|(intros;simp_all)
  |cons e es=>
   cases f with
   |false=>
    rw[Hv]at h
    simp only[QJq,QJz]at h
    obtain⟨m1,h1,m2,h2,rfl⟩:=h
    have s:=I.e C X e m1 O h1
    exact .cons s.ge s.pl (I.a C X fl es m2 O h2)
   |true=>
    by_cases hN:∃x p,e=.Name x p
    ·obtain⟨x,p,rfl⟩:=hN
     rw[Hv]at h
     simp only[QJq,QJz]at h
     obtain⟨m1,⟨m3,h3,h4⟩,m2,h2,rfl⟩:=h
     split at h4
     ·cases h4
      exact .cons (Yp (FQ O h3)) rfl (I.a C X fl es m2 O h2)
     ·cases h4
    ·rw[Hv]at h
     ·simp only[QJq,QJz]at h
      obtain⟨m1,⟨m3,h3,rfl⟩,m2,h2,rfl⟩:=h
      have s:=I.e C X e m3 O h3
      exact .cons (Yn s.ge) s.pl (I.a C X fl es m2 O h2)
     ·exact fun x p z=>hN ⟨x,p,z⟩
def WL{x:Str}(O:jg C X c)(h:(decide (x="range")&&Bg C.sc x&&(fnAt C x).isNone)=true):x="range"/\Gl X "range":=by
 simp only[QUq,QUz]at h
 obtain⟨⟨rfl,h2⟩,_⟩:=h
 exact⟨rfl,nZ O h2⟩
def aai{x:Str}(O:jg C X c)(h:(decide (x="zip")&&Bg C.sc x&&(fnAt C x).isNone)=true):x="zip"/\Gl X "zip":=by
 simp only[QUq,QUz]at h
 obtain⟨⟨rfl,h2⟩,_⟩:=h
 exact⟨rfl,nZ O h2⟩
def Wn(I:Ih c n)(O:jg C X c)(h:Zz (n+1) C e=some m):GI X W0 c m tg e/\plain e=true:=by
 have dflt:dZ n C e=some m->GI X W0 c m tg e/\plain e=true:=fun h=>let s:=I.e C X e m O h;⟨ab6 s.ge,s.pl⟩
 unfold Zz at h
 split at h
 ·split at h
  ·split at h
   ·rename_i hr
    obtain⟨rfl,hg⟩:=WL O hr
    simp only[QJz]at h
    obtain⟨m1,h1,rfl⟩:=h
    have s:=I.e C X _ m1 O h1
    exact⟨Jx s.ge hg (O.bi _ (by decide)) (bB s.pl _ _),rfl⟩
   ·exact dflt h
  ·split at h
   ·rename_i hr
    obtain⟨rfl,hg⟩:=aai O hr
    simp only[QJq,QJz]at h
    obtain⟨m1,h1,m2,h2,rfl⟩:=h
    have s1:=I.e C X _ m1 O h1
    have s2:=I.e C X _ m2 O h2
    exact⟨Yk s1.ge s2.ge hg (O.bi _ (by decide)) (by rw[bB s1.pl,bB s2.pl];rfl) (bB s2.pl _ _),rfl⟩
   ·exact dflt h
  ·exact dflt h
 ·exact dflt h
def Wm(I:Ih c n)(O:jg C X c){g:Comprehension}(h:trC (n+1) C elt g sc=some m):El X c m elt g sc:=by
 rw[trC]at h
 split at h
 ·rename_i ha
  simp only[QJq]at h
  obtain⟨⟨η,tg⟩,ht,h⟩:=h
  split at h
  ·rename_i hs
   simp only[QJq,QJz]at h
   obtain⟨it,h1,cond,h2,m',h3,rfl⟩:=h
   obtain⟨sm,gg⟩:=aaA O ht hs
   obtain⟨gi,gp⟩:=I.i C X g.target g.iter it O h1
   refine⟨η,tg,it,cond,m',rfl,⟨by rw[O.sc,O.N];exact KH hs,sm,fun cl fp s₀ H₀ _=>gg cl fp s₀ H₀,?_,fun cl fp s₀ H₀ _=>(I.e _ _ elt m' (O.blk hs) h3).ge⟩,gi,gp,ha⟩
   split at h2
   ·rename_i hi
    cases h2
    exact .inl ⟨hi,rfl⟩
   ·rename_i ce hi
    exact .inr ⟨ce,hi,fun cl fp s₀ H₀ _=>(I.e _ _ ce cond (O.blk hs) h2).gt⟩
   ·cases h2
  ·cases h
 ·cases h
end
section
theorem Mf(I:Ih c n)(O:jg C X c){a:Expr}(hg:Bg C.sc x=true)(h:((Z2 x).bind fun b=>(dZ n C a).bind fun m=>if (decide (b=.dict)&&m.aB.isSome)=true then some (E.bi b (.rd m))else some (E.bi b m))=some m):
  GE X W0 c m (.Call (.Name x p) [a] [] pos)/\m.aB=none/\m.nD=false:=by
 simp only[QJq]at h
 obtain⟨bb,h1,m1,h2,h3⟩:=h
 split at h3
 ·cases h3
  have s:=I.e C X a m1 O h2
  exact⟨Vn O h1 hg ⟨(fun env=>PE.imp (s.ge env) fun σ H Q q=>by simpa only[aao]using q),fun γ sh σ H Q I⟨env,q⟩=>s.gt γ sh σ H Q I ⟨env,by simpa only[aao]using q⟩,s.pl,fun k z=>(by cases z),rfl⟩ fun _=>rfl,rfl,rfl⟩
 ·rename_i hn
  cases h3
  refine⟨Vn O h1 hg (I.e C X a m1 O h2) (fun z=>?_),rfl,rfl⟩
  subst z
  cases q:m1.aB with
  |none=>rfl
  |some k=>rw[q]at hn;exact absurd rfl hn
def Wr(I:Ih c n)(O:jg C X c){args:List Expr}(hg:Bg C.sc x=true)(h:trB (n+1) C x args=some m):GE X W0 c m (.Call (.Name x p) args [] pos)/\m.aB=none/\m.nD=false:=by
 unfold trB at h
 split at h
 ·--isinstance
  split at h
  ·rename_i hx
   subst hx
   split at h
   ·split at h
    ·rename_i hy
     simp only[QJq,QJz]at h
     obtain⟨t,h1,m1,h2,rfl⟩:=h
     have s:=I.e C X _ m1 O h2
     obtain⟨e1,e2⟩:=V7 h1
     exact⟨Yv s.ge e1 (nZ O hy) (O.bi _ e2) (nZ O hg) (O.bi _ (by decide)) (bB s.pl _ _),rfl,rfl⟩
    ·cases h
   ·cases h
  ·cases h
 ·split at h
  ·split at h
   ·split at h
    ·rename_i hz
     obtain⟨rfl,hgz⟩:=aai O hz
     split at h
     ·rename_i hx
      subst hx
      simp only[QJq,QJz]at h
      obtain⟨m1,h1,m2,h2,rfl⟩:=h
      have s1:=I.e C X _ m1 O h1
      have s2:=I.e C X _ m2 O h2
      exact⟨Dl O.calm s1.ge s2.ge hgz (O.bi _ (by decide)) (by rw[bB s1.pl,bB s2.pl];rfl) (bB s2.pl _ _) (nZ O hg) (O.bi _ (by decide)) rfl,rfl,rfl⟩
     ·split at h
      ·rename_i hx
       subst hx
       simp only[QJq,QJz]at h
       obtain⟨m1,h1,m2,h2,rfl⟩:=h
       have s1:=I.e C X _ m1 O h1
       have s2:=I.e C X _ m2 O h2
       exact⟨Dj O.calm s1.ge s2.ge hgz (O.bi _ (by decide)) (by rw[bB s1.pl,bB s2.pl];rfl) (bB s2.pl _ _) (nZ O hg) (O.bi _ (by decide)) rfl,rfl,rfl⟩
      ·cases h
    ·exact Mf I O hg h
   ·exact Mf I O hg h
  ·exact Mf I O hg h
 ·cases h
def gW(ge:GE X W0 c m e)(hp:plain e=true)(hv:m.aB=none)(hi:m.nD=false)(ht:tame e=true):Sd X c m e:=
 ⟨ge,Nv ge hp ht,hp,fun k z=>(by rw[hv]at z;cases z),hi⟩
def hu1(O:jg C X c):X.A.units+1<cLine:=by have:=O.hu;omega
def Ti{g:Nat}(h:fnAt C x=some (g,fl)):C.fns[g]? =some (x,fl):=by
 unfold fnAt at h
 simp only[QJq,QJz]at h
 obtain⟨g',h1,⟨y,fl'⟩,h2,h3⟩:=h
 cases h3
 have:=jy h1
 rw[QEz,h2]at this
 simp at this
 rw[h2,this]
def oG{name:Str}(h:isCall o=false):attributeBase o name env (eval o env)=eval o env:=by
 cases o<;>first|rfl|simp[isCall]at h
def Wo(I:Ih c n)(O:jg C X c)(h:dZ (n+1) C e=some m):Sd X c m e:=by
 have no:∀{P:Prop},none=some m->P:=fun z=>nomatch z
 unfold dZ at h
 split at h
 ·simp only[QJz]at h
  obtain⟨d,h1,rfl⟩:=h
  exact gW (Yy (O3 h1)) rfl rfl rfl rfl
 ·exact Fg O h
 ·simp only[QJz]at h
  obtain⟨m1,h1,rfl⟩:=h
  exact gW (Ym (I.es C X _ m1 O h1).ga) rfl rfl rfl rfl
 ·simp only[QJz]at h
  obtain⟨m1,h1,rfl⟩:=h
  exact gW (Yt (I.es C X _ m1 O h1).ga) rfl rfl rfl rfl
 ·simp only[QJq,QJz]at h
  obtain⟨o,h0,m1,h1,m2,h2,rfl⟩:=h
  rw[Xo h0]
  exact gW (ab8 (I.e C X _ m1 O h1).ge (I.e C X _ m2 O h2).ge) rfl rfl rfl rfl
 ·split at h
  ·simp only[QJz]at h
   obtain⟨m1,h1,rfl⟩:=h
   exact gW (Ys (I.e C X _ m1 O h1).ge) rfl rfl rfl rfl
  ·simp only[QJz]at h
   obtain⟨m1,h1,rfl⟩:=h
   have s:=I.e C X _ m1 O h1
   exact⟨Yr s.ge,Yb s.gt,rfl,fun k z=>(by cases z),rfl⟩
  ·exact no h
 ·simp only[QJq]at h
  obtain⟨m1,h1,h2⟩:=h
  split at h2
  ·exact no h2
  ·rename_i hn
   cases (I.es C X _ m1 O h1)with
   |nil=>exact absurd rfl hn
   |cons s t=>
    split at h2
    ·cases h2
     exact⟨(Al.cons s t).and.1,(Al.cons s t).and.2.t,rfl,fun k z=>(by cases z),rfl⟩
    ·cases h2
     exact⟨(Al.cons s t).or.1,(Al.cons s t).or.2.t,rfl,fun k z=>(by cases z),rfl⟩
 ·split at h
  ·simp only[QJq,QJz]at h
   obtain⟨o,h0,m1,h1,m2,h2,rfl⟩:=h
   rw[DK h0]
   have s1:=I.e C X _ m1 O h1
   have s2:=I.e C X _ m2 O h2
   exact⟨Yz (oX O.hu o) s1.ge s2.ge s2.va (sX s2.pl _),Yd (oX O.hu o) s1.ge s2.ge s2.va (sX s2.pl _),rfl,fun k z=>(by cases z),rfl⟩
  ·simp only[QJq,QJz]at h
   obtain⟨o,h0,o2,h02,m1,h1,m2,h2,m3,h3,rfl⟩:=h
   rw[DK h0,DK h02]
   have s1:=I.e C X _ m1 O h1
   have s2:=I.e C X _ m2 O h2
   have s3:=I.e C X _ m3 O h3
   have hm:∀b,lastMarks [fL o,fL o2] [b,_]=false:=fun b=>sX s3.pl _
   exact⟨Od (oX O.hu o) (oX O.hu o2) s1.ge s2.ge s3.ge (hm _),Ny (oX O.hu o) (oX O.hu o2) s1.ge s2.ge s3.ge (hm _),rfl,fun k z=>(by cases z),rfl⟩
  ·exact no h
 ·simp only[QJq,QJz]at h
  obtain⟨m1,h1,m2,h2,m3,h3,rfl⟩:=h
  have s1:=I.e C X _ m1 O h1
  have s2:=I.e C X _ m2 O h2
  have s3:=I.e C X _ m3 O h3
  exact⟨Yu s1.gt s2.ge s3.ge,Yc s1.gt s2.gt s3.gt,rfl,fun k z=>(by cases z),rfl⟩
 ·split at h
  ·split at h
   ·simp only[QJq,QJz]at h
    obtain⟨m1,h1,m2,h2,m3,h3,rfl⟩:=h
    exact gW (Yo (I.e C X _ m1 O h1).ge (I.o C X _ m2 O h2) (I.o C X _ m3 O h3)) rfl rfl rfl rfl
   ·exact no h
  ·simp only[QJq,QJz]at h
   obtain⟨m1,h1,m2,h2,rfl⟩:=h
   have s1:=I.e C X _ m1 O h1
   have s2:=I.e C X _ m2 O h2
   exact gW (Yw (by have:=O.hu;omega) s1.ge s2.ge s1.va (Cp s2.pl)) rfl rfl rfl rfl
 ·split at h
  ·split at h
   ·split at h
    ·rename_i hx
     rw[QUq]at hx
     split at h
     ·rename_i g fl hf
      simp only[QJq]at h
      obtain⟨m1,h1,h2⟩:=h
      split at h2
      ·exact no h2
      ·rename_i hn
       cases h2
       obtain⟨k,f,fd,ps,F,hr,hm,hk,hb,hl⟩:=O.fn g _ fl (Ti hf)
       cases (I.a C X _ _ m1 O h1)with
       |nil=>exact absurd rfl hn
       |cons ge pl t=>
        exact gW (Te F hr (nZ O hx.2) hm hk hb (FP hx.1).1 (Ar.cons ge pl t).ga (bB pl _ _) t.plain hl) rfl rfl rfl rfl
     ·obtain⟨ge,h1,h2⟩:=I.b C X _ _ m _ _ O hx.2 h
      exact gW ge rfl h1 h2 rfl
    ·exact no h
   ·split at h
    ·rename_i hl
     split at h
     ·split at h
      ·rename_i hx
       subst hx
       simp only[QJq,QJz]at h
       obtain⟨m1,h1,u,h0,m2,h2,rfl⟩:=h
       split at h0
       ·rename_i hp
        rw[QUq]at hp
        have s2:=I.e C X _ m2 O h2
        exact gW (Oc ⟨oG (by simpa using hp.2),hl,bB s2.pl _ _⟩ (I.e C X _ m1 O h1).ge s2.ge) rfl rfl rfl rfl
       ·cases h0
      ·split at h
       ·rename_i hx
        subst hx
        split at h
        ·simp only[QJq]at h
         obtain⟨v,h1,h2⟩:=h
         split at h2
         ·simp only[QJz]at h2
          obtain⟨m2,h3,rfl⟩:=h2
          have s2:=I.e C X _ m2 O h3
          exact gW (N8 ⟨rfl,hl,bB s2.pl _ _⟩ (FQ O h1) s2.ge) rfl rfl rfl rfl
         ·exact no h2
        ·exact no h
       ·exact no h
     ·split at h
      ·rename_i hx
       subst hx
       simp only[QJq,QJz]at h
       obtain⟨m1,h1,u,h0,m2,h2,m3,h3,rfl⟩:=h
       split at h0
       ·rename_i hp
        rw[QUq]at hp
        have s1:=I.e C X _ m1 O h1
        have s2:=I.e C X _ m2 O h2
        have s3:=I.e C X _ m3 O h3
        exact gW (S9 (hu1 O) ⟨oG (by simpa using hp.2),by rw[bB s2.pl,bB s3.pl];rfl,hl,by rw[bB s2.pl,bB s3.pl];rfl⟩ s1.va s1.ge s2.ge s3.ge) rfl rfl rfl rfl
       ·cases h0
      ·exact no h
     ·exact no h
    ·exact no h
   ·exact no h
  ·exact no h
 ·split at h
  ·rename_i hx
   simp only[QUq,List.isEmpty_iff]at hx
   obtain⟨rfl,rfl⟩:=hx
   cases h
   exact gW Oa rfl rfl rfl rfl
  ·split at h
   ·rename_i hx
    simp only[QUq,QUz]at hx
    simp only[QJz]at h
    obtain⟨m1,h1,rfl⟩:=h
    obtain⟨nC,K,a⟩:=I.d C X _ _ m1 O h1
    exact gW (Yx (by have:=O.hu;omega) K a hx.1.1 (fun z=>by rw[z]at hx;simp at hx) hx.1.2) rfl rfl rfl rfl
   ·exact no h
 ·split at h
  ·rename_i elt sc pos g
   obtain⟨η,tg,it,cond,m',rfl,B,gi,gp,ha⟩:=I.k C X _ _ _ m O h
   obtain⟨ta,ti,tf,tn⟩:=g
   subst ha
   exact gW (Td B gi O.calm (fun x=>yc gp _ _)) rfl rfl rfl rfl
  ·exact no h
 ·exact no h
end
theorem ih c:∀n,Ih c n
 |0=>ih0 c
 |n+1=>let I:=ih c n
  ⟨fun C X e m O h=>Wo I O h,fun C X es m O h=>QQ I O h,fun C X fl es m O h=>Ws I O h,fun C X o m O h=>Wl I O h,fun C X x args m p pos O hg h=>Wr I O hg h,fun C X tg e m O h=>Wn I O h,fun C X elt g sc m O h=>Wm I O h,fun C X ks vs m O h=>Wq I O h⟩
def NE{α:Type}(r:Out α):Prop:=∀k σ,r≠ .exc k σ
section
theorem NE.ok(a:α)σ:NE (.ok a σ):=fun _ _ z=>nomatch z
theorem NE.bad:NE (.bad:Out α):=fun _ _ z=>nomatch z
theorem NE.lift σ(o:Option α):NE (lift σ o):=by cases o<;>(intro _ _ z;cases z)
theorem NE.bind{f:α->Ev->Out β}(h:NE r)(g:∀a σ,NE (f a σ)):NE (r.bind f):=by
 cases r with
 |ok a σ=>exact g a σ
 |exc k σ=>exact absurd rfl (h k σ)
 |bad=>exact NE.bad
theorem NE.au{f:D->Ev->Out β}(h:NE r)(g:∀a σ,NE (f a σ)):NE (r.au f):=by
 cases r with
 |ok a σ=>cases a<;>first|exact g _ _|exact NE.bad
 |exc k σ=>exact absurd rfl (h k σ)
 |bad=>exact NE.bad
theorem NE.cM{r:Out Rv}{f:Bool->Ev->Out β}(h:NE r)(g:∀a σ,NE (f a σ)):NE (r.cM tr f):=
 NE.au h fun d σ=>by
  cases tr d with
  |none=>exact NE.bad
  |some b=>exact g b σ
def NE.ite{p:Prop}[Decidable p]{a b:Out α}(h:NE a)(g:NE b):NE (if p then a else b):=by split<;>assumption
end
def R6 c f as σ:NE (uo c f as σ):=by
 unfold uo
 split
 ·exact NE.bad
 ·split
  ·split
   ·exact NE.ok _ _
   ·exact NE.bad
  ·exact NE.bad
def Xp k y σ:NE (sH k y σ):=by
 unfold sH
 split
 ·refine NE.ite NE.bad ?_
  split
  ·split
   ·exact NE.ok _ _
   ·exact NE.bad
  ·exact NE.bad
 ·exact NE.bad
def R5 k σ:NE (rZ k σ):=by
 unfold rZ
 split<;>first|exact NE.ok _ _|exact NE.bad
def xN(c:Cf):∀(m:E)(σ:Ev),NE (ev c m σ)/\NE (evs c m σ)/\NE (iD c m σ)/\NE (oh c m σ):=by
 have k3:∀{m:E},(∀σ,NE (ev c m σ))->(∀σ,evs c m σ=.bad)->(∀σ,iD c m σ=.bad)->(∀σ,oh c m σ=.bad)->∀σ,NE (ev c m σ)/\NE (evs c m σ)/\NE (iD c m σ)/\NE (oh c m σ):=fun h a b d σ=>by
  rw[a,b,d]
  exact⟨h σ,NE.bad,NE.bad,NE.bad⟩
 intro m
 induction m with
 |var i=>exact k3 (fun σ=>R5 i σ) (fun _=>rfl) (fun _=>rfl) fun _=>rfl
 |con d=>exact k3 (fun σ=>NE.ok _ _) (fun _=>rfl) (fun _=>rfl) fun _=>rfl
 |glob k=>exact k3 (fun σ=>by rw[v_2];split<;>first|exact NE.ok _ _|exact NE.bad) (fun _=>rfl) (fun _=>rfl) fun _=>rfl
 |nil=>exact fun σ=>⟨NE.bad,NE.ok _ _,NE.bad,NE.bad⟩
 |cons h t ih jh=>
  intro σ
  refine⟨NE.bad,NE.bind (ih σ).1 fun x σ=>NE.bind (jh σ).2.1 fun _ _=>NE.ok _ _,?_,?_⟩
  ·cases t with
   |nil=>exact(ih σ).1
   |_=>exact NE.au (ih σ).1 fun x σ=>(by split<;>first|exact(jh σ).2.2.1|exact NE.ok _ _|exact NE.bad)
  ·cases t with
   |nil=>exact(ih σ).1
   |_=>exact NE.au (ih σ).1 fun x σ=>(by split<;>first|exact(jh σ).2.2.2|exact NE.ok _ _|exact NE.bad)
 |tup es ih=>exact k3 (fun σ=>NE.bind (ih σ).2.1 fun _ _=>NE.lift _ _) (fun _=>rfl) (fun _=>rfl) fun _=>rfl
 |lis es ih=>exact k3 (fun σ=>NE.bind (ih σ).2.1 fun _ _=>NE.lift _ _) (fun _=>rfl) (fun _=>rfl) fun _=>rfl
 |op o a b ih jh=>exact k3 (fun σ=>NE.au (ih σ).1 fun _ σ=>NE.au (jh σ).1 fun _ _=>NE.lift _ _) (fun _=>rfl) (fun _=>rfl) fun _=>rfl
 |neg a ih=>exact k3 (fun σ=>NE.au (ih σ).1 fun _ σ=>NE.lift _ _) (fun _=>rfl) (fun _=>rfl) fun _=>rfl
 |cmp o a b ih jh=>exact k3 (fun σ=>NE.au (ih σ).1 fun _ σ=>by split<;>first|exact NE.lift _ _|exact NE.au (jh σ).1 fun _ _=>NE.lift _ _) (fun _=>rfl) (fun _=>rfl) fun _=>rfl
 |chain o p a b d ih jh kh=>exact k3 (fun σ=>NE.au (ih σ).1 fun _ σ=>NE.au (jh σ).1 fun _ σ=>NE.bind (NE.lift _ _) fun _ σ=>NE.ite (NE.au (kh σ).1 fun _ _=>NE.lift _ _) (NE.ok _ _)) (fun _=>rfl) (fun _=>rfl) fun _=>rfl
 |and es ih=>exact k3 (fun σ=>(ih σ).2.2.1) (fun _=>rfl) (fun _=>rfl) fun _=>rfl
 |or es ih=>exact k3 (fun σ=>(ih σ).2.2.2) (fun _=>rfl) (fun _=>rfl) fun _=>rfl
 |not a ih=>exact k3 (fun σ=>NE.cM (ih σ).1 fun _ _=>NE.ok _ _) (fun _=>rfl) (fun _=>rfl) fun _=>rfl
 |ite t a b ih jh kh=>exact k3 (fun σ=>NE.cM (ih σ).1 fun _ σ=>NE.ite (jh σ).1 (kh σ).1) (fun _=>rfl) (fun _=>rfl) fun _=>rfl
 |idx a i ih jh=>exact k3 (fun σ=>by rw[V4];split<;>first|exact NE.ite NE.bad (NE.au (jh σ).1 fun _ _=>NE.lift _ _)|exact NE.au (ih σ).1 fun _ σ=>NE.au (jh σ).1 fun _ _=>NE.lift _ _) (fun _=>rfl) (fun _=>rfl) fun _=>rfl
 |slc a lo hi ih jh kh=>exact k3 (fun σ=>NE.au (ih σ).1 fun _ σ=>NE.au (jh σ).1 fun _ σ=>by split<;>first|exact NE.bad|exact NE.au (kh σ).1 fun _ _=>NE.lift _ _) (fun _=>rfl) (fun _=>rfl) fun _=>rfl
 |noneE=>exact k3 (fun σ=>NE.ok _ _) (fun _=>rfl) (fun _=>rfl) fun _=>rfl
 |call f as ih=>exact k3 (fun σ=>NE.bind (ih σ).2.1 fun _ _=>R6 _ _ _ _) (fun _=>rfl) (fun _=>rfl) fun _=>rfl
 |ref i=>exact k3 (fun σ=>by rw[aap];split<;>first|exact NE.ok _ _|exact NE.bad) (fun _=>rfl) (fun _=>rfl) fun _=>rfl
 |tmp e ih=>exact k3 (fun σ=>NE.bind (ih σ).1 fun _ _=>NE.lift _ _) (fun _=>rfl) (fun _=>rfl) fun _=>rfl
 |rd e ih=>exact k3 (fun σ=>(ih σ).1) (fun _=>rfl) (fun _=>rfl) fun _=>rfl
 |isi a t ih=>exact k3 (fun σ=>NE.au (ih σ).1 fun _ _=>NE.ok _ _) (fun _=>rfl) (fun _=>rfl) fun _=>rfl
 |bi b a ih=>exact k3 (fun σ=>by rw[uH];split<;>first|exact NE.lift _ _|exact NE.au (ih σ).1 fun _ _=>NE.lift _ _) (fun _=>rfl) (fun _=>rfl) fun _=>rfl
 |range1 a ih=>exact k3 (fun σ=>NE.au (ih σ).1 fun _ _=>NE.lift _ _) (fun _=>rfl) (fun _=>rfl) fun _=>rfl
 |zip a b ih jh=>exact k3 (fun σ=>NE.au (ih σ).1 fun _ σ=>NE.au (jh σ).1 fun _ _=>NE.lift _ _) (fun _=>rfl) (fun _=>rfl) fun _=>rfl
 |count a b ih jh=>exact k3 (fun σ=>NE.au (ih σ).1 fun _ σ=>NE.ite NE.bad (NE.au (jh σ).1 fun _ _=>NE.lift _ _)) (fun _=>rfl) (fun _=>rfl) fun _=>rfl
 |popAt i a ih=>exact k3 (fun σ=>NE.ite NE.bad (NE.au (ih σ).1 fun _ _=>Xp _ _ _)) (fun _=>rfl) (fun _=>rfl) fun _=>rfl
 |get2 a b d ih jh kh=>
  refine k3 (fun σ=>?_) (fun _=>rfl) (fun _=>rfl) fun _=>rfl
  rw[V3]
  split
  ·exact NE.ite NE.bad (NE.au (jh σ).1 fun _ σ=>NE.au (kh σ).1 fun _ _=>NE.lift _ _)
  ·exact NE.bad
 |dsp es ih=>exact k3 (fun σ=>NE.bind (ih σ).2.1 fun _ _=>NE.lift _ _) (fun _=>rfl) (fun _=>rfl) fun _=>rfl
 |emp=>exact k3 (fun σ=>NE.ok _ _) (fun _=>rfl) (fun _=>rfl) fun _=>rfl
 |comp nl tg it cond elt ih _ _=>
  refine k3 (fun σ=>?_) (fun _=>rfl) (fun _=>rfl) fun _=>rfl
  rw[rm]
  refine NE.au (ih σ).1 fun _ σ=>?_
  split
  ·split
   ·exact NE.ok _ _
   ·exact NE.bad
  ·exact NE.bad
section
def GE.w(h:GE X W0 c m e):GE X W c m e:=fun env=>PE.imp (h env) fun σ H Q⟨S,q⟩=>by
 refine⟨S,?_⟩
 cases r:ev c m env with
 |exc k ζ=>exact absurd r ((xN c m env).1 k ζ)
 |_=>rw[r]at q;exact q
def GA.w(h:GA X W0 c m es):GA X W c m es:=fun env p γ s σ H R I q=>h env p γ s σ H R I (by
 obtain⟨S,q⟩:=q
 refine⟨S,?_⟩
 cases r:evs c m env with
 |exc k ζ=>exact absurd r ((xN c m env).2.1 k ζ)
 |_=>rw[r]at q;exact q)
def GT.w(h:GT X W0 c m e):GT X W c m e:=PT.imp h fun σ H Q⟨env,S,q⟩=>by
 refine⟨env,S,?_⟩
 cases r:ev c m env with
 |exc k ζ=>exact absurd r ((xN c m env).1 k ζ)
 |_=>rw[r]at q;exact q
def GI.w(h:GI X W0 c m tg e):GI X W c m tg e:=fun env γ s σ H R I q=>h env γ s σ H R I (by
 obtain⟨S,q⟩:=q
 refine⟨S,?_⟩
 cases r:ev c m env with
 |exc k ζ=>exact absurd r ((xN c m env).1 k ζ)
 |_=>rw[r]at q;exact q)
end
structure Top(C:Ct)(X:Cx)(W:Wi)(c:Cf):Prop where
 fn:∀x,X.fn x=true
 po:PassesOwn (model X.prog X.w) X.A X.env X.xe
 ra:∀e f p n m,Uo (n+1) C (.Raise e f p)=some m->GS X W c m (.Raise e f p)
 cx:∀f args kw cp p n m,Ih c n->rzB C f=true->trX n C f args kw=some m->GS X W c m (.Expr (.Call f args kw cp) p)
section
theorem Tr(O:jg C X c):∀{n:Nat}{elt:Expr}{gens:List Comprehension}{sc:Scope}{pos:Pos},dZ n C (.ListComp elt gens sc pos)=some m->∃g,gens=[g]/\El X c m elt g sc
 |0,_,_,_,_,h=>by rw[dZ]at h;cases h
 |n+1,elt,gens,sc,pos,h=>by
  unfold dZ at h
  simp only at h
  split at h
  ·exact⟨_,rfl,(ih c n).k C X _ _ _ m O h⟩
  ·cases h
def sY(O:jg C X c)(h:Jc C.sc x=true):Loc X.env.scope x:=by
 unfold Jc at h
 rw[O.sc]
 rw[Bool.or_eq_true]at h
 rcases h with h|h
 ·exact .inl (by simpa using h)
 ·exact .inr (by simpa using h)
def nH{t:Option Expr}{env:Env}(hp:plain e=true)(hc:pq e=false):swapsWith e t l env=pure false:=by
 cases e<;>first|rfl|exact absurd (hp) Qjq|exact absurd (hc) (fun h=>Qjq h.symm)
def Bs{es:List Expr}{q:Pos}(h:isTup e=false):swappedStores [.Tuple es k q] e env=pure none:=by
 cases e<;>first|rfl|exact absurd (h) (fun h=>Qjq h.symm)
def yW{q:Pos}:swappedStores [.Subscript o i q] e env=pure none:=by
 cases e<;>rfl
def Fd{l:Nat}:swapsWithSole [t] e l env=swapsWith e (some t) l env:=rfl
def TV{tp:Pos}{v:Value}(h:isSlice i=false):assign (.Subscript o i tp) env v=(do
   let ov<-holding [v] (eval o env)
   let iv<-holding [v,ov] (eval i env)
   standAt tp
   holding [v,ov,iv] (setItem ov iv v)
   release [v,ov,iv] []):=by
 cases i<;>first|rfl|(simp[isSlice]at h;done)
theorem rO(O:jg C X c)(T:Top C X W c):∀{es:List Expr}{is:List Nat},slotsOf C es=some is->uB X is es/\(assignEach es X.env).length=is.length/\(assignEach es X.env).findIdx? (·.1)=none
 |[],is,h=>by cases h;exact⟨.nil,rfl,rfl⟩
 |e::es,is,h=>by
  cases e<;>simp only[slotsOf]at h<;>try (cases h;done)
  rename_i x q
  split at h
  ·rename_i hl
   simp only[QJq,QJz]at h
   obtain⟨i,h1,js,h2,rfl⟩:=h
   obtain⟨a1,a2,a3⟩:=rO O T h2
   refine⟨.cons (by rw[O.N];exact jy h1) (sY O hl) (.inl (T.fn x)) a1,?_,?_⟩
   ·show(_::assignEach es X.env).length=_
    simp[a2]
   ·show(List.findIdx? (·.1) ((false,_)::assignEach es X.env))=none
    rw[List.findIdx?_cons]
    simp[a3]
  ·cases h
def vN(O:jg C X c):X.N.Nodup:=by rw[O.N];exact O.nd
def J4(O:jg C X c)(T:Top C X W c){e:Expr}(h:J5 C e=some tg):GG X tg e:=by
 cases e<;>simp only[J5]at h<;>try (cases h;done)
 ·rename_i x q
  split at h
  ·rename_i hl
   simp only[QJz]at h
   obtain⟨i,h1,rfl⟩:=h
   exact xX (vN O) (by rw[O.N];exact jy h1) (sY O hl) (.inl (T.fn x))
  ·cases h
 ·simp only[QJz]at h
  obtain⟨is,h1,rfl⟩:=h
  obtain⟨a1,a2,a3⟩:=rO O T h1
  exact Dg (vN O) O.calm a1 a2 a3
theorem Jt(O:jg C X c)(T:Top C X W c){scope:Scope}{tg:Tg}{it cond elt:E}{ifs:List Expr}{i:Nat}(B:Bb X c scope η tg cond elt tgE Φ ifs)(hi:GI X W c it tgE ο)(gp:plain ο=true)
  (ge:GE X W c (.comp η.length tg it cond elt) (.ListComp Φ [⟨tgE,ο,ifs,0⟩] scope cp))(hN:X.N[i]? =some x)(hl:Jc C.sc x=true):
  GS X W c (.set i (.comp η.length tg it cond elt)) (.Assign [.Name x np] (.ListComp Φ [⟨tgE,ο,ifs,0⟩] scope cp) sp):=by
 have key:∃b:Bool,swapsWith (.ListComp Φ [⟨tgE,ο,ifs,0⟩] scope cp) (some (.Name x np)) sp.line X.env=pure b:=⟨_,rfl⟩
 obtain⟨b,hb⟩:=key
 cases b with
 |false=>exact NQ ge (vN O) hN (sY O hl) (.inl (T.fn x)) hb
 |true=>exact De B hi O.calm (fun x=>yc gp _ _) (vN O) hN (sY O hl) (.inl (T.fn x)) hb
structure IhS(c:Cf)(n:Nat):Prop where
 s:∀C X W st m,jg C X c->Top C X W c->Uo n C st=some m->GS X W c m st
 ss:∀C X W st m,jg C X c->Top C X W c->rC n C st=some m->Qs X W c m st
def afE c:IhS c 0:=by
 constructor
 all_goals (intros;rename_i h;first|(rw[Uo]at h;cases h)|(rw[rC]at h;cases h))
def QL(I:IhS c n)(O:jg C X c)(T:Top C X W c){m:S}(h:rC (n+1) C st=some m):Qs X W c m st:=by
 cases st with
 |nil=>rw[rC]at h;cases h;exact SQ
 |cons s st=>
  rw[rC]at h
  simp only[QJq,QJz]at h
  obtain⟨m1,h1,m2,h2,rfl⟩:=h
  exact NB (I.s C X W s m1 O T h1) (I.ss C X W st m2 O T h2)
def Wj(I:IhS c n)(O:jg C X c)(T:Top C X W c){st:Stmt}{m:S}(h0:Uo (n+1) C st=some m):GS X W c m st:=by
 have J:=ih c n
 have no:∀{P:Prop},(none:Option S)=some m->P:=fun z=>nomatch z
 have h:=h0
 unfold Uo at h
 split at h
 ·split at h
  ·cases h;exact S5
  ·simp only[QJz]at h
   obtain⟨m1,h1,rfl⟩:=h
   have s:=J.e C X _ m1 O h1
   exact Yg s.ge.w s.va
 ·split at h
  ·split at h
   ·rename_i e _ _ _ x _
    split at h
    ·rename_i hl
     simp only[QJq,QJz]at h
     obtain⟨i,h1,m1,h2,rfl⟩:=h
     have s:=J.e C X _ m1 O h2
     have hN:X.N[i]? =some x:=by rw[O.N];exact jy h1
     cases hc:pq e with
     |false=>exact NQ s.ge.w (vN O) hN (sY O hl) (.inl (T.fn x)) (nH s.pl hc)
     |true=>
      cases e<;>simp[pq]at hc
      rename_i elt gens sc cp
      obtain⟨g,rfl,η,tg,it,cond,m',rfl,B,gi,gp,ha⟩:=Tr O h2
      obtain⟨ta,ti,tf,tn⟩:=g
      simp only at ha
      subst ha
      exact Jt O T B gi.w gp s.ge.w hN hl
    ·exact no h
   ·split at h
    ·exact no h
    ·rename_i hx
     rw[Bool.not_eq_true,Bool.or_eq_false_iff]at hx
     simp only[QJq,QJz]at h
     obtain⟨is,h1,m1,h2,rfl⟩:=h
     have s:=J.e C X _ m1 O h2
     obtain⟨a1,a2,a3⟩:=rO O T h1
     exact SX s.ge.w (Dg (vN O) O.calm a1 a2 a3) (by rw[Fd];exact nH s.pl hx.2) (Bs hx.1) rfl
   ·split at h
    ·split at h
     ·exact no h
     ·rename_i hx
      rw[Bool.not_eq_true,Bool.or_eq_false_iff]at hx
      simp only[QJq]at h
      obtain⟨v,h1,h⟩:=h
      split at h
      ·simp only[QJq,QJz]at h
       obtain⟨i,h2,m1,h3,rfl⟩:=h
       have s1:=J.e C X _ i O h2
       have s:=J.e C X _ m1 O h3
       exact NP (FQ O h1) s.ge.w s1.ge.w (fun v=>TV hx.2) (by rw[Fd];exact nH s.pl hx.1) yW (by have:=O.hu;omega) rfl
      ·exact no h
    ·exact no h
   ·exact no h
  ·exact no h
 ·--an expression alone
  split at h
  ·have dflt:∀(e:Expr)(q:Pos),pq e=false->(dZ n C e).map S.expr=some m->GS X W c m (.Expr e q):=fun e q hc z=>by
    simp only[QJz]at z
    obtain⟨m1,h1,rfl⟩:=z
    have s:=J.e C X _ m1 O h1
    exact S6 s.ge.w (nH s.pl hc)
   split at h
   ·split at h
    ·split at h
     ·rename_i hx
      simp only[QUq,QUz]at hx
      obtain⟨hl,rfl⟩:=hx
      simp only[QJq]at h
      obtain⟨v,h1,h⟩:=h
      split at h
      ·simp only[QJz]at h
       obtain⟨m1,h2,rfl⟩:=h
       have s:=J.e C X _ m1 O h2
       exact Ju ⟨rfl,hl,bB s.pl _ _⟩ (FQ O h1) s.ge.w
      ·exact no h
     ·exact dflt _ _ rfl h
    ·exact no h
   ·split at h
    ·rename_i hz
     exact T.cx _ _ _ _ _ _ _ J hz h
    ·exact dflt _ _ rfl h
  ·exact no h
 ·simp only[QJq,QJz]at h
  obtain⟨t,h1,a,h2,b,h3,rfl⟩:=h
  exact ab4 (J.e C X _ t O h1).gt.w (I.ss C X W _ a O T h2) (I.ss C X W _ b O T h3)
 ·split at h
  ·simp only[QJq,QJz]at h
   obtain⟨tg,h1,it,h2,b,h3,rfl⟩:=h
   obtain⟨gi,gp⟩:=J.i C X _ _ it O h2
   exact Yh T.po O.calm gi.w (J4 O T h1) (I.ss C X W _ b O T h3) (fun x=>yc gp _ _)
  ·exact no h
 ·split at h
  ·simp only[QJq,QJz]at h
   obtain⟨t,h1,b,h3,rfl⟩:=h
   exact NK T.po (J.e C X _ t O h1).gt.w (I.ss C X W _ b O T h3)
  ·exact no h
 ·exact T.ra _ _ _ _ _ h0
 ·exact no h
end
def Rk{e f:Option Expr}{n:Nat}(h:Uo (n+1) C (.Raise e f p)=some m):m=.raise (K6 C e f):=by
 unfold Uo at h
 cases h
 rfl
def aaZ(hz:C.rz=[])f:rzB C f=false:=by
 cases f<;>first|rfl|(unfold rzB;rw[hz];rfl)
def Top.plain{X:Cx}(hf:∀x,X.fn x=true)(hp:PassesOwn (model X.prog X.w) X.A X.env X.xe)(hz:C.rz=[]):Top C X W0 c:=
 ⟨hf,hp,fun e f p n m h=>by rw[Rk h];exact NT,fun f _ _ _ _ _ _ _ z=>by rw[aaZ hz f]at z;cases z⟩
theorem ihS c:∀n,IhS c n
 |0=>afE c
 |n+1=>let I:=ihS c n
  ⟨fun C X W st m O T h=>Wj I O T h,fun C X W st m O T h=>QL I O T h⟩
structure Df where
 x:Str
 st:Stmt
 N:List Str
 ps:List Str
 fl:List Bool
 exs:List Str:=[]
 rz:List Str:=[]
def aec(ds:List Df):List (Str×List Bool):=ds.map fun d=>(d.x,d.fl)
def Dt(ds:List Df)(gj:List Str)(d:Df):Ct:={N:=d.N,sc:=ao d.st,fns:=aec ds,gj:=gj,exs:=d.exs}
def fnOf(ds:List Df)(gj:List Str)(d:Df):Option Fn:=(rC 60 (Dt ds gj d) (bY d.st)).map fun b=>{pars:=d.ps.length,names:=d.N.length,body:=b}
structure wN(K:QQq)(mg:QZz)(d:Df)(f:Addr)(fd:FuncData):Prop where
 fu:Hk K d.x d.x d.st f fd
 bi:Binds K fd d.ps []
 at_:mg d.x=some (.ref f)
section
variable{P:Program}{w:World}{base:Heap}{p:Pg}{fa:Nat->Addr}{fd:Nat->FuncData}
end
theorem Wu{K:QQq}{H:Hp}{ns:List Int}(hO:Only H)(hS:lu K H a (ns.map V.int))(hf:∃qs,f [.val (.lst (ns.map D.int))]=.ok (.val (.bl true)) qs)E:
  cA K 1 f [.ref a] H (fun v _=>v=.bl true) E:=by
 have den:aZ K H (.lst (ns.map D.int)) (.ref a):=by
  have fr:Qh K H a (ns.map V.int):=by
   rcases hS with (h|⟨o,h⟩)|h
   ·rcases hO a with z|⟨o,xs,z⟩
    ·rw[z]at h;cases h
    ·rw[z]at h;cases h
   ·exact .inl ⟨o,h⟩
   ·exact .inr h
  have l:∀(ns:List Int),ak K H (ns.map D.int) (ns.map V.int):=fun ns=>by
   induction ns with
   |nil=>exact ak.cZ
   |cons i r ih=>exact ak.aX rfl ih
  exact⟨a,_,rfl,fr,l ns⟩
 obtain⟨qs,hf⟩:=hf
 refine⟨[.val (.lst (ns.map D.int))],rfl,⟨rfl,fun i s e=>?_,fun i j b h1=>?_⟩,fun i o e=>?_,?_⟩
 ·cases i with
  |zero=>simp at e;subst e;exact⟨.ref a,rfl,den⟩
  |succ i=>simp at e
 ·obtain⟨⟨s,o,e1,e2⟩,_⟩:=h1
  cases i with
  |zero=>simp at e1;subst e1;cases e2
  |succ i=>simp at e1
 ·cases i with
  |zero=>simp at e
  |succ i=>simp at e
 ·rw[hf]
  exact fun v H' _ z=>z
def Xd(a:Arguments):List Str:=a.args.map (·.arg)
def namesOf(st:Stmt):List Str:=Xd (dg st)++(((ao st).names.filter fun p=>(p.2== .local||p.2== .cell)&& !(Xd (dg st)).contains p.1).map (·.1))
def cP(x:Str)(st:Stmt)(fl:List Bool):Df:={x:=x,st:=st,N:=namesOf st,ps:=Xd (dg st),fl:=fl}
noncomputable def KD(d:Df):Bool:=
 decide ((ao d.st).kind=.function)&& !(ao d.st).isCoroutine&& !(ao d.st).isGenerator&&decide d.N.Nodup&&decide (d.N.take d.ps.length=d.ps)
 &&(d.ps.all fun x=>(ao d.st).names.lookup x==some .local||(ao d.st).names.lookup x==some .cell)&&((ao d.st).names.all fun y=>y.2 != .free)
def Fj(h:KD d=true):dX d.N d.ps (ao d.st):=by
 unfold KD at h
 simp only[QUq,QUz,Bool.not_eq_true',List.all_eq_true,Bool.or_eq_true,beq_iff_eq,bne_iff_ne,ne_eq]at h
 obtain⟨⟨⟨⟨⟨⟨h1,h2⟩,h3⟩,h4⟩,h5⟩,h6⟩,h7⟩:=h
 exact⟨h1,h2,h3,h4,h5,h6,h7⟩
def vIs:Value->D->Bool
 |.none,.non=>true
 |.bool a,.bl b=>a==b
 |.int i _,.int j=>i==j
 |.str x _,.str y=>decide (x=y)
 |_,_=>false
def Hs:List Value->List D->Bool
 |[],[]=>true
 |u::us,d::ds=>vIs u d&&Hs us ds
 |_,_=>false
def J2(o:Obj)(ds:List D):Bool:=o.cls== .type "tuple"&&o.dict.isNone&&match o.data with
 |.seq its _=>Hs its.toList ds&&decide (its.size<=1000)
 |_=>false
def T7(K:QQq)(mg:QZz)(x:Str)(d:D):Prop:=∃v u,mg x=some u/\RelV v u/\∀H,aZ K H d v
def J0{u:Value}(h:vIs u d=true):∃v,RelV v u/\∀H,aZ K H d v:=by
 cases u<;>cases d<;>simp[vIs]at h
 ·exact⟨.non,rfl,fun H=>rfl⟩
 ·subst h;exact⟨.bl _,rfl,fun H=>rfl⟩
 ·subst h;exact⟨.int _,⟨_,rfl⟩,fun H=>rfl⟩
 ·subst h;exact⟨.str _,⟨_,rfl⟩,fun H=>rfl⟩
theorem Es:∀{us:List Value}{ds:List D},Hs us ds=true->∃vs,Vals vs us/\∀H,ak K H ds vs
 |[],[]=>fun _=>⟨[],.nil,fun H=>ak.cZ⟩
 |u::us,d::ds=>fun h=>by
  unfold Hs at h
  rw[QUq]at h
  obtain⟨v,r,e⟩:=J0 h.1
  obtain⟨vs,rs,es⟩:=Es h.2
  exact⟨v::vs,.cons r rs,fun H=>ak.aX (e H) (es H)⟩
 |[],_::_=>fun h=>by simp[Hs]at h
 |_::_,[]=>fun h=>by simp[Hs]at h
section
def Yi(X:K.In h)(G:h.Ns mainGlobals mg)(e:PySem.W.nsIn K mainGlobals x=some (some u))(hv:vIs u d=true):T7 K mg x d:=by
 obtain⟨v,r,q⟩:=J0 hv
 exact⟨v,u,PySem.W.mg_of X G e,r,q⟩
def Yj(X:K.In h)(G:h.Ns mainGlobals mg)(e:PySem.W.nsIn K mainGlobals x=some (some (.ref a)))(l:K.lookup a=some o)(hv:J2 o ds=true):T7 K mg x (.tup ds):=by
 unfold J2 at hv
 simp only[QUq,beq_iff_eq,Option.isNone_iff_eq_none]at hv
 obtain⟨⟨hc,hd⟩,hv⟩:=hv
 split at hv
 ·rename_i its n hs
  rw[QUq,QUz]at hv
  obtain⟨vs,r,q⟩:=Es hv.1
  exact⟨.ref a,_,PySem.W.mg_of X G e,rfl,fun H=>eF (.inr ⟨o,its,n,l,hc,hd,hs,Nat.le_of_lt (HH hv.2),r⟩) (q H)⟩
 ·cases hv
end
def Hn(K:QQq)(mg:QZz):List Df->List (Addr×FuncData)->Prop
 |[],[]=>True
 |d::ds,(f,fd)::r=>wN K mg d f fd/\Hn K mg ds r
 |_,_=>False
theorem Hn.at{K:QQq}{mg:QZz}:∀{ds:List Df}{fs:List (Addr×FuncData)},Hn K mg ds fs->∀(i:Nat)d,ds[i]? =some d->∃q,fs[i]? =some q/\wN K mg d q.1 q.2
 |[],_,_,i=>fun d e=>by simp at e
 |_::_,[],h,_=>fun _ _=>h.elim
 |d::ds,(f,fd)::r,h,0=>fun d' e=>by cases e;exact⟨(f,fd),rfl,h.1⟩
 |d::ds,_::r,h,i+1=>fun d' e=>h.2.at i d' e
def Hl(K:QQq)(mg:QZz):List Str->List D->Prop
 |[],[]=>True
 |x::xs,d::ds=>T7 K mg x d/\Hl K mg xs ds
 |_,_=>False
theorem Hl.at{K:QQq}{mg:QZz}:∀{xs:List Str}{ds:List D},Hl K mg xs ds->∀(k:Nat)x,xs[k]? =some x->∃d,ds[k]? =some d/\T7 K mg x d
 |[],_,_,k=>fun x e=>by simp at e
 |_::_,[],h,_=>fun _ _=>h.elim
 |x::xs,d::ds,h,0=>fun x' e=>by cases e;exact⟨d,rfl,h.1⟩
 |x::xs,d::ds,h,k+1=>fun x' e=>h.2.at k x' e
def Qi(K:QQq)(x:Str)(st:Stmt):Prop:=∃(f:Addr)(od an:Option Addr)(sl:Array (Option Value))(oc kV dc pm cd ct:Value),
 PySem.W.nsIn K mainGlobals x=some (some (.ref f))/\K.lookup f=some ⟨oc,od,.func (PySem.W.fnOf x x (dg st) (bY st) (ao st) .none kV dc pm an cd ct),sl⟩/\PySem.W.codeIn K cd x=true/\PySem.W.keepIn K (.ref f)=true
def dIn{x:Str}{f:Addr}{od an:Option Addr}{oc kV dc pm cd ct:Value}(a:PySem.W.nsIn K mainGlobals x=some (some (.ref f)))
  (l:K.lookup f=some ⟨oc,od,.func (PySem.W.fnOf x x (dg st) (bY st) (ao st) .none kV dc pm an cd ct),sl⟩)(c:PySem.W.codeIn K cd x=true)(p:PySem.W.keepIn K (.ref f)=true):Qi K x st:=⟨f,od,an,sl,oc,kV,dc,pm,cd,ct,a,l,c,p⟩
def AllIn(K:QQq):List (Str×Stmt)->Prop
 |[]=>True
 |(x,s)::r=>Qi K x s/\AllIn K r
def Bd(d:Df):Prop:=∀(kV dc pm:Value)(an:Option Addr)(cd ct:Value)(us:List Value),us.length=d.ps.length->bindArgs (PySem.W.fnOf d.x d.x (dg d.st) (bY d.st) (ao d.st) .none kV dc pm an cd ct) ⟨us,[]⟩=pure (d.ps.zip us)
def sZ{us:List Value}(h:us.length=1):∃a,us=[a]:=List.length_eq_one_iff.mp h
def Ss{us:List Value}(h:us.length=n+1):∃a r,us=a::r/\r.length=n:=by
 cases us with
 |nil=>simp at h
 |cons a r=>exact⟨a,r,rfl,by simpa using h⟩
def o7{us:List Value}(h:us.length=2):∃a b,us=[a,b]:=by
 obtain⟨a,r,rfl,h2⟩:=Ss h;obtain⟨b,rfl⟩:=sZ h2;exact⟨a,b,rfl⟩
def j7{us:List Value}(h:us.length=3):∃a b c,us=[a,b,c]:=by
 obtain⟨a,r,rfl,h2⟩:=Ss h;obtain⟨b,c,rfl⟩:=o7 h2;exact⟨a,b,c,rfl⟩
def zU{us:List Value}(h:us.length=4):∃a b c d,us=[a,b,c,d]:=by
 obtain⟨a,r,rfl,h2⟩:=Ss h;obtain⟨b,c,d,rfl⟩:=j7 h2;exact⟨a,b,c,d,rfl⟩
def ae6{us:List Value}(h:us.length=5):∃a b c d e,us=[a,b,c,d,e]:=by
 obtain⟨a,r,rfl,h2⟩:=Ss h;obtain⟨b,c,d,e,rfl⟩:=zU h2;exact⟨a,b,c,d,e,rfl⟩
def Hm:List Df->Prop
 |[]=>True
 |d::r=>Bd d/\Hm r
inductive Zh(K:QQq)(x:Str):D->Prop
 |v {u:Value} {d:D}:PySem.W.nsIn K mainGlobals x=some (some u)->vIs u d=true->Zh K x d
 |t {a:Addr} {o:Obj} {ds:List D}:PySem.W.nsIn K mainGlobals x=some (some (.ref a))->K.lookup a=some o->J2 o ds=true->Zh K x (.tup ds)
def yC(K:QQq):List Str->List D->Prop
 |[],[]=>True
 |x::xs,d::ds=>Zh K x d/\yC K xs ds
 |_,_=>False
def Ql(K:QQq):List Str->Prop
 |[]=>True
 |x::r=>PySem.W.nsIn K mainGlobals x=some none/\Ql K r
section
theorem PQ(X:K.In h)(G:h.Ns mainGlobals mg):∀(ds:List Df),Hm ds->AllIn K (ds.map fun d=>(d.x,d.st))->
  ∃fs,Hn K mg ds fs/\∀(i:Nat)d,ds[i]? =some d->∃q,fs[i]? =some q/\wN K mg d q.1 q.2/\∀(s:Shared)(us:List Value),us.length=d.ps.length->BindsTo s q.2 ⟨us,[]⟩ (d.ps.zip us)
 |[],_,_=>⟨[],trivial,fun i d e=>by simp at e⟩
 |d::ds,⟨b,bs⟩,⟨⟨f,od,an,sl,oc,kV,dc,pm,cd,ct,a,l,c,p⟩,is⟩=>by
  obtain⟨fs,A,B⟩:=PQ X G ds bs is
  have F:=Og l c p
  have D:wN K mg d f _:=⟨F,F.binds b,PySem.W.mg_of X G a⟩
  refine⟨(f,_)::fs,⟨D,A⟩,fun i e he=>?_⟩
  cases i with
  |zero=>cases he;exact⟨_,rfl,D,fun s us hl=>.of_eq (b kV dc pm an cd ct us hl)⟩
  |succ i=>exact B i e he
theorem PN(X:K.In h)(G:h.Ns mainGlobals mg):∀(xs:List Str)(ds:List D),yC K xs ds->Hl K mg xs ds
 |[],[],_=>trivial
 |_::xs,_::ds,⟨g,r⟩=>⟨by cases g with
  |v e hv=>exact Yi X G e hv
  |t e l hv=>exact Yj X G e l hv,PN X G xs ds r⟩
 |[],_::_,h=>h.elim
 |_::_,[],h=>h.elim
theorem PL(X:K.In h)(G:h.Ns mainGlobals mg):∀(xs:List Str),Ql K xs->∀x∈xs,mg x=none
 |[],_=>fun x hx=>by cases hx
 |_::r,⟨e,es⟩=>fun x hx=>by
  rcases QBz.mp hx with rfl|hx
  ·exact PySem.W.mg_none_of X G e
  ·exact PL X G r es x hx
end
section
@[simp]theorem adB{f:α->Ev->Out β}:(Out.ok a σ).bind f=f a σ:=rfl
@[simp]theorem acq{f:α->Ev->Out β}:(Out.exc k σ).bind f=.exc k σ:=rfl
@[simp]theorem acr{f:α->Ev->Out β}:(Out.bad:Out α).bind f=.bad:=rfl
@[simp]theorem cC{f:D->Ev->Out β}:(Out.ok (.val d) σ).au f=f d σ:=rfl
@[simp]theorem lR{f:D->Ev->Out β}:(Out.ok (.new o) σ).au f=f o.d σ:=rfl
@[simp]theorem Z0{f:D->Ev->Out β}:(Out.exc k σ).au f=.exc k σ:=rfl
@[simp]theorem Z1{f:D->Ev->Out β}:(Out.bad).au f=.bad:=rfl
@[simp]theorem fK{f:Bool->Ev->Out β}:(Out.ok (.val (.bl b)) σ).cM jk f=f b σ:=rfl
@[simp]theorem ZW{f:Bool->Ev->Out β}:(Out.ok (.val (.int i)) σ).cM jk f=f (i !=0) σ:=rfl
@[simp]theorem ZS{f:Bool->Ev->Out β}:(Out.ok (.val (.tup xs)) σ).cM jk f=f (!xs.isEmpty) σ:=rfl
@[simp]theorem ZV{f:Bool->Ev->Out β}:(Out.ok (.val (.lst xs)) σ).cM jk f=f (!xs.isEmpty) σ:=rfl
@[simp]theorem ZX{f:Bool->Ev->Out β}:(Out.exc k σ).cM jk f=.exc k σ:=rfl
@[simp]theorem ZZ{f:Bool->Ev->Out β}:(Out.bad).cM jk f=.bad:=rfl
@[simp]theorem agF{a:α}:(Out.ok a σ).fl f=f a σ:=rfl
@[simp]theorem afO:(Out.exc k σ:Out α).fl f=.exc k σ:=rfl
@[simp]theorem afP:(Out.bad:Out α).fl f=.bad:=rfl
@[simp]theorem adl:(Out.ok (.val d) σ).qG f=f d σ:=rfl
@[simp]theorem adm:(Out.ok (.new o) σ).qG f=f o.d σ:=rfl
@[simp]theorem adn:(Out.exc k σ).qG f=.exc k σ:=rfl
@[simp]theorem ado:(Out.bad).qG f=.bad:=rfl
@[simp]theorem afQ:(Out.ok (.val (.bl b)) σ).Oj f=f b σ:=rfl
@[simp]theorem adi:(Out.exc k σ).Oj f=.exc k σ:=rfl
@[simp]theorem adk:(Out.bad).Oj f=.bad:=rfl
@[simp]theorem vQ{a:α}:Mini.lift σ (some a)=.ok a σ:=rfl
@[simp]theorem ZK:Mini.lift σ (none:Option α)=.bad:=rfl
@[simp]theorem aaW:(Fl.next σ).seq f=f σ:=rfl
@[simp]theorem ac1{f:Ev->Fl}:(Fl.ret r σ).seq f=.ret r σ:=rfl
@[simp]theorem ac2:(Fl.exc k σ).seq f=.exc k σ:=rfl
@[simp]theorem ac3:(Fl.brk σ).seq f=.brk σ:=rfl
@[simp]theorem aaX:(Fl.cont σ).seq f=.cont σ:=rfl
@[simp]theorem ac4:(Fl.bad).seq f=.bad:=rfl
@[simp]theorem oN:(Fl.next σ).turn f=f σ:=rfl
@[simp]theorem Zx:(Fl.cont σ).turn f=f σ:=rfl
@[simp]theorem aau:(Fl.brk σ).turn f=.next σ:=rfl
@[simp]theorem aas{f:Ev->Fl}:(Fl.ret r σ).turn f=.ret r σ:=rfl
@[simp]theorem aat:(Fl.exc k σ).turn f=.exc k σ:=rfl
@[simp]theorem aav:(Fl.bad).turn f=.bad:=rfl
@[simp]theorem aa0:w6 (.val d) σ=.ret (.val d) σ:=rfl
@[simp]theorem aa1:w6 (.new o) σ=.ret (.new o) σ:=rfl
@[simp]theorem abC:Iw (some τ)=.next τ:=rfl
@[simp]theorem abD:Iw none=.bad:=rfl
@[simp]theorem acA:argv (.val d)=.val d:=rfl
@[simp]theorem acD:argv (.new o)=.val o.d:=rfl
@[simp]theorem acC:argv (.ref k)=.ref k:=rfl
@[simp]theorem acB:argv (.tmp o)=.tmp o:=rfl
@[simp]theorem aaQ:Rv.BJ (.val d)=some (.val d):=rfl
@[simp]theorem aaR:Rv.BJ (.new o)=some (.own o):=rfl
@[simp]theorem ady:Rv.kI (.val d)=some d:=rfl
@[simp]theorem adz:Rv.kI (.new o)=some o.d:=rfl
@[simp]theorem Vp:Ob.d (.lst xs)=.lst xs:=rfl
@[simp]theorem ag8:Ob.d (.dct xs ys)=.dq xs ys:=rfl
@[simp]theorem ada:zT (.tup xs)=some xs.length:=rfl
@[simp]theorem adb:zT (.lst xs)=some xs.length:=rfl
@[simp]theorem adE:b1 .len (.tup xs)=some (.val (.int xs.length)):=rfl
@[simp]theorem adF:b1 .len (.lst xs)=some (.val (.int xs.length)):=rfl
@[simp]theorem adG:b1 .int (.int i)=some (.val (.int i)):=rfl
@[simp]theorem adH:b1 .int (.bl b)=some (.val (.int (b2i b))):=rfl
@[simp]theorem acs:b1 .tuple d=(bH d).bind fun xs=>some (.val (.tup xs)):=rfl
@[simp]theorem adD:b1 .list d=(Kz d).bind fun xs=>some (.new (.lst xs)):=rfl
@[simp]theorem aed xs:Kz (.tup xs)=some xs:=rfl
@[simp]theorem aef xs:Kz (.lst xs)=some xs:=rfl
@[simp]theorem aee ks vs:Kz (.lU ks vs)=some ks:=rfl
@[simp]theorem Py:b1 .all d=(bH d).bind fun xs=>(bools xs).map fun bs=>.val (.bl (bs.all id)):=rfl
@[simp]theorem agi:b1 .any d=(bH d).bind fun xs=>(bools xs).map fun bs=>.val (.bl (bs.any id)):=rfl
@[simp]theorem adI:b1 .dict d=(bH d).bind fun xs=>(dictOf [] [] xs).map fun p=>.new (.dct p.1 p.2):=rfl
@[simp]theorem Z3:b1 .sorted d=(zO d).bind fun xs=>(pU xs).map fun ys=>.new (.lst ys):=rfl
@[simp]theorem ZC:bH (.tup xs)=some xs:=rfl
@[simp]theorem vy:bH (.lst xs)=some xs:=rfl
@[simp]theorem ZJ:zO (.lst xs)=some xs:=rfl
@[simp]theorem adg:getD (.tup xs) (.int i)=at? xs i:=rfl
@[simp]theorem adh:getD (.lst xs) (.int i)=at? xs i:=rfl
@[simp]theorem add_int:binop .add (.int i) (.int j)=some (.val (.int (i+j))):=rfl
@[simp]theorem sub_int:binop .sub (.int i) (.int j)=some (.val (.int (i-j))):=rfl
@[simp]theorem mul_int:binop .mul (.int i) (.int j)=if small i||small j then some (.val (.int (i*j)))else none:=rfl
@[simp]theorem mod_int:binop .mod (.int i) (.int j)=if 0<j then some (.val (.int (i%j)))else none:=rfl
@[simp]theorem lt_int:aK .lt (.int i) (.int j)=some (decide (i<j)):=rfl
@[simp]theorem gt_int:aK .gt (.int i) (.int j)=some (decide (j<i)):=rfl
@[simp]theorem le_int:aK .le (.int i) (.int j)=some (decide (i<=j)):=rfl
@[simp]theorem ge_int:aK .ge (.int i) (.int j)=some (decide (j<=i)):=rfl
@[simp]theorem agD:aK .nD d .non=some (gG d):=rfl
@[simp]theorem aeX:aK .notN d .non=some (!gG d):=rfl
@[simp]theorem ZL:gG (.tup xs)=false:=rfl
@[simp]theorem ZM:gG .non=true:=rfl
@[simp]theorem eq_int:aK .eq (.int i) (.int j)=some (i==j):=rfl
@[simp]theorem ne_int:aK .ne (.int i) (.int j)=some (!(i==j)):=rfl
@[simp]theorem ag7:aK .eq (.bl b) (.bl c)=some (b==c):=rfl
@[simp]theorem agA:aK .ne (.bl b) (.bl c)=some (!(b==c)):=rfl
@[simp]theorem eq_str:aK .eq (.str x) (.str y)=some (decide (x=y)):=rfl
@[simp]theorem ne_str:aK .ne (.str x) (.str y)=some (!decide (x=y)):=rfl
@[simp]theorem Z5:E.aB (.var k)=some k:=rfl
@[simp]theorem aae d:E.aB (.con d)=none:=rfl
@[simp]theorem Zc k:E.aB (.glob k)=none:=rfl
@[simp]theorem Z6 a:E.aB (.tup a)=none:=rfl
@[simp]theorem aaa a:E.aB (.lis a)=none:=rfl
@[simp]theorem acy o a b:E.aB (.op o a b)=none:=rfl
@[simp]theorem Z9 a:E.aB (.neg a)=none:=rfl
@[simp]theorem aaf o a b:E.aB (.cmp o a b)=none:=rfl
@[simp]theorem Vu o p a b c:E.aB (.chain o p a b c)=none:=rfl
@[simp]theorem aag a:E.aB (.and a)=none:=rfl
@[simp]theorem acx a:E.aB (.or a)=none:=rfl
@[simp]theorem Z8 a:E.aB (.not a)=none:=rfl
@[simp]theorem aab a b c:E.aB (.ite a b c)=none:=rfl
@[simp]theorem aad a b:E.aB (.idx a b)=none:=rfl
@[simp]theorem Z7 a b c:E.aB (.slc a b c)=none:=rfl
@[simp]theorem Zd f a:E.aB (.call f a)=none:=rfl
@[simp]theorem acz b a:E.aB (.bi b a)=none:=rfl
@[simp]theorem aac a t:E.aB (.isi a t)=none:=rfl
@[simp]theorem Z4 a b:E.aB (.zip a b)=none:=rfl
@[simp]theorem TX a:E.aB (.range1 a)=none:=rfl
@[simp]theorem Vt a b:E.aB (.count a b)=none:=rfl
@[simp]theorem Vs i a:E.aB (.popAt i a)=none:=rfl
@[simp]theorem uy n tg a b c:E.aB (.comp n tg a b c)=none:=rfl
@[simp]theorem acw a:E.aB (.rd a)=none:=rfl
def nu xs(j:Nat)(h:j<xs.length):at? xs (j:Int)=xs[j]? :=by
 unfold at? ix?
 rw[if_neg (by omega:¬(j:Int)<0),if_pos ⟨by omega,by omega⟩]
 simp
@[simp]theorem at0:at? (a::xs) 0=some a:=(nu _ 0 (by simp)).trans rfl
@[simp]theorem at1{a b:D}:at? (a::b::xs) 1=some b:=(nu _ 1 (by simp)).trans rfl
@[simp]theorem at2{a b c:D}:at? (a::b::c::xs) 2=some c:=(nu _ 2 (by simp)).trans rfl
@[simp]theorem at3{a b c e:D}:at? (a::b::c::e::xs) 3=some e:=(nu _ 3 (by simp)).trans rfl
end
def aO(bs:List Bool):D:=.tup (bs.map .bl)
def eV:Nat->List (List Bool)
 |0=>[[]]
 |k+1=>(eV k).map (· ++[false])++(eV k).map (· ++[true])
def masks:Nat->List (List Bool)
 |0=>[[]]
 |k+1=>(masks k).map (false:: ·)++(masks k).map (true:: ·)
theorem vP:∀(bs:List Bool),bs∈masks bs.length
 |[]=>by simp[masks]
 |b::bs=>by
  have:=vP bs
  cases b<;>simp[masks,this]
def nW{α:Type}:List Bool->List α->List α
 |b::bs,x::xs=>if b then x::nW bs xs else nW bs xs
 |_,_=>[]
def z9:List (List Bool)->Bool
 |a::b::r=>lV a b&&z9 (b::r)
 |_=>true
def rK(k:Nat)(bs:List Bool):Bool:=match pU (nW bs ((eV k).map aO))with
 |some ws=>if ws.isEmpty then true else match jM ws with
  |some rs=>(rs.all fun r=>r.length==k)&&z9 rs
  |none=>false
 |none=>false
def aaP:(masks 2).all (rK 1)=true:=by decide+kernel
def aaO:(masks 4).all (rK 2)=true:=by decide+kernel
def aaN:(masks 8).all (rK 3)=true:=by decide+kernel
theorem wH:∀{ys:List D}{bs:List Bool},bools ys=some bs->ys=bs.map .bl
 |[],bs,e=>by cases e;rfl
 |y::ys,bs,e=>by
  cases y with
  |bl b=>
   simp only[bools]at e
   cases q:bools ys with
   |none=>rw[q]at e;cases e
   |some r=>rw[q]at e;cases e;rw[wH q];rfl
  |_=>cases e
theorem vB:∀{xs:List D}{rs:List (List Bool)},jM xs=some rs->xs=rs.map aO
 |[],rs,e=>by cases e;rfl
 |y::ys,rs,e=>by
  cases y with
  |tup zs=>
   simp only[jM]at e
   cases q:bools zs with
   |none=>rw[q]at e;cases e
   |some bs=>
    cases bs with
    |nil=>rw[q]at e;cases e
    |cons b bs=>
     rw[q]at e
     cases q2:jM ys with
     |none=>rw[q2]at e;cases e
     |some rs'=>
      rw[q2]at e
      cases e
      rw[vB q2,wH q]
      rfl
  |_=>cases e
theorem oW:∀k,(eV k).length=2 ^k
 |0=>rfl
 |k+1=>by simp[eV,oW k];omega
def HD k(h1:1<=k)(h3:k<=3)bs(hl:bs.length=2 ^k):∃rs,pU (nW bs ((eV k).map aO))=some (rs.map aO)/\(∀r∈rs,r.length=k)/\z9 rs=true:=by
 have ok:rK k bs=true:=by
  have hm:=vP bs
  rw[hl]at hm
  rcases (by omega:k=1\/k=2\/k=3)with rfl|rfl|rfl
  ·exact List.all_eq_true.mp aaP bs hm
  ·exact List.all_eq_true.mp aaO bs hm
  ·exact List.all_eq_true.mp aaN bs hm
 unfold rK at ok
 cases q:pU _ with
 |none=>rw[q]at ok;cases ok
 |some ws=>
  rw[q]at ok
  simp only at ok
  split at ok
  ·rename_i he
   have:ws=[]:=by simpa using he
   subst this
   exact⟨[],rfl,fun r h=>(by cases h),rfl⟩
  ·cases q2:jM ws with
   |none=>rw[q2]at ok;cases ok
   |some rs=>
    rw[q2]at ok
    simp only[QUq,List.all_eq_true,beq_iff_eq]at ok
    exact⟨rs,by rw[vB q2],ok.1,ok.2⟩
theorem filter_tt{α:Type}:∀(xs:List α),xs.filter (fun _=>true)=xs
 |[]=>rfl
 |x::xs=>by rw[List.filter_cons_of_pos rfl,filter_tt xs]
def gK(s:Sl):Prop:=s=.un\/∃d,s=.val d
def vp(h:gK s)d(r:Ev):eE (.name 0) d (s::r)=some (.val d::r):=by
 rcases h with rfl|⟨e,rfl⟩<;>rfl
def vq(h:gK s)(h':gK t)a b(r:Ev):eE (.tup [0,1]) (.tup [a,b]) (s::t::r)=some (.val a:: .val b::r):=by
 rcases h with rfl|⟨e,rfl⟩<;>rcases h' with rfl|⟨e',rfl⟩<;>rfl
def O2 c d σ:ev c (.con d) σ=.ok (.val d) σ:=rfl
section
variable{cond elt:Ev->Out Rv}
theorem go1{f:D->D}{p:D->Bool}:∀(xs acc:List D)(s:Sl),gK s->(∀x∈xs,cond (.val x::τ)=.ok (.val (.bl (p x))) (.val x::τ))->(∀x∈xs,p x=true->elt (.val x::τ)=.ok (.val (f x)) (.val x::τ))->
  ∃s',gK s'/\aN (.name 0) cond elt xs acc (s::τ)=.ok (acc++(xs.filter p).map f) (s'::τ)
 |[]=>fun acc s hs _ _=>⟨s,hs,by simp[aN]⟩
 |x::xs=>fun acc s hs hc he=>by
  rw[aN,vp hs]
  simp only
  rw[hc x QYz,fK]
  cases q:p x with
  |true=>
   obtain⟨s',a1,a2⟩:=go1 xs _ _ (.inr ⟨x,rfl⟩) (fun y hy=>hc y (QYq _ hy)) (fun y hy=>he y (QYq _ hy))
   refine⟨s',a1,?_⟩
   rw[if_pos rfl,he x QYz q,cC,a2]
   simp[q]
  |false=>
   obtain⟨s',a1,a2⟩:=go1 xs acc _ (.inr ⟨x,rfl⟩) (fun y hy=>hc y (QYq _ hy)) (fun y hy=>he y (QYq _ hy))
   refine⟨s',a1,?_⟩
   rw[if_neg (by simp),a2]
   simp[q]
def pairD(p:D×D):D:=.tup [p.1,p.2]
theorem go2{f:D×D->D}{p:D×D->Bool}:∀(xs:List (D×D))(acc:List D)(s t:Sl),gK s->gK t->(∀x∈xs,cond (.val x.1:: .val x.2::τ)=.ok (.val (.bl (p x))) (.val x.1:: .val x.2::τ))->
  (∀x∈xs,p x=true->elt (.val x.1:: .val x.2::τ)=.ok (.val (f x)) (.val x.1:: .val x.2::τ))->
  ∃s' t',aN (.tup [0,1]) cond elt (xs.map pairD) acc (s::t::τ)=.ok (acc++(xs.filter p).map f) (s'::t'::τ)
 |[]=>fun acc s t hs ht _ _=>⟨s,t,by simp[aN]⟩
 |x::xs=>fun acc s t hs ht hc he=>by
  rw[Qyq,aN,show pairD x=.tup [x.1,x.2]from rfl,vq hs ht]
  simp only
  rw[hc x QYz,fK]
  cases q:p x with
  |true=>
   obtain⟨s',t',a2⟩:=go2 xs _ _ _ (.inr ⟨_,rfl⟩) (.inr ⟨_,rfl⟩) (fun y hy=>hc y (QYq _ hy)) (fun y hy=>he y (QYq _ hy))
   refine⟨s',t',?_⟩
   rw[if_pos rfl,he x QYz q,cC,a2]
   simp[q]
  |false=>
   obtain⟨s',t',a2⟩:=go2 xs acc _ _ (.inr ⟨_,rfl⟩) (.inr ⟨_,rfl⟩) (fun y hy=>hc y (QYq _ hy)) (fun y hy=>he y (QYq _ hy))
   refine⟨s',t',?_⟩
   rw[if_neg (by simp),a2]
   simp[q]
end
section
def O8 f p(hi:ev c it σ=.ok r τ)(hr:r.kI=some d)(hd:items d=some xs)(hc:∀x∈xs,ev c co (.val x::τ)=.ok (.val (.bl (p x))) (.val x::τ))(he:∀x∈xs,p x=true->ev c el (.val x::τ)=.ok (.val (f x)) (.val x::τ)):
  ev c (.comp 1 (.name 0) it co el) σ=.ok (.new (.lst ((xs.filter p).map f))) τ:=by
 obtain⟨s',_,a⟩:=go1 xs [] .un (.inl rfl) hc he
 rw[rm,hi]
 have b:∀{β:Type}(g:D->Ev->Out β),(Out.ok r τ).au g=g d τ:=fun g=>by cases r<;>simp[Rv.kI]at hr<;>subst hr<;>rfl
 rw[b]
 simp only[hd]
 rw[show List.replicate 1 Sl.un++τ=.un::τ from rfl,a]
 simp
def qu f(hi:ev c it σ=.ok r τ)(hr:r.kI=some d)(hd:items d=some xs)(he:∀x∈xs,ev c el (.val x::τ)=.ok (.val (f x)) (.val x::τ)):
  ev c (.comp 1 (.name 0) it AAH el) σ=.ok (.new (.lst (xs.map f))) τ:=by
 have:=O8 f (fun _=>true) hi hr hd (fun x _=>O2 c _ _) (fun x hx _=>he x hx)
 rw[filter_tt]at this
 exact this
def YX{ps:List (D×D)}f p(hi:ev c it σ=.ok r τ)(hr:r.kI=some d)(hd:items d=some (ps.map pairD))(hc:∀x∈ps,ev c co (.val x.1:: .val x.2::τ)=.ok (.val (.bl (p x))) (.val x.1:: .val x.2::τ))
  (he:∀x∈ps,p x=true->ev c el (.val x.1:: .val x.2::τ)=.ok (.val (f x)) (.val x.1:: .val x.2::τ)):
  ev c (.comp 2 (.tup [0,1]) it co el) σ=.ok (.new (.lst ((ps.filter p).map f))) τ:=by
 obtain⟨s',t',a⟩:=go2 ps [] .un .un (.inl rfl) (.inl rfl) hc he
 rw[rm,hi]
 have b:∀{β:Type}(g:D->Ev->Out β),(Out.ok r τ).au g=g d τ:=fun g=>by cases r<;>simp[Rv.kI]at hr<;>subst hr<;>rfl
 rw[b]
 simp only[hd]
 rw[show List.replicate 2 Sl.un++τ=.un:: .un::τ from rfl,a]
 simp
def O7{ps:List (D×D)}f(hi:ev c it σ=.ok r τ)(hr:r.kI=some d)(hd:items d=some (ps.map pairD))(he:∀x∈ps,ev c el (.val x.1:: .val x.2::τ)=.ok (.val (f x)) (.val x.1:: .val x.2::τ)):
  ev c (.comp 2 (.tup [0,1]) it AAH el) σ=.ok (.new (.lst (ps.map f))) τ:=by
 have:=YX f (fun _=>true) hi hr hd (fun x _=>O2 c _ _) (fun x hx _=>he x hx)
 rw[filter_tt]at this
 exact this
end
section
theorem YW{ps:List (D×D)}f p(hi:ev c it σ=.ok r τ0)(hr:r.kI=some d)(hd:items d=some ((x0::ps).map pairD))(hc0:ev c co (.val x0.1:: .val x0.2::τ0)=.ok (.val (.bl (p x0))) (.val x0.1:: .val x0.2::τ))
  (hc:∀x∈ps,ev c co (.val x.1:: .val x.2::τ)=.ok (.val (.bl (p x))) (.val x.1:: .val x.2::τ))
  (he:∀x∈x0::ps,p x=true->ev c el (.val x.1:: .val x.2::τ)=.ok (.val (f x)) (.val x.1:: .val x.2::τ)):ev c (.comp 2 (.tup [0,1]) it co el) σ=.ok (.new (.lst (((x0::ps).filter p).map f))) τ:=by
 rw[rm,hi]
 have b:∀{β:Type}(g:D->Ev->Out β),(Out.ok r τ0).au g=g d τ0:=fun g=>by cases r<;>simp[Rv.kI]at hr<;>subst hr<;>rfl
 rw[b]
 simp only[hd]
 rw[show List.replicate 2 Sl.un++τ0=.un:: .un::τ0 from rfl,Qyq,aN,show pairD x0=.tup [x0.1,x0.2]from rfl,vq (.inl rfl) (.inl rfl)]
 simp only
 rw[hc0,fK]
 cases q:p x0 with
 |true=>
  obtain⟨s',t',a⟩:=go2 ps _ _ _ (.inr ⟨_,rfl⟩) (.inr ⟨_,rfl⟩) hc (fun x hx=>he x (QYq _ hx))
  rw[if_pos rfl,he x0 QYz q,cC,a]
  simp[q]
 |false=>
  obtain⟨s',t',a⟩:=go2 ps [] _ _ (.inr ⟨_,rfl⟩) (.inr ⟨_,rfl⟩) hc (fun x hx=>he x (QYq _ hx))
  rw[if_neg (by simp),a]
  simp[q]
end
theorem jf:∀(bs:List Bool),bools (bs.map D.bl)=some bs
 |[]=>rfl
 |b::bs=>by simp[bools,jf bs]
theorem ur:∀{α:Type}(xs:List α),bools (xs.map fun _=>D.bl true)=some (xs.map fun _=>true)
 |_,[]=>rfl
 |_,x::xs=>by simp[bools,ur xs]
theorem Eg:∀{α:Type}(xs:List α),(xs.map fun _=>true).all id=true
 |_,[]=>rfl
 |_,x::xs=>by simpa using Eg xs
section
def all1(hi:ev c it σ=.ok r τ)(hr:r.kI=some d)(hd:items d=some xs)(he:∀x∈xs,ev c el (.val x::τ)=.ok (.val (.bl true)) (.val x::τ)):
  ev c (.bi .all (.comp 1 (.name 0) it AAH el)) σ=.ok (.val (.bl true)) τ:=by
 rw[uH]
 simp only[uy]
 rw[qu _ hi hr hd he,lR]
 simp only[Vp,Py,vy,QFq]
 rw[ur]
 simp only[Option.map_some,vQ,Eg]
def all2{ps:List (D×D)}(hi:ev c it σ=.ok r τ)(hr:r.kI=some d)(hd:items d=some (ps.map pairD))(he:∀x∈ps,ev c el (.val x.1:: .val x.2::τ)=.ok (.val (.bl true)) (.val x.1:: .val x.2::τ)):
  ev c (.bi .all (.comp 2 (.tup [0,1]) it AAH el)) σ=.ok (.val (.bl true)) τ:=by
 rw[uH]
 simp only[uy]
 rw[O7 _ hi hr hd he,lR]
 simp only[Vp,Py,vy,QFq]
 rw[ur]
 simp only[Option.map_some,vQ,Eg]
end
theorem dM:∀(xs ys:List D),aP xs ys=(xs.zip ys).map pairD
 |[],_=>by simp[aP]
 |_::_,[]=>by simp[aP]
 |x::xs,y::ys=>by simp[aP,dM xs ys,pairD]
end Mini
end
section
namespace Mini
open PySem
@[simp]def fin(k:Nat):Fl->Res
 |.next σ=>.ok (.val .non) (σ.take k)
 |.ret r σ=>.ok r (σ.take k)
 |.exc c σ=>.exc c (σ.take k)
 |_=>.bad
def Q5 c f ps(h:ps.length=f.pars):gY c f ps=fin f.pars (ex c f.body (ps++List.replicate (f.names-f.pars) .un)):=by
 unfold gY
 rw[if_pos h]
 cases ex c f.body _<;>rfl
def Aw{α:Type}(b:Bool)(r:Out α):Out α:=if b then .bad else r
def Y5(b:Bool)(r:Fl):Fl:=if b then .bad else r
def xK{α:Type}(b:Bool)(r:Option α):Option α:=if b then none else r
@[simp]theorem adC(r:Out α):Aw false r=r:=rfl
@[simp]theorem agg r:Y5 false r=r:=rfl
@[simp]theorem abF(r:Option α):xK false r=r:=rfl
@[simp]theorem abE(r:Option α):xK true r=none:=rfl
@[simp]def aa3(i:Nat)(σ:Ev):Option Sl->Out Rv
 |some (.val d)=>.ok (.val d) σ
 |some (.own o)=>.ok (.val o.d) (σ.set i (.val o.d))
 |_=>.bad
@[simp]theorem aa2 i σ:rZ i σ=aa3 i σ σ[i]? :=rfl
@[simp]def abK:Option Sl->Option D
 |some (.val d)=>some d
 |some (.own o)=>some o.d
 |some (.bor o)=>some o.d
 |_=>none
@[simp]theorem abJ i σ:bf i σ=abK σ[i]? :=rfl
def Ky(i:Nat)(σ:Ev)(s:Sl):Option Sl->Option Ev
 |some (.bor _)=>none
 |some _=>some (σ.set i s)
 |none=>none
@[simp]theorem aaS i s σ:fP i s σ=Ky i σ s σ[i]? :=rfl
@[simp]theorem aaT(i σ s d):Ky i σ s (some (.val d))=some (σ.set i s):=rfl
@[simp]theorem aaU(i σ s o):Ky i σ s (some (.own o))=some (σ.set i s):=rfl
@[simp]theorem ac0(i σ s):Ky i σ s (some .un)=some (σ.set i s):=rfl
@[simp]theorem aaV(i σ s o):Ky i σ s (some (.bor o))=none:=rfl
@[simp]def Cj(i:Nat)(σ:Ev)(q:Ob):Ev:=σ.set i (.own q)
@[simp]def WX(i:Nat)(σ:Ev)(q:Ob):Ev:=σ.set i (.bor q)
@[simp]def aax(i:Nat)(f:Ob->Option Ob)(σ:Ev):Option Sl->Option Ev
 |some (.own o)=>(f o).map (Cj i σ)
 |some (.bor o)=>(f o).map (WX i σ)
 |_=>none
@[simp]theorem aaw i f σ:fM i f σ=aax i f σ σ[i]? :=rfl
@[simp]def okB(r:Rv):Option Ev->Out Rv
 |some σ=>.ok r σ
 |none=>.bad
@[simp]def acn(as:List Rv)(σ:Ev):Res->Out Rv
 |.ok r qs=>okB r (giveBack as qs σ)
 |_=>.bad
@[simp]def aco(c:Cf)(f:Nat)(as:List Rv)(σ:Ev):Option (List Sl)->Out Rv
 |none=>.bad
 |some ps=>acn as σ (c.fn f ps)
@[simp]theorem acp c f as σ:uo c f as σ=aco c f as σ (enter as σ):=rfl
@[simp]theorem adx(σ):enter [] σ=some []:=rfl
@[simp]theorem adw(d as σ):enter (.val d::as) σ=(enter as σ).map (.val d:: ·):=rfl
@[simp]theorem adv(o as σ):enter (.tmp o::as) σ=xK (as.any z7) ((enter as σ).map (.bor o:: ·)):=rfl
@[simp]def af2(r:Option (List Sl)):Option Sl->Option (List Sl)
 |some (.own o)=>r.map (.bor o:: ·)
 |some (.bor o)=>r.map (.bor o:: ·)
 |_=>none
@[simp]theorem adu(i as σ):enter (.ref i::as) σ=xK (as.any (jA i)) (af2 (enter as σ) σ[i]?):=rfl
@[simp]theorem aiG c(i σ):ev c (.var i) σ=rZ i σ:=rfl
@[simp]theorem aiF c(d σ):ev c (.con d) σ=.ok (.val d) σ:=rfl
@[simp]theorem aiE c(k σ):ev c (.glob k) σ=match c.gl k with|some d=>.ok (.val d) σ|none=>.bad:=rfl
@[simp]def ad2(ds:List D):Option Rv:=if fits ds.length then some (.val (.tup ds))else none
@[simp]def ae5(ds:List D):Option Rv:=if fits ds.length then some (.new (.lst ds))else none
@[simp]def afa(rs:List Rv)(σ:Ev):Out Rv:=lift σ ((bj rs).bind ad2)
@[simp]def afh(rs:List Rv)(σ:Ev):Out Rv:=lift σ ((bj rs).bind ae5)
@[simp]theorem aiD c(es σ):ev c (.tup es) σ=(evs c es σ).bind afa:=rfl
@[simp]theorem aiC c(es σ):ev c (.lis es) σ=(evs c es σ).bind afh:=rfl
@[simp]def afe(o:Zg)(x y:D)(σ:Ev):Out Rv:=lift σ (binop o x y)
@[simp]def kOp(c:Cf)(o:Zg)(b:E)(x:D)(σ:Ev):Out Rv:=(ev c b σ).au (afe o x)
@[simp]theorem aiB c(o a b σ):ev c (.op o a b) σ=(ev c a σ).au (kOp c o b):=rfl
@[simp]theorem aiA c(a σ):ev c (.neg a) σ=(ev c a σ).au fun x σ=>lift σ (match x with|.int i=>some (.val (.int (-i)))|_=>none):=rfl
@[simp]def qV(q:Bool):Rv:=.val (.bl q)
@[simp]def af6(o:Cm)(x d:D):Option Rv:=(aK o x d).map qV
@[simp]def M5(o:Cm)(x y:D)(σ:Ev):Out Rv:=lift σ ((aK o x y).map qV)
@[simp]def afs(c:Cf)(o:Cm)(b:E)(x:D)(σ:Ev):Option Nat->Out Rv
 |some k=>lift σ ((bf k σ).bind (af6 o x))
 |none=>(ev c b σ).au (M5 o x)
@[simp]def abZ(c:Cf)(o:Cm)(b:E)(x:D)(σ:Ev):Out Rv:=afs c o b x σ b.aB
@[simp]theorem aiz c(o a b σ):ev c (.cmp o a b) σ=(ev c a σ).au (abZ c o b):=rfl
def XJ(c:Cf)(o:Cm)(d:E)(y:D)(q:Bool)(σ:Ev):Out Rv:=if q then(ev c d σ).au (M5 o y)else .ok (.val (.bl false)) σ
@[simp]theorem aft(c o d y σ):XJ c o d y true σ=(ev c d σ).au (M5 o y):=rfl
@[simp]theorem afu(c o d y σ):XJ c o d y false σ=.ok (.val (.bl false)) σ:=rfl
@[simp]def afv(c:Cf)(o p:Cm)(d:E)(x y:D)(σ:Ev):Out Rv:=(lift σ (aK o x y)).bind (XJ c p d y)
@[simp]def kCh(c:Cf)(o p:Cm)(b d:E)(x:D)(σ:Ev):Out Rv:=(ev c b σ).au (afv c o p d x)
@[simp]theorem aiy c(υ ψ a b d σ):ev c (.chain υ ψ a b d) σ=(ev c a σ).au (kCh c υ ψ b d):=rfl
@[simp]theorem aix c(es σ):ev c (.and es) σ=iD c es σ:=rfl
@[simp]theorem ag6 c(es σ):ev c (.or es) σ=oh c es σ:=rfl
@[simp]def afg(b:Bool)(σ:Ev):Out Rv:=.ok (.val (.bl (!b))) σ
@[simp]theorem ag5 c(a σ):ev c (.not a) σ=(ev c a σ).cM jk afg:=rfl
def M4(c:Cf)(a b:E)(q:Bool)(σ:Ev):Out Rv:=if q then ev c a σ else ev c b σ
@[simp]theorem adc(c a b σ):M4 c a b true σ=ev c a σ:=rfl
@[simp]theorem ade(c a b σ):M4 c a b false σ=ev c b σ:=rfl
@[simp]theorem ag4 c(t a b σ):ev c (.ite t a b) σ=(ev c t σ).cM jk (M4 c a b):=rfl
@[simp]def afK(y d:D):Option Rv:=(getD d y).map Rv.val
@[simp]def afm(k:Nat)(y:D)(σ:Ev):Out Rv:=lift σ ((bf k σ).bind (afK y))
@[simp]def abT(x y:D)(σ:Ev):Out Rv:=lift σ ((getD x y).map Rv.val)
@[simp]def abU(c:Cf)(i:E)(x:D)(σ:Ev):Out Rv:=(ev c i σ).au (abT x)
@[simp]def afF(c:Cf)(a i:E)(σ:Ev):Option Nat->Out Rv
 |some k=>Aw (bf k σ).isNone ((ev c i σ).au (afm k))
 |none=>(ev c a σ).au (abU c i)
@[simp]theorem ag3 c(a i σ):ev c (.idx a i) σ=afF c a i σ a.aB:=rfl
@[simp]def afb(hi:E)(x:D)(l:Option Int)(h:D)(σ:Ev):Out Rv:=lift σ ((fj hi.nD h).bind (jX x l))
@[simp]def slM(c:Cf)(hi:E)(x:D)(σ:Ev):Option (Option Int)->Out Rv
 |none=>.bad
 |some l=>(ev c hi σ).au (afb hi x l)
@[simp]def afc(c:Cf)(lo hi:E)(x l:D)(σ:Ev):Out Rv:=slM c hi x σ (fj lo.nD l)
@[simp]def kSl(c:Cf)(lo hi:E)(x:D)(σ:Ev):Out Rv:=(ev c lo σ).au (afc c lo hi x)
@[simp]theorem ag2 c(a lo hi σ):ev c (.slc a lo hi) σ=(ev c a σ).au (kSl c lo hi):=rfl
@[simp]theorem ag1 c(σ):ev c .noneE σ=.ok (.val .non) σ:=rfl
@[simp]theorem ag0 c(f as σ):ev c (.call f as) σ=(evs c as σ).bind (uo c f):=rfl
@[simp]def aeS(i:Nat)(σ:Ev):Option Sl->Out Rv
 |some (.own _)=>.ok (.ref i) σ
 |some (.bor _)=>.ok (.ref i) σ
 |_=>.bad
@[simp]theorem agZ c(i σ):ev c (.ref i) σ=aeS i σ σ[i]? :=rfl
@[simp]theorem agY c(e σ):ev c (.rd e) σ=ev c e σ:=rfl
def abO(x:Rv)(σ:Ev):Out Rv:=lift σ (match x with|.new o=>some (.tmp o)|_=>none)
@[simp]theorem abN(o σ):abO (.new o) σ=.ok (.tmp o) σ:=rfl
@[simp]theorem agX c(e σ):ev c (.tmp e) σ=(ev c e σ).bind abO:=rfl
@[simp]def afl(t:Ty)(x:D)(σ:Ev):Out Rv:=.ok (.val (.bl (tL t x))) σ
@[simp]theorem agW c(a t σ):ev c (.isi a t) σ=(ev c a σ).au (afl t):=rfl
@[simp]def kBi(b:Bi)(x:D)(σ:Ev):Out Rv:=lift σ (b1 b x)
@[simp]def biM(c:Cf)(b:Bi)(a:E)(σ:Ev):Option Nat->Out Rv
 |some k=>lift σ ((bf k σ).bind (b1 b))
 |none=>(ev c a σ).au (kBi b)
@[simp]theorem agV c(b a σ):ev c (.bi b a) σ=biM c b a σ a.aB:=rfl
def abR(x:D)(σ:Ev):Out Rv:=lift σ (match x with|.int n=>if fits n.toNat&&Gd n then some (.val (.lst (cV 0 n.toNat)))else none|_=>none)
@[simp]theorem abQ n(σ):abR (.int n) σ=lift σ (if fits n.toNat&&Gd n then some (.val (.lst (cV 0 n.toNat)))else none):=rfl
@[simp]theorem agU c(a σ):ev c (.range1 a) σ=(ev c a σ).au abR:=rfl
@[simp]def adP(xs ys:List D):Rv:=.val (.lst (aP xs ys))
@[simp]def adQ(y:D)(xs:List D):Option Rv:=(bH y).map (adP xs)
@[simp]def abM(x y:D)(σ:Ev):Out Rv:=lift σ ((bH x).bind (adQ y))
@[simp]def ae9(c:Cf)(b:E)(x:D)(σ:Ev):Out Rv:=(ev c b σ).au (abM x)
@[simp]theorem agT c(a b σ):ev c (.zip a b) σ=(ev c a σ).au (ae9 c b):=rfl
@[simp]def abY(x y:D)(σ:Ev):Out Rv:=lift σ (DG x y)
@[simp]def afr(c:Cf)(b:E)(x:D)(σ:Ev):Out Rv:=Aw (bH x).isNone ((ev c b σ).au (abY x))
@[simp]theorem agS c(a b σ):ev c (.count a b) σ=(ev c a σ).au (afr c b):=rfl
@[simp]theorem adf(ks vs):tR (some (.dq ks vs))=true:=rfl
@[simp]theorem agR c(k a σ):ev c (.popAt k a) σ=Aw (!ig (bf k σ)) ((ev c a σ).au (sH k)):=rfl
@[simp]def abX(c:Cf)(nl:Nat)(tg:Tg)(cond elt:E)(x:D)(σ:Ev):Out Rv:=match items x with
  |some xs=>match aN tg (ev c cond) (ev c elt) xs [] (List.replicate nl .un++σ)with
   |.ok ys τ=>.ok (.new (.lst ys)) (τ.drop nl)
   |_=>.bad
  |none=>.bad
@[simp]theorem agQ c(nl tg it cond elt σ):ev c (.comp nl tg it cond elt) σ=(ev c it σ).au (abX c nl tg cond elt):=rfl
@[simp]def abW(x:Rv)(xs:List Rv)(σ:Ev):Out (List Rv):=.ok (argv x::xs) σ
@[simp]def afp(c:Cf)(t:E)(x:Rv)(σ:Ev):Out (List Rv):=(evs c t σ).bind (abW x)
@[simp]theorem agM c(σ):evs c .nil σ=.ok [] σ:=rfl
@[simp]theorem agL c(h t σ):evs c (.cons h t) σ=(ev c h σ).bind (afp c t):=rfl
@[simp]theorem aiw c(σ):ex c .nil σ=.next σ:=rfl
@[simp]theorem aiv c(h t σ):ex c (.cons h t) σ=(ex c h σ).seq (ex c t):=rfl
@[simp]theorem aiu c(σ):ex c .pass σ=.next σ:=rfl
@[simp]theorem ait c(σ):ex c .brk σ=.brk σ:=rfl
@[simp]theorem ais c(σ):ex c .cont σ=.cont σ:=rfl
@[simp]def Wy(i:Nat)(σ:Ev)(s:Sl):Option Ev:=fP i s σ
@[simp]def afd(i:Nat)(x:Rv)(σ:Ev):Fl:=Iw (x.BJ.bind (Wy i σ))
@[simp]theorem air c(i e σ):ex c (.set i e) σ=(ev c e σ).fl (afd i):=rfl
@[simp]def abP(is:List Nat)(x:D)(σ:Ev):Fl:=Iw (eE (.tup is) x σ)
@[simp]theorem aiq c(is e σ):ex c (.setT is e) σ=(ev c e σ).qG (abP is):=rfl
@[simp]def afi(k:Nat)(x y:D)(σ:Ev):Fl:=Iw (fM k (Ck y x) σ)
@[simp]def kIx(c:Cf)(k:Nat)(ix:E)(x:D)(σ:Ev):Fl:=Y5 (bf k σ).isNone ((ev c ix σ).qG (afi k x))
@[simp]theorem aip c(k ix e σ):ex c (.setIx k ix e) σ=(ev c e σ).qG (kIx c k ix):=rfl
@[simp]def abS(_:D)(σ:Ev):Fl:=.next σ
@[simp]theorem aio c(e σ):ex c (.expr e) σ=(ev c e σ).qG abS:=rfl
@[simp]def agj(x:D)(xs:List D):Option (List D):=if fits (xs.length+1)then some (xs++[x])else none
@[simp]def afw(k:Nat)(x:D)(σ:Ev):Fl:=Iw (fM k (Iu (agj x)) σ)
@[simp]theorem ain c(k e σ):ex c (.append k e) σ=Y5 (!ig (bf k σ)) ((ev c e σ).qG (afw k)):=rfl
@[simp]def aeQ(c:Cf)(e:E)(i:Nat)(σ:Ev):Option Sl->Fl
 |some (.own o)=>.ret (.new o) (σ.set i .un)
 |_=>(ev c e σ).fl w6
@[simp]def aeR(c:Cf)(e:E)(σ:Ev):Option Nat->Fl
 |some i=>aeQ c e i σ σ[i]?
 |none=>(ev c e σ).fl w6
@[simp]theorem agK c(e σ):ex c (.ret e) σ=aeR c e σ e.aB:=rfl
def XH(c:Cf)(a b:S)(q:Bool)(σ:Ev):Fl:=if q then ex c a σ else ex c b σ
@[simp]theorem afj(c a b σ):XH c a b true σ=ex c a σ:=rfl
@[simp]theorem afk(c a b σ):XH c a b false σ=ex c b σ:=rfl
@[simp]theorem agJ c(t a b σ):ex c (.ite t a b) σ=(ev c t σ).Oj (XH c a b):=rfl
@[simp]def kFor(c:Cf)(tg:Tg)(b:S)(σ:Ev):Option (List D)->Fl
 |some xs=>eY tg (ex c b) xs σ
 |none=>.bad
@[simp]def abV(c:Cf)(tg:Tg)(b:S)(x:D)(σ:Ev):Fl:=kFor c tg b σ (items x)
@[simp]theorem agI c(tg it b σ):ex c (.for_ tg it b) σ=(ev c it σ).qG (abV c tg b):=rfl
@[simp]theorem agH c(t b σ):ex c (.while_ t b) σ=gh (ev c t) (ex c b) c.turns σ:=rfl
@[simp]theorem agG c(k σ):ex c (.raise k) σ=.exc k σ:=rfl
@[simp]def afx(c:Cf)(e:E)(x:D)(σ:Ev):Out Rv:=match x with|.bl true=>iD c e σ|.bl false=>.ok (.val (.bl false)) σ|_=>.bad
@[simp]def kOr(c:Cf)(e:E)(x:D)(σ:Ev):Out Rv:=match x with|.bl true=>.ok (.val (.bl true)) σ|.bl false=>oh c e σ|_=>.bad
@[simp]theorem adt c(h σ):iD c (.cons h .nil) σ=ev c h σ:=rfl
@[simp]theorem adq c(h a b σ):iD c (.cons h (.cons a b)) σ=(ev c h σ).au (afx c (.cons a b)):=rfl
@[simp]theorem af1 c(h σ):oh c (.cons h .nil) σ=ev c h σ:=rfl
@[simp]theorem af0 c(h a b σ):oh c (.cons h (.cons a b)) σ=(ev c h σ).au (kOr c (.cons a b)):=rfl
@[simp high]theorem ajm x0:at? [x0] 0=some x0:=rfl
@[simp high]theorem ajl x0 x1:at? [x0,x1] 0=some x0:=rfl
@[simp high]theorem ajk x0 x1:at? [x0,x1] 1=some x1:=rfl
@[simp high]theorem ajj x0 x1 x2:at? [x0,x1,x2] 0=some x0:=rfl
@[simp high]theorem aji x0 x1 x2:at? [x0,x1,x2] 1=some x1:=rfl
@[simp high]theorem ajh x0 x1 x2:at? [x0,x1,x2] 2=some x2:=rfl
@[simp high]theorem ajg x0 x1 x2 x3:at? [x0,x1,x2,x3] 0=some x0:=rfl
@[simp high]theorem ajf x0 x1 x2 x3:at? [x0,x1,x2,x3] 1=some x1:=rfl
@[simp high]theorem aje x0 x1 x2 x3:at? [x0,x1,x2,x3] 2=some x2:=rfl
@[simp high]theorem ajd x0 x1 x2 x3:at? [x0,x1,x2,x3] 3=some x3:=rfl
@[simp]theorem aim(σ):giveBack [] [] σ=some σ:=rfl
@[simp]theorem ail(i as o ps σ):giveBack (.ref i::as) (.bor o::ps) σ=(fM i (fun _=>some o) σ).bind (giveBack as ps):=rfl
@[simp]theorem aik(d as p ps σ):giveBack (.val d::as) (p::ps) σ=giveBack as ps σ:=rfl
@[simp]theorem aij(o as p ps σ):giveBack (.tmp o::as) (p::ps) σ=giveBack as ps σ:=rfl
@[simp]theorem ahN(i j):jA i (.ref j)=(i==j):=rfl
@[simp]theorem ahM(i d):jA i (.val d)=false:=rfl
@[simp]theorem ahL(i o):jA i (.tmp o)=false:=rfl
@[simp]theorem ahK(i o):jA i (.new o)=false:=rfl
@[simp]theorem ah0(o):z7 (.tmp o)=true:=rfl
@[simp]theorem ahZ(d):z7 (.val d)=false:=rfl
@[simp]theorem ahY(i):z7 (.ref i)=false:=rfl
@[simp]theorem ahs(xs):tL .tup (.tup xs)=true:=rfl
@[simp]theorem ahr(xs):tL .lst (.lst xs)=true:=rfl
@[simp]theorem ahq(x):tL .str (.str x)=true:=rfl
@[simp]theorem ahp(b):tL .bool (.bl b)=true:=rfl
def ad0(i):tL .bool (.int i)=false:=rfl
@[simp]theorem aho(i):tL .int (.int i)=true:=rfl
@[simp]theorem afZ:fits 0=true:=rfl
@[simp]theorem afY:fits 1=true:=rfl
@[simp]theorem afX:fits 2=true:=rfl
@[simp]theorem afW:fits 3=true:=rfl
@[simp]theorem afV:fits 4=true:=rfl
@[simp]theorem afU:fits 5=true:=rfl
@[simp]theorem afT:fits 6=true:=rfl
@[simp]theorem afS:fits 7=true:=rfl
@[simp]theorem afR:fits 8=true:=rfl
@[simp]theorem acb i j:binop .fdiv (.int i) (.int j)=if 0<j/\j<1073741824 then some (.val (.int (i/j)))else none:=rfl
@[simp]theorem pow_int i j:binop .pow (.int i) (.int j)=if 0<=j/\j<=64/\small i=true then some (.val (.int (i ^j.toNat)))else none:=rfl
@[simp↓]theorem ite_tt{α:Type}(a b:α):(if true=true then a else b)=a:=rfl
@[simp↓]theorem ite_ff{α:Type}(a b:α):(if false=true then a else b)=b:=rfl
@[simp]theorem adK xs ys:binop .add (.tup xs) (.tup ys)=if fits (xs.length+ys.length)then some (.val (.tup (xs++ys)))else none:=rfl
@[simp]theorem adL xs ys:binop .add (.lst xs) (.lst ys)=if fits (xs.length+ys.length)then some (.new (.lst (xs++ys)))else none:=rfl
@[simp]theorem adJ ks vs:b1 .copy (.dq ks vs)=some (.new (.dct ks vs)):=rfl
@[simp]def gtK(k x y:D):Option Rv:=(qg y k x).map Rv.val
@[simp]def afn(i:Nat)(k x:D)(σ:Ev):Out Rv:=lift σ ((bf i σ).bind (gtK k x))
@[simp]def afo(c:Cf)(i:Nat)(x:E)(k:D)(σ:Ev):Out Rv:=(ev c x σ).au (afn i k)
@[simp]def afJ(c:Cf)(d k x:E)(σ:Ev):Option Nat->Out Rv
 |some i=>Aw (!tR (bf i σ)) ((ev c k σ).au (afo c i x))
 |none=>.bad
@[simp]theorem agP c(d k x σ):ev c (.get2 d k x) σ=afJ c d k x σ d.aB:=rfl
@[simp]def afq(rs:List Rv)(σ:Ev):Out Rv:=lift σ ((bj rs).bind Tp)
@[simp]theorem agO c(es σ):ev c (.dsp es) σ=(evs c es σ).bind afq:=rfl
@[simp]theorem agN c(σ):ev c .emp σ=.ok (.new (.dct [] [])) σ:=rfl
@[simp high]theorem aii a0(r:Ev):(a0::r)[0]? =some a0:=rfl
@[simp high]theorem ahH a0 v(r:Ev):List.set (a0::r) 0 v=v::r:=rfl
@[simp high]theorem aih a0 a1(r:Ev):(a0::a1::r)[1]? =some a1:=rfl
@[simp high]theorem ahG a0 a1 v(r:Ev):List.set (a0::a1::r) 1 v=a0::v::r:=rfl
@[simp high]theorem aig a0 a1 a2(r:Ev):(a0::a1::a2::r)[2]? =some a2:=rfl
@[simp high]theorem ahF a0 a1 a2 v(r:Ev):List.set (a0::a1::a2::r) 2 v=a0::a1::v::r:=rfl
@[simp high]theorem aif a0 a1 a2 a3(r:Ev):(a0::a1::a2::a3::r)[3]? =some a3:=rfl
@[simp high]theorem ahE a0 a1 a2 a3 v(r:Ev):List.set (a0::a1::a2::a3::r) 3 v=a0::a1::a2::v::r:=rfl
@[simp high]theorem aie a0 a1 a2 a3 a4(r:Ev):(a0::a1::a2::a3::a4::r)[4]? =some a4:=rfl
@[simp high]theorem ahD a0 a1 a2 a3 a4 v(r:Ev):List.set (a0::a1::a2::a3::a4::r) 4 v=a0::a1::a2::a3::v::r:=rfl
@[simp high]theorem aid a0 a1 a2 a3 a4 a5(r:Ev):(a0::a1::a2::a3::a4::a5::r)[5]? =some a5:=rfl
@[simp high]theorem ahC a0 a1 a2 a3 a4 a5 v(r:Ev):List.set (a0::a1::a2::a3::a4::a5::r) 5 v=a0::a1::a2::a3::a4::v::r:=rfl
@[simp high]theorem aic a0 a1 a2 a3 a4 a5 a6(r:Ev):(a0::a1::a2::a3::a4::a5::a6::r)[6]? =some a6:=rfl
@[simp high]theorem ahB a0 a1 a2 a3 a4 a5 a6 v(r:Ev):List.set (a0::a1::a2::a3::a4::a5::a6::r) 6 v=a0::a1::a2::a3::a4::a5::v::r:=rfl
@[simp high]theorem aib a0 a1 a2 a3 a4 a5 a6 a7(r:Ev):(a0::a1::a2::a3::a4::a5::a6::a7::r)[7]? =some a7:=rfl
@[simp high]theorem ahA a0 a1 a2 a3 a4 a5 a6 a7 v(r:Ev):List.set (a0::a1::a2::a3::a4::a5::a6::a7::r) 7 v=a0::a1::a2::a3::a4::a5::a6::v::r:=rfl
@[simp high]theorem aia a0 a1 a2 a3 a4 a5 a6 a7 a8(r:Ev):(a0::a1::a2::a3::a4::a5::a6::a7::a8::r)[8]? =some a8:=rfl
@[simp high]theorem ahz a0 a1 a2 a3 a4 a5 a6 a7 a8 v(r:Ev):List.set (a0::a1::a2::a3::a4::a5::a6::a7::a8::r) 8 v=a0::a1::a2::a3::a4::a5::a6::a7::v::r:=rfl
@[simp high]theorem ah9 a0 a1 a2 a3 a4 a5 a6 a7 a8 a9(r:Ev):(a0::a1::a2::a3::a4::a5::a6::a7::a8::a9::r)[9]? =some a9:=rfl
@[simp high]theorem ahy a0 a1 a2 a3 a4 a5 a6 a7 a8 a9 v(r:Ev):List.set (a0::a1::a2::a3::a4::a5::a6::a7::a8::a9::r) 9 v=a0::a1::a2::a3::a4::a5::a6::a7::a8::v::r:=rfl
abbrev iV:=List (Str×Int)
def oU:List D->List D->Option iV
 |[],[]=>some []
 |.str x::ks,.int i::vs=>(oU ks vs).map ((x,i):: ·)
 |_,_=>none
def uI(l:iV):List D:=l.map fun p=>.str p.1
def Hw(l:iV):List D:=l.map fun p=>.int p.2
def bZ(x:Str):iV->Option Int
 |[]=>none
 |p::r=>if p.1=x then some p.2 else bZ x r
def iQ(ls ss:iV)(i:Nat):Int:=match ss[i]? with
 |some p=>p.2+(bZ p.1 ls).getD 0
 |none=>0
def fX(f:Nat->Int):Nat->Nat
 |0=>0
 |n+1=>if f n<f (fX f n)then n else fX f n
structure Gs where
 cs:List D
 sd:D
 ss:iV
structure Gf where
 led:List Sl->Res
 stp:List Sl->Res
 snw:List Sl->Res
def Mp:Res->Option iV
 |.ok (.new (.dct ks vs)) _=>oU ks vs
 |_=>none
def Bj:Res->Option D
 |.ok (.val d) _=>some d
 |_=>none
def Ja:Res->Option (List D)
 |.ok (.new (.lst xs)) _=>some xs
 |_=>none
def okT(ls ss:iV):Bool:=ss.all fun p=>bZ p.1 ss==some p.2&&(bZ p.1 ls).isSome
def xO(f:Gf)(n t sd:D):Option (List D):=if gG sd then some []else Ja (f.stp [.val n,.val t,.val sd])
def rQ(f:Gf)(nm:List D)(ss:iV)(tm:Int):Option iV:=Mp (f.snw [.val (.lst nm),.bor (.dct (uI ss) (Hw ss)),.val (.int tm)])
noncomputable def jW(f:Gf)(n t:D)(ls:iV)(g:Gs):Option Gs:=
 if okT ls g.ss&&fits (g.cs.length+1)then match g.ss[fX (iQ ls g.ss) g.ss.length]? with
  |none=>none
  |some p=>(Bj (f.led [.val n,.val t,.val g.sd,.val (.str p.1)])).bind fun sd=>(xO f n t sd).bind fun nm=>
    (rQ f nm (g.ss.filter fun q=>decide (q.1≠p.1)) (iQ ls g.ss (fX (iQ ls g.ss) g.ss.length))).map fun ss=>
     ⟨g.cs++[.tup [.int (iQ ls g.ss (fX (iQ ls g.ss) g.ss.length)),.str p.1]],sd,ss⟩
 else none
def mq(st:Gs->Option Gs)(k:Int):Nat->Gs->Option Gs
 |0,_=>none
 |m+1,g=>if !g.ss.isEmpty&&decide ((g.cs.length:Int)<k)then(st g).bind (mq st k m)else some g
def Ov(g:Gs):D:=if gG g.sd then .str "unasked" else if g.ss.isEmpty then .str "end" else .str "on"
structure Qp where
 chk:Nat
 isn:Nat
 fst:Nat
 stp:Nat
 led:Nat
 snw:Nat
 mz:E
 top:Int
def Qp.gf(T:Qp)(c:Cf):Gf:=⟨c.fn T.led,c.fn T.stp,c.fn T.snw⟩
def R4:Out Rv->Option iV
 |.ok (.new (.dct ks vs)) _=>oU ks vs
 |_=>none
noncomputable def Sy(T:Qp)(c:Cf)(n t w:D):Option (iV×Gs):=
 (R4 (ev c T.mz [.un,.val n,.val t,.val w])).bind fun ls=>(Bj (c.fn T.fst [.val n])).bind fun sd=>(Ja (c.fn T.stp [.val n,.val t,.val sd])).bind fun nm=>
  (rQ (T.gf c) nm [] 0).map fun ss=>(ls,⟨[],sd,ss⟩)
def Ni:Res->Bool
 |.ok (.val _) _=>true
 |_=>false
def isT:Res->Bool
 |.ok (.val (.bl true)) _=>true
 |_=>false
noncomputable def dY(T:Qp)(c:Cf):List Sl->Res
 |[.val n,.val t,.val w,.val (.int k)]=>
  if Ni (c.fn T.chk [.val n,.val t,.val w])&&isT (c.fn T.isn [.val (.int k),.val (.int 0),.val (.int T.top)])then
   match (Sy T c n t w).bind fun q=>mq (jW (T.gf c) n t q.1) k c.turns q.2 with
   |some g=>.ok (.val (.tup [.lst g.cs,Ov g])) [.val n,.val t,.val w,.val (.int k)]
   |none=>.bad
  else .bad
 |_=>.bad
end Mini
end
section
namespace Mini
open PySem L2 PyProof.Rows
section
variable{X:Cx}{γ:QQz}{σ:L2.St}{H:Hp}{s:Shared}{b:Addr}{o:Obj}
def Inv.sO(I:L2.Inv X γ σ H s)(f:dW X γ H b)(e:s.heap.get? b=some o)(hn:∀v,o.data≠ .cell v):L2.Inv X (γ++[(b,o)]) σ H s:=
 I.xu fun p hp=>by
  rcases QXz.mp hp with hp|hp
  ·exact I.pin p (QVq _ hp)
  ·rw[QDq.mp hp]
   exact⟨e,f.1,f.2.1,f.2.2.1,hn⟩
def dW.sO(f:dW X γ H c)(h:b≠c):dW X (γ++[(b,o)]) H c:=
 ⟨f.1,f.2.1,f.2.2.1,f.2.2.2.1,f.2.2.2.2.1,fun p hp=>by
  rcases QXz.mp hp with hp|hp
  ·exact f.2.2.2.2.2 p (QWz _ hp)
  ·rcases QXz.mp hp with hp|hp
   ·exact f.2.2.2.2.2 p (QVq _ hp)
   ·rw[QDq.mp hp];exact h⟩
def Inv.last(I:L2.Inv X (γ++[(b,o)]) σ H s):s.heap.get? b=some o:=(I.pin (b,o) (QVq _ (QVq _ (.head _)))).1
end
section
variable{X:Cx}{A:Around}{γ:QQz}{σ:L2.St}{H:Hp}{l it S q:Addr}{xs:List V}{R:Result->Shared->Prop}{kf:Nat->Int}
theorem MF(hA:X.A=A.in1)(hc:X.calm=true)(hl:H l=some (.lst xs))(hSI:S≠it)
  (turn:∀(i:Nat)(v:V)(u:Value)(ω:QQz)(s:Shared),xs[i]? =some v->L2.Inv X ω σ H s->RelV v u->wpAny (model X.prog X.w) X.A (call (.ref q) [u]) (EP X ω σ (fun r H'=>r=.int (kf i)/\H'=H)) (fun _ _=>False) s)
  (fin:∀(i:Nat)(v:V)(u:Value)(s:Shared),xs[i]? =some v->(∀j,j<xs.length->kf i<=kf j/\(j<i->kf i<kf j))->L2.Inv X γ σ H s->RelV v u->R (.ok (.ret u)) s):
  ∀(r j i:Nat)(s:Shared)(vb:V)(ub:Value)(tb:Tok)(c:Nat),xs.length- (j+1)=r->j+1<=xs.length->L2.Inv X γ σ H s->dW X γ H it->dW X γ H S->s.heap.IsListIter it l (j+1)->
   s.heap.get? S=some (seqObj "list" #[ub,.int (kf i) tb] c)->xs[i]? =some vb->RelV vb ub->i<=j->(∀j',j'<=j->kf i<=kf j'/\(j'<i->kf i<kf j'))->
   codeAny (model X.prog X.w) A (.builtin "min.loop" ⟨[.ref it,.ref q,.ref S],[]⟩) R s:=by
 have hname:(toString "min"++toString ".loop":String)="min.loop":=by decide
 have T:=oO (P:=X.prog) (w:=X.w) (K:=X.K) (tg:=.Name "x" ⟨0,0,0,0⟩) l it
 intro r
 induction r with
 |zero=>
  intro j i s vb ub tb c hr hj I fI fS st eS hvb rb hij best
  refine codeAny_builtin PySem.F.entry_min_loop ?_
  rw[Around.under_plainId PySem.F.plain_min_loop _,<-hA]
  show wpAny _ X.A (seqItems? (.ref S)>>=_) _ _ _
  refine QTz (wpAny_seqItems eS rfl ?_)
  show wpAny _ X.A (tryCatch (pyNext (.ref it)) _>>=_) _ _ _
  have I1:=Inv.sO I fS eS (fun v z=>by cases z)
  refine QTz (wpAny_tryCatch (QKz (T.done X rfl rfl rfl hc (j+1) _ s σ H _ I1 (fun b hb=>by rw[QDq.mp hb];exact dW.sO fI hSI) st ⟨xs,.inl (.inl hl),by omega⟩) (fun r s1 h=>?_) fun _ _ h=>h))
  obtain⟨rfl,I2⟩:=h
  have e2:=Inv.last I2
  show wpAny _ X.A (updateSeq S (fun _=> #[])>>=_) _ _ _
  refine QTz ?_
  refine wpAny_updateSeq e2 rfl (QTz (wpAny_letGo (QKq ?_)))
  have s3:=Heap.SameBut.update s1.heap S (Obj.mapSeq fun _=>(#[]:Array Value))
  exact fin i vb ub _ hvb (fun j' hj'=>best j' (by omega)) (Inv.nG (ch:=[S]) I2.dF (fun b o hb e=>(s3.2 b (by simpa using hb)).trans e) (fun b hb=>by rw[QDq.mp hb];exact fS)) rb
 |succ r ih=>
  intro j i s vb ub tb c hr hj I fI fS st eS hvb rb hij best
  have hlt:j+1<xs.length:=by omega
  refine codeAny_builtin PySem.F.entry_min_loop ?_
  rw[Around.under_plainId PySem.F.plain_min_loop _,<-hA]
  show wpAny _ X.A (seqItems? (.ref S)>>=_) _ _ _
  refine QTz (wpAny_seqItems eS rfl ?_)
  have I1:=Inv.sO I fS eS (fun v z=>by cases z)
  obtain⟨v,hv⟩:∃v,xs[j+1]? =some v:=⟨xs[j+1],QXq hlt⟩
  refine QTz (wpAny_tryCatch (QKz (T.item X rfl rfl rfl hc (j+1) _ s σ H (fun _ _=>False) I1 (fun b hb=>by rw[QDq.mp hb];exact dW.sO fI hSI) st ⟨xs,v,.inl (.inl hl),hv⟩) (fun r s1 h=>?_) fun _ _ h=>h.elim))
  obtain⟨u,rfl,h⟩:=h
  refine qQ (QKz h (fun _ s2 h2=>?_) fun _ _ h=>h.elim)
  obtain⟨y,H',I2,ry,⟨rfl,yl⟩,st2,nf⟩:=h2
  have ev:=QDz ((yl xs (.inl (.inl hl))).symm.trans hv)
  subst ev
  obtain⟨oI,eI,cI,dI⟩:=id st2
  have I3:=Inv.sO I2 (dW.sO (o:=seqObj "list" #[ub,.int (kf i) tb] c) fI hSI) eI (fun v z=>by rw[dI]at z;cases z)
  refine QTz (wpAny_tryCatch (QGz (QKz (turn (j+1) y u _ s2 hv I3 ry) (fun x s3 he=>?_) fun _ _ hF=>hF.elim)))
  obtain⟨z,H3,I4,rz,rfl,rfl⟩:=he
  obtain⟨t2,rfl⟩:=(show∃t,x=Value.int (kf (j+1)) t from rz)
  have eI4:=Inv.last I4
  have eS4:=Inv.last I4.dF
  have I5:=I4.dF.dF
  have st4:s3.heap.IsListIter it l (j+1+1):=⟨oI,eI4,cI,dI⟩
  refine QTz (wpAny_tryCatch (QGz (QTz (CmpOf.ints_lt (prog:=X.prog) (w:=X.w) (A:=X.A) (P:=fun i v=>∃t,v=.int (kf i) t) kf (fun i v h=>h) (j+1) i _ _ _ _ _ ⟨t2,rfl⟩ ⟨tb,rfl⟩ ?_))))
  refine QTz (QGz (wpAny_truthy_bool ?_))
  refine QTz (wpAny_letGo (QKq ?_))
  by_cases hb:kf (j+1)<kf i
  ·have s5:=Heap.SameBut.update s3.heap S (Obj.mapSeq fun _=> #[u,.int (kf (j+1)) t2])
   obtain⟨c2,hc2⟩:∃c2,(s3.heap.update S (Obj.mapSeq fun _=> #[u,.int (kf (j+1)) t2])).get? S=some (seqObj "list" #[u,.int (kf (j+1)) t2] c2):=⟨_,get?_update_seq eS4 fun _=> #[u,.int (kf (j+1)) t2]⟩
   simp only[hb,decide_true,if_true]
   refine QTz ?_
   refine wpAny_updateSeq eS4 rfl (QTz (wpAny_letGo ?_))
   rw[hname]
   refine QKq ⟨plainId_quiet PySem.F.plain_min_loop _,?_⟩
   refine ih (j+1) (j+1) _ y u t2 c2 (by omega) hlt (Inv.nG (ch:=[S]) I5 (fun b o hb e=>(s5.2 b (by simpa using hb)).trans e) (fun b hb=>by rw[QDq.mp hb];exact fS)) fI fS ⟨oI,(s5.2 it (Ne.symm hSI)).trans eI4,cI,dI⟩ hc2 hv ry (QVz _) fun j' hj'=>?_
   by_cases e:j'=j+1
   ·subst e
    exact⟨by omega,fun _=>by omega⟩
   ·have b1:=best j' (by omega)
    have b2:=b1.1
    exact⟨by omega,fun _=>by omega⟩
  ·simp only[hb,decide_false,Qyz,if_false]
   refine QTz (wpAny_letGo ?_)
   rw[hname]
   refine QKq ⟨plainId_quiet PySem.F.plain_min_loop _,?_⟩
   refine ih (j+1) i _ vb ub tb c (by omega) hlt (I5.tok _) fI fS st4 eS4 hvb rb (by omega) fun j' hj'=>?_
   by_cases e:j'=j+1
   ·subst e
    exact⟨by omega,fun _=>by omega⟩
   ·exact best j' (by omega)
end
section
variable{X:Cx}{γ:QQz}{σ:L2.St}{H:Hp}{s:Shared}{l q:Addr}{xs:List V}{kf:Nat->Int}{Q:QZq}{E:QZq}
def Pj(hc:X.calm=true)(I:L2.Inv X γ σ H s)(hl:H l=some (.lst xs))(hne:0<xs.length)
  (turn:∀(i:Nat)(v:V)(u:Value)(ω:QQz)(s:Shared),xs[i]? =some v->L2.Inv (Cx.under X X.A.in1) ω σ H s->RelV v u->
   wpAny (model X.prog X.w) X.A.in1 (call (.ref q) [u]) (EP (Cx.under X X.A.in1) ω σ (fun r H'=>r=.int (kf i)/\H'=H)) (fun _ _=>False) s)
  (fin:∀(i:Nat)(v:V)(u:Value)(s:Shared),xs[i]? =some v->(∀j,j<xs.length->kf i<=kf j/\(j<i->kf i<kf j))->L2.Inv X γ σ H s->RelV v u->Q u s):
  wpAny (model X.prog X.w) X.A (call (.builtin "min") [.ref l] [(Str.ofString "key",.ref q)]) Q E s:=by
 have hname:(toString "min"++toString ".loop":String)="min.loop":=by decide
 obtain⟨its,rv,p,hz⟩:=I.list (xs:=xs) (.inl (.inl hl))
 refine kmk_tree PySem.F.kind_min PySem.F.plain_min PySem.F.entry_min (kmk_min_key _ _) ?_
 refine QTz (wpAny_of_eq (show Builtin.Builtins.bindParams "min" ["key","default"] 0 ⟨[],[(Str.ofString "key",.ref q)]⟩=pure [some (.ref q),none]from rfl) ?_)
 refine QTz (QKq ?_)
 refine QTz (wpAny_pyIter_list p.isList ?_)
 refine QTz (wpAny_newList ?_ (QHq _))
 rw[hname]
 generalize hh1:s.heap.push {cls:=.type "list_iterator",data:=.fields #[.ref l,.int 0 0]}=h1
 have z1:h1.objs.size=s.heap.objs.size+1:=by rw[<-hh1];exact Heap.size_push _ _
 have g1:h1.get? s.heap.objs.size=some {cls:=.type "list_iterator",data:=.fields #[.ref l,.int 0 0]}:=by rw[<-hh1];exact Qqz _ rfl
 have hSI:h1.objs.size≠s.heap.objs.size:=by rw[z1];exact Nat.succ_ne_self _
 have fI:=I.xZ (QVz _) (I.hok.fresh (QVz _))
 have fS:dW X γ H h1.objs.size:=I.xZ (by omega) (I.hok.fresh (by omega))
 have I0:L2.Inv (Cx.under X X.A.in1) γ σ H {s with heap:=h1.push (seqObj "list" #[] 0)}:=
  Inv.under (Inv.nG (ch:=[]) (t':=s.toks) I (fun b o _ e=>QWq _ (by rw[<-hh1];exact QWq _ e)) (fun b hb=>nomatch hb)) rfl rfl
 have eS:(h1.push (seqObj "list" #[] 0)).get? h1.objs.size=some (seqObj "list" #[] 0):=Qqz _ rfl
 have eI:(h1.push (seqObj "list" #[] 0)).get? s.heap.objs.size=some {cls:=.type "list_iterator",data:=.fields #[.ref l,.int 0 0]}:=QWq _ g1
 refine QKq ⟨plainId_quiet PySem.F.plain_min_loop _,?_⟩
 have T:=oO (P:=X.prog) (w:=X.w) (K:=X.K) (tg:=.Name "x" ⟨0,0,0,0⟩) l s.heap.objs.size
 refine codeAny_builtin PySem.F.entry_min_loop ?_
 rw[Around.under_plainId PySem.F.plain_min_loop _]
 show wpAny _ X.A.in1 (seqItems? (.ref h1.objs.size)>>=_) _ _ _
 refine QTz (wpAny_seqItems eS rfl ?_)
 show wpAny _ X.A.in1 (tryCatch (pyNext (.ref s.heap.objs.size)) _>>=_) _ _ _
 have fI':=fI
 have fS':=fS
 have I1:=Inv.sO I0 fS' eS (fun v z=>by cases z)
 obtain⟨v,hv⟩:∃v,xs[0]? =some v:=⟨xs[0],QXq hne⟩
 refine QTz (wpAny_tryCatch (QKz (T.item (Cx.under X X.A.in1) rfl rfl rfl hc 0 _ _ σ H (fun _ _=>False) I1 (fun b hb=>by rw[QDq.mp hb];exact dW.sO fI' hSI) ⟨_,eI,rfl,rfl⟩ ⟨xs,v,.inl (.inl hl),hv⟩) (fun r s1 h=>?_) fun _ _ h=>h.elim))
 obtain⟨u,rfl,h⟩:=h
 refine qQ (QKz h (fun _ s2 h2=>?_) fun _ _ h=>h.elim)
 obtain⟨y,H',I2,ry,⟨rfl,yl⟩,st2,nf⟩:=h2
 have ev:=QDz ((yl xs (.inl (.inl hl))).symm.trans hv)
 subst ev
 obtain⟨oI,eI2,cI,dI⟩:=id st2
 have I3:=Inv.sO I2 (dW.sO (o:=seqObj "list" #[] 0) fI' hSI) eI2 (fun v z=>by rw[dI]at z;cases z)
 refine QTz (wpAny_tryCatch (QGz (QKz (turn 0 y u _ s2 hv I3 ry) (fun x s3 he=>?_) fun _ _ hF=>hF.elim)))
 obtain⟨z,H3,I4,rz,rfl,rfl⟩:=he
 obtain⟨t2,rfl⟩:=(show∃t,x=Value.int (kf 0) t from rz)
 have eI4:=Inv.last I4
 have eS4:=Inv.last I4.dF
 have I5:=I4.dF.dF
 have s5:=Heap.SameBut.update s3.heap h1.objs.size (Obj.mapSeq fun _=> #[u,.int (kf 0) t2])
 obtain⟨c2,hc2⟩:∃c2,(s3.heap.update h1.objs.size (Obj.mapSeq fun _=> #[u,.int (kf 0) t2])).get? h1.objs.size=some (seqObj "list" #[u,.int (kf 0) t2] c2):=⟨_,get?_update_seq eS4 fun _=> #[u,.int (kf 0) t2]⟩
 refine QTz ?_
 refine wpAny_updateSeq eS4 rfl ?_
 rw[hname]
 refine QKq ⟨plainId_quiet PySem.F.plain_min_loop _,?_⟩
 refine MF (X:=Cx.under X X.A.in1) (A:=X.A) rfl hc hl hSI turn (fun i v u s' e b J r=>fin i v u s' e b (Inv.back J rfl rfl) r) _ 0 0 _ y u t2 c2 rfl hne
  (Inv.nG (ch:=[h1.objs.size]) I5 (fun b o hb e=>(s5.2 b (by simpa using hb)).trans e) (fun b hb=>by rw[QDq.mp hb];exact fS')) fI' fS' ⟨oI,(s5.2 _ (Ne.symm hSI)).trans eI4,cI,dI⟩ hc2 hv ry (QVz _) fun j' hj'=>?_
 have e:j'=0:=by omega
 subst e
 exact⟨by omega,fun h=>absurd h (Nat.lt_irrefl _)⟩
end
structure Vx(K:QQq)(C:Addr)(m:Str)(g:Addr):Prop where
 me:Meth K C m g
 get:PySem.W.specialIn K (.ref g) "__get__"=some (some (.builtin "function.__get__"))
 tk:PySem.W.takesIn K (.ref g)=some false
 cp:PySem.W.copiedNames.contains m=false
section
variable{X:Cx}{γ:QQz}{σ:L2.St}{H:Hp}{s:Shared}{a C dx g:Addr}{fs:List (Str×V)}{m:Str}{A:Around}{Q:QZq}{E:QZq}
def Ad(I:L2.Inv X γ σ H s)(e:H a=some (.ins C dx fs))(c:pM X.K C)(k:Vx X.K C m g)(l:fs.lookup m=none)
  (h:∀q s',H q=none->L2.Inv X γ σ (upd H q (.met g a)) s'->Q (.ref q) s'):wpAny (model X.prog X.w) A (getAttr (.ref a) m b) Q E s:=by
 obtain⟨mA,O,r,_,_,_⟩:=qN I.hok e
 have hn:=iz.none_of (by rw[<-l];exact r m)
 obtain⟨od,J,hl⟩:=O.look
 refine PySem.W.get_bind I.zX J (PySem.W.plainGet_of (c.get m)).1 (PySem.W.findObj_fn c.hd k.me.at_ k.get k.tk k.cp (by rw[hl,hn])) (PySem.W.plainGet_of (c.get m)).2 ?_
 refine wpAny_call (PySem.W.fn_get I.zX (beq_iff_eq.mp k.me.fn) (PySem.W.handed_on rfl (h s.heap.objs.size _ (I.hok.fresh (QVz _)) ?_)))
 exact I.laid (fun b u q=>QWq _ q) (QVz _) (Qqz _ rfl)
end
section
variable{X:Cx}{CX:JR}{k:Nat}{C:Addr}{fd:FuncData}{ps:List Str}{sp:Sp}{E:XK}{m:Str}{p pos kpos:Pos}{e le ke:Expr}{ta:TE}{t tk:TA}{g:Addr}{ds:List Value}{dvs:List V}
def Wf(K:QQq)(ta:TE)(m:Str)(g:Addr):TE:=fun σ H Q=>ta σ H fun x H1=>∃a C dx fs,x=.ref a/\H1 a=some (.ins C dx fs)/\pM K C/\Vx K C m g/\fs.lookup m=none/\∀q,H1 q=none->Q (.ref q) (upd H1 q (.met g a))
def W9(he:PE X e ta)(hb:attributeBase e m X.env (eval e X.env)=eval e X.env):PE X (.Attribute e m pos) (Wf X.K ta m g):=by
 intro γ s σ H Q I h
 refine Hj hb (bK (he γ s σ H _ I h) fun u s1⟨x,H1,I1,rx,a,C,dx,fs,ex,ea,c,k,l,q⟩=>?_)
 subst ex
 obtain rfl:u=Value.ref a:=rx
 exact Ad I1 ea c k l fun q' s2 hq I2=>⟨.ref q',_,I2,rfl,q q' hq⟩
theorem HR{σ:L2.St}{H:Hp}{Q:VK}{vs:List V}(F:bV X.prog X.w X.K X.mg X.base CX k g fd ps sp)(hr:dC k X.A)(hb:Binds X.K fd ps ds)(hd:Vals dvs ds)(hx:lw CX X E)
  (I:L2.Inv X γ σ H s)(eq:H q=some (.met g a))(r:Vals vs us)(h:sp ((.ref a::vs)++dvs) H Q E):wpAny (model X.prog X.w) X.A (call (.ref q) us) (EP X γ σ Q) X.xe s:=by
 have r2:Vals ((.ref a::vs)++dvs) _:=Vals.append (.cons rfl r) hd
 have hl:((Value.ref a::us)++ds).length=ps.length:=by rw[<-r2.length];exact F.len _ _ _ _ h
 have ho:=I.hok q _ eq
 refine wpAny_call (ks_codeAny_call_bound ho (codeAny_mono (F.run X.A X.stack s H ⟨.ref a::us,[]⟩ _ _ Q E hr I.env0 (hb s _ I.zX hl) r2 h) fun r s' hq=>?_))
 cases r with
 |error e=>exact hx γ σ H s e s' I hq
 |ok fl=>
  cases fl with
  |ret u=>exact I.after hq
  |next=>exact False.elim hq
  |brk=>exact False.elim hq
  |cont=>exact False.elim hq
def acM(X:Cx)(σ:L2.St)(H:Hp)(q:Addr)(xs:List V)(kf:Nat->Int):Prop:=
 ∀(i:Nat)(v:V)(u:Value)(ω:QQz)(s:Shared),xs[i]? =some v->L2.Inv (Cx.under X X.A.in1) ω σ H s->RelV v u->
  wpAny (model X.prog X.w) X.A.in1 (call (.ref q) [u]) (EP (Cx.under X X.A.in1) ω σ (fun r H'=>r=.int (kf i)/\H'=H)) (fun _ _=>False) s
end
def j8{σ:L2.St}{q a g:Addr}{kf:Nat->Int}{fd:FuncData}{sp:Sp}(F:bV X.prog X.w X.K X.mg X.base fZ k g fd ps sp)(hr:dC (k+1) X.A)(hb:Binds X.K fd ps [])(eq:H q=some (.met g a))
  (h:∀i v,xs[i]? =some v->sp [.ref a,v] H (fun r H'=>r=.int (kf i)/\H'=H) E0):acM X σ H q xs kf:=by
 intro i v u ω s hv I ru
 have I':L2.Inv {Cx.under X X.A.in1 with xe:=fun _ _=>False} ω σ H s:=Inv.Er I
 exact QKz (HR (X:={Cx.under X X.A.in1 with xe:=fun _ _=>False}) F hr.in1 hb .nil iB I' eq (.cons ru .nil) (h i v hv)) (fun r s'⟨z,H',J,rz,e⟩=>⟨z,H',Inv.Er J,rz,e⟩) fun _ _ z=>z
noncomputable def pR(K:QQq):Sp:=fun vs H Q _=>∃a w C dx fs sa la i j,vs=[.ref a,w]/\H a=some (.ins C dx fs)/\pM K C/\aW K C "since"/\aW K C "lengths"/\fs.lookup ("since":Str)=some (.ref sa)/\fs.lookup ("lengths":Str)=some (.ref la)/\
 lA H sa w (some (.int i))/\lA H la w (some (.int j))/\Q (.int (i+j)) H
def Y9(st:Stmt):Prop:=∃p1 p2 p3 p4 p5 p6 p7 p8 p9 p10:Pos,bY st=[.Return (some (.BinOp (.Subscript (.Attribute (.Name "self" p1) "since" p2) (.Name "wire" p3) p4) .Add (.Subscript (.Attribute (.Name "self" p5) "lengths" p6) (.Name "wire" p7) p8) p9)) p10]
section
variable{P:Program}{w:World}{K:QQq}{mg:QZz}{base:Heap}
def YK{st:Stmt}{f:Addr}{k:Nat}(F:Hk K "due" qual st f fd)(S:dX ["self","wire"] ["self","wire"] (ao st))(v0:JN (ao st) "self")(v1:JN (ao st) "wire")(hb:Y9 st):
  bV P w K mg base fZ (k+1) f fd ["self","wire"] (pR K):=by
 obtain⟨p1,p2,p3,p4,p5,p6,p7,p8,p9,p10,hb⟩:=hb
 refine F.ok S (fun vs H Q E⟨a,w,C,dx,fs,sa,la,i,j,e,_⟩=>by rw[e];rfl) fun cdv A outer s H vs Q E hr h=>?_
 rw[hb]
 have hu:(gn fZ P w K mg base ["self","wire"] qual (ao st) f cdv A outer s H E).qL.A.units+1<cLine:=by have:=hr.units;exact Nat.lt_of_le_of_lt (Nat.add_le_add_left (by decide) _) this
 refine⟨_,jt (iK (Xb (Fz hu (mQ (cW (i:=0) rfl v0) rfl) (cW (i:=1) rfl v1) (fun _ _=>rfl)) (Fz hu (mQ (cW (i:=0) rfl v0) rfl) (cW (i:=1) rfl v1) (fun _ _=>rfl)))),?_⟩
 obtain⟨a,w,C,dx,fs,sa,la,i,j,rfl,ea,cl,n1,n2,l1,l2,g1,g2,q⟩:=h
 exact⟨.ref a,rfl,a,C,dx,fs,.ref sa,rfl,ea,cl,n1,l1,w,rfl,sa,.int i,rfl,g1,.ref a,rfl,a,C,dx,fs,.ref la,rfl,ea,cl,n2,l2,w,rfl,la,.int j,rfl,g2,i,j,rfl,rfl,q⟩
end
def Ou(v:V)(kvs:List (Key×V)):V:=if v=.non then .str "unasked" else if kvs.isEmpty then .str "end" else .str "on"
noncomputable def EY(K:QQq):Sp:=fun vs H Q _=>∃a C dx fs v sa kvs,vs=[.ref a]/\H a=some (.ins C dx fs)/\pM K C/\aW K C "stand"/\aW K C "since"/\fs.lookup ("stand":Str)=some v/\fs.lookup ("since":Str)=some (.ref sa)/\
 H sa=some (.dK kvs)/\Q (Ou v kvs) H
def Y8(st:Stmt):Prop:=∃(k1 k2 k3 k4:Nat)(p1 p2 p3 p4 p5 p6 p7 p8 p9 p10 p11 p12 p13:Pos),bY st=[.If (.Compare (.Attribute (.Name "self" p1) "stand" p2) [.Is] [.Constant .none k1 p3] p4) [.Return (some (.Constant (.str "unasked") k2 p5)) p6] [] p7,
   .Return (some (.IfExp (.Attribute (.Name "self" p8) "since" p9) (.Constant (.str "on") k3 p10) (.Constant (.str "end") k4 p11) p12)) p13]
section
variable{P:Program}{w:World}{K:QQq}{mg:QZz}{base:Heap}
def YH{st:Stmt}{f:Addr}{k:Nat}(F:Hk K "ending" qual st f fd)(S:dX ["self"] ["self"] (ao st))(v0:JN (ao st) "self")(hb:Y8 st):
  bV P w K mg base fZ (k+1) f fd ["self"] (EY K):=by
 obtain⟨k1,k2,k3,k4,p1,p2,p3,p4,p5,p6,p7,p8,p9,p10,p11,p12,p13,hb⟩:=hb
 refine F.ok S (fun vs H Q E⟨a,C,dx,fs,v,sa,kvs,e,_⟩=>by rw[e];rfl) fun cdv A outer s H vs Q E hr h=>?_
 rw[hb]
 refine⟨_,bO (Lj (xq CG (mQ (cW (i:=0) rfl v0) rfl) Cu rfl) (jt (iK xx)) xr) (jt (iK (sS (nO (mQ (cW (i:=0) rfl v0) rfl) (fun _=>rfl)) xx xx))),?_⟩
 obtain⟨a,C,dx,fs,v,sa,kvs,rfl,ea,cl,n1,n2,l1,l2,e2,q⟩:=h
 refine⟨.ref a,rfl,a,C,dx,fs,v,rfl,ea,cl,n1,l1,rfl,decide _,rfl,?_⟩
 unfold Ou at q
 by_cases hv:v=.non
 ·rw[if_pos hv]at q
  rw[if_pos (by simpa using hv)]
  exact q
 ·rw[if_neg hv]at q
  rw[if_neg (by simpa using hv)]
  refine⟨.ref a,rfl,a,C,dx,fs,.ref sa,rfl,ea,cl,n2,l2, !kvs.isEmpty,.inr (.inr ⟨kvs,e2,rfl⟩),?_⟩
  cases hk:kvs.isEmpty
  ·rw[hk]at q;exact q
  ·rw[hk]at q;exact q
end
def CW{w:World}{v:Value}(h:(cD P w).is k v=true):RelV (kV k) v:=by
 rcases cj h with ⟨i,t,rfl,rfl⟩|⟨x,t,rfl,rfl⟩<;>exact⟨t,rfl⟩
def Ji{P:Program}{w:World}:∀{kvs:List (Key×V)}{vs:List (Key×Value)}{es:List DictEntry},KV kvs vs->Pairs (cD P w) es vs->Vals (kvs.map fun p=>kV p.1) (es.map (·.key)):=by
 intro kvs vs es r
 induction r generalizing es with
 |nil=>intro p;cases p;exact .nil
 |cons h t ih=>
  intro p
  cases p with
  |cons h1 h2 h3=>exact .cons (by dsimp only;rw[h.1];exact CW h1) (ih h3)
section
variable{X:Cx}
def DY(hc:X.calm=true):gq X (.type "list") (fun xs H Q=>∃a kvs,xs=[.ref a]/\H a=some (.dK kvs)/\∀l,H l=none->Q (.ref l) (upd H l (.lst (kvs.map fun p=>kV p.1)))):=by
 rintro γ s σ H xs us Q I r ⟨a,kvs,rfl,e,q⟩
 obtain⟨u,rfl,rx⟩:=vals1 r
 cases rx
 obtain⟨z,y,vs,rel,o,es,ep,h1,h2,h3,_,pr,_⟩:=(I.hok a _ e)
 have lk:=Paired.length rel
 have le:es.size=vs.length:=by rw[<-Array.length_toList];exact pr.length
 refine PySem.W.kdl_call (Av y) (I.ok.hd hc) ⟨o,h1,h2,h3⟩ (by omega) fun h' tk acc c' kp g it=>?_
 have ev:acc.toList=es.toList.map (·.key):=by
  refine List.ext_getElem? fun i=>?_
  rw[Array.getElem?_toList,QEz,Array.getElem?_toList]
  by_cases hi:i<acc.size
  ·obtain⟨e,e1,e2⟩:=it.2 i acc[i] (Array.getElem?_eq_getElem hi)
   rw[Array.getElem?_eq_getElem hi,e1,e2]
   rfl
  ·have:=it.1
   rw[Array.getElem?_eq_none (by omega),Array.getElem?_eq_none (by omega)]
   rfl
 have rv:Vals (kvs.map fun p=>kV p.1) acc.toList:=by rw[ev];exact Ji rel pr
 refine⟨.ref s.heap.objs.size,_,I.laid kp (QVz _) (show cG X.prog X.w _ h' _ (.lst _)from⟨by rw[Qvz];omega,acc.toList,c',rv,by simpa using g⟩),rfl,q _ (I.hok.fresh (QVz _))⟩
end
section
variable{X:Cx}{k:Nat}{fd:FuncData}{ps:List Str}{sp:Sp}{p pos kpos:Pos}{le ke:Expr}{t tk:TA}{g:Addr}
noncomputable def Kg(g:Addr)(sp:Sp)(t tk:TA):TE:=fun σ H Q=>t σ H fun vs H1=>tk σ H1 fun zs H2=>∃(l q a:Addr)(xs:List V)(kf:Nat->Int),vs=[.ref l]/\zs=[.ref q]/\H2 l=some (.lst xs)/\0<xs.length/\H2 q=some (.met g a)/\
 (∀(i:Nat)v,xs[i]? =some v->sp [.ref a,v] H2 (fun r H'=>r=.int (kf i)/\H'=H2) E0)/\∀(i:Nat)v,xs[i]? =some v->(∀j,j<xs.length->kf i<=kf j/\(j<i->kf i<kf j))->Q v H2
def Rz(hc:X.calm=true)(F:bV X.prog X.w X.K X.mg X.base fZ k g fd ps sp)(hr:dC (k+1) X.A)(hb:Binds X.K fd ps [])(ha:PA X [le] t)(hkw:PK X [⟨some "key",ke,kpos⟩] tk)(hg:Gl X "min")(hm:X.mg "min"=none)
  (he:backTo pos (starEach [le] X.env)=(false,eval le X.env)::backTo pos (starEach [] X.env):=by rfl)(hplain:(backTo pos (starEach [le] X.env)).any (·.1)=false:=by rfl):
  PE X (.Call (.Name "min" p) [le] [⟨some "key",ke,kpos⟩] pos) (Kg g sp t tk):=by
 intro γ s σ H Q I h
 refine wpAny_Call_Name_kw (jw I hg hm rfl ?_)
 refine callWith_kw (bK (ha pos γ s σ H _ I h) fun us s1⟨vs,H1,I1,r,q⟩=>?_) he hplain
 refine bK (hkw pos γ s1 σ H1 _ I1 q) fun ws s2⟨zs,H2,I2,rz,l,q',a,xs,kf,e1,e2,hl,hne,eq,hk,fin⟩=>?_
 subst e1 e2
 obtain⟨u1,rfl,r1⟩:=Vals.one r
 obtain⟨u2,rfl,r2⟩:=Vals.one rz
 obtain rfl:u1=Value.ref l:=r1
 obtain rfl:u2=Value.ref q':=r2
 exact Pj hc I2 hl hne (j8 F hr hb eq hk) fun i v u s' e b J rv=>⟨v,H2,J,rv,fin i v e b⟩
end
def Ux(K:QQq)(c:Cf)(m:E):TE:=fun σ H Q=>∃env,tM K W0 env (ev c m env) σ H Q
theorem GE.Ux{c:Cf}{e:Expr}(h:GE X W0 c m e):PE X e (Ux X.K c m):=fun γ s σ H Q I⟨env,q⟩=>h env γ s σ H Q I q
def Uw(t:TE):TE:=fun σ H Q=>t σ H fun v H1=>∃a u,v=.ref a/\H1 a=some u/\JT u/\∀o,Q v (upd H1 a (.frz o u))
def Lz{e:Expr}(h:PE X e t):PE X e (Uw t):=by
 intro γ s σ H Q I q
 refine bK (h γ s σ H _ I q) fun u s1⟨v,H1,I1,r,a,w,ev,ha,hu,k⟩=>?_
 obtain⟨o,I2⟩:=Inv.freeze I1 ha hu
 exact⟨v,_,I2,r,k o⟩
abbrev sf(K:QQq)(f:Str):TE:=Wc K (aV 0) f
abbrev rLk:List V->Hp->VK->Prop:=fun xs H Q=>∃a kvs,xs=[.ref a]/\H a=some (.dK kvs)/\∀l,H l=none->Q (.ref l) (upd H l (.lst (kvs.map fun p=>kV p.1)))
noncomputable def ad9(K:QQq)(C g:Addr)(spD spL spS spW:Sp):TS:=
 jV (wW (Kg g spD (aG (tCB rLk (aG (sf K "since") cN)) cN) (aG (Wf K (aV 0) "due" g) cN)) (n8 1))
 (jV (wW (pP C "due" spD [] E0 (aV 0) (aG (aV 1) cN)) (n8 2))
 (jV (pQ (tBM K "list" xn (sf K "changes") (aG (J9 (aG (aV 2) (aG (aV 1) cN))) cN)))
 (jV (mH K (aV 0) (gU spL [] E0 (aG (sf K "net") (aG (sf K "talk") (aG (sf K "stand") (aG (aV 1) cN))))) "stand")
 (jV (pQ (Bq (sf K "since") (aV 1)))
 (jV (wW (tIf (Ew (Ur (fun x y H Q=>y=.non/\Q (.bl (decide (x=.non))) H) (sf K "stand") (tC .non))) (Kl cN) (gU spS [] E0 (aG (sf K "net") (aG (sf K "talk") (aG (sf K "stand") cN))))) (n8 3))
 (mH K (aV 0) (gU spW [] E0 (aG (Uw (aV 3)) (aG (sf K "since") (aG (aV 2) cN)))) "since"))))))
abbrev j4:List Str:=["self","wire","time","names"]
def vg(K:QQq)(C g:Addr)(spD spL spS spW:Sp):Sp:=fun vs H Q _=>vs.length=1/\ad9 K C g spD spL spS spW {nx:=fun _ H'=>Q .non H',rt:=Q} (L2.start j4 vs) H
inductive Za(st:Stmt):Prop
 |mk (x1 lc:Nat) (p1 p2 p3 p4 p5 p6 p7 p8 p9 p10 q1 q2 q6 a1 a2 a3 a4 a5 b1 b2 b3 b4 b5 b6 b7 b8 c1 c2 c3 c4 c5 c6 c7 c8 c9 c10 c11 c12 d1 d2 d3 d4 d5 d6 e1 e2 e3 e4 e5 e6 e7 e8 e9 e10 e11 e12 e13 e14 e15 g1 g2 g3 g4 g5 g6 g7 g8 g9:Pos) (h0_:bY st=[.Assign [.Name "wire" q1] (.Call (.Name "min" p1) [.Call (.Name "list" p2) [.Attribute (.Name "self" p3) "since" p4] [] p5] [⟨some "key",.Attribute (.Name "self" p6) "due" p7,p8⟩] p9) p10,
   .Assign [.Name "time" q2] (.Call (.Attribute (.Name "self" a1) "due" a2) [.Name "wire" a3] [] a4) a5,
   .Expr (.Call (.Attribute (.Attribute (.Name "self" b1) "changes" b2) "append" b3) [.Tuple [.Name "time" b4,.Name "wire" b5] lc b6] [] b7) b8,
   .Assign [.Attribute (.Name "self" c1) "stand" c2] (.Call (.Name "led_to" c3) [.Attribute (.Name "self" c4) "net" c5,.Attribute (.Name "self" c6) "talk" c7,.Attribute (.Name "self" c8) "stand" c9,.Name "wire" c10] [] c11) c12,
   .Expr (.Call (.Attribute (.Attribute (.Name "self" d1) "since" d2) "pop" d3) [.Name "wire" d4] [] d5) d6,
   .Assign [.Name "names" q6] (.IfExp (.Compare (.Attribute (.Name "self" e1) "stand" e2) [.Is] [.Constant .none x1 e3] e4) (.List [] e5) (.Call (.Name "steps_at" e6) [.Attribute (.Name "self" e7) "net" e8,.Attribute (.Name "self" e9) "talk" e10,.Attribute (.Name "self" e11) "stand" e12] [] e13) e14) e15,
   .Assign [.Attribute (.Name "self" g1) "since" g2] (.Call (.Name "since_when" g3) [.Name "names" g4,.Attribute (.Name "self" g5) "since" g6,.Name "time" g7] [] g8) g9]) (h1_:∀env:Env,∃pl:Sem Bool,eval (.Call (.Attribute (.Name "self" a1) "due" a2) [.Name "wire" a3] [] a4) env=(do
   let ov<-eval (.Name "self" a1) env
   standAt a2.atName
   let (f,first)<-holding [ov] (getMethod ov "due" pl)
   callWith a4 f first (backTo a4 (starEach [.Name "wire" a3] env)) (backToKw a4 (keywordEach [] env)))) (h2_:(b3.endLine==b7.line)=true) (h3_:(d3.endLine==d5.line)=true)
section
variable{P:Program}{w:World}{K:QQq}{mg:QZz}{base:Heap}
def Y0{st:Stmt}{f C g fl fs fw:Addr}{k:Nat}{spD spL spS spW:Sp}
  (F:Hk K "change" qual st f fd)(S:dX j4 ["self"] (ao st))(lo:∀x∈j4,(ao st).names.lookup x=some .local)
  (gl:∀x∈(["min","list","led_to","steps_at","since_when"]:List Str),(ao st).names.lookup x=some .globalImplicit)
  (cl:pM K C)(bd:Vx K C "due" g)(D:bV P w K mg base fZ k g fdD ["self","wire"] spD)(bD:Binds K fdD ["self","wire"] [])
  (L:bV P w K mg base fZ k fl fdL psL spL)(bL:Binds K fdL psL [])(mL:mg "led_to"=some (.ref fl))(kL:PySem.W.keepIn K (.ref fl)=true)
  (T:bV P w K mg base fZ k fs fdS psS spS)(bT:Binds K fdS psS [])(mT:mg "steps_at"=some (.ref fs))(kT:PySem.W.keepIn K (.ref fs)=true)
  (W:bV P w K mg base fZ k fw fdW psW spW)(bW:Binds K fdW psW [])(mW:mg "since_when"=some (.ref fw))(kW:PySem.W.keepIn K (.ref fw)=true)
  (m1:mg "min"=none)(m2:mg "list"=none)(hb:Za st):
  bV P w K mg base fZ (k+2) f fd ["self"] (vg K C g spD spL spS spW):=by
 obtain⟨x1,lc,p1,p2,p3,p4,p5,p6,p7,p8,p9,p10,q1,q2,q6,a1,a2,a3,a4,a5,b1,b2,b3,b4,b5,b6,b7,b8,c1,c2,c3,c4,c5,c6,c7,c8,c9,c10,c11,c12,d1,d2,d3,d4,d5,d6,e1,e2,e3,e4,e5,e6,e7,e8,e9,e10,e11,e12,e13,e14,e15,g1,g2,g3,g4,g5,g6,g7,g8,g9,hb,hm,h3,h5⟩:=hb
 refine F.ok S (fun vs H Q E h=>h.1) fun cdv A outer s H vs Q E hr h=>?_
 rw[hb]
 refine⟨_,?_,h.2⟩
 have hr1:=hr.mono (Nat.le_succ k)
 have v:∀x∈j4,JN (ao st) x:=fun x hx=>.inl (lo x hx)
 have pv0:∀{p:Pos},PE (gn fZ P w K mg base j4 qual (ao st) f cdv A outer s H E).qL (.Name "self" p) (aV 0):=fun{p}=>cW (i:=0) rfl (v _ (by simp))
 have pv1:∀{p:Pos},PE (gn fZ P w K mg base j4 qual (ao st) f cdv A outer s H E).qL (.Name "wire" p) (aV 1):=fun{p}=>cW (i:=1) rfl (v _ (by simp))
 have pv2:∀{p:Pos},PE (gn fZ P w K mg base j4 qual (ao st) f cdv A outer s H E).qL (.Name "time" p) (aV 2):=fun{p}=>cW (i:=2) rfl (v _ (by simp))
 have pv3:∀{p:Pos},PE (gn fZ P w K mg base j4 qual (ao st) f cdv A outer s H E).qL (.Name "names" p) (Uw (aV 3)):=fun{p}=>Lz (cW (i:=3) rfl (v _ (by simp)))
 have pf:∀{p q:Pos}{x:Str},PE (gn fZ P w K mg base j4 qual (ao st) f cdv A outer s H E).qL (.Attribute (.Name "self" p) x q) (sf K x):=fun{p q x}=>mQ pv0 rfl
 refine bO (sG S.nd rfl (.inl (lo _ (by simp))) (Rz rfl D hr bD (aC (lG (DY rfl) (gl _ (by simp)) m2 rfl (aC pf bF)) bF) (Ru (W9 pv0 rfl) W5) (gl _ (by simp)) m1) rfl (.inr (lo _ (by simp)))) ?_
 obtain⟨pl,ht⟩:=hm (gn fZ P w K mg base j4 qual (ao st) f cdv A outer s H E).qL.env
 refine bO (sG S.nd rfl (.inl (lo _ (by simp))) (RB (pl:=pl) pv0 cl bd.me D hr1 bD .nil iB (aC pv1 bF) rfl rfl ht) rfl (.inr (lo _ (by simp)))) ?_
 refine bO (lF (Ly ⟨rfl,h3,rfl⟩ PySem.F.slot_list_append PySem.F.type_list_append o4 pf (Cr (aC pv2 (aC pv1 bF)))) rfl) ?_
 refine bO (jZ pv0 (gM L hr1 (gl _ (by simp)) mL kL bL .nil iB (aC pf (aC pf (aC pf (aC pv1 bF))))) rfl) ?_
 refine bO (lF (LC pf pv1 ⟨rfl,rfl,h5,rfl⟩) rfl) ?_
 refine bO (sG S.nd rfl (.inl (lo _ (by simp))) (sS (xq CG pf Cu rfl) (Cv bF) (gM T hr1 (gl _ (by simp)) mT kT bT .nil iB (aC pf (aC pf (aC pf bF))))) rfl (.inr (lo _ (by simp)))) ?_
 exact jt (jZ pv0 (gM W hr1 (gl _ (by simp)) mW kW bW .nil iB (aC pv3 (aC pf (aC pv2 bF)))) rfl)
end
noncomputable def ad5(K:QQq)(c:Cf)(mz:E)(spF spS spW:Sp):TS:=
 jV (mH K (aV 0) (aV 1) "net") (jV (mH K (aV 0) (aV 2) "talk") (jV (mH K (aV 0) (Ux K c mz) "lengths") (jV (mH K (aV 0) (Kl cN) "changes")
 (jV (mH K (aV 0) (gU spF [] E0 (aG (aV 1) cN)) "stand")
 (mH K (aV 0) (gU spW [] E0 (aG (Uw (gU spS [] E0 (aG (aV 1) (aG (aV 2) (aG (sf K "stand") cN))))) (aG (Ux K c .emp) (aG (tC (.int 0)) cN)))) "since")))))
abbrev fU:List Str:=["self","net","talk","waits"]
def Ez(K:QQq)(c:Cf)(mz:E)(spF spS spW:Sp):Sp:=fun vs H Q _=>vs.length=4/\ad5 K c mz spF spS spW {nx:=fun _ H'=>Q .non H',rt:=Q} (L2.start fU vs) H
inductive Y7(ct:Ct)(mz:E)(st:Stmt):Prop
 |mk (x1:Nat) (ez:Expr) (p1 p2 p3 p4 q1 q2 q3 q4 r1 r2 r3 s1 s2 s3 s4 u1 u2 u3 u4 u5 u6 v1 v2 v3 v4 v5 v6 v7 v8 v9 v10 v11 v12 v13:Pos) (h0_:bY st=[.Assign [.Attribute (.Name "self" p1) "net" p2] (.Name "net" p3) p4,.Assign [.Attribute (.Name "self" q1) "talk" q2] (.Name "talk" q3) q4,
   .Assign [.Attribute (.Name "self" r1) "lengths" r2] ez r3,.Assign [.Attribute (.Name "self" s1) "changes" s2] (.List [] s3) s4,
   .Assign [.Attribute (.Name "self" u1) "stand" u2] (.Call (.Name "first_stand" u3) [.Name "net" u4] [] u5) u6,
   .Assign [.Attribute (.Name "self" v1) "since" v2] (.Call (.Name "since_when" v3) [.Call (.Name "steps_at" v4) [.Name "net" v5,.Name "talk" v6,.Attribute (.Name "self" v7) "stand" v8] [] v9,.Dict [] [] v10,.Constant (.int 0) x1 v11] [] v12) v13]) (h1_:∀(l:Nat)(env:Env),swapsWith ez (some (.Attribute (.Name "self" r1) "lengths" r2)) l env=pure false) (h2_:dZ 60 ct ez=some mz)
section
variable{P:Program}{w:World}{K:QQq}{mg:QZz}{base:Heap}
def XS{st:Stmt}{f ff fs fw:Addr}{k:Nat}{spF spS spW:Sp}{c:Cf}
  (F:Hk K "__init__" qual st f fd)(S:dX fU fU (ao st))(lo:∀x∈fU,(ao st).names.lookup x=some .local)
  (gl:∀x∈(["first_stand","steps_at","since_when"]:List Str),(ao st).names.lookup x=some .globalImplicit)
  (D:bV P w K mg base fZ k ff fdF psF spF)(bD:Binds K fdF psF [])(mD:mg "first_stand"=some (.ref ff))(kD:PySem.W.keepIn K (.ref ff)=true)
  (T:bV P w K mg base fZ k fs fdS psS spS)(bT:Binds K fdS psS [])(mT:mg "steps_at"=some (.ref fs))(kT:PySem.W.keepIn K (.ref fs)=true)
  (W:bV P w K mg base fZ k fw fdW psW spW)(bW:Binds K fdW psW [])(mW:mg "since_when"=some (.ref fw))(kW:PySem.W.keepIn K (.ref fw)=true)(hX:∀X:Cx,X.prog=P->X.w=w->X.K=K->X.mg=mg->X.base=base->X.calm=true->X.N=fU->X.env.scope=ao st->dC k X.A->jg ct X c)(hb:Y7 ct mz st):
  bV P w K mg base fZ (k+1) f fd fU (Ez K c mz spF spS spW):=by
 obtain⟨x1,ez,p1,p2,p3,p4,q1,q2,q3,q4,r1,r2,r3,s1,s2,s3,s4,u1,u2,u3,u4,u5,u6,v1,v2,v3,v4,v5,v6,v7,v8,v9,v10,v11,v12,v13,hb,sw,tr⟩:=hb
 refine F.ok S (fun vs H Q E h=>h.1) fun cdv A outer s H vs Q E hr h=>?_
 rw[hb]
 refine⟨_,?_,h.2⟩
 have v:∀x∈fU,JN (ao st) x:=fun x hx=>.inl (lo x hx)
 have pv0:∀{p:Pos},PE (gn fZ P w K mg base fU qual (ao st) f cdv A outer s H E).qL (.Name "self" p) (aV 0):=fun{p}=>cW rfl (v _ (by simp))
 have pv1:∀{p:Pos},PE (gn fZ P w K mg base fU qual (ao st) f cdv A outer s H E).qL (.Name "net" p) (aV 1):=fun{p}=>cW rfl (v _ (by simp))
 have pv2:∀{p:Pos},PE (gn fZ P w K mg base fU qual (ao st) f cdv A outer s H E).qL (.Name "talk" p) (aV 2):=fun{p}=>cW rfl (v _ (by simp))
 have pf:∀{p q:Pos}{x:Str},PE (gn fZ P w K mg base fU qual (ao st) f cdv A outer s H E).qL (.Attribute (.Name "self" p) x q) (sf K x):=fun{p q x}=>mQ pv0 rfl
 refine bO (jZ pv0 pv1 rfl) (bO (jZ pv0 pv2 rfl) (bO (jZ pv0 (GE.Ux ((ih c 60).e ct _ _ _ (hX _ rfl rfl rfl rfl rfl rfl rfl rfl hr) tr).ge) (sw _ _)) ?_))
 refine bO (jZ pv0 (Cv bF) rfl) (bO (jZ pv0 (gM D hr (gl _ (by simp)) mD kD bD .nil iB (aC pv1 bF)) rfl) ?_)
 exact jt (jZ pv0 (gM W hr (gl _ (by simp)) mW kW bW .nil iB (aC (Lz (gM T hr (gl _ (by simp)) mT kT bT .nil iB (aC pv1 (aC pv2 (aC pf bF))))) (aC (GE.Ux Oa) (aC Cw bF)))) rfl)
end
def tNo:TS:=fun _ _ _=>False
def W3{ss:List Stmt}:uX X ss tNo:=fun _ _ _ _ _ _ h=>h.elim
abbrev gf(K:QQq)(f:Str):TE:=Wc K (aV 4) f
noncomputable def ad3(K:QQq)(C:Addr)(top:Int)(spK spN spI spC spE:Sp):TS:=
 jV (pQ (gU spK [] E0 (aG (aV 0) (aG (aV 1) (aG (aV 2) cN)))))
 (jV (aaF (aaE (fun σ H Q=>gU spN [] E0 (aG (aV 3) (aG (tC (.int 0)) (aG (tC (.int top)) cN))) σ H fun x H'=>∃k,Ei K x H' k/\Q k H')) tNo Us)
 (jV (wW (Uu C spI [] E0 (aG (aV 0) (aG (aV 1) (aG (aV 2) cN)))) (n8 4))
 (jV (J8 (aaM (fun σ H Q=>gf K "since" σ H fun x H'=>∃k,Ei K x H' k/\Q k H') (tB (tLt (tCB (fun xs H Q=>∃x n,xs=[x]/\T6 K x H n/\Q (.int n) H) (aG (gf K "changes") cN)) (aV 3))))
  (pQ (pP C "change" spC [] E0 (aV 4) cN)))
 (QH (J9 (aG (Uw (gf K "changes")) (aG (pP C "ending" spE [] E0 (aV 4) cN) cN)))))))
abbrev gB:List Str:=["net","talk","waits","number","going"]
def Kq(K:QQq)(C:Addr)(top:Int)(spK spN spI spC spE:Sp):Sp:=fun vs H Q _=>vs.length=4/\ad3 K C top spK spN spI spC spE {nx:=fun _ H'=>Q .non H',rt:=Q} (L2.start gB vs) H
inductive Y6(st:Stmt):Prop
 |mk (x1 x2:Nat) (rs:List Stmt) (p1 p2 p3 p4 p5 p6 q1 q2 q3 q4 q5 q6 q7 r1 r2 r3 r4 r5 r6 r7 s1 s2 s3 s4 s5 s6 s7 s8 s9 u1 u2 u3 u4 u5 v1 v2 v3 v4 v5 v6 v7:Pos) (h0_:bY st=[.Expr (.Call (.Name "check_waits" p1) [.Name "net" p2,.Name "talk" p3,.Name "waits" p4] [] p5) p6,
   .If (.UnaryOp .Not (.Call (.Name "is_number" q1) [.Name "number" q2,.Constant (.int 0) x1 q3,.Name "MOST_CHANGES" q4] [] q5) q6) rs [] q7,
   .Assign [.Name "going" r1] (.Call (.Name "Going" r2) [.Name "net" r3,.Name "talk" r4,.Name "waits" r5] [] r6) r7,
   .While (.BoolOp .And [.Attribute (.Name "going" s1) "since" s2,.Compare (.Call (.Name "len" s3) [.Attribute (.Name "going" s4) "changes" s5] [] s6) [.Lt] [.Name "number" s7] s8] s9)
    [.Expr (.Call (.Attribute (.Name "going" u1) "change" u2) [] [] u3) u4] [] u5,
   .Return (some (.Tuple [.Attribute (.Name "going" v1) "changes" v2,.Call (.Attribute (.Name "going" v3) "ending" v4) [] [] v5] x2 v6)) v7]) (h1_:∀env:Env,∃pl:Sem Bool,eval (.Call (.Attribute (.Name "going" u1) "change" u2) [] [] u3) env=(do
   let ov<-eval (.Name "going" u1) env
   standAt u2.atName
   let (f,first)<-holding [ov] (getMethod ov "change" pl)
   callWith u3 f first (backTo u3 (starEach [] env)) (backToKw u3 (keywordEach [] env)))) (h2_:∀env:Env,∃pl:Sem Bool,eval (.Call (.Attribute (.Name "going" v3) "ending" v4) [] [] v5) env=(do
   let ov<-eval (.Name "going" v3) env
   standAt v4.atName
   let (f,first)<-holding [ov] (getMethod ov "ending" pl)
   callWith v5 f first (backTo v5 (starEach [] env)) (backToKw v5 (keywordEach [] env))))
section
variable{P:Program}{w:World}{K:QQq}{mg:QZz}{base:Heap}
def V9{st:Stmt}{f C fk fn fi fc fe:Addr}{k:Nat}{spK spN spI spC spE:Sp}{tu:Tok}
  (F:Hk K "timed" qual st f fd)(S:dX gB ["net","talk","waits","number"] (ao st))(lo:∀x∈gB,(ao st).names.lookup x=some .local)
  (gl:∀x∈(["check_waits","is_number","MOST_CHANGES","Going","len"]:List Str),(ao st).names.lookup x=some .globalImplicit)
  (cl:pM K C)(mk:Mk K C fi)(mc:Meth K C "change" fc)(me:Meth K C "ending" fe)
  (A1:bV P w K mg base fZ k fk fdK psK spK)(b1:Binds K fdK psK [])(m1:mg "check_waits"=some (.ref fk))(k1:PySem.W.keepIn K (.ref fk)=true)
  (A2:bV P w K mg base fZ k fn fdN psN spN)(b2:Binds K fdN psN [])(m2:mg "is_number"=some (.ref fn))(k2:PySem.W.keepIn K (.ref fn)=true)
  (A3:bV P w K mg base fZ k fi fdI psI spI)(b3:Binds K fdI psI [])(m3:mg "Going"=some (.ref C))
  (A4:bV P w K mg base fZ k fc fdC psC spC)(b4:Binds K fdC psC [])(A5:bV P w K mg base fZ k fe fdE psE spE)(b5:Binds K fdE psE [])
  (mt:mg "MOST_CHANGES"=some (.int top tu))(ml:mg "len"=none)(hb:Y6 st):
  bV P w K mg base fZ (k+2) f fd ["net","talk","waits","number"] (Kq K C top spK spN spI spC spE):=by
 obtain⟨x1,x2,rs,p1,p2,p3,p4,p5,p6,q1,q2,q3,q4,q5,q6,q7,r1,r2,r3,r4,r5,r6,r7,s1,s2,s3,s4,s5,s6,s7,s8,s9,u1,u2,u3,u4,u5,v1,v2,v3,v4,v5,v6,v7,hb,hm,hn⟩:=hb
 refine F.ok S (fun vs H Q E h=>h.1) fun cdv A outer s H vs Q E hr h=>?_
 rw[hb]
 refine⟨_,?_,h.2⟩
 have hr1:=hr.mono (Nat.le_succ k)
 have v:∀x∈gB,JN (ao st) x:=fun x hx=>.inl (lo x hx)
 have pv0:∀{p:Pos},PE (gn fZ P w K mg base gB qual (ao st) f cdv A outer s H E).qL (.Name "net" p) (aV 0):=fun{p}=>cW (i:=0) rfl (v _ (by simp))
 have pv1:∀{p:Pos},PE (gn fZ P w K mg base gB qual (ao st) f cdv A outer s H E).qL (.Name "talk" p) (aV 1):=fun{p}=>cW (i:=1) rfl (v _ (by simp))
 have pv2:∀{p:Pos},PE (gn fZ P w K mg base gB qual (ao st) f cdv A outer s H E).qL (.Name "waits" p) (aV 2):=fun{p}=>cW (i:=2) rfl (v _ (by simp))
 have pv3:∀{p:Pos},PE (gn fZ P w K mg base gB qual (ao st) f cdv A outer s H E).qL (.Name "number" p) (aV 3):=fun{p}=>cW (i:=3) rfl (v _ (by simp))
 have pv4:∀{p:Pos},PE (gn fZ P w K mg base gB qual (ao st) f cdv A outer s H E).qL (.Name "going" p) (aV 4):=fun{p}=>cW (i:=4) rfl (v _ (by simp))
 have pf:∀{p q:Pos}{x:Str},PE (gn fZ P w K mg base gB qual (ao st) f cdv A outer s H E).qL (.Attribute (.Name "going" p) x q) (gf K x):=fun{p q x}=>mQ pv4 rfl
 obtain⟨pl,ht⟩:=hm (gn fZ P w K mg base gB qual (ao st) f cdv A outer s H E).qL.env
 obtain⟨pl2,ht2⟩:=hn (gn fZ P w K mg base gB qual (ao st) f cdv A outer s H E).qL.env
 refine bO (lF (gM A1 hr1 (gl _ (by simp)) m1 k1 b1 .nil iB (aC pv0 (aC pv1 (aC pv2 bF)))) rfl) ?_
 refine bO (Lj (Lh (nO (gM A2 hr1 (gl _ (by simp)) m2 k2 b2 .nil iB (aC pv3 (aC Cw (aC (Fy (v:=.int top) (gl _ (by simp)) mt ⟨tu,rfl⟩) bF)))) (fun _=>rfl))) W3 xr) ?_
 refine bO (sG S.nd rfl (.inl (lo _ (by simp))) (RC mk A3 hr (gl _ (by simp)) m3 b3 .nil iB (aC pv0 (aC pv1 (aC pv2 bF)))) rfl (.inr (lo _ (by simp)))) ?_
 refine bO (zy PassesOwn.never (PW.pt (Lg (nO pf (fun _=>rfl)) (Fw (WY (abt (nP Ao (gl _ (by simp)) ml rfl (aC pf bF)) pv3))))) (jt (lF (zz (pl:=pl) pv4 cl mc A4 hr1 b4 .nil iB ht) rfl))) ?_
 exact jt (iK (Cr (aC (Lz pf) (aC (zz (pl:=pl2) pv4 cl me A5 hr1 b5 .nil iB ht2) bF))))
end
def je(l:iV):List (Key×V):=l.map fun p=>(.inr p.1,.int p.2)
def Kp(H H':Hp):Prop:=∀b u,H b=some u->H' b=some u
def Kp.trans(a:Kp H H1)(b:Kp H1 H2):Kp H H2:=fun c u h=>b c u (a c u h)
def Kp.pers(k:Kp H H'):bM H H':=⟨fun b xs h=>k b _ h,fun b o u h=>k b _ h⟩
def Kp.lay{a:Addr}(h:H a=none):Kp H (upd H a u):=fun b v e=>by
 rw[aq (fun z=>by subst z;rw[h]at e;cases e)];exact e
def Kp.chg{a:Addr}(k:Kp H0 H)(h:H0 a=none):Kp H0 (upd H a u):=fun b v e=>by
 rw[aq (fun z=>by subst z;rw[h]at e;cases e)];exact k b v e
def mV(vn vt vs:V)(la ca sa:Addr):List (Str×V):=[("net",vn),("talk",vt),("lengths",.ref la),("changes",.ref ca),("stand",vs),("since",.ref sa)]
structure iu(K:QQq)(C:Addr)(H0 H:Hp)(a:Addr)(n t:D)(ls:iV)(cs:List D)(sd:D)(ss:iV):Prop where
 ex:∃(dx la ca sa:Addr)(vn vt vs:V)(cv:List V),H a=some (.ins C dx (mV vn vt vs la ca sa))/\aZ K H n vn/\aZ K H t vt/\aZ K H sd vs/\H la=some (.dK (je ls))/\H ca=some (.lst cv)/\ak K H cs cv/\H sa=some (.dK (je ss))/\
  la≠sa/\H0 a=none/\H0 ca=none/\H0 sa=none
 kp:Kp H0 H
def qR{d:Addr}{x:Str}(e:H d=some (.dK (je l)))(h:eQ (je l) (.inr x)=some (.int i)):lA H d (.str x) (some (.int i)):=by
 rw[<-h];exact lA.k (k:=.inr x) e
def Ai(ls ss:iV)(i:Nat):Int:=match ss[i]? with
 |some p=>p.2+(match eQ (je ls) (.inr p.1)with|some (.int j)=>j|_=>0)
 |none=>0
theorem iu.mono{K:QQq}{C a:Addr}{n t sd:D}{cs:List D}(G:iu K C H0 H a n t ls cs sd ss)(k:Kp H H'):iu K C H0 H' a n t ls cs sd ss:=by
 obtain⟨⟨dx,la,ca,sa,vn,vt,vs,cv,e1,d1,d2,d3,e2,e3,d4,e4,r⟩,k0⟩:=G
 exact⟨⟨dx,la,ca,sa,vn,vt,vs,cv,k _ _ e1,d1.mono k.pers,d2.mono k.pers,d3.mono k.pers,k _ _ e2,k _ _ e3,d4.mono k.pers,k _ _ e4,r⟩,k0.trans k⟩
section
variable{K:QQq}{C a g:Addr}{H0 H:Hp}{n t sd:D}{ls ss:iV}{cs:List D}{σ:L2.St}{D:Ends}
def age(hσ:σ[0]? =some (some (.ref a)))(G:iu K C H0 H a n t ls cs sd ss)(cl:pM K C)(bd:Vx K C "due" g)(n1:aW K C "since")(n2:aW K C "lengths")(ne:0<ss.length)
  (hi:∀(i:Nat)(p:Str×Int),ss[i]? =some p->eQ (je ss) (.inr p.1)=some (.int p.2))(hl:∀(i:Nat)(p:Str×Int),ss[i]? =some p->∃j,eQ (je ls) (.inr p.1)=some (.int j))
  (fin:∀(i:Nat)(p:Str×Int)(H1:Hp),ss[i]? =some p->(∀j,j<ss.length->Ai ls ss i<=Ai ls ss j/\(j<i->Ai ls ss i<Ai ls ss j))->Kp H H1->D.nx (σ.set 1 (some (.str p.1))) H1):
  wW (Kg g (pR K) (aG (tCB rLk (aG (sf K "since") cN)) cN) (aG (Wf K (aV 0) "due" g) cN)) (n8 1) D σ H:=by
 obtain⟨⟨dx,la,ca,sa,vn,vt,vs,cv,e1,d1,d2,d3,e2,e3,d4,e4,r⟩,k0⟩:=G
 refine⟨.ref a,hσ,a,C,dx,_,.ref sa,rfl,e1,cl,n1,rfl,sa,je ss,rfl,e4,fun l hl0=>?_⟩
 have k1:Kp H (upd H l (.lst ((je ss).map fun p=>kV p.1))):=Kp.lay hl0
 refine⟨.ref a,hσ,a,C,dx,_,rfl,k1 _ _ e1,cl,bd,rfl,fun q hq=>?_⟩
 have k2:=k1.trans (Kp.lay (u:=.met g a) hq)
 have nlq:l≠q:=fun z=>by subst z;rw[az]at hq;cases hq
 refine⟨l,q,a,(je ss).map fun p=>kV p.1,Ai ls ss,rfl,rfl,?_,?_,az,fun i v hv=>?_,fun i v hv best=>?_⟩
 ·rw[aq nlq,az]
 ·simpa[je]using ne
 ·unfold je at hv
  rw[List.map_map,QEz]at hv
  obtain⟨p,ep,rfl⟩:=QJz.mp hv
  obtain⟨j,hj⟩:=hl i p ep
  refine⟨a,.str p.1,C,dx,_,sa,la,p.2,j,rfl,k2 _ _ e1,cl,n1,n2,rfl,rfl,qR (k2 _ _ e4) (hi i p ep),qR (k2 _ _ e2) hj,?_,rfl⟩
  unfold Ai
  rw[ep]
  simp only[hj]
 ·unfold je at hv
  rw[List.map_map,QEz]at hv
  obtain⟨p,ep,rfl⟩:=QJz.mp hv
  exact fin i p _ ep (fun j hj=>best j (by simpa[je]using hj)) k2
end
section
variable{K:QQq}{C a g:Addr}{H0 H:Hp}{n t sd:D}{ls ss:iV}{cs:List D}{σ:L2.St}{D:Ends}
def agd{x:Str}(hσ:σ[0]? =some (some (.ref a)))(hx:σ[1]? =some (some (.str x)))(G:iu K C H0 H a n t ls cs sd ss)(cl:pM K C)(n1:aW K C "since")(n2:aW K C "lengths")
  (hi:eQ (je ss) (.inr x)=some (.int i))(hj:eQ (je ls) (.inr x)=some (.int j))(fin:D.nx (σ.set 2 (some (.int (i+j)))) H):
  wW (pP C "due" (pR K) [] E0 (aV 0) (aG (aV 1) cN)) (n8 2) D σ H:=by
 obtain⟨⟨dx,la,ca,sa,vn,vt,vs,cv,e1,d1,d2,d3,e2,e3,d4,e4,r⟩,k0⟩:=G
 exact⟨.ref a,hσ,a,dx,_,rfl,e1,rfl,.str x,hx,a,.str x,C,dx,_,sa,la,i,j,rfl,e1,cl,n1,n2,rfl,rfl,qR e4 hi,qR e2 hj,fin⟩
def agc{i:Int}(hσ:σ[0]? =some (some (.ref a)))(hx:σ[1]? =some (some (.str x)))(ht:σ[2]? =some (some (.int i)))(G:iu K C H0 H a n t ls cs sd ss)(cl:pM K C)(n1:aW K C "changes")(hz:cs.length<sizeLine)
  (fin:∀H1,iu K C H0 H1 a n t ls (cs++[.tup [.int i,.str x]]) sd ss->D.nx σ H1):
  pQ (tBM K "list" xn (sf K "changes") (aG (J9 (aG (aV 2) (aG (aV 1) cN))) cN)) D σ H:=by
 obtain⟨⟨dx,la,ca,sa,vn,vt,vs,cv,e1,d1,d2,d3,e2,e3,d4,e4,ne,z1,z2,z3⟩,k0⟩:=G
 refine⟨.ref a,hσ,a,C,dx,_,.ref ca,rfl,e1,cl,n1,rfl,.inl ⟨rfl,cv,.inl (.inl e3)⟩,.int i,ht,.str x,hx,by simp[sizeLine_eq],fun p hp=>?_⟩
 have k1:Kp H (upd H p (.tup [.int i,.str x])):=Kp.lay hp
 have lc:cv.length<sizeLine:=by rw[<-d4.length];exact hz
 have nca:ca≠a:=fun z=>by subst z;rw[e1]at e3;cases e3
 have ncl:ca≠la:=fun z=>by subst z;rw[e2]at e3;cases e3
 have ncs:ca≠sa:=fun z=>by subst z;rw[e4]at e3;cases e3
 have ncp:ca≠p:=fun z=>by subst z;rw[hp]at e3;cases e3
 refine⟨ca,cv,.ref p,rfl,rfl,k1 _ _ e3,lc,fin _ ?_⟩
 have k2:bM H (upd (upd H p (.tup [.int i,.str x])) ca (.lst (cv++[.ref p]))):=by
  refine⟨fun b xs h=>?_,fun b o u h=>?_⟩
  ·rw[aq (fun z=>by subst z;rw[e3]at h;cases h)];exact k1 _ _ h
  ·rw[aq (fun z=>by subst z;rw[e3]at h;cases h)];exact k1 _ _ h
 refine⟨⟨dx,la,ca,sa,vn,vt,vs,cv++[.ref p],?_,d1.mono k2,d2.mono k2,d3.mono k2,?_,az,ak.append (d4.mono k2) ?_,?_,ne,z1,z2,z3⟩,(k0.trans k1).chg z2⟩
 ·rw[aq (Ne.symm nca)];exact k1 _ _ e1
 ·rw[aq (Ne.symm ncl)];exact k1 _ _ e2
 ·refine ak.aX ?_ ak.cZ
  unfold aZ
  refine⟨p,[.int i,.str x],rfl,.inl (.inl ?_),ak.aX (by unfold aZ;rfl) (ak.aX (by unfold aZ;rfl) ak.cZ)⟩
  rw[aq (Ne.symm ncp),az]
 ·rw[aq (Ne.symm ncs)];exact k1 _ _ e4
end
def zB{ds:List D}{i:Nat}:¬aJ (ds.map .val) σ i b:=by
 rintro ⟨⟨s,xs,e,h⟩,_⟩
 rw[QEz]at e
 obtain⟨d,_,rfl⟩:=QJz.mp e
 cases h
def KN{K:QQq}{ds:List D}(l:ak K H ds vs):Sat K (ds.map .val) (vs.map some) H:=by
 refine⟨by simp[l.length],fun i s e=>?_,fun i j a h _=>absurd h zB⟩
 rw[QEz]at e
 obtain⟨d,ed,rfl⟩:=QJz.mp e
 obtain⟨v,ev,dv⟩:=l.get ed
 exact⟨v,by rw[QEz,ev];rfl,dv⟩
def lD{K:QQq}{H:Hp}{vs:List V}{r:Rv}{k:Nat}{E:XK}(l:ak K H ds vs)(hk:vs.length=k)(h:f (ds.map .val)=.ok r qs)(fin:∀v H',Kp H H'->acG K H H' r v->Q v H'):cA K k f vs H Q E:=by
 refine⟨ds.map .val,hk,KN l,fun i o e=>?_,?_⟩
 ·rw[QEz]at e
  obtain⟨d,_,z⟩:=QJz.mp e
  cases z
 ·rw[h]
  exact fun v H' c rc=>fin v H' (fun b u e=>c.keep b u e fun i=>zB) rc
section
variable{K:QQq}{C a g:Addr}{H0 H:Hp}{n t sd:D}{ls ss:iV}{cs:List D}{σ:L2.St}{D:Ends}{f:List Sl->Res}
def agb{sd':Mini.D}(hσ:σ[0]? =some (some (.ref a)))(hx:σ[1]? =some (some (.str x)))(G:iu K C H0 H a n t ls cs sd ss)(cl:pM K C)(n1:aW K C "net")(n2:aW K C "talk")(n3:aW K C "stand")
  (hf:f [.val n,.val t,.val sd,.val (.str x)]=.ok (.val sd') qs)(fin:∀H1,iu K C H0 H1 a n t ls cs sd' ss->D.nx σ H1):
  mH K (aV 0) (gU (cA K 4 f) [] E0 (aG (sf K "net") (aG (sf K "talk") (aG (sf K "stand") (aG (aV 1) cN))))) "stand" D σ H:=by
 obtain⟨⟨dx,la,ca,sa,vn,vt,vs,cv,e1,d1,d2,d3,e2,e3,d4,e4,ne,z1,z2,z3⟩,k0⟩:=G
 refine⟨.ref a,hσ,a,C,dx,_,vn,rfl,e1,cl,n1,rfl,.ref a,hσ,a,C,dx,_,vt,rfl,e1,cl,n2,rfl,.ref a,hσ,a,C,dx,_,vs,rfl,e1,cl,n3,rfl,.str x,hx,?_⟩
 refine lD (E:=E0) (ak.aX d1 (ak.aX d2 (ak.aX d3 (ak.aX (by unfold aZ;rfl) ak.cZ)))) rfl hf fun v H' k rc=>?_
 have hv:=rc
 refine⟨.ref a,hσ,a,C,dx,_,rfl,k _ _ e1,cl,n3,by simp[mV],fin _ ?_⟩
 have hp:jr "stand" v (mV vn vt vs la ca sa)=mV vn vt v la ca sa:=rfl
 have ea:=k _ _ e1
 have k2:bM H' (upd H' a (.ins C dx (mV vn vt v la ca sa))):=by
  refine⟨fun b xs h=>?_,fun b o u h=>?_⟩
  ·rw[aq (fun z=>by subst z;rw[ea]at h;cases h)];exact h
  ·rw[aq (fun z=>by subst z;rw[ea]at h;cases h)];exact h
 have kp:=k.pers
 have n_:∀{b:Addr}{u:HO},H b=some u->(∀C dx fs,u≠ .ins C dx fs)->upd H' a (.ins C dx (mV vn vt v la ca sa)) b=some u:=fun{b u}h hu=>by
  rw[aq (fun z=>by subst z;rw[e1]at h;cases h;exact hu _ _ _ rfl)];exact k _ _ h
 exact⟨⟨dx,la,ca,sa,vn,vt,v,cv,az,(d1.mono kp).mono k2,(d2.mono kp).mono k2,hv.mono k2,n_ e2 (by intros;intro z;cases z),n_ e3 (by intros;intro z;cases z),(d4.mono kp).mono k2,n_ e4 (by intros;intro z;cases z),ne,z1,z2,z3⟩,(k0.trans k).chg z1⟩
end
section
variable{K:QQq}{C a g:Addr}{H0 H:Hp}{n t sd:D}{ls ss ss':iV}{cs:List D}{σ:L2.St}{D:Ends}{f:List Sl->Res}
def aga{i:Int}(hσ:σ[0]? =some (some (.ref a)))(hx:σ[1]? =some (some (.str x)))(G:iu K C H0 H a n t ls cs sd ss)(cl:pM K C)(n1:aW K C "since")(hi:eQ (je ss) (.inr x)=some (.int i))(hs:qi (je ss) (.inr x)=je ss')
  (fin:∀H1,iu K C H0 H1 a n t ls cs sd ss'->D.nx σ H1):
  pQ (Bq (sf K "since") (aV 1)) D σ H:=by
 obtain⟨⟨dx,la,ca,sa,vn,vt,vs,cv,e1,d1,d2,d3,e2,e3,d4,e4,ne,z1,z2,z3⟩,k0⟩:=G
 refine⟨.ref a,hσ,a,C,dx,_,.ref sa,rfl,e1,cl,n1,rfl,sa,rfl,.inl ⟨_,.inl e4⟩,.str x,hx,je ss,.inr x,.int i,e4,rfl,hi,?_⟩
 rw[hs]
 refine fin _ ?_
 have k2:bM H (upd H sa (.dK (je ss'))):=by
  refine⟨fun b xs h=>?_,fun b o u h=>?_⟩
  ·rw[aq (fun z=>by subst z;rw[e4]at h;cases h)];exact h
  ·rw[aq (fun z=>by subst z;rw[e4]at h;cases h)];exact h
 refine⟨⟨dx,la,ca,sa,vn,vt,vs,cv,?_,d1.mono k2,d2.mono k2,d3.mono k2,?_,?_,d4.mono k2,az,ne,z1,z2,z3⟩,k0.chg z3⟩
 ·rw[aq (fun z=>by subst z;rw[e4]at e1;cases e1)];exact e1
 ·rw[aq ne];exact e2
 ·rw[aq (fun z=>by subst z;rw[e4]at e3;cases e3)];exact e3
end
section
variable{K:QQq}{C a g:Addr}{H0 H:Hp}{n t sd:D}{ls ss:iV}{cs nm:List D}{σ:L2.St}{D:Ends}{f:List Sl->Res}
theorem af9(hσ:σ[0]? =some (some (.ref a)))(G:iu K C H0 H a n t ls cs sd ss)(cl:pM K C)(n1:aW K C "net")(n2:aW K C "talk")(n3:aW K C "stand")
  (hf:if gG sd then nm=[]else∃qs,f [.val n,.val t,.val sd]=.ok (.new (.lst nm)) qs)
  (fin:∀p H1,iu K C H0 H1 a n t ls cs sd ss->H p=none->jj K H1 (.lst nm) p->Kp H H1->D.nx (σ.set 3 (some (.ref p))) H1):
  wW (tIf (Ew (Ur (fun x y H Q=>y=.non/\Q (.bl (decide (x=.non))) H) (sf K "stand") (tC .non))) (Kl cN) (gU (cA K 3 f) [] E0 (aG (sf K "net") (aG (sf K "talk") (aG (sf K "stand") cN))))) (n8 3) D σ H:=by
 have G0:=G
 obtain⟨⟨dx,la,ca,sa,vn,vt,vs,cv,e1,d1,d2,d3,e2,e3,d4,e4,ne,z1,z2,z3⟩,k0⟩:=G
 refine⟨.ref a,hσ,a,C,dx,_,vs,rfl,e1,cl,n3,rfl,rfl,decide _,rfl,?_⟩
 rw[qT d3]
 cases hs:gG sd with
 |true=>
  rw[hs]at hf
  have hnm:nm=[]:=by simpa using hf
  subst hnm
  refine⟨QHq _,fun p hp=>fin p _ (G0.mono (Kp.lay hp)) hp ⟨_,az,?_⟩ (Kp.lay hp)⟩
  exact⟨[],rfl,ak.cZ⟩
 |false=>
  rw[hs]at hf
  obtain⟨qs,hf⟩:∃qs,f [.val n,.val t,.val sd]=.ok _ qs:=by simpa using hf
  refine⟨.ref a,hσ,a,C,dx,_,vn,rfl,e1,cl,n1,rfl,.ref a,hσ,a,C,dx,_,vt,rfl,e1,cl,n2,rfl,.ref a,hσ,a,C,dx,_,vs,rfl,e1,cl,n3,rfl,?_⟩
  refine lD (E:=E0) (ak.aX d1 (ak.aX d2 (ak.aX d3 ak.cZ))) rfl hf fun v H' k rc=>?_
  obtain⟨p,rfl,ob,hp⟩:=rc
  exact fin p H' (G0.mono k) hp ob k
end
theorem jm x:∀l:iV,eQ (je l) (.inr x)=(bZ x l).map V.int
 |[]=>rfl
 |p::l=>by
  show eQ ((Sum.inr p.1,V.int p.2)::je l) _=_
  by_cases e:p.1=x
  ·rw[iY (by show(Sum.inr p.1)=.inr x;rw[e]),bZ,if_pos e];rfl
  ·rw[iZ (fun z=>e (Sum.inr.inj z)),jm x l,bZ,if_neg e]
def Oz x l:qi (je l) (.inr x)=je (l.filter fun q=>decide (q.1≠x)):=by
 unfold qi je
 rw[List.filter_map]
 congr 1
 refine List.filter_congr fun q _=>?_
 by_cases e:q.1=x<;>simp[e]
def YL ls ss i:Ai ls ss i=iQ ls ss i:=by
 unfold Ai iQ
 cases ss[i]? with
 |none=>rfl
 |some p=>simp only[jm];cases bZ p.1 ls<;>rfl
section
variable{K:QQq}{C a:Addr}{H0 H:Hp}{n t sd:D}{ls ss:iV}{cs nm:List D}{σ:L2.St}{D:Ends}{f:List Sl->Res}
theorem wU:∀{kvs:List (Key×V)}{vs:List Mini.D}{l:iV},oU (kvs.map fun p=>dj p.1) vs=some l->ak K H vs (kvs.map (·.2))->kvs=je l
 |[],vs,l,h,_=>by
  cases vs with
  |nil=>cases h;rfl
  |cons v vs=>simp[oU]at h
 |(k,v)::kvs,vs,l,h,d=>by
  cases k with
  |inl i=>cases vs<;>simp[oU,dj]at h
  |inr x=>
   cases vs with
   |nil=>simp[oU,dj]at h
   |cons w vs=>
    cases w with
    |int i=>
     have h':=h
     obtain⟨l',e,rfl⟩:=QJz.mp h'
     obtain⟨v',r,q,dv,dr⟩:=ak.aF.mp d
     injection q with q1 q2
     subst q2
     have ev:v=.int i:=by
      have dv2:=dv
      exact q1.trans dv2
     rw[ev,wU e dr]
     rfl
    |_=>simp[oU,dj]at h
def R0 l:JQ K H (.dct (uI l) (Hw l)) (.dK (je l)):=by
 refine⟨je l,rfl,by simp[uI,je,dj],?_⟩
 induction l with
 |nil=>exact ak.cZ
 |cons p l ih=>exact ak.aX (by unfold aZ;rfl) ih
theorem za{tm:Int}{Q:VK}{E:XK}(dp:aZ K H (.lst nm) (.ref p))(es:H sa=some (.dK (je ss)))(hf:Mp (f [.val (.lst nm),.bor (.dct (uI ss) (Hw ss)),.val (.int tm)])=some ss')
  (fin:∀b H',(∀c u,H c=some u->c≠sa->H' c=some u)->bM H H'->H b=none->H' b=some (.dK (je ss'))->Q (.ref b) H'):cA K 3 f [.ref p,.ref sa,.int tm] H Q E:=by
 have own:∀i b,aJ [.val (.lst nm),.bor (.dct (uI ss) (Hw ss)),.val (.int tm)] ([V.ref p,.ref sa,.int tm].map some) i b->i=1/\b=sa:=fun i b⟨⟨s,o,e1,e2⟩,e3⟩=>by
  match i with
  |0=>cases e1;cases e2
  |1=>cases e3;exact⟨rfl,rfl⟩
  |2=>cases e1;cases e2
  |i+3=>simp at e1
 refine⟨[.val _,.bor _,.val _],rfl,⟨rfl,fun i s e=>?_,fun i j b h1 h2=>(own i b h1).1.trans (own j b h2).1.symm⟩,fun i o e=>?_,?_⟩
 ·match i with
  |0=>cases e;exact⟨_,rfl,dp⟩
  |1=>cases e;exact⟨_,rfl,_,es,R0 ss⟩
  |2=>cases e;exact⟨_,rfl,by unfold aZ;rfl⟩
  |i+3=>simp at e
 ·match i with
  |0=>cases e
  |1=>cases e
  |2=>cases e
  |i+3=>simp at e
 ·cases hr:f [.val _,.bor _,.val _]with
  |bad=>rw[hr]at hf;cases hf
  |exc _ _=>rw[hr]at hf;cases hf
  |ok r qs=>
   rw[hr]at hf
   cases r with
   |val _=>cases hf
   |ref _=>cases hf
   |tmp _=>cases hf
   |new o=>
    cases o with
    |lst _=>cases hf
    |sdt _ _=>cases hf
    |dct ks vs=>
     intro v H' c rc
     obtain⟨b,rfl,⟨u,hu,kvs,rfl,hk,hd⟩,hb⟩:=rc
     have hf':=hf
     rw[hk]at hf'
     have:=wU hf' hd
     subst this
     exact fin b H' (fun c' u' e ne=>c.keep c' u' e fun i o=>ne (own i c' o).2) c.pers hb hu
theorem af8{tm:Int}(hσ:σ[0]? =some (some (.ref a)))(ht:σ[2]? =some (some (.int tm)))(hp:σ[3]? =some (some (.ref p)))(G:iu K C H0 H a n t ls cs sd ss)(cl:pM K C)(n1:aW K C "since")
  (p0:H0 p=none)(ob:jj K H (.lst nm) p)(pc:∀dx vn vt vs la ca sa,H a=some (.ins C dx (mV vn vt vs la ca sa))->p≠ca)
  (hf:Mp (f [.val (.lst nm),.bor (.dct (uI ss) (Hw ss)),.val (.int tm)])=some ss')(fin:∀H1,iu K C H0 H1 a n t ls cs sd ss'->D.nx σ H1):
  mH K (aV 0) (gU (cA K 3 f) [] E0 (aG (Uw (aV 3)) (aG (sf K "since") (aG (aV 2) cN)))) "since" D σ H:=by
 obtain⟨⟨dx,la,ca,sa,vn,vt,vs,cv,e1,d1,d2,d3,e2,e3,d4,e4,ne,z1,z2,z3⟩,k0⟩:=G
 obtain⟨u,hu,ol⟩:=ob
 have hpc:=pc _ _ _ _ _ _ _ e1
 have cu:=ol.pX
 obtain⟨vl,rfl,dl⟩:=id ol
 have npa:a≠p:=fun z=>by subst z;rw[hu]at e1;cases e1
 have npl:la≠p:=fun z=>by subst z;rw[hu]at e2;cases e2
 have nps:sa≠p:=fun z=>by subst z;rw[hu]at e4;cases e4
 refine⟨.ref p,hp,p,_,rfl,hu,cu,fun o=>?_⟩
 have pf:=dG (o:=o) hu cu
 have f1:∀{b:Addr}{w:HO},b≠p->H b=some w->upd H p (.frz o (.lst vl)) b=some w:=fun nb h=>by rw[aq nb];exact h
 refine⟨.ref a,hσ,a,C,dx,_,.ref sa,rfl,f1 npa e1,cl,n1,rfl,.int tm,ht,?_⟩
 refine za (E:=E0) (nm:=nm) (ss:=ss) ((ol.mono pf).den az) (f1 nps e4) hf fun b H' keep pe hb eb=>?_
 have nas:a≠sa:=fun z=>by subst z;rw[e4]at e1;cases e1
 have ncs:ca≠sa:=fun z=>by subst z;rw[e4]at e3;cases e3
 have ea:=keep _ _ (f1 npa e1) nas
 refine⟨.ref a,hσ,a,C,dx,_,rfl,ea,cl,n1,by simp[mV],fin _ ?_⟩
 have hpf:jr "since" (.ref b) (mV vn vt vs la ca sa)=mV vn vt vs la ca b:=rfl
 rw[hpf]
 have k2:bM H' (upd H' a (.ins C dx (mV vn vt vs la ca b))):=by
  refine⟨fun b xs h=>?_,fun b o u h=>?_⟩
  ·rw[aq (fun z=>by subst z;rw[ea]at h;cases h)];exact h
  ·rw[aq (fun z=>by subst z;rw[ea]at h;cases h)];exact h
 have pp:=(pf.trans pe).trans k2
 have nba:b≠a:=fun z=>by subst z;rw[f1 npa e1]at hb;cases hb
 have nbl:la≠b:=fun z=>by subst z;rw[f1 npl e2]at hb;cases hb
 have f2:∀{c:Addr}{w:HO},c≠p->c≠sa->c≠a->H c=some w->upd H' a (.ins C dx (mV vn vt vs la ca b)) c=some w:=fun x1 x2 x3 h=>by rw[aq x3];exact keep _ _ (f1 x1 h) x2
 have b0:H0 b=none:=by
  cases q:H0 b with
  |none=>rfl
  |some w=>
   have:=k0 _ _ q
   have nbp:b≠p:=fun z=>by subst z;rw[p0]at q;cases q
   rw[f1 nbp this]at hb
   cases hb
 refine⟨⟨dx,la,ca,b,vn,vt,vs,cv,az,d1.mono pp,d2.mono pp,d3.mono pp,f2 npl ne (fun z=>by subst z;rw[e1]at e2;cases e2) e2,f2 (Ne.symm hpc) ncs (fun z=>by subst z;rw[e1]at e3;cases e3) e3,d4.mono pp,?_,nbl,z1,z2,b0⟩,fun c w h=>?_⟩
 ·rw[aq nba];exact eb
 ·exact f2 (fun z=>by subst z;rw[p0]at h;cases h) (fun z=>by subst z;rw[z3]at h;cases h) (fun z=>by subst z;rw[z1]at h;cases h) (k0 c w h)
end
theorem vO(f:Nat->Int):∀n,0<n->fX f n<n/\∀j,j<n->f (fX f n)<=f j/\(j<fX f n->f (fX f n)<f j)
 |0=>fun h=>absurd h (Nat.lt_irrefl 0)
 |1=>fun _=>⟨by simp[fX],fun j hj=>by
  have:j=0:=by omega
  subst this
  simp[fX]⟩
 |n+2=>fun _=>by
  obtain⟨h1,h2⟩:=vO f (n+1) (by omega)
  rw[fX]
  split
  ·rename_i c
   refine⟨by omega,fun j hj=>?_⟩
   by_cases e:j=n+1
   ·subst e;exact⟨Int.le_refl _,fun z=>absurd z (by omega)⟩
   ·have:=(h2 j (by omega)).1
    exact⟨by omega,fun _=>by omega⟩
  ·rename_i c
   refine⟨by omega,fun j hj=>?_⟩
   by_cases e:j=n+1
   ·subst e;exact⟨by omega,fun z=>by omega⟩
   ·exact h2 j (by omega)
def IW f(hi:i<n)(h:∀j,j<n->f i<=f j/\(j<i->f i<f j)):i=fX f n:=by
 obtain⟨h1,h2⟩:=vO f n (by omega)
 have a:=h _ h1
 have b:=h2 i hi
 rcases Nat.lt_trichotomy i _ with c|c|c
 ·have:=b.2 c;omega
 ·exact c
 ·have:=a.2 c;omega
section
variable{K:QQq}{C a g:Addr}{H0 H:Hp}{n t sd:D}{ls ss:iV}{cs:List D}{F:Gf}
structure Qg(K:QQq)(C:Addr):Prop where
 net:aW K C "net"
 talk:aW K C "talk"
 len:aW K C "lengths"
 chg:aW K C "changes"
 std:aW K C "stand"
 snc:aW K C "since"
theorem Tt{E:XK}(cl:pM K C)(bd:Vx K C "due" g)(na:Qg K C)(G:iu K C H0 H a n t ls cs sd ss)(ne:ss≠[])(hs:jW F n t ls ⟨cs,sd,ss⟩=some g')
  (fin:∀H',iu K C H0 H' a n t ls g'.cs g'.sd g'.ss->Q .non H'):vg K C g (pR K) (cA K 4 F.led) (cA K 3 F.stp) (cA K 3 F.snw) [.ref a] H Q E:=by
 refine⟨rfl,?_⟩
 unfold jW at hs
 split at hs
 rotate_left
 ·cases hs
 rename_i hok
 rw[QUq]at hok
 obtain⟨hok,hfit⟩:=hok
 have lp:=List.length_pos_iff.mpr ne
 have ok:∀p∈ss,bZ p.1 ss=some p.2/\∃j,bZ p.1 ls=some j:=fun p hp=>by
  have:=List.all_eq_true.mp hok p hp
  simp only[QUq,beq_iff_eq]at this
  exact⟨this.1,Option.isSome_iff_exists.mp this.2⟩
 split at hs
 ·cases hs
 rename_i p ep
 obtain⟨sd',e1,hs⟩:=QJq.mp hs
 obtain⟨nm,e2,hs⟩:=QJq.mp hs
 obtain⟨ss',e3,rfl⟩:=QJz.mp hs
 have mp:=QBq ep
 obtain⟨o1,j,o2⟩:=ok p mp
 have du:iQ ls ss (fX (iQ ls ss) ss.length)=p.2+j:=by
  show(match ss[fX _ ss.length]? with|some p=>p.2+(bZ p.1 ls).getD 0|none=>0)=_
  rw[ep]
  simp only[o2]
  rfl
 refine age rfl G cl bd na.snc na.len lp (fun i q e=>?_) (fun i q e=>?_) fun i q H1 e best k1=>?_
 ·rw[jm,(ok q (QBq e)).1];rfl
 ·obtain⟨j,hj⟩:=(ok q (QBq e)).2
  exact⟨j,by rw[jm,hj];rfl⟩
 have hi:i<ss.length:=by
  rcases Nat.lt_or_ge i ss.length with z|z
  ·exact z
  ·rw[List.getElem?_eq_none z]at e;cases e
 have im:=IW _ hi fun j hj=>by
  have:=best j hj
  simp only[YL]at this
  exact this
 have qp:q=p:=by rw[im,ep]at e;exact(QDz e).symm
 subst qp
 refine agd rfl rfl (G.mono k1) cl na.snc na.len (by rw[jm,o1];rfl) (by rw[jm,o2];rfl) ?_
 have hz:cs.length<sizeLine:=by
  rw[sizeLine_eq]
  have:cs.length+1<=16777216:=by simpa[fits]using hfit
  omega
 refine agc rfl rfl rfl (G.mono k1) cl na.chg hz fun H2 G2=>?_
 have hl:∃qs,F.led [.val n,.val t,.val sd,.val (.str q.1)]=.ok (.val sd') qs:=by
  have e1':=e1
  cases h:F.led [.val n,.val t,.val sd,.val _]with
  |bad=>rw[h]at e1';cases e1'
  |exc _ _=>rw[h]at e1';cases e1'
  |ok r qs=>
   rw[h]at e1'
   cases r with
   |val d=>cases e1';exact⟨qs,rfl⟩
   |_=>cases e1'
 obtain⟨qs,hl⟩:=hl
 refine agb rfl rfl G2 cl na.net na.talk na.std hl fun H3 G3=>?_
 refine aga rfl rfl G3 cl na.snc (by rw[jm,o1];rfl) (Oz q.1 ss) fun H4 G4=>?_
 have hn:if gG sd' then nm=[]else∃qs,F.stp [.val n,.val t,.val sd']=.ok (.new (.lst nm)) qs:=by
  unfold xO at e2
  cases h:gG sd' with
  |true=>rw[h]at e2;cases e2;simp
  |false=>
   rw[h]at e2
   cases h2:F.stp [.val n,.val t,.val sd']with
   |bad=>rw[h2]at e2;cases e2
   |exc _ _=>rw[h2]at e2;cases e2
   |ok r qs=>
    rw[h2]at e2
    cases r with
    |new o=>
     cases o with
     |lst xs=>cases e2;exact⟨qs,rfl⟩
     |_=>cases e2
    |_=>cases e2
 refine af9 rfl G4 cl na.net na.talk na.std hn fun pp H5 G5 hp ob k5=>?_
 refine af8 rfl rfl rfl G5 cl na.snc ?_ ob ?_ (by rw[<-du];exact e3) fun H6 G6=>fin H6 ?_
 ·cases h:H0 pp with
  |none=>rfl
  |some w=>rw[G4.kp _ _ h]at hp;cases hp
 ·intro dx vn vt vs la ca sa e
  obtain⟨dx',la',ca',sa',vn',vt',vs',cv,f1,_,_,_,_,f3,_⟩:=G4.ex
  rw[k5 _ _ f1]at e
  injection e with e
  injection e with _ _ e
  have:ca'=ca:=by simp[mV]at e;exact e.2.2.2.1
  subst this
  exact fun z=>by subst z;rw[hp]at f3;cases f3
 ·rw[du]
  exact G6
end
def j0{a C dx:Addr}{u:HO}(e:H a=some (.ins C dx fs)):bM H (upd H a u):=by
 refine⟨fun b xs h=>?_,fun b o u h=>?_⟩
 ·rw[aq (fun z=>by subst z;rw[e]at h;cases h)];exact h
 ·rw[aq (fun z=>by subst z;rw[e]at h;cases h)];exact h
structure Ba(K:QQq)(C:Addr)(H0:Hp)(x dx:Addr)(n t w:D)(vn vt vw:V)(H:Hp)(fs:List (Str×V)):Prop where
 ex:H x=some (.ins C dx fs)
 kp:Kp H0 H
 dn:aZ K H n vn
 dt:aZ K H t vt
 dw:aZ K H w vw
section
variable{K:QQq}{C x dx:Addr}{H0 H H':Hp}{n t w:D}{vn vt vw:V}{fs fs':List (Str×V)}
theorem Ba.mono(I:Ba K C H0 x dx n t w vn vt vw H fs)(k:Kp H H'):Ba K C H0 x dx n t w vn vt vw H' fs:=
 ⟨k _ _ I.ex,I.kp.trans k,I.dn.mono k.pers,I.dt.mono k.pers,I.dw.mono k.pers⟩
def Ba.put(I:Ba K C H0 x dx n t w vn vt vw H fs)(z:H0 x=none):Ba K C H0 x dx n t w vn vt vw (upd H x (.ins C dx fs')) fs':=
 ⟨az,I.kp.chg z,I.dn.mono (j0 I.ex),I.dt.mono (j0 I.ex),I.dw.mono (j0 I.ex)⟩
def Fo(I:Ba K C H0 x dx n t w vn vt vw H fs):Sat K [.un,.val n,.val t,.val w] [some (.ref x),some vn,some vt,some vw] H:=by
 refine⟨rfl,fun i s e=>?_,fun i j a h=>?_⟩
 ·match i with
  |0=>cases e;trivial
  |1=>cases e;exact⟨_,rfl,I.dn⟩
  |2=>cases e;exact⟨_,rfl,I.dt⟩
  |3=>cases e;exact⟨_,rfl,I.dw⟩
  |i+4=>simp at e
 ·obtain⟨⟨s,o,e1,e2⟩,_⟩:=h
  match i with
  |0=>cases e1;cases e2
  |1=>cases e1;cases e2
  |2=>cases e1;cases e2
  |3=>cases e1;cases e2
  |i+4=>simp at e1
def FJ{i:Nat}:¬aJ [.un,.val n,.val t,.val w] σ i b:=by
 rintro ⟨⟨s,o,e1,e2⟩,_⟩
 match i with
 |0=>cases e1;cases e2
 |1=>cases e1;cases e2
 |2=>cases e1;cases e2
 |3=>cases e1;cases e2
 |i+4=>simp at e1
def R3{l:iV}(h:R4 r=some l):∃ks vs env,r=.ok (.new (.dct ks vs)) env/\oU ks vs=some l:=by
 cases r with
 |bad=>cases h
 |exc _ _=>cases h
 |ok r env=>
  cases r with
  |new o=>
   cases o with
   |dct ks vs=>exact⟨ks,vs,env,rfl,h⟩
   |_=>cases h
  |_=>cases h
def QB{d:D}(h:Bj r=some d):∃qs,r=.ok (.val d) qs:=by
 cases r with
 |bad=>cases h
 |exc _ _=>cases h
 |ok r qs=>
  cases r with
  |val d=>cases h;exact⟨qs,rfl⟩
  |_=>cases h
def Sg{xs:List D}(h:Ja r=some xs):∃qs,r=.ok (.new (.lst xs)) qs:=by
 cases r with
 |bad=>cases h
 |exc _ _=>cases h
 |ok r qs=>
  cases r with
  |new o=>
   cases o with
   |lst xs=>cases h;exact⟨qs,rfl⟩
   |_=>cases h
  |_=>cases h
theorem Sx{mz:E}{Q:VK}{E:XK}{sd:D}(cl:pM K C)(na:Qg K C)(z:H0 x=none)(I:Ba K C H0 x dx n t w vn vt vw H [])
  (h1:R4 (ev c mz [.un,.val n,.val t,.val w])=some ls)(h2:Bj (ff [.val n])=some sd)(h3:Ja (fs_ [.val n,.val t,.val sd])=some nm)(h4:Mp (fw [.val (.lst nm),.bor (.dct [] []),.val (.int 0)])=some ss)
  (fin:∀H',iu K C H0 H' x n t ls [] sd ss->Q .non H'):Ez K c mz (cA K 1 ff) (cA K 3 fs_) (cA K 3 fw) [.ref x,vn,vt,vw] H Q E:=by
 obtain⟨ks,vs,env',hm,hl⟩:=R3 h1
 obtain⟨q2,h2⟩:=QB h2
 obtain⟨q3,h3⟩:=Sg h3
 refine⟨rfl,?_⟩
 refine⟨vn,rfl,.ref x,rfl,x,C,dx,_,rfl,I.ex,cl,na.net,by simp,?_⟩
 have I1:=I.put (fs':=[("net",vn)]) z
 refine⟨vt,rfl,.ref x,rfl,x,C,dx,[("net",vn)],rfl,I1.ex,cl,na.talk,by simp,?_⟩
 have I2:=I1.put (fs':=[("net",vn),("talk",vt)]) z
 show mH K (aV 0) (Ux K c mz) "lengths" _ _ (upd (upd H x (.ins C dx [("net",vn)])) x (.ins C dx [("net",vn),("talk",vt)]))
 refine⟨[.un,.val n,.val t,.val w],Fo I2,?_⟩
 rw[hm]
 rintro v H3 N ⟨la,rfl,⟨u,hu,kvs,rfl,hk,hd⟩,hla⟩
 rw[hk]at hl
 have:=wU hl hd
 subst this
 have k3:=fun b u e=>N.keep b u e fun i=>FJ
 have I3:=I2.mono k3
 have nxl:la≠x:=fun q=>by subst q;rw[I2.ex]at hla;cases hla
 refine⟨.ref x,rfl,x,C,dx,_,rfl,I3.ex,cl,na.len,by simp,?_⟩
 have I4:=I3.put (fs':=[("net",vn),("talk",vt),("lengths",.ref la)]) z
 have l4:upd H3 x (.ins C dx [("net",vn),("talk",vt),("lengths",.ref la)]) la=some (.dK (je ls)):=by rw[aq nxl];exact hu
 show mH K (aV 0) (Kl cN) "changes" _ _ (upd H3 x (.ins C dx [("net",vn),("talk",vt),("lengths",.ref la)]))
 generalize upd H3 x (.ins C dx [("net",vn),("talk",vt),("lengths",.ref la)])=H4 at I4 l4⊢
 refine⟨QHq _,fun ca hca=>?_⟩
 have k5:Kp H4 (upd H4 ca (.lst [])):=Kp.lay hca
 have I5:=I4.mono k5
 have nxc:ca≠x:=fun q=>by subst q;rw[I4.ex]at hca;cases hca
 refine⟨.ref x,rfl,x,C,dx,_,rfl,I5.ex,cl,na.chg,by simp,?_⟩
 have I6:=I5.put (fs':=[("net",vn),("talk",vt),("lengths",.ref la),("changes",.ref ca)]) z
 have c0:H0 ca=none:=by
  cases q:H0 ca with
  |none=>rfl
  |some w=>rw[I4.kp _ _ q]at hca;cases hca
 have l6:upd (upd H4 ca (.lst [])) x (.ins C dx [("net",vn),("talk",vt),("lengths",.ref la),("changes",.ref ca)]) la=some (.dK (je ls)):=by rw[aq nxl];exact k5 _ _ l4
 have c6:upd (upd H4 ca (.lst [])) x (.ins C dx [("net",vn),("talk",vt),("lengths",.ref la),("changes",.ref ca)]) ca=some (.lst []):=by rw[aq nxc,az]
 show mH K (aV 0) (gU (cA K 1 ff) [] E0 (aG (aV 1) cN)) "stand" _ _ (upd (upd H4 ca (.lst [])) x (.ins C dx [("net",vn),("talk",vt),("lengths",.ref la),("changes",.ref ca)]))
 refine⟨vn,rfl,?_⟩
 refine lD (E:=E0) (ds:=[n]) (ak.aX I6.dn ak.cZ) rfl h2 fun v H7 k7 rc=>?_
 have hv:=rc
 have I7:=I6.mono k7
 refine⟨.ref x,rfl,x,C,dx,_,rfl,I7.ex,cl,na.std,by simp,?_⟩
 have I8:=I7.put (fs':=[("net",vn),("talk",vt),("lengths",.ref la),("changes",.ref ca),("stand",v)]) z
 have l8:upd H7 x (.ins C dx [("net",vn),("talk",vt),("lengths",.ref la),("changes",.ref ca),("stand",v)]) la=some (.dK (je ls)):=by rw[aq nxl];exact k7 _ _ l6
 have c8:upd H7 x (.ins C dx [("net",vn),("talk",vt),("lengths",.ref la),("changes",.ref ca),("stand",v)]) ca=some (.lst []):=by rw[aq nxc];exact k7 _ _ c6
 have v8:aZ K (upd H7 x (.ins C dx [("net",vn),("talk",vt),("lengths",.ref la),("changes",.ref ca),("stand",v)])) sd v:=hv.mono (j0 I7.ex)
 show mH K (aV 0) (gU (cA K 3 fw) [] E0 (aG (Uw (gU (cA K 3 fs_) [] E0 (aG (aV 1) (aG (aV 2) (aG (sf K "stand") cN))))) (aG (Ux K c .emp) (aG (tC (.int 0)) cN)))) "since" _ _ (upd H7 x (.ins C dx [("net",vn),("talk",vt),("lengths",.ref la),("changes",.ref ca),("stand",v)]))
 generalize upd H7 x (.ins C dx [("net",vn),("talk",vt),("lengths",.ref la),("changes",.ref ca),("stand",v)])=H8 at I8 l8 c8 v8⊢
 refine⟨vn,rfl,vt,rfl,.ref x,rfl,x,C,dx,_,v,rfl,I8.ex,cl,na.std,rfl,?_⟩
 refine lD (E:=E0) (ds:=[n,t,sd]) (ak.aX I8.dn (ak.aX I8.dt (ak.aX v8 ak.cZ))) rfl h3 fun vl H9 k9 rc=>?_
 obtain⟨p,rfl,⟨u9,hu9,ol⟩,hp⟩:=rc
 have cu:=ol.pX
 refine⟨p,u9,rfl,hu9,cu,fun o=>?_⟩
 have nn:∀{b:Addr}{y:HO},H8 b=some y->upd H9 p (.frz o u9) b=some y:=fun{b y}h=>by
  rw[aq (fun q=>by subst q;rw[hp]at h;cases h)];exact k9 _ _ h
 have dp:aZ K (upd H9 p (.frz o u9)) (.lst nm) (.ref p):=(ol.mono (dG hu9 cu)).den az
 have k10:Kp H8 (upd H9 p (.frz o u9)):=fun b y h=>nn h
 have I10:=I8.mono k10
 generalize upd H9 p (.frz o u9)=H10 at dp k10 I10
 refine⟨[.un,.val n,.val t,.val w],Fo I10,?_⟩
 rintro v2 H11 N2 ⟨s0,rfl,⟨u2,hu2,kv2,rfl,hk2,hd2⟩,hs0⟩
 have kn:kv2=je []:=by
  cases kv2 with
  |nil=>rfl
  |cons a b=>cases hk2
 subst kn
 have k11:Kp H10 H11:=fun b u e=>N2.keep b u e fun i=>FJ
 refine za (E:=E0) (nm:=nm) (ss:=[]) (dp.mono k11.pers) hu2 h4 fun b H12 keep pe hb eb=>?_
 have old:∀{c:Addr}{y:HO},H8 c=some y->H12 c=some y:=fun{c y}h=>keep _ _ (k11 _ _ (k10 _ _ h)) fun q=>by subst q;rw[k10 _ _ h]at hs0;cases hs0
 have k12:Kp H8 H12:=fun c y h=>old h
 have I12:=I8.mono k12
 refine⟨.ref x,rfl,x,C,dx,_,rfl,I12.ex,cl,na.snc,by simp,fin _ ?_⟩
 have hpf:jr "since" (.ref b) [("net",vn),("talk",vt),("lengths",.ref la),("changes",.ref ca),("stand",v)]=mV vn vt v la ca b:=rfl
 rw[hpf]
 have nb:∀{c:Addr}{y:HO},H8 c=some y->c≠b:=fun{c y}h q=>by subst q;rw[k11 _ _ (k10 _ _ h)]at hb;cases hb
 have I13:=I12.put (fs':=mV vn vt v la ca b) z
 have b0:H0 b=none:=by
  cases q:H0 b with
  |none=>rfl
  |some w=>exact absurd rfl (nb (I8.kp _ _ q))
 refine⟨⟨dx,la,ca,b,vn,vt,v,[],az,I13.dn,I13.dt,(v8.mono k12.pers).mono (j0 I12.ex),?_,?_,ak.cZ,?_,nb l8,z,c0,b0⟩,I13.kp⟩
 ·rw[aq nxl];exact old l8
 ·rw[aq nxc];exact old c8
 ·rw[aq (Ne.symm (nb I8.ex))];exact eb
end
section
variable{K:QQq}{C g:Addr}{H:Hp}
def Ot{sd:D}{cs:List D}(d:aZ K H' sd v):aZ K H' (Ov ⟨cs,sd,ss⟩) (Ou v (je ss)):=by
 have e:=qT d
 unfold Ov Ou
 by_cases c:v=.non
 ·rw[if_pos c]
  have:gG sd=true:=by rw[<-e];simpa using c
  rw[this,if_pos rfl]
  rfl
 ·rw[if_neg c]
  have:gG sd=false:=by rw[<-e];simpa using c
  rw[this,if_neg (by decide)]
  cases ss with
  |nil=>unfold aZ;rfl
  |cons p ss=>unfold aZ;rfl
theorem QF{c:Cf}{n t w d:D}{k:Int}{Q:VK}{E:XK}(cl:pM K C)(bd:Vx K C "due" g)(na:Qg K C)
  (dn:aZ K H n vn)(dt:aZ K H t vt)(dw:aZ K H w vw)(hf:dY T c [.val n,.val t,.val w,.val (.int k)]=.ok (.val d) qs)
  (fin:∀v H',Kp H H'->aZ K H' d v->Q v H'):
  Kq K C T.top (cA K 3 (c.fn T.chk)) (cA K 3 (c.fn T.isn)) (Ez K c T.mz (cA K 1 (c.fn T.fst)) (cA K 3 (c.fn T.stp)) (cA K 3 (c.fn T.snw)))
   (vg K C g (pR K) (cA K 4 (c.fn T.led)) (cA K 3 (c.fn T.stp)) (cA K 3 (c.fn T.snw))) (EY K) [vn,vt,vw,.int k] H Q E:=by
 rw[dY]at hf
 split at hf
 rotate_left
 ·cases hf
 rename_i hok
 rw[QUq]at hok
 obtain⟨ok1,ok2⟩:=hok
 obtain⟨d1,q1,c1⟩:∃d q,c.fn T.chk [.val n,.val t,.val w]=.ok (.val d) q:=by
  cases h:c.fn T.chk [.val n,.val t,.val w]with
  |bad=>rw[h]at ok1;cases ok1
  |exc _ _=>rw[h]at ok1;cases ok1
  |ok r q=>
   rw[h]at ok1
   cases r with
   |val d=>exact⟨d,q,rfl⟩
   |_=>cases ok1
 obtain⟨q2,c2⟩:∃q,c.fn T.isn [.val (.int k),.val (.int 0),.val (.int T.top)]=.ok (.val (.bl true)) q:=by
  cases h:c.fn T.isn [.val (.int k),.val (.int 0),.val (.int T.top)]with
  |bad=>rw[h]at ok2;cases ok2
  |exc _ _=>rw[h]at ok2;cases ok2
  |ok r q=>
   rw[h]at ok2
   cases r with
   |val d=>
    cases d with
    |bl b=>
     cases b with
     |true=>exact⟨q,rfl⟩
     |false=>cases ok2
    |_=>cases ok2
   |_=>cases ok2
 split at hf
 rotate_left
 ·cases hf
 rename_i G hG
 injection hf with hf _
 injection hf with hf
 obtain⟨⟨ls,g0⟩,hi,hG⟩:=QJq.mp hG
 unfold Sy at hi
 obtain⟨ls0,h1,hi⟩:=QJq.mp hi
 obtain⟨sd,h2,hi⟩:=QJq.mp hi
 obtain⟨nm,h3,hi⟩:=QJq.mp hi
 obtain⟨ss,h4,hi⟩:=QJz.mp hi
 cases hi
 refine⟨rfl,?_⟩
 refine⟨vn,rfl,vt,rfl,vw,rfl,?_⟩
 refine lD (E:=E0) (ds:=[n,t,w]) (ak.aX dn (ak.aX dt (ak.aX dw ak.cZ))) rfl c1 fun _ H1 k1 _=>?_
 refine⟨.int k,rfl,?_⟩
 refine lD (E:=E0) (ds:=[.int k,.int 0,.int T.top]) (ak.aX (by unfold aZ;rfl) (ak.aX (by unfold aZ;rfl) (ak.aX (by unfold aZ;rfl) ak.cZ))) rfl c2 fun v2 H2 k2 rc=>?_
 have ev:v2=.bl true:=by
  have rc':=rc
  exact rc'
 subst ev
 refine⟨true,rfl,?_⟩
 refine⟨vn,rfl,vt,rfl,vw,rfl,fun x dx hx hdx nx=>?_⟩
 have k02:=k1.trans k2
 have x0:H x=none:=by
  cases q:H x with
  |none=>rfl
  |some u=>rw[k02 _ _ q]at hx;cases hx
 have ka:Kp H2 (upd H2 dx (.own x)):=Kp.lay hdx
 have kb:Kp (upd H2 dx (.own x)) (upd (upd H2 dx (.own x)) x (.ins C dx [])):=Kp.lay (by rw[aq (Ne.symm nx)];exact hx)
 have k3:=(k02.trans ka).trans kb
 refine Sx cl na x0 ⟨az,k3,dn.mono k3.pers,dt.mono k3.pers,dw.mono k3.pers⟩ h1 h2 h3 h4 fun H4 G4=>⟨rfl,?_⟩
 refine⟨fun m ζ H'=>ζ=[some vn,some vt,some vw,some (.int k),some (.ref x)]/\∃g1:Gs,iu K C H H' x n t ls g1.cs g1.sd g1.ss/\mq (jW (T.gf c) n t ls) k m g1=some G,⟨_,rfl,_,G4,hG⟩,?_⟩
 rintro m ζ H5 ⟨rfl,⟨cs5,sd5,ss5⟩,G5,hl⟩
 cases m with
 |zero=>cases hl
 |succ m=>
  rw[mq]at hl
  obtain⟨dx5,la,ca,sa,un,ut,us,cv,e1,f1,f2,f3,e2,e3,f4,e4,ne,z1,z2,z3⟩:=id G5.ex
  have hlen:=f4.length
  have body:∀N:L2.St->Hp->Prop,ss5≠[]->(jW (T.gf c) n t ls ⟨cs5,sd5,ss5⟩).bind (mq (jW (T.gf c) n t ls) k m)=some G->∀D:Ends,∃N:L2.St->Hp->Prop,(∀ζ H',N ζ H'->∃m',m'<m+1/\(ζ=[some vn,some vt,some vw,some (.int k),some (.ref x)]/\∃g1:Gs,iu K C H H' x n t ls g1.cs g1.sd g1.ss/\mq (jW (T.gf c) n t ls) k m' g1=some G))/\
    pQ (pP C "change" (vg K C g (pR K) (cA K 4 (c.fn T.led)) (cA K 3 (c.fn T.stp)) (cA K 3 (c.fn T.snw))) [] E0 (aV 4) cN) {D with nx:=N,ct:=N,bk:=D.nx} [some vn,some vt,some vw,some (.int k),some (.ref x)] H5:=fun _ hne hb D=>by
   obtain⟨g2,s1,s2⟩:=QJq.mp hb
   refine⟨fun ζ H'=>ζ=[some vn,some vt,some vw,some (.int k),some (.ref x)]/\iu K C H H' x n t ls g2.cs g2.sd g2.ss,fun ζ H'⟨a1,a2⟩=>⟨m,Nat.lt_succ_self m,a1,g2,a2,s2⟩,?_⟩
   have Z:vg K C g (pR K) (cA K 4 (c.fn T.led)) (cA K 3 (c.fn T.stp)) (cA K 3 (c.fn T.snw)) [.ref x] H5 (fun _ H'=>[some vn,some vt,some vw,some (.int k),some (.ref x)]=[some vn,some vt,some vw,some (.int k),some (.ref x)]/\iu K C H H' x n t ls g2.cs g2.sd g2.ss) E0:=
    Tt (F:=⟨c.fn T.led,c.fn T.stp,c.fn T.snw⟩) (Q:=fun _ H'=>[some vn,some vt,some vw,some (.int k),some (.ref x)]=[some vn,some vt,some vw,some (.int k),some (.ref x)]/\iu K C H H' x n t ls g2.cs g2.sd g2.ss) cl bd na G5 hne s1 fun H6 G6=>⟨rfl,G6⟩
   exact⟨.ref x,rfl,x,dx5,_,rfl,e1,rfl,Z⟩
  refine⟨.ref x,rfl,x,C,dx5,_,.ref sa,rfl,e1,cl,na.snc,rfl, !(je ss5).isEmpty,.inr (.inr ⟨_,e4,rfl⟩),?_⟩
  have done:=hl
  have last:∀D:Ends,D.rt=Q->some (⟨cs5,sd5,ss5⟩:Gs)=some G->QH (J9 (aG (Uw (gf K "changes")) (aG (pP C "ending" (EY K) [] E0 (aV 4) cN) cN))) D [some vn,some vt,some vw,some (.int k),some (.ref x)] H5:=fun D hD hg=>by
   cases hg
   have cu:JT (.lst cv):=by constructor<;>(intros;intro z;cases z)
   refine⟨.ref x,rfl,x,C,dx5,_,.ref ca,rfl,e1,cl,na.chg,rfl,ca,_,rfl,e3,cu,fun o=>?_⟩
   have pf:=dG (o:=o) e3 cu
   have nca:x≠ca:=fun z=>by subst z;rw[e1]at e3;cases e3
   have ncs:sa≠ca:=fun z=>by subst z;rw[e4]at e3;cases e3
   refine⟨.ref x,rfl,x,dx5,_,rfl,by rw[aq nca];exact e1,rfl,x,C,dx5,_,us,sa,je ss5,rfl,by rw[aq nca];exact e1,cl,na.std,na.snc,rfl,rfl,by rw[aq ncs];exact e4,by simp[sizeLine_eq],fun p hp=>?_⟩
   rw[hD]
   have k6:Kp (upd H5 ca (.frz o (.lst cv))) (upd (upd H5 ca (.frz o (.lst cv))) p (.tup [.ref ca,Ou us (je ss5)])):=Kp.lay hp
   have pp:=pf.trans k6.pers
   refine fin _ _ ((G5.kp.chg z2).trans k6) ?_
   rw[<-hf]
   refine eF (.inl (.inl az)) (ak.aX ?_ (ak.aX (Ot (f3.mono pp)) ak.cZ))
   unfold aZ
   exact⟨ca,cv,rfl,.inl ⟨o,k6 _ _ az⟩,f4.mono pp⟩
  cases hs:ss5 with
  |nil=>
   subst hs
   exact last _ rfl done
  |cons p5 s5=>
   have hne:ss5≠[]:=by rw[hs];exact List.cons_ne_nil _ _
   rw[<-hs]
   have em:(!(je ss5).isEmpty)=true:=by rw[hs];rfl
   have em2:(!ss5.isEmpty)=true:=by rw[hs];rfl
   rw[em]
   refine Eq.mpr (if_pos rfl) ?_
   rw[em2,Bool.true_and]at done
   refine⟨.ref x,rfl,x,C,dx5,_,.ref ca,rfl,e1,cl,na.chg,rfl,.ref ca,cv.length,rfl,.inl ⟨cv,.inl (.inl e3),rfl⟩,.int k,rfl,cv.length,k,rfl,rfl,?_⟩
   rw[hlen]at done
   refine⟨_,rfl,?_⟩
   cases hc:decide ((cv.length:Int)<k)with
   |false=>
    rw[hc]at done
    refine Eq.mpr (if_neg (fun z=>Qjq (hc.symm.trans z))) ?_
    exact last _ rfl done
   |true=>
    rw[hc]at done
    refine Eq.mpr (if_pos hc) ?_
    exact body (fun _ _=>False) hne done _
end
structure MfK(K:QQq)(x qual:Str)(st:Stmt)(f:Addr)(N ps:List Str):Prop where
 fu:∃fd,Hk K x qual st f fd/\Binds K fd ps []
 sc:dX N ps (ao st)
 lo:∀y∈N,(ao st).names.lookup y=some .local
structure GoK(K:QQq)(mg:QZz)(ct:Ct)(T:Qp)(C fi fu fc fe:Addr)(si su sc se st:Stmt):Prop where
 cl:pM K C
 na:Qg K C
 bd:Vx K C "due" fu
 mk_:Mk K C fi
 mc:Meth K C "change" fc
 me:Meth K C "ending" fe
 Mi:MfK K "__init__" "Going.__init__" si fi fU fU
 Mu:MfK K "due" "Going.due" su fu ["self","wire"] ["self","wire"]
 Mc:MfK K "change" "Going.change" sc fc j4 ["self"]
 Me:MfK K "ending" "Going.ending" se fe ["self"] ["self"]
 bi:Y7 ct T.mz si
 bu:Y9 su
 bc:Za sc
 be:Y8 se
 bt:Y6 st
 gi:∀x∈(["first_stand","steps_at","since_when"]:List Str),(ao si).names.lookup x=some .globalImplicit
 gc:∀x∈(["min","list","led_to","steps_at","since_when"]:List Str),(ao sc).names.lookup x=some .globalImplicit
 gt:∀x∈(["check_waits","is_number","MOST_CHANGES","Going","len"]:List Str),(ao st).names.lookup x=some .globalImplicit
 lt:∀x∈gB,(ao st).names.lookup x=some .local
 mG:mg "Going"=some (.ref C)
 mi:mg "min"=none
 ml:mg "list"=none
 mn:mg "len"=none
 mt:∃tu,mg "MOST_CHANGES"=some (.int T.top tu)
section
variable{P:Program}{w:World}{K:QQq}{mg:QZz}{base:Heap}
def uE(P:Program)(w:World)(K:QQq)(mg:QZz)(base:Heap)(k:Nat)(c:Cf)(x:Str)(ix ar:Nat):Prop:=
 ∃f fd ps,bV P w K mg base fZ k f fd ps (cA K ar (c.fn ix))/\Binds K fd ps []/\mg x=some (.ref f)/\PySem.W.keepIn K (.ref f)=true
theorem QD{c:Cf}{k:Nat}{fd:FuncData}(cl:pM K C)(bd:Vx K C "due" g)(na:Qg K C)
  (F:bV P w K mg base fZ k f fd ps (Kq K C T.top (cA K 3 (c.fn T.chk)) (cA K 3 (c.fn T.isn)) (Ez K c T.mz (cA K 1 (c.fn T.fst)) (cA K 3 (c.fn T.stp)) (cA K 3 (c.fn T.snw)))
   (vg K C g (pR K) (cA K 4 (c.fn T.led)) (cA K 3 (c.fn T.stp)) (cA K 3 (c.fn T.snw))) (EY K))):bV P w K mg base fZ k f fd ps (cA K 4 (dY T c)):=by
 refine F.imp fun vs H Q E h=>?_
 obtain⟨sl,hl,S,no,h⟩:=h
 have hf:dY T c sl≠ .bad:=fun z=>by rw[z]at h;exact h
 obtain⟨n,t,w,k,rfl⟩:∃n t w k,sl=[.val n,.val t,.val w,.val (.int k)]:=by
  unfold dY at hf
  split at hf
  ·exact⟨_,_,_,_,rfl⟩
  ·exact absurd rfl hf
 obtain⟨vn,vt,vw,vk,rfl⟩:∃a b c d,vs=[a,b,c,d]:=by
  match vs,hl with
  |[a,b,c,d],_=>exact⟨a,b,c,d,rfl⟩
 obtain⟨_,e1,dn⟩:=S.sl 0 _ rfl
 obtain⟨_,e2,dt⟩:=S.sl 1 _ rfl
 obtain⟨_,e3,dw⟩:=S.sl 2 _ rfl
 obtain⟨_,e4,dk⟩:=S.sl 3 _ rfl
 cases e1;cases e2;cases e3;cases e4
 have ek:vk=.int k:=by unfold aZ at dk;exact dk
 subst ek
 have fv:∃d qs,dY T c [.val n,.val t,.val w,.val (.int k)]=.ok (.val d) qs:=by
  rw[dY]at hf⊢
  split at hf
  ·rename_i q
   rw[if_pos q]
   split at hf
   ·rename_i g hg
    exact⟨_,_,rfl⟩
   ·exact absurd rfl hf
  ·exact absurd rfl hf
 obtain⟨d,qs,fv⟩:=fv
 rw[fv]at h
 refine QF cl bd na dn dt dw fv fun v H' kp dv=>h v H' ⟨fun i o e=>?_,kp.pers,fun b u e _=>kp b u e,fun b e=>?_⟩ dv
 ·match i with
  |0=>cases e
  |1=>cases e
  |2=>cases e
  |3=>cases e
  |i+4=>simp at e
 ·cases q:H b with
  |none=>rfl
  |some u=>rw[kp b u q]at e;cases e
def Wa{ct:Ct}{c:Cf}{si su sc se st:Stmt}{n:Nat}(G:GoK K mg ct T C fi fu fc fe si su sc se st)(Ft:Hk K "timed" "timed" st ft fdt)(St:dX gB ["net","talk","waits","number"] (ao st))
  (hX:∀X:Cx,X.prog=P->X.w=w->X.K=K->X.mg=mg->X.base=base->X.calm=true->X.N=fU->X.env.scope=ao si->dC n X.A->jg ct X c)
  (c1:uE P w K mg base n c "check_waits" T.chk 3)(c2:uE P w K mg base n c "is_number" T.isn 3)(c3:uE P w K mg base n c "first_stand" T.fst 1)(c4:uE P w K mg base n c "steps_at" T.stp 3)(c5:uE P w K mg base n c "led_to" T.led 4)(c6:uE P w K mg base n c "since_when" T.snw 3):
  bV P w K mg base fZ (n+5) ft fdt ["net","talk","waits","number"] (cA K 4 (dY T c)):=by
 obtain⟨f1,d1,p1,F1,B1,m1,k1⟩:=c1
 obtain⟨f2,d2,p2,F2,B2,m2,k2⟩:=c2
 obtain⟨f3,d3,p3,F3,B3,m3,k3⟩:=c3
 obtain⟨f4,d4,p4,F4,B4,m4,k4⟩:=c4
 obtain⟨f5,d5,p5,F5,B5,m5,k5⟩:=c5
 obtain⟨f6,d6,p6,F6,B6,m6,k6⟩:=c6
 obtain⟨fdi,Fi,Bi_⟩:=G.Mi.fu
 obtain⟨fdu,Fu,Bu⟩:=G.Mu.fu
 obtain⟨fdc,Fc,Bc⟩:=G.Mc.fu
 obtain⟨fde,Fe,Be⟩:=G.Me.fu
 have vis:∀{x qual:Str}{s:Stmt}{f:Addr}{N ps:List Str},MfK K x qual s f N ps->∀y∈N,JN _ y:=fun M y hy=>.inl (M.lo y hy)
 have U:bV P w K mg base fZ (n+1) fu fdu ["self","wire"] _:=YK Fu G.Mu.sc (vis G.Mu _ (by simp)) (vis G.Mu _ (by simp)) G.bu
 have En:bV P w K mg base fZ (n+1) fe fde ["self"] _:=YH Fe G.Me.sc (vis G.Me _ (by simp)) G.be
 have le:=Nat.le_succ n
 have Ch:=Y0 Fc G.Mc.sc G.Mc.lo G.gc G.cl G.bd U Bu (F5.mono le) B5 m5 k5 (F4.mono le) B4 m4 k4 (F6.mono le) B6 m6 k6 G.mi G.ml G.bc
 have In:=XS Fi G.Mi.sc G.Mi.lo G.gi F3 B3 m3 k3 F4 B4 m4 k4 F6 B6 m6 k6 hX G.bi
 refine QD G.cl G.bd G.na ?_
 obtain⟨tu,mt⟩:=G.mt
 have l3:=Nat.le_add_right n 3
 have l1:n+1<=n+3:=Nat.add_le_add_left (by decide) n
 exact V9 Ft St G.lt G.gt G.cl G.mk_ G.mc G.me (F1.mono l3) B1 m1 k1 (F2.mono l3) B2 m2 k2 (In.mono l1) Bi_ G.mG Ch Bc (En.mono l1) Be mt G.mn G.bt
end
def oY(ds:List Df)(gj:List Str)(vals:List D)(t:Nat)(T:Qp):Pg:=
 {fns:=(ds.take t).map fun d=>(fnOf ds gj d).getD {pars:=0,names:=0,body:=.nil},gl:=fun k=>vals[k]?,turns:=1000,pf:=fun c _=>dY T c}
def uA{sc:Scope}{xs:List Str}(h:(xs.all fun x=>sc.names.lookup x==some k)=true):∀x∈xs,sc.names.lookup x=some k:=fun x hx=>by
 have:=List.all_eq_true.mp h x hx
 simpa using this
def fQ(x q:Str)(st:Stmt)(m:Value)(c:Addr):Obj:=⟨.type "function",none,.func (PySem.W.fnOf x q (dg st) (bY st) (ao st) .none .none .none m none (.ref c) .none), #[]⟩
def mfk{K:QQq}{st:Stmt}{m:Value}(l:K.lookup f=some (fQ x q st m c))(cd:PySem.W.codeIn K (.ref c) q=true)
  (b:∀(kV dc pm:Value)(an:Option Addr)(cd ct:Value)(us:List Value),us.length=ps.length->bindArgs (PySem.W.fnOf x q (dg st) (bY st) (ao st) .none kV dc pm an cd ct) ⟨us,[]⟩=pure (ps.zip us))
  (sc:KD {x:=x,st:=st,N:=N,ps:=ps,fl:=[]}=true)(lo:(N.all fun y=>(ao st).names.lookup y==some .local)=true):MfK K x q st f N ps:=
 let F:=Og l cd (by unfold PySem.W.keepIn;dsimp only;rw[l];rfl)
 ⟨⟨_,F,F.binds b⟩,Fj sc,uA lo⟩
def Em(ds:List Df)(t i:Nat)(x:Str)(ar:Nat):Prop:=i<t/\∃d,ds[i]? =some d/\d.x=x/\d.ps.length=ar
structure Ze(ds:List Df)(t:Nat)(T:Qp):Prop where
 chk:Em ds t T.chk "check_waits" 3
 isn:Em ds t T.isn "is_number" 3
 fst:Em ds t T.fst "first_stand" 1
 stp:Em ds t T.stp "steps_at" 3
 led:Em ds t T.led "led_to" 4
 snw:Em ds t T.snw "since_when" 3
def Bp T c sl:dY T c sl=.bad\/sl.length=4:=by
 unfold dY
 split
 ·exact .inr rfl
 ·exact .inl rfl
section
variable{P:Program}{w:World}{K:QQq}{mg:QZz}{base:Heap}{ds:List Df}{gj:List Str}{vals:List D}{fa:Nat->Addr}{fd:Nat->FuncData}{t:Nat}{dt:Df}{T:Qp}{C fi fu fc fe:Addr}{si su sc se:Stmt}{dI:Df}
theorem Ln(hfn:∀i d,ds[i]? =some d->wN K mg d (fa i) (fd i))(hsc:∀d∈ds,dX d.N d.ps (ao d.st))(nC:(ds.take t).all (fun d=>(fnOf ds gj d).isSome)=true)(hlen:ds.length=t+1)(hdt:ds[t]? =some dt)
  (hx:dt.x="timed")(hN:dt.N=gB)(hp:dt.ps=(["net","talk","waits","number"]:List Str))(hbi:∀x∈qX,mg x=none)(hgl:∀(k:Nat)x,gj[k]? =some x->∃d v u,vals[k]? =some d/\mg x=some u/\RelV v u/\∀H,aZ K H d v)
  (GK:GoK K mg (Dt ds gj dI) T C fi fu fc fe si su sc se dt.st)(TK:Ze ds t T)(hI:dI.N=fU)(hIs:dI.st=si):
  ∀(n i:Nat)d,ds[i]? =some d->bV P w K mg base fZ (5*n) (fa i) (fd i) d.ps (cA K d.ps.length ((oY ds gj vals t T).fn n i)):=by
 have htr:∀i d,i<t->ds[i]? =some d->∃g,(oY ds gj vals t T).fns[i]? =some g/\fnOf ds gj d=some g:=fun i d hi e=>by
  have e':(ds.take t)[i]? =some d:=by rw[List.getElem?_take_of_lt hi];exact e
  have hs:=List.all_eq_true.mp nC d (QBq e')
  obtain⟨g,hg⟩:=Option.isSome_iff_exists.mp hs
  refine⟨g,?_,hg⟩
  show((ds.take t).map fun d=>(fnOf ds gj d).getD {pars:=0,names:=0,body:=.nil})[i]? =some g
  rw[QEz,e']
  simp[hg]
 have hno:(oY ds gj vals t T).fns[t]? =none:=by
  show((ds.take t).map _)[t]? =none
  rw[QEz,List.getElem?_eq_none (by rw[List.length_take];exact Nat.min_le_left _ _)]
  rfl
 have fnt:∀n,(oY ds gj vals t T).fn (n+1) t=dY T ((oY ds gj vals t T).cf n):=fun n=>by
  funext sl
  show(match (oY ds gj vals t T).fns[t]? with|some g=>gY ((oY ds gj vals t T).cf n) g sl|none=>dY T ((oY ds gj vals t T).cf n) sl)=_
  rw[hno]
 have lt:∀i d,ds[i]? =some d->i<t\/i=t:=fun i d e=>by
  have:i<ds.length:=by
   rcases Nat.lt_or_ge i ds.length with z|z
   ·exact z
   ·rw[List.getElem?_eq_none z]at e;cases e
  omega
 have len:∀n i d,ds[i]? =some d->∀sl,(oY ds gj vals t T).fn n i sl=.bad\/sl.length=d.ps.length:=fun n i d e sl=>by
  cases n with
  |zero=>exact .inl rfl
  |succ n=>
   rcases lt i d e with hi|rfl
   ·obtain⟨g2,hg2,ht2⟩:=htr i d hi e
    unfold fnOf at ht2
    simp only[QJz]at ht2
    obtain⟨b2,hb2,rfl⟩:=ht2
    have:(oY ds gj vals t T).fn (n+1) i sl=gY ((oY ds gj vals t T).cf n) {pars:=d.ps.length,names:=d.N.length,body:=b2} sl:=by
     show(match (oY ds gj vals t T).fns[i]? with|some g=>gY ((oY ds gj vals t T).cf n) g sl|none=>(oY ds gj vals t T).pf ((oY ds gj vals t T).cf n) i sl)=_
     rw[hg2]
    rw[this]
    exact HS _ _ sl
   ·rw[hdt]at e
    cases e
    rw[fnt,hp]
    exact Bp T _ sl
 have xok:∀n d X,(∀g d2,ds[g]? =some d2->bV P w K mg base fZ (5*n) (fa g) (fd g) d2.ps (cA K d2.ps.length ((oY ds gj vals t T).fn n g)))->X.prog=P->X.w=w->X.K=K->X.mg=mg->X.base=base->X.N=d.N->X.env.scope=ao d.st->X.calm=true->d.N.Nodup->dC (5*n) X.A->jg (Dt ds gj d) X ((oY ds gj vals t T).cf n):=fun n d X IH e1 e2 e3 e4 e5 e6 e7 e8 nd hr=>by
  subst e1 e2 e3 e4 e5
  refine⟨e6,e7,nd,e8,?_,hbi,fun k x hk=>?_,fun g x fl hk=>?_⟩
  ·have:=hr.un
   omega
  ·obtain⟨dd,v,u,h1,h2,h3,h4⟩:=hgl k x hk
   exact⟨dd,h1,v,u,h2,h3,h4⟩
  ·have hk':(ds.map fun d=>(d.x,d.fl))[g]? =some (x,fl):=hk
   rw[QEz]at hk'
   cases q:ds[g]? with
   |none=>rw[q]at hk';cases hk'
   |some d2=>
    rw[q]at hk'
    obtain⟨rfl,rfl⟩:=hk'
    have D2:=hfn g d2 q
    exact⟨5*n,fa g,fd g,d2.ps,IH g d2 q,hr,D2.at_,D2.fu.kp,D2.bi,len n g d2 q⟩
 intro n
 induction n with
 |zero=>
  intro i d e
  have no:∀vs H Q E,¬cA K d.ps.length ((oY ds gj vals t T).fn 0 i) vs H Q E:=fun vs H Q E h=>by
   obtain⟨_,_,_,_,z⟩:=h
   exact z
  exact⟨fun vs H Q E h=>absurd h (no vs H Q E),fun A outer s H args us vs Q E _ _ _ _ h=>absurd h (no vs H Q E)⟩
 |succ n IH=>
  intro i d e
  have D:=hfn i d e
  have S:=hsc d (QBq e)
  rcases lt i d e with hi|rfl
  ·obtain⟨g,hg,ht⟩:=htr i d hi e
   unfold fnOf at ht
   simp only[QJz]at ht
   obtain⟨b,hb,rfl⟩:=ht
   have hp:(oY ds gj vals t T).fn (n+1) i=gY ((oY ds gj vals t T).cf n) {pars:=d.ps.length,names:=d.N.length,body:=b}:=by
    funext sl
    show(match (oY ds gj vals t T).fns[i]? with|some g=>gY ((oY ds gj vals t T).cf n) g sl|none=>(oY ds gj vals t T).pf ((oY ds gj vals t T).cf n) i sl)=_
    rw[hg]
   rw[hp]
   refine bV.mono (j:=5*n+1) ?_ (by omega)
   refine Th D.fu S rfl rfl fun cdv A outer s H E hr=>?_
   exact(ihS _ 60).ss (Dt ds gj d) _ W0 _ b (xok n d _ IH rfl rfl rfl rfl rfl rfl rfl rfl S.nd hr) (.plain (fun _=>rfl) PassesOwn.never rfl) hb
  ·rw[hdt]at e
   cases e
   have cal:∀{j:Nat}{x:Str}{ar:Nat},Em ds i j x ar->uE P w K mg base (5*n) ((oY ds gj vals i T).cf n) x j ar:=fun⟨_,d2,e2,ex,ea⟩=>by
    have D2:=hfn _ d2 e2
    have F2:=IH _ d2 e2
    rw[ea]at F2
    exact⟨_,_,_,F2,D2.bi,ex▸D2.at_,D2.fu.kp⟩
   have Fu_:=D.fu
   rw[hx]at Fu_
   rw[hN,hp]at S
   rw[fnt,hp]
   exact Wa GK Fu_ S (fun X e1 e2 e3 e4 e5 e6 e7 e8 hr=>xok n dI X IH e1 e2 e3 e4 e5 (by rw[hI];exact e7) (by rw[hIs];exact e8) e6 (by rw[hI];decide) hr) (cal TK.chk) (cal TK.isn) (cal TK.fst) (cal TK.stp) (cal TK.led) (cal TK.snw)
end
section
variable{K:QQq}{h:Heap}{mg:QZz}
def PJ{l:PySem.W.OpenLaw}{w:World}{ds:List Df}{vals:List D}{dL dt dI:Df}{T:Qp}{si su sc se:Stmt}(X:K.In h)(G:h.Ns mainGlobals mg)(hfa:mg "law"=some (.ref fa))(hx:dL.x="law")(hy:dL.ps=[y])(hL:ds[L]? =some dL)(b:Hm ds)
  (scp:ds.all KD=true)(nC:(ds.take t).all (fun d=>(fnOf ds gj d).isSome)=true)(A:AllIn K (ds.map fun d=>(d.x,d.st)))(B:yC K gj vals)(Z:Ql K qX)
  (hlen:ds.length=t+1)(hdt:ds[t]? =some dt)(hx':dt.x="timed")(hN:dt.N=gB)(hp:dt.ps=(["net","talk","waits","number"]:List Str))
  (GK:GoK K mg (Dt ds gj dI) T C fi fu fc fe si su sc se dt.st)(TK:Ze ds t T)(hI:dI.N=fU)(hIs:dI.st=si):
  ∃fd:FuncData,(∀(s:Shared)(v:Value),BindsTo s fd ⟨[v],[]⟩ [(y,v)])/\∀base:Heap,K.In base->base.Ns mainGlobals mg->bV l.prog w K mg base fZ (5*n) fa fd [y] (cA K 1 ((oY ds gj vals t T).fn n L)):=by
 obtain⟨fs,A,CC⟩:=PQ X G ds b A
 obtain⟨q,e1,e2,e3⟩:=CC L dL hL
 have e:=hfa.symm.trans (hx▸e2.at_)
 cases e
 refine⟨q.2,fun s v=>?_,fun base _ _=>?_⟩
 ·have:=e3 s [v] (by rw[hy];rfl)
  rw[hy]at this
  exact this
 ·have z1:∀(i:Nat)d,ds[i]? =some d->wN K mg d (((fs[i]?).map (·.1)).getD 0) (((fs[i]?).map (·.2)).getD q.2):=fun i d e=>by
   obtain⟨q,e1,e2⟩:=A.at i d e
   simp only[e1,Option.map_some,Option.getD_some]
   exact e2
  have z3:∀k x,gj[k]? =some x->∃d v u,vals[k]? =some d/\mg x=some u/\RelV v u/\∀H,aZ K H d v:=fun k x e=>by
   obtain⟨dd,e1,v,u,z1,z2,z3⟩:=(PN X G gj vals B).at k x e
   exact⟨dd,v,u,e1,z1,z2,z3⟩
  have Z:=Ln (P:=l.prog) (w:=w) (base:=base)
   z1 (fun d hd=>Fj (List.all_eq_true.mp scp d hd)) nC hlen hdt hx' hN hp (PL X G _ Z) z3 GK TK hI hIs n L dL hL
  simp only[e1,Option.map_some,Option.getD_some]at Z
  rw[hy]at Z
  exact Z
end
def Hr{l:PySem.W.OpenLaw}{loose:List Str}{YP:World->Heap->Prop}{K:Params->QQq}{p:Pg}{L:Nat}(hn:l.most=some 63)(hdf:d.params.defaults=[])
  (hY:∀(w:World)(h:Heap),YP w h->(K w.params).In h)(math:∀ns:List Int,ns.length<=63->∃qs,p.fn 40 L [.val (.lst (ns.map D.int))]=.ok (.val (.bl true)) qs)
  (F:∀(w:World)(mg:QZz)(fa:Addr)(h:Heap),(K w.params).In h->h.Ns mainGlobals mg->mg d.name=some (.ref fa)->
   ∃fd:FuncData,(∀(s:Shared)(u:Value),BindsTo s fd ⟨[u],[]⟩ [(y,u)])/\∀base:Heap,(K w.params).In base->base.Ns mainGlobals mg->bV l.prog w (K w.params) mg base fZ (5*40) fa fd [y] (cA (K w.params) 1 (p.fn 40 L))):
  PySem.W.WalkO q loose XP YP l.row.toRowW d [] (fun f vs=>PySem.call f vs):=
 L2.Qt hn (by decide) hdf ⟨rfl,by decide,by decide⟩ hY F (fun _ _ a ns hl hO hS=>Wu hO hS (math ns hl) _) fun _ _ _ _ _ z=>z
end Mini
end
section
namespace Tx
open PySem L2 Mini
abbrev d0:Df:=cP "checked" s0 [false]
abbrev d1:Df:=cP "is_net" s1 [false]
abbrev d2:Df:=cP "has_parts" s2 [false]
abbrev d3:Df:=cP "is_tuple" s3 [false,false,false]
abbrev d4:Df:=cP "is_number" s4 [false,false,false]
abbrev d5:Df:=cP "is_name" s5 [false]
abbrev d6:Df:=cP "are_unlike" s6 [false]
abbrev d7:Df:=cP "is_row" s7 [false,false]
abbrev d8:Df:=cP "is_wire" s8 [false,false]
abbrev d9:Df:=cP "are_wires" s9 [false,false,false,false]
abbrev d10:Df:=cP "are_rows" s10 [false,false]
abbrev d11:Df:=cP "is_kind" s11 [false,false,false]
abbrev d12:Df:=cP "is_held" s12 [false,false,false]
abbrev d13:Df:=cP "wire_names" s13 [false]
abbrev d14:Df:=cP "waiting_gates" s14 [false,false]
abbrev d15:Df:=cP "told" s15 [false,false,false]
abbrev d16:Df:=cP "told_held" s16 [false,false,false]
abbrev d17:Df:=cP "checked_talk" s17 [false,false]
abbrev d18:Df:=cP "is_talk" s18 [false,false]
abbrev d19:Df:=cP "is_state" s19 [false,false,false]
abbrev d20:Df:=cP "first_stand" s20 [false]
abbrev d21:Df:=cP "steps_at" s21 [false,false,false]
abbrev d22:Df:=cP "is_unasked" s22 [false,false,false]
abbrev d23:Df:=cP "led_to" s23 [false,false,false,false]
abbrev d24:Df:=cP "changed" s24 [false,false,false]
abbrev d25:Df:=cP "check_waits" s25 [false,false,false]
abbrev d26:Df:=cP "since_when" s26 [false,false,false]
abbrev d27:Df:=cP "_law_cell_at" s27 [false,false]
abbrev d28:Df:=cP "_law_mixed" s28 [false,false,false]
abbrev d29:Df:=cP "_law_next" s29 [false,true,false]
abbrev d30:Df:=cP "_law_some" s30 [false,true,false,false,false]
abbrev d31:Df:=cP "_law_table" s31 [false,true,false]
abbrev d32:Df:=cP "_law_kind" s32 [false,true,false,false]
abbrev d33:Df:=cP "_law_net" s33 [false,true,false,false]
abbrev d34:Df:=cP "_law_talk" s34 [false,true,false,false]
abbrev d35:Df:=cP "_law_ring" s35 [false,true]
abbrev d36:Df:=cP "_law_chain" s36 [false,true]
abbrev d37:Df:=cP "_law_meeting" s37 [false,true]
abbrev d38:Df:=cP "_law_spoilt_kind" s38 [false,true,false]
abbrev d39:Df:=cP "_law_case" s39 [false,false]
abbrev d40:Df:=cP "law" s40 [false]
abbrev d41:Df:=cP "timed" s41 [false,false,false,false]
abbrev dI:Df:={x:="__init__",st:=s90,N:=fU,ps:=fU,fl:=[]}
def ds:List Df:=[d0,d1,d2,d3,d4,d5,d6,d7,d8,d9,d10,d11,d12,d13,d14,d15,d16,d17,d18,d19,d20,d21,d22,d23,d24,d25,d26,d27,d28,d29,d30,d31,d32,d33,d34,d35,d36,d37,d38,d39,d40,d41]
def gj:List Str:=["LETTERS","LONGEST_NAME","WORDS","MOST_INPUTS","MOST_GATES","MOST_WIRES","MOST_TABLE_WIRES","DEEPEST_HELD","MOST_STATES","LONGEST_WAIT","MOST_CHANGES"]
noncomputable def vals:List D:=[.str "abcdefghijklmnopqrstuvwxyz",.int 6,.tup [.str "input",.str "gate",.str "start",.str "out",.str "state",.str "same",.str "not",.str "and",.str "or",.str "both",.str "held",.str "table",.str "on",.str "off"],.int 3,.int 5,.int 4,.int 8,.int 3,.int 12,.int 99,.int 200]
def tx:Qp:=⟨25,4,20,21,23,26,.bi .dict (.zip (.call 13 AAT) (.var 3)),200⟩
def pg:Pg:=oY ds gj vals 41 tx
def scp:ds.all KD=true:=by decide+kernel
def nC:(ds.take 41).all (fun d=>(fnOf ds gj d).isSome)=true:=by decide+kernel
def bd:Hm ds:=⟨fun _ _ _ _ _ _ us hl=>by obtain⟨_,rfl⟩:=sZ hl;rfl,fun _ _ _ _ _ _ us hl=>by obtain⟨_,rfl⟩:=sZ hl;rfl,fun _ _ _ _ _ _ us hl=>by obtain⟨_,rfl⟩:=sZ hl;rfl,fun _ _ _ _ _ _ us hl=>by obtain⟨_,_,_,rfl⟩:=j7 hl;rfl,fun _ _ _ _ _ _ us hl=>by obtain⟨_,_,_,rfl⟩:=j7 hl;rfl,fun _ _ _ _ _ _ us hl=>by obtain⟨_,rfl⟩:=sZ hl;rfl,fun _ _ _ _ _ _ us hl=>by obtain⟨_,rfl⟩:=sZ hl;rfl,fun _ _ _ _ _ _ us hl=>by obtain⟨_,_,rfl⟩:=o7 hl;rfl,fun _ _ _ _ _ _ us hl=>by obtain⟨_,_,rfl⟩:=o7 hl;rfl,fun _ _ _ _ _ _ us hl=>by obtain⟨_,_,_,_,rfl⟩:=zU hl;rfl,fun _ _ _ _ _ _ us hl=>by obtain⟨_,_,rfl⟩:=o7 hl;rfl,fun _ _ _ _ _ _ us hl=>by obtain⟨_,_,_,rfl⟩:=j7 hl;rfl,fun _ _ _ _ _ _ us hl=>by obtain⟨_,_,_,rfl⟩:=j7 hl;rfl,fun _ _ _ _ _ _ us hl=>by obtain⟨_,rfl⟩:=sZ hl;rfl,fun _ _ _ _ _ _ us hl=>by obtain⟨_,_,rfl⟩:=o7 hl;rfl,fun _ _ _ _ _ _ us hl=>by obtain⟨_,_,_,rfl⟩:=j7 hl;rfl,fun _ _ _ _ _ _ us hl=>by obtain⟨_,_,_,rfl⟩:=j7 hl;rfl,fun _ _ _ _ _ _ us hl=>by obtain⟨_,_,rfl⟩:=o7 hl;rfl,fun _ _ _ _ _ _ us hl=>by obtain⟨_,_,rfl⟩:=o7 hl;rfl,fun _ _ _ _ _ _ us hl=>by obtain⟨_,_,_,rfl⟩:=j7 hl;rfl,fun _ _ _ _ _ _ us hl=>by obtain⟨_,rfl⟩:=sZ hl;rfl,fun _ _ _ _ _ _ us hl=>by obtain⟨_,_,_,rfl⟩:=j7 hl;rfl,fun _ _ _ _ _ _ us hl=>by obtain⟨_,_,_,rfl⟩:=j7 hl;rfl,fun _ _ _ _ _ _ us hl=>by obtain⟨_,_,_,_,rfl⟩:=zU hl;rfl,fun _ _ _ _ _ _ us hl=>by obtain⟨_,_,_,rfl⟩:=j7 hl;rfl,fun _ _ _ _ _ _ us hl=>by obtain⟨_,_,_,rfl⟩:=j7 hl;rfl,fun _ _ _ _ _ _ us hl=>by obtain⟨_,_,_,rfl⟩:=j7 hl;rfl,fun _ _ _ _ _ _ us hl=>by obtain⟨_,_,rfl⟩:=o7 hl;rfl,fun _ _ _ _ _ _ us hl=>by obtain⟨_,_,_,rfl⟩:=j7 hl;rfl,fun _ _ _ _ _ _ us hl=>by obtain⟨_,_,_,rfl⟩:=j7 hl;rfl,fun _ _ _ _ _ _ us hl=>by obtain⟨_,_,_,_,_,rfl⟩:=ae6 hl;rfl,fun _ _ _ _ _ _ us hl=>by obtain⟨_,_,_,rfl⟩:=j7 hl;rfl,fun _ _ _ _ _ _ us hl=>by obtain⟨_,_,_,_,rfl⟩:=zU hl;rfl,fun _ _ _ _ _ _ us hl=>by obtain⟨_,_,_,_,rfl⟩:=zU hl;rfl,fun _ _ _ _ _ _ us hl=>by obtain⟨_,_,_,_,rfl⟩:=zU hl;rfl,fun _ _ _ _ _ _ us hl=>by obtain⟨_,_,rfl⟩:=o7 hl;rfl,fun _ _ _ _ _ _ us hl=>by obtain⟨_,_,rfl⟩:=o7 hl;rfl,fun _ _ _ _ _ _ us hl=>by obtain⟨_,_,rfl⟩:=o7 hl;rfl,fun _ _ _ _ _ _ us hl=>by obtain⟨_,_,_,rfl⟩:=j7 hl;rfl,fun _ _ _ _ _ _ us hl=>by obtain⟨_,_,rfl⟩:=o7 hl;rfl,fun _ _ _ _ _ _ us hl=>by obtain⟨_,rfl⟩:=sZ hl;rfl,fun _ _ _ _ _ _ us hl=>by obtain⟨_,_,_,_,rfl⟩:=zU hl;rfl,trivial⟩
noncomputable def nms:List (Str×Stmt):=("checked",s0)::("is_net",s1)::("has_parts",s2)::("is_tuple",s3)::("is_number",s4)::("is_name",s5)::("are_unlike",s6)::("is_row",s7)::("is_wire",s8)::("are_wires",s9)::("are_rows",s10)::("is_kind",s11)::("is_held",s12)::("wire_names",s13)::("waiting_gates",s14)::("told",s15)::("told_held",s16)::("checked_talk",s17)::("is_talk",s18)::("is_state",s19)::("first_stand",s20)::("steps_at",s21)::("is_unasked",s22)::("led_to",s23)::("changed",s24)::("check_waits",s25)::("since_when",s26)::("_law_cell_at",s27)::("_law_mixed",s28)::("_law_next",s29)::("_law_some",s30)::("_law_table",s31)::("_law_kind",s32)::("_law_net",s33)::("_law_talk",s34)::("_law_ring",s35)::("_law_chain",s36)::("_law_meeting",s37)::("_law_spoilt_kind",s38)::("_law_case",s39)::("law",s40)::("timed",s41)::[]
end Tx
end
section
open PySem
section
open Mini
namespace Tx
def bz{n i:Nat}{g:Fn}{ps us:List Sl}(h:pg.fns[i]? =some g:=by kernel_rfl)(e:us=ps++List.replicate (g.names-g.pars) .un:=by rfl)(l:ps.length=g.pars:=by rfl):pg.fn (n+1) i ps=fin g.pars (ex (pg.cf n) g.body us):=by
 subst e
 refine Eq.trans ?_ (Q5 _ _ _ l)
 show(match pg.fns[i]? with|some g=>gY (pg.cf n) g ps|none=>pg.pf (pg.cf n) i ps)=_
 rw[h]
noncomputable def pJ:Fn:=⟨1,1,(.cons (.ite (.not (.call 1 AAX)) ABa .nil) (.cons (.ret (.var 0)) .nil))⟩
def Ii(n:Nat)(p0:Sl):pg.fn (n+1) 0 [p0]=fin 1 (ex (pg.cf n) pJ.body [p0]):=bz (g:=pJ)
noncomputable def ux:Fn:=⟨1,2,(.cons (.ite (.or (.cons (.not (.call 3 (.cons (.var 0) (.cons ABR AAV)))) (.cons (.not (.call 2 AAX)) .nil))) AAQ .nil) (.cons (.set 1 (.call 13 AAX)) (.cons (.ite (.or (.cons (.not (.bi .all ABr)) (.cons (.not (.call 6 AAT)) .nil))) AAQ .nil) (.cons (.ret (.and (.cons (.bi .all ABJ) (.cons (.call 7 (.cons AAl ABe)) .nil)))) .nil))))⟩
def La(n:Nat)(p0:Sl):pg.fn (n+1) 1 [p0]=fin 1 (ex (pg.cf n) ux.body [p0,.un]):=bz (g:=ux)
noncomputable def lq:Fn:=⟨1,1,(.cons (.ite (.or (.cons (.not (.call 3 (.cons AAf (.cons AAL (.cons (.glob 3) .nil))))) (.cons (.not (.call 3 (.cons AAc (.cons AAG (.cons (.glob 4) .nil))))) .nil))) AAQ .nil) (.cons (.ret (.bi .all (.comp 1 (.name 0) AAc AAH AAi))) .nil))⟩
def zq(n:Nat)(p0:Sl):pg.fn (n+1) 2 [p0]=fin 1 (ex (pg.cf n) lq.body [p0]):=bz (g:=lq)
noncomputable def jH:Fn:=⟨3,3,(.cons (.ret (.and (.cons (.isi (.var 0) .tup) (.cons (.chain .le .le (.var 1) ABY (.var 2)) .nil)))) .nil)⟩
def sr(n:Nat)(p0 p1 p2:Sl):pg.fn (n+1) 3 [p0,p1,p2]=fin 3 (ex (pg.cf n) jH.body [p0,p1,p2]):=bz (g:=jH)
noncomputable def iG:Fn:=⟨3,3,(.cons (.ret (.and (.cons (.isi (.var 0) .int) (.cons (.not (.isi (.var 0) .bool)) (.cons (.chain .le .le (.var 1) (.var 0) (.var 2)) .nil))))) .nil)⟩
def pW(n:Nat)(p0 p1 p2:Sl):pg.fn (n+1) 4 [p0,p1,p2]=fin 3 (ex (pg.cf n) iG.body [p0,p1,p2]):=bz (g:=iG)
noncomputable def wM:Fn:=⟨1,1,(.cons (.ite (.or (.cons (.not (.isi (.var 0) .str)) (.cons (.not (.chain .le .le AAG ABY (.glob 1))) .nil))) AAQ .nil) (.cons (.ret (.and (.cons (.bi .all (.comp 1 (.name 0) (.var 0) AAH (.cmp .isin (.var 0) (.glob 0)))) (.cons (.cmp .notin (.var 0) (.glob 2)) .nil)))) .nil))⟩
def ZD(n:Nat)(p0:Sl):pg.fn (n+1) 5 [p0]=fin 1 (ex (pg.cf n) wM.body [p0]):=bz (g:=wM)
noncomputable def jJ:Fn:=⟨1,1,(.cons (.ret (.bi .all ABS)) .nil)⟩
def xm(n:Nat)(p0:Sl):pg.fn (n+1) 6 [p0]=fin 1 (ex (pg.cf n) jJ.body [p0]):=bz (g:=jJ)
noncomputable def uw:Fn:=⟨2,2,(.cons (.ret (.and (.cons (.call 3 (.cons (.var 0) (.cons (.var 1) AAT))) (.cons (.bi .all ABl) .nil)))) .nil)⟩
def K9(n:Nat)(p0 p1:Sl):pg.fn (n+1) 7 [p0,p1]=fin 2 (ex (pg.cf n) uw.body [p0,p1]):=bz (g:=uw)
noncomputable def pG:Fn:=⟨2,2,(.cons (.ret (.and (.cons (.isi (.var 0) .str) (.cons (.cmp .isin (.var 0) (.var 1)) .nil)))) .nil)⟩
def Ib(n:Nat)(p0 p1:Sl):pg.fn (n+1) 8 [p0,p1]=fin 2 (ex (pg.cf n) pG.body [p0,p1]):=bz (g:=pG)
noncomputable def lr:Fn:=⟨4,4,(.cons (.ite (.not (.call 3 (.cons (.var 0) (.cons (.var 2) AAZ)))) AAQ .nil) (.cons (.ret (.and (.cons (.bi .all ABc) (.cons (.call 6 AAX) .nil)))) .nil))⟩
def zu(n:Nat)(p0 p1 p2 p3:Sl):pg.fn (n+1) 9 [p0,p1,p2,p3]=fin 4 (ex (pg.cf n) lr.body [p0,p1,p2,p3]):=bz (g:=lr)
noncomputable def nq:Fn:=⟨2,2,(.cons (.ite (.or (.cons (.not (.isi (.var 0) .tup)) (.cons (.not (.bi .all ABd)) .nil))) AAQ .nil) (.cons (.ret (.bi .all AAz)) .nil))⟩
def Ci(n:Nat)(p0 p1:Sl):pg.fn (n+1) 10 [p0,p1]=fin 2 (ex (pg.cf n) nq.body [p0,p1]):=bz (g:=nq)
noncomputable def dR:Fn:=⟨3,5,(.cons (.ite (.or (.cons (.not (.call 3 (.cons (.var 0) (.cons AAP AAv)))) (.cons (.not (.isi AAf .str)) .nil))) AAQ .nil) (.cons (.set 3 AAf) (.cons (.set 4 ABY) (.cons (.ite (.cmp .isin (.var 3) (.tup AAR)) (.cons (.ret (.and (.cons ABu (.cons (.call 8 (.cons AAc AAT)) .nil)))) .nil) .nil) (.cons (.ite (.cmp .isin (.var 3) (.tup (.cons ABX (.cons ABb .nil)))) (.cons (.ret (.and (.cons ABu (.cons (.call 9 (.cons AAc (.cons (.var 1) (.cons AAG (.cons (.glob 5) .nil))))) .nil)))) .nil) .nil) (.cons (.ite (.cmp .eq (.var 3) ABL) (.cons (.ret (.and (.cons ABu (.cons (.call 9 (.cons AAc (.cons (.var 1) (.cons AAP (.cons (.glob 5) .nil))))) .nil)))) .nil) .nil) (.cons (.ite ABN (.cons (.ret (.and (.cons (.cmp .eq (.var 4) ABR) (.cons (.call 9 (.cons AAc (.cons (.var 1) (.cons AAG (.cons (.glob 6) .nil))))) (.cons (.call 10 (.cons AAl (.cons (.bi .len AAc) .nil))) .nil))))) .nil) .nil) (.cons (.ite ABP (.cons (.ret (.and (.cons (.cmp .eq (.var 4) (.con (.int 4))) (.cons (.cmp .lt (.var 2) (.glob 7)) (.cons (.call 12 (.cons (.var 0) (.cons (.var 1) ACJ))) .nil))))) .nil) .nil) AAQ))))))))⟩
def fV(n:Nat)(p0 p1 p2:Sl):pg.fn (n+1) 11 [p0,p1,p2]=fin 3 (ex (pg.cf n) dR.body [p0,p1,p2,.un,.un]):=bz (g:=dR)
noncomputable def pI:Fn:=⟨3,3,(.cons (.ret (.and (.cons (.call 11 (.cons AAc (.cons (.var 1) AAa))) (.cons (.call 8 (.cons AAl AAT)) (.cons (.isi (.idx (.var 0) ABR) .bool) .nil))))) .nil)⟩
def Ig(n:Nat)(p0 p1 p2:Sl):pg.fn (n+1) 12 [p0,p1,p2]=fin 3 (ex (pg.cf n) pI.body [p0,p1,p2]):=bz (g:=pI)
noncomputable def jE:Fn:=⟨1,1,(.cons (.ret (.op .add (.bi .list AAf) (.comp 1 (.name 0) AAc AAH AAf))) .nil)⟩
def xf(n:Nat)(p0:Sl):pg.fn (n+1) 13 [p0]=fin 1 (ex (pg.cf n) jE.body [p0]):=bz (g:=jE)
noncomputable def gw:Fn:=⟨2,3,(.cons (.set 2 (.bi .dict ABM)) (.cons (.ret (.comp 2 (.tup [0,1]) AAc AAS (.var 0))) .nil))⟩
def qx(n:Nat)(p0 p1:Sl):pg.fn (n+1) 14 [p0,p1]=fin 2 (ex (pg.cf n) gw.body [p0,p1,.un]):=bz (g:=gw)
noncomputable def Ed:Fn:=⟨3,5,(.cons (.set 3 AAf) (.cons (.ite (.cmp .eq (.var 3) ABk) (.cons (.ret ABn) .nil) .nil) (.cons (.ite ACH (.cons (.ret (.not ABn)) .nil) .nil) (.cons (.ite ABP ABW .nil) (.cons (.set 4 (.bi .tuple (.comp 1 (.name 0) AAc AAH (.idx (.var 3) (.var 0))))) (.cons (.ite (.cmp .eq (.var 3) ABX) ACG .nil) (.cons (.ite (.cmp .eq (.var 3) ABb) ABz .nil) (.cons (.ite ABN ABs .nil) AAo))))))))⟩
def mO(n:Nat)(p0 p1 p2:Sl):pg.fn (n+1) 15 [p0,p1,p2]=fin 3 (ex (pg.cf n) Ed.body [p0,p1,p2,.un,.un]):=bz (g:=Ed)
noncomputable def kJ:Fn:=⟨3,5,(.cons (.set 3 (.call 15 (.cons AAc (.cons (.var 1) AAa)))) (.cons (.set 4 (.cmp .eq (.idx (.var 2) AAl) (.var 3))) (.cons (.ret (.ite (.cmp .eq (.var 4) (.idx (.var 0) ABR)) (.var 3) (.var 1))) .nil)))⟩
def zg(n:Nat)(p0 p1 p2:Sl):pg.fn (n+1) 16 [p0,p1,p2]=fin 3 (ex (pg.cf n) kJ.body [p0,p1,p2,.un,.un]):=bz (g:=kJ)
noncomputable def ir:Fn:=⟨2,2,(.cons (.ite (.not (.call 18 (.cons (.call 0 AAX) AAT))) ABa .nil) (.cons (.ret (.var 1)) .nil))⟩
def sy(n:Nat)(p0 p1:Sl):pg.fn (n+1) 17 [p0,p1]=fin 2 (ex (pg.cf n) ir.body [p0,p1]):=bz (g:=ir)
noncomputable def pH:Fn:=⟨2,4,(.cons (.ite (.not (.call 3 (.cons (.var 1) (.cons AAP (.cons AAP .nil))))) AAQ .nil) (.cons (.set 2 (.comp 1 (.name 0) AAc AAH AAf)) (.cons (.ite (.or (.cons (.not (.call 9 (.cons ABo (.cons (.var 2) (.cons AAL (.cons ACM .nil)))))) (.cons (.not (.call 3 (.cons ABp (.cons AAG (.cons (.glob 8) .nil))))) .nil))) AAQ .nil) (.cons (.set 3 (.op .add AAf ABo)) (.cons (.ret (.bi .all AAq)) .nil)))))⟩
def Ie(n:Nat)(p0 p1:Sl):pg.fn (n+1) 18 [p0,p1]=fin 2 (ex (pg.cf n) pH.body [p0,p1,.un,.un]):=bz (g:=pH)
noncomputable def m9:Fn:=⟨3,3,(.cons (.ite (.or (.cons (.not (.call 3 (.cons (.var 0) (.cons AAL ABe)))) (.cons (.not (.bi .all ACL)) .nil))) AAQ .nil) (.cons (.ite (.not (.call 9 (.cons (.bi .tuple (.comp 1 (.name 0) (.var 0) AAH AAf)) (.cons (.var 1) (.cons AAL ABe))))) AAQ .nil) (.cons (.ret (.bi .all AAw)) .nil)))⟩
def Cg(n:Nat)(p0 p1 p2:Sl):pg.fn (n+1) 19 [p0,p1,p2]=fin 3 (ex (pg.cf n) m9.body [p0,p1,p2]):=bz (g:=m9)
noncomputable def iR:Fn:=⟨1,1,(.cons (.ret (.tup (.cons AAl ABv))) .nil)⟩
def uL(n:Nat)(p0:Sl):pg.fn (n+1) 20 [p0]=fin 1 (ex (pg.cf n) iR.body [p0]):=bz (g:=iR)
noncomputable def mX:Fn:=⟨3,4,(.cons (.set 3 (.bi .dict (.idx ABp AAh))) (.cons (.ret (.op .add (.comp 1 (.name 0) AAf (.cmp .isin (.var 0) (.var 4)) (.var 0)) (.call 14 (.cons (.var 0) (.cons AAx .nil))))) .nil))⟩
def BX(n:Nat)(p0 p1 p2:Sl):pg.fn (n+1) 21 [p0,p1,p2]=fin 3 (ex (pg.cf n) mX.body [p0,p1,p2,.un]):=bz (g:=mX)
noncomputable def jG:Fn:=⟨3,3,(.cons (.ret (.and (.cons (.cmp .isin (.var 2) AAf) (.cons (.cmp .notin (.var 2) (.bi .dict (.idx AAc ABp))) .nil)))) .nil)⟩
def xj(n:Nat)(p0 p1 p2:Sl):pg.fn (n+1) 22 [p0,p1,p2]=fin 3 (ex (pg.cf n) jG.body [p0,p1,p2]):=bz (g:=jG)
noncomputable def oH:Fn:=⟨4,5,(.cons (.ite (.call 22 (.cons (.var 1) (.cons (.var 2) AAZ))) (.cons ACN .nil) .nil) (.cons (.set 4 (.bi .dict (.idx ABp AAh))) (.cons (.ret (.tup (.cons (.call 24 (.cons (.var 0) (.cons AAx AAZ))) (.cons (.get2 (.var 4) (.var 3) AAh) .nil)))) .nil)))⟩
def K8(n:Nat)(p0 p1 p2 p3:Sl):pg.fn (n+1) 23 [p0,p1,p2,p3]=fin 4 (ex (pg.cf n) oH.body [p0,p1,p2,p3,.un]):=bz (g:=oH)
noncomputable def pK:Fn:=⟨3,3,(.cons (.ret (.bi .tuple (.comp 2 (.tup [0,1]) ABM AAH (.ite ABm (.not (.var 1)) (.var 1))))) .nil)⟩
def Ij(n:Nat)(p0 p1 p2:Sl):pg.fn (n+1) 24 [p0,p1,p2]=fin 3 (ex (pg.cf n) pK.body [p0,p1,p2]):=bz (g:=pK)
noncomputable def iT:Fn:=⟨3,4,(.cons ABx (.cons (.set 3 (.bi .len AAl)) (.cons (.ite (.or (.cons ABj (.cons (.not (.bi .all (.comp 1 (.name 0) (.var 2) AAH (.call 4 AAy)))) .nil))) ABa .nil) .nil)))⟩
def uM(n:Nat)(p0 p1 p2:Sl):pg.fn (n+1) 25 [p0,p1,p2]=fin 3 (ex (pg.cf n) iT.body [p0,p1,p2,.un]):=bz (g:=iT)
noncomputable def jF:Fn:=⟨3,3,(.cons (.ret (.bi .dict (.comp 1 (.name 0) (.var 0) AAH (.tup AAm)))) .nil)⟩
def xg(n:Nat)(p0 p1 p2:Sl):pg.fn (n+1) 26 [p0,p1,p2]=fin 3 (ex (pg.cf n) jF.body [p0,p1,p2]):=bz (g:=jF)
noncomputable def eG:Fn:=⟨2,2,(.cons (.ite (.cmp .lt (.var 1) ABY) (.cons (.ret (.idx (.var 0) (.var 1))) .nil) .nil) (.cons (.ite (.cmp .eq (.var 0) (.lis .nil)) (.cons (.ret AAL) .nil) .nil) (.cons (.ret (.op .add (.op .mul (.idx (.var 0) (.op .mod (.var 1) ABY)) (.con (.int 31))) (.var 1))) .nil)))⟩
def iJ(n:Nat)(p0 p1:Sl):pg.fn (n+1) 27 [p0,p1]=fin 2 (ex (pg.cf n) eG.body [p0,p1]):=bz (g:=eG)
noncomputable def kY:Fn:=⟨3,4,(.cons (.set 3 (.op .mod (.op .mul (.op .add (.op .add (.call 27 (.cons (.var 0) AAT)) (.op .mul (.con (.int 7919)) (.var 1))) AAG) (.con (.int 48271))) (.con (.int 2147483647)))) (.cons (.ret (.op .mod (.op .mod (.op .add (.op .add (.op .mul (.var 3) (.var 3)) (.op .mul (.con (.int 7)) (.var 3))) (.var 1)) (.con (.int 2147483629))) (.var 2))) .nil))⟩
def zm(n:Nat)(p0 p1 p2:Sl):pg.fn (n+1) 28 [p0,p1,p2]=fin 3 (ex (pg.cf n) kY.body [p0,p1,p2,.un]):=bz (g:=kY)
noncomputable def m8:Fn:=⟨3,3,(.cons (.setIx 1 AAL (.op .add ABo AAG)) (.cons (.ret (.call 28 (.cons (.var 0) (.cons ABo AAa)))) .nil))⟩
def Ce(n:Nat)(p0 p1 p2:Sl):pg.fn (n+1) 29 [p0,p1,p2]=fin 3 (ex (pg.cf n) m8.body [p0,p1,p2]):=bz (g:=m8)
noncomputable def mZ:Fn:=⟨5,6,(.cons (.set 5 (.bi .list (.var 2))) (.cons (.while_ AAn AAs) (.cons (.ret ABh) .nil)))⟩
def Ca(n:Nat)(p0 p1 p2 p3 p4:Sl):pg.fn (n+1) 30 [p0,p1,p2,p3,p4]=fin 5 (ex (pg.cf n) mZ.body [p0,p1,p2,p3,p4,.un]):=bz (g:=mZ)
noncomputable def kO:Fn:=⟨3,6,(.cons (.set 3 (.call 30 (.cons (.var 0) (.cons (.ref 1) (.cons (.var 2) (.cons AAG AAV)))))) (.cons (.set 4 (.lis (.cons (.tup .nil) .nil))) (.cons (.for_ (.name 5) (.var 3) (.cons (.set 4 (.op .add (.comp 1 (.name 0) (.var 4) AAH (.op .add (.var 0) (.tup (.cons (.con (.bl false)) .nil)))) (.comp 1 (.name 0) (.var 4) AAH (.op .add (.var 0) (.tup (.cons AAH .nil)))))) .nil)) (.cons (.ret (.tup (.cons (.con (.str "table")) (.cons (.var 3) (.cons (.bi .tuple (.bi .sorted (.comp 1 (.name 0) (.var 4) AAe (.var 0)))) .nil))))) .nil))))⟩
def zj(n:Nat)(p0 p1 p2:Sl):pg.fn (n+1) 31 [p0,p1,p2]=fin 3 (ex (pg.cf n) kO.body [p0,p1,p2,.un,.un,.un]):=bz (g:=kO)
noncomputable def dJ:Fn:=⟨4,6,(.cons (.set 4 (.call 29 (.cons (.var 0) (.cons (.ref 1) (.cons (.con (.int 9)) .nil))))) (.cons (.ite (.or (.cons (.cmp .lt (.var 4) (.con (.int 4))) (.cons (.cmp .lt ACM AAP) .nil))) (.cons (.ret (.tup (.cons (.idx (.lis AAR) (.op .mod (.var 4) AAP)) (.cons ABI .nil)))) .nil) .nil) (.cons (.ite (.cmp .lt (.var 4) (.con (.int 7))) (.cons (.ret (.tup (.cons (.idx (.lis (.cons ABX (.cons ABb (.cons ABL .nil)))) (.op .sub (.var 4) (.con (.int 4)))) (.cons (.call 30 (.cons (.var 0) (.cons (.ref 1) (.cons (.var 2) (.cons AAP AAV))))) .nil)))) .nil) .nil) (.cons (.ite (.or (.cons (.cmp .eq (.var 4) (.con (.int 7))) (.cons (.cmp .eq (.var 3) AAL) .nil))) (.cons (.ret (.call 31 (.cons (.var 0) (.cons (.ref 1) AAa)))) .nil) .nil) (.cons (.set 5 (.call 32 (.cons (.var 0) (.cons (.ref 1) (.cons (.var 2) (.cons (.op .sub (.var 3) AAG) .nil)))))) (.cons (.ret (.tup (.cons (.con (.str "held")) (.cons (.var 5) (.cons ABI (.cons ABq .nil)))))) .nil))))))⟩
def jo(n:Nat)(p0 p1 p2 p3:Sl):pg.fn (n+1) 32 [p0,p1,p2,p3]=fin 4 (ex (pg.cf n) dJ.body [p0,p1,p2,p3,.un,.un]):=bz (g:=dJ)
noncomputable def pF:Fn:=⟨4,8,(.cons (.set 4 (.slc (.tup (.cons AAr (.cons ABU (.cons (.con (.str "come")) .nil)))) .noneE (.call 29 (.cons (.var 0) (.cons (.ref 1) ACJ))))) (.cons (.set 5 (.slc (.tup AAk) .noneE ABZ)) (.cons ACI (.cons (.set 7 (.bi .tuple (.comp 1 (.name 0) (.var 5) AAH (.tup AAt)))) (.cons (.ret (.tup (.cons (.var 4) (.cons (.var 7) (.cons (.bi .tuple (.comp 1 (.name 0) (.var 6) AAH AAe)) .nil))))) .nil)))))⟩
def Ia(n:Nat)(p0 p1 p2 p3:Sl):pg.fn (n+1) 33 [p0,p1,p2,p3]=fin 4 (ex (pg.cf n) pF.body [p0,p1,p2,p3,.un,.un,.un,.un]):=bz (g:=pF)
noncomputable def mY:Fn:=⟨4,9,(.cons (.set 4 (.bi .tuple (.comp 1 (.name 0) AAh AAp AAf))) (.cons (.set 5 ABZ) (.cons (.set 6 (.lis .nil)) (.cons (.for_ (.name 7) (.range1 (.var 5)) (.cons (.set 8 (.comp 1 (.name 0) ABt AAe (.var 0))) (.cons (.append 6 (.bi .tuple (.comp 1 (.name 0) (.var 8) AAH (.tup ABH)))) .nil))) (.cons (.ret (.tup (.cons (.var 4) (.cons (.bi .tuple (.var 6)) .nil)))) .nil)))))⟩
def BZ(n:Nat)(p0 p1 p2 p3:Sl):pg.fn (n+1) 34 [p0,p1,p2,p3]=fin 4 (ex (pg.cf n) mY.body [p0,p1,p2,p3,.un,.un,.un,.un,.un]):=bz (g:=mY)
noncomputable def m7:Fn:=⟨2,5,(.cons (.set 2 (.slc (.lis AAk) .noneE (.op .add ABR (.call 29 (.cons (.var 0) (.cons (.ref 1) AAV)))))) (.cons (.set 3 (.lis .nil)) (.cons (.for_ (.name 4) (.range1 ACM) AAd) (.cons (.ret (.tup (.cons (.tup .nil) (.cons (.bi .tuple (.var 3)) (.cons (.bi .tuple (.comp 1 (.name 0) (.var 2) AAH AAe)) .nil))))) .nil))))⟩
def Cd(n:Nat)(p0 p1:Sl):pg.fn (n+1) 35 [p0,p1]=fin 2 (ex (pg.cf n) m7.body [p0,p1,.un,.un,.un]):=bz (g:=m7)
noncomputable def kZ:Fn:=⟨2,8,(.cons (.set 2 (.slc (.lis (.cons ABg (.cons ABf (.cons (.con (.str "rr")) (.cons (.con (.str "go")) .nil))))) .noneE (.op .add AAG (.call 29 (.cons (.var 0) (.cons (.ref 1) AAv)))))) (.cons (.set 3 AAr) (.cons (.set 4 (.lis (.cons ABq .nil))) (.cons (.set 5 (.lis .nil)) (.cons (.for_ (.name 6) (.var 2) (.cons (.set 7 AAb) AAg)) (.cons (.ret (.tup (.cons (.tup (.cons (.tup (.cons AAr .nil)) (.cons ABh (.cons (.bi .tuple (.var 4)) .nil)))) (.cons (.tup (.cons (.tup (.cons (.idx (.var 2) (.neg AAG)) .nil)) (.cons (.tup (.cons (.tup (.cons (.tup (.cons AAr ABw)) .nil)) (.cons (.tup (.cons (.tup (.cons (.idx (.var 2) (.neg AAG)) ABv)) .nil)) .nil))) .nil))) .nil)))) .nil))))))⟩
def zp(n:Nat)(p0 p1:Sl):pg.fn (n+1) 36 [p0,p1]=fin 2 (ex (pg.cf n) kZ.body [p0,p1,.un,.un,.un,.un,.un,.un]):=bz (g:=kZ)
noncomputable def aH:Fn:=⟨2,8,(.cons (.set 2 (.call 29 (.cons (.var 0) (.cons (.ref 1) (.cons (.con (.int 6)) .nil))))) (.cons (.set 3 (.tup (.cons (.idx (.lis (.cons ABL (.cons ABL (.cons ABX (.cons ABb (.cons ABL (.cons ABL .nil))))))) (.var 2)) (.cons (.tup (.cons AAr (.cons ABU .nil))) .nil)))) (.cons (.ite (.cmp .gt (.var 2) ABR) (.cons (.set 3 (.tup (.cons (.con (.str "held")) (.cons (.tup (.cons ABk (.cons AAr .nil))) (.cons ABU (.cons AAH .nil)))))) .nil) .nil) (.cons (.set 4 (.tup (.cons (.tup (.cons (.tup (.cons AAr ABw)) (.cons (.tup (.cons ABU (.cons AAP .nil))) .nil))) (.cons (.tup (.cons (.tup (.cons ABU AAV)) .nil)) (.cons (.tup (.cons (.tup (.cons AAr AAV)) .nil)) (.cons (.tup (.cons (.tup (.cons ABg ABv)) .nil)) .nil)))))) (.cons (.set 5 (.lis (.cons (.tup (.cons ABg AAZ)) .nil))) (.cons (.ite ABq (.cons (.append 5 (.tup (.cons ABf (.cons (.tup (.cons (.idx (.lis AAR) AAb) (.cons ABg .nil))) .nil)))) .nil) .nil) (.cons (.set 6 ABq) (.cons (.set 7 (.lis (.cons (.var 6) (.cons (.var 6) (.cons (.var 6) .nil))))) (.cons (.ite (.cmp .gt (.bi .len (.var 5)) AAG) (.cons (.append 7 (.cmp .eq (.var 6) (.cmp .eq (.idx (.idx (.idx (.var 5) AAG) AAG) AAL) ABk))) .nil) .nil) (.cons (.ret (.tup (.cons (.tup (.cons (.tup (.cons AAr (.cons ABU .nil))) (.cons ABh (.cons (.bi .tuple (.var 7)) .nil)))) (.cons (.tup (.cons (.tup (.cons ABg .nil)) (.cons (.var 4) .nil))) .nil)))) .nil))))))))))⟩
def iI(n:Nat)(p0 p1:Sl):pg.fn (n+1) 37 [p0,p1]=fin 2 (ex (pg.cf n) aH.body [p0,p1,.un,.un,.un,.un,.un,.un]):=bz (g:=aH)
noncomputable def di:Fn:=⟨3,6,(.cons (.set 3 (.op .add AAx (.bi .tuple (.comp 1 (.name 0) AAh AAH AAf)))) (.cons (.set 4 (.call 29 (.cons (.var 0) (.cons (.ref 1) (.cons (.bi .len AAh) .nil))))) (.cons (.set 5 (.bi .list AAh)) (.cons (.setIx 5 (.var 4) (.tup (.cons (.idx (.idx (.var 5) (.var 4)) AAL) (.cons (.call 32 (.cons (.var 0) (.cons (.ref 1) (.cons (.var 3) ABw)))) .nil)))) (.cons (.ret (.tup (.cons AAx (.cons ABh (.cons (.idx (.var 2) AAP) .nil))))) .nil)))))⟩
def nM(n:Nat)(p0 p1 p2:Sl):pg.fn (n+1) 38 [p0,p1,p2]=fin 3 (ex (pg.cf n) di.body [p0,p1,p2,.un,.un,.un]):=bz (g:=di)
noncomputable def bG:Fn:=⟨2,6,(.cons (.set 2 (.lis AAT)) (.cons (.set 3 (.call 29 (.cons (.var 0) (.cons (.ref 2) (.cons (.con (.int 8)) .nil))))) (.cons (.ite (.cmp .lt (.var 3) AAP) (.cons (.set 4 (.call 33 (.cons (.var 0) (.cons (.ref 2) (.cons AAP AAv))))) (.cons (.ret (.tup (.cons (.var 4) (.cons (.call 34 (.cons (.var 0) (.cons (.ref 2) (.cons (.var 4) AAv)))) .nil)))) .nil)) .nil) (.cons (.ite (.cmp .eq (.var 3) AAP) (.cons (.ret (.tup (.cons (.call 33 (.cons (.var 0) (.cons (.ref 2) (.cons AAL AAv)))) (.cons (.tup (.cons (.tup .nil) (.cons (.tup (.cons (.tup .nil) .nil)) .nil))) .nil)))) .nil) .nil) (.cons (.ite (.cmp .eq (.var 3) ABR) (.cons (.set 4 (.call 35 ABT)) (.cons (.ite ABQ (.cons (.ret (.tup (.cons (.var 4) (.cons (.tup (.cons (.tup .nil) (.cons (.tup (.cons (.tup .nil) .nil)) .nil))) .nil)))) .nil) .nil) (.cons (.ret (.tup (.cons (.var 4) (.cons (.tup (.cons (.tup (.cons ABf .nil)) (.cons (.tup (.cons (.tup (.cons (.tup (.cons ABf ABw)) .nil)) (.cons (.tup (.cons (.tup (.cons ABf ABv)) .nil)) .nil))) .nil))) .nil)))) .nil))) .nil) (.cons (.ite (.cmp .lt (.var 3) (.con (.int 6))) (.cons (.setT [4,5] (.call 36 ABT)) .nil) (.cons (.setT [4,5] (.call 37 ABT)) .nil)) (.cons (.ite (.and (.cons (.cmp .eq (.op .mod (.var 3) AAP) AAG) (.cons ABQ .nil))) (.cons (.set 4 (.call 38 (.cons (.var 0) (.cons (.ref 2) (.cons (.var 4) .nil))))) .nil) .nil) (.cons (.ret (.tup (.cons (.var 4) ABy))) .nil))))))))⟩
def eU(n:Nat)(p0 p1:Sl):pg.fn (n+1) 39 [p0,p1]=fin 2 (ex (pg.cf n) bG.body [p0,p1,.un,.un,.un,.un]):=bz (g:=bG)
noncomputable def Px:Fn:=⟨1,9,(.cons ABV (.cons (.set 3 (.bi .tuple (.comp 1 (.name 0) (.range1 ABi) AAH (.op .add AAG AAj)))) (.cons AAu (.cons ABK (.cons ABG (.cons (.set 8 (.call 41 (.cons (.var 1) (.cons (.var 2) (.cons (.bi .tuple (.comp 1 (.name 0) (.var 3) AAH (.op .mul (.var 0) (.var 5)))) ABy))))) (.cons (.ret (.cmp .eq (.var 8) (.tup (.cons (.comp 2 (.tup [0,1]) (.var 6) AAH (.tup ABO)) (.cons (.var 7) .nil))))) .nil)))))))⟩
def abb(n:Nat)(p0:Sl):pg.fn (n+1) 40 [p0]=fin 1 (ex (pg.cf n) Px.body [p0,.un,.un,.un,.un,.un,.un,.un,.un]):=bz (g:=Px)
def Rm(n:Nat)(ps:List Sl):pg.fn (n+1) 41 ps=dY tx (pg.cf n) ps:=by
 show(match pg.fns[41]? with|some g=>gY (pg.cf n) g ps|none=>dY tx (pg.cf n) ps)=_
 rw[show pg.fns[41]? =none by kernel_rfl]
end Tx
end
end
section
open PySem Mini
namespace Tx
abbrev sc(ns:List Int):D:=.lst (ns.map .int)
def PB(ns:List Int)(i:Int)(h0:0<=i)(h:i<ns.length):∃r:Int,at? (ns.map D.int) i=some (.int r):=by
 unfold at? ix?
 rw[Qvz,if_neg (by omega:¬i<0)]
 rw[if_pos ⟨h0,h⟩]
 have:i.toNat<ns.length:=by omega
 exact⟨ns[i.toNat],by simp[this]⟩
def Mv(ns:List Int):mU (ns.map D.int)=true:=by
 induction ns with
 |nil=>rfl
 |cons i r ih=>simp[mU,nd,ih]
def Jz(ns:List Int):lY (ns.map D.int)=0:=by
 induction ns with
 |nil=>rfl
 |cons i r ih=>simp[lY,dep,ih]
def Om(ns:List Int):aK .eq (.lst (ns.map .int)) (.lst [])=some ns.isEmpty:=by
 cases ns with
 |nil=>rfl
 |cons i ns=>simp[aK,ud,flat,nd,mU,dep,lY,gH,pC,Mv,Jz]
def DW n ns k(hk:0<=k):∃r:Int,pg.fn (n+1) 27 [.val (sc ns),.val (.int k)]=.ok (.val (.int r)) [.val (sc ns),.val (.int k)]:=by
 by_cases h:k<ns.length
 ·obtain⟨r,e⟩:=PB ns k hk h
  exact⟨r,by rw[iJ];simp[eG,h,e]⟩
 ·by_cases hn:ns=[]
  ·subst hn
   have h0:¬k<0:=by omega
   exact⟨0,by rw[iJ];simp[eG,h0,bj,fits,Om []]⟩
  ·have hl':=List.length_pos_iff.mpr hn
   have hl:(0:Int)<ns.length:=by omega
   obtain⟨r,e⟩:=PB ns (k%ns.length) (Int.emod_nonneg _ (by omega)) (Int.emod_lt_of_pos _ hl)
   have he:ns.isEmpty=false:=by simpa using hn
   exact⟨r*31+k,by rw[iJ];simp[eG,h,e,bj,fits,Om,he,hl,hl',small]⟩
@[simp]theorem ahc(n:Nat):(pg.cf n).fn=pg.fn n:=rfl
@[simp]theorem ahb(n:Nat):(pg.cf n).gl=pg.gl:=rfl
@[simp]theorem acj(n:Nat):(pg.cf n).turns=1000:=rfl
def nU n ns k many(hk:0<=k)(hm:0<many):∃r:Int,0<=r/\r<many/\
  pg.fn (n+2) 28 [.val (sc ns),.val (.int k),.val (.int many)]=.ok (.val (.int r)) [.val (sc ns),.val (.int k),.val (.int many)]:=by
 obtain⟨c,e⟩:=DW n ns k hk
 have b:∀x:Int,small (x%2147483647)=true:=fun x=>by
  simp[small]
  omega
 have s1:small 7919=true:=by decide
 have s2:small 48271=true:=by decide
 refine⟨_,?_,?_,by rw[zm];simp[kY,e,s1,s2,s3,b,hm];rfl⟩
 ·exact Int.emod_nonneg _ (by omega)
 ·exact Int.emod_lt_of_pos _ hm
def Qn{k:Int}(h:0<=k):0<=k+1:=Int.le_trans h (Int.le_add_one (Int.le_refl k))
def bw n ns k many(hk:0<=k)(hm:0<many):∃r:Int,0<=r/\r<many/\
  pg.fn (n+3) 29 [.val (sc ns),.bor (.lst [.int k]),.val (.int many)]=.ok (.val (.int r)) [.val (sc ns),.bor (.lst [.int (k+1)]),.val (.int many)]:=by
 obtain⟨r,h1,h2,e⟩:=nU n ns _ many (Qn hk) hm
 refine⟨r,h1,h2,?_⟩
 rw[Ce]
 simp[m8,at?,ix?,Ck,e]
end Tx
end
section
open PySem Mini
namespace Tx
def rM:E:=AAn
def zb:S:=AAs
abbrev someσ(ns:List Int)(k:Int)(xs:List D)(least most:Int)(row:List D):Ev:=[.val (sc ns),.bor (.lst [.int k]),.val (.tup xs),.val (.int least),.val (.int most),.own (.lst row)]
def Kr n ns k(hk:0<=k)xs row least most(h0:0<row.length)(hf:row.length<=1000):
  ∃j:Nat,j<row.length/\ex (pg.cf (n+3)) zb (someσ ns k xs least most row)=.next (someσ ns (k+1) xs least most (row.eraseIdx j)):=by
 obtain⟨r,h1,h2,e⟩:=bw n ns k row.length hk (by omega)
 refine⟨r.toNat,by omega,?_⟩
 have f:fits row.length=true:=by simp[fits];omega
 have hx:ix? row.length r=some r.toNat:=by
  unfold ix?
  rw[if_neg (by omega:¬r<0),if_pos ⟨h1,h2⟩]
 have hr:row[r.toNat]? =some _:=QXq (by omega)
 simp[zb,e,ig,sH,f,hx,hr,Iu]
theorem HF(n:Nat)(ns:List Int)(xs:List D)(least most:Int)(hx:xs.length<=1000)(hl:0<=least)(hlm:least<=most):∀(L:Nat)(row:List D)(k:Int)(fuel:Nat),row.length=L->L<fuel->0<=k->row.Sublist xs->least<=row.length->
  ∃ys k',ys.Sublist xs/\least<=ys.length/\ys.length<=most/\0<=k'/\gh (ev (pg.cf (n+3)) rM) (ex (pg.cf (n+3)) zb) fuel (someσ ns k xs least most row)=.next (someσ ns k' xs least most ys):=by
 intro L
 induction L with
 |zero=>
  intro row k fuel hL hf hk hs hr
  obtain⟨fuel,rfl⟩:∃f,fuel=f+1:=⟨fuel-1,by omega⟩
  have:¬least<row.length:=by omega
  exact⟨row,k,hs,hr,by omega,hk,by simp[gh,rM,this]⟩
 |succ L ih=>
  intro row k fuel hL hf hk hs hr
  obtain⟨fuel,rfl⟩:∃f,fuel=f+1:=⟨fuel-1,by omega⟩
  have hrl:=hs.length_le
  by_cases h1:least<row.length
  ·--the row is longer than the least
   have cont:∀k1:Int,0<=k1->∃ys k',ys.Sublist xs/\least<=ys.length/\ys.length<=most/\0<=k'/\
     (ex _ zb _).turn _=.next (someσ ns k' xs least most ys):=fun k1 hk1=>by
    obtain⟨j,hj,e⟩:=Kr n ns k1 hk1 xs row least most (by omega) (by omega)
    have el:(row.eraseIdx j).length=L:=by rw[List.length_eraseIdx_of_lt hj];omega
    obtain⟨ys,k',a1,a2,a3,a4,a5⟩:=ih _ (k1+1) fuel el (by omega) (by omega) ((List.eraseIdx_sublist row j).trans hs) (by omega)
    exact⟨ys,k',a1,a2,a3,a4,by rw[e];exact a5⟩
   by_cases h2:most<row.length
   ·obtain⟨ys,k',a1,a2,a3,a4,a5⟩:=cont k hk
    refine⟨ys,k',a1,a2,a3,a4,?_⟩
    rw[<-a5]
    simp[gh,rM,h1,h2]
   ·obtain⟨r,b1,b2,e⟩:=bw n ns k 2 hk (by omega)
    by_cases h3:r=1
    ·subst h3
     obtain⟨ys,k',a1,a2,a3,a4,a5⟩:=cont (k+1) (by omega)
     refine⟨ys,k',a1,a2,a3,a4,?_⟩
     rw[<-a5]
     simp[gh,rM,h1,h2,e]
    ·exact⟨row,k+1,hs,by omega,by omega,by omega,by simp[gh,rM,h1,h2,e,h3]⟩
  ·exact⟨row,k,hs,by omega,by omega,hk,by simp[gh,rM,h1]⟩
def Fb n ns k(hk:0<=k)xs least most(hx:xs.length<=900)(hl:0<=least)(hlm:least<=most)(hxl:least<=xs.length):
  ∃ys k',ys.Sublist xs/\least<=ys.length/\ys.length<=most/\0<=k'/\
   pg.fn (n+4) 30 [.val (sc ns),.bor (.lst [.int k]),.val (.tup xs),.val (.int least),.val (.int most)]=.ok (.val (.tup ys)) [.val (sc ns),.bor (.lst [.int k']),.val (.tup xs),.val (.int least),.val (.int most)]:=by
 obtain⟨ys,k',a1,a2,a3,a4,a5⟩:=HF n ns xs least most (by omega) hl hlm xs.length xs k 1000 rfl (by omega) hk (List.Sublist.refl _) hxl
 refine⟨ys,k',a1,a2,a3,a4,?_⟩
 rw[Ca]
 have hb:mZ.body=.cons _ (.cons (.while_ rM zb) _):=rfl
 rw[hb]
 simp[a5]
end Tx
end
section
open PySem Mini
namespace Tx
def uD(s:Sl):Prop:=s=.un\/∃d,s=.val d
def jY(h:uD s)d(r:Ev):eE (.name 0) d (s::r)=some (.val d::r):=by
 rcases h with rfl|⟨e,rfl⟩<;>simp[eE]
def qw:E:=AAe
def yq n ns k(hk:0<=k)d(rest:Ev):∃b:Bool,ev (pg.cf (n+3)) qw (.val d:: .val (sc ns):: .bor (.lst [.int k])::rest)=.ok (.val (.bl b)) (.val d:: .val (sc ns):: .bor (.lst [.int (k+1)])::rest):=by
 obtain⟨r,h1,h2,e⟩:=bw n ns k 2 hk (by omega)
 exact⟨r==1,by simp[qw,e]⟩
theorem O9(n:Nat)(ns:List Int)(rest:Ev):∀(xs acc:List D)(k:Int)(s:Sl),0<=k->uD s->∃bs k' s',bs.length=xs.length/\0<=k'/\uD s'/\
  aN (.name 0) (ev (pg.cf (n+3)) qw) (ev (pg.cf (n+3)) (.var 0)) xs acc (s:: .val (sc ns):: .bor (.lst [.int k])::rest)=.ok (acc++nW bs xs) (s':: .val (sc ns):: .bor (.lst [.int k'])::rest)
 |[]=>fun acc k s hk hs=>⟨[],k,s,rfl,hk,hs,by simp[aN,nW]⟩
 |x::xs=>fun acc k s hk hs=>by
  obtain⟨b,e⟩:=yq n ns k hk x rest
  cases b with
  |true=>
   obtain⟨bs,k',s',a1,a2,a3,a4⟩:=O9 n ns rest xs _ (k+1) _ (by omega) (.inr ⟨x,rfl⟩)
   refine⟨true::bs,k',s',by simp[a1],a2,a3,?_⟩
   rw[aN,jY hs]
   simp only[e,fK,if_true]
   have e0:ev (pg.cf (n+3)) (.var 0) (.val x:: .val (sc ns):: .bor (.lst [.int (k+1)])::rest)=.ok (.val x) (.val x:: .val (sc ns):: .bor (.lst [.int (k+1)])::rest):=by simp
   rw[e0,cC,a4]
   simp[nW]
  |false=>
   obtain⟨bs,k',s',a1,a2,a3,a4⟩:=O9 n ns rest xs acc (k+1) _ (by omega) (.inr ⟨x,rfl⟩)
   refine⟨false::bs,k',s',by simp[a1],a2,a3,?_⟩
   rw[aN,jY hs]
   simp only[e,fK,Qyz,if_false]
   rw[a4]
   simp[nW]
def T3(b:Bool):E:=(.comp 1 (.name 0) (.var 4) AAH (.op .add (.var 0) (.tup (.cons (.con (.bl b)) .nil))))
def w5:S:=(.cons (.set 4 (.op .add (T3 false) (T3 true))) .nil)
theorem PX(c:Cf)(b:Bool)(rest:Ev):∀(rs:List (List Bool))(acc:List D)(s:Sl),uD s->(∀r∈rs,r.length<=1000)->∃s',uD s'/\
  aN (.name 0) (ev c AAH) (ev c (.op .add (.var 0) (.tup (.cons (.con (.bl b)) .nil)))) (rs.map aO) acc (s::rest)=.ok (acc++(rs.map (· ++[b])).map aO) (s'::rest)
 |[]=>fun acc s hs _=>⟨s,hs,by simp[aN]⟩
 |r::rs=>fun acc s hs hl=>by
  obtain⟨s',a1,a2⟩:=PX c b rest rs _ _ (.inr ⟨_,rfl⟩) fun q hq=>hl q (QYq _ hq)
  have h1:=hl r QYz
  refine⟨s',a1,?_⟩
  rw[Qyq,aN,jY hs]
  have e0:ev c (.op .add (.var 0) (.tup (.cons (.con (.bl b)) .nil))) (.val (aO r)::rest)=.ok (.val (aO (r++[b]))) (.val (aO r)::rest):=by
   have f:fits (r.length+1)=true:=by simp[fits];omega
   simp[bj,aO,f]
  have e1:ev c AAH (.val (aO r)::rest)=.ok (.val (.bl true)) (.val (aO r)::rest):=by simp
  simp only[e1,fK,if_true]
  rw[e0,cC,a2]
  simp
def P0 c b(rs:List (List Bool))(hl:∀r∈rs,r.length<=1000)(hs:s=.own (.lst (rs.map aO))\/s=.val (.lst (rs.map aO)))s0 s1 s2 s3 s5:ev c (T3 b) [s0,s1,s2,s3,s,s5]=.ok (.new (.lst ((rs.map (· ++[b])).map aO))) [s0,s1,s2,s3,.val (.lst (rs.map aO)),s5]:=by
 obtain⟨s',_,a⟩:=PX c b [s0,s1,s2,s3,.val _,s5] rs [] .un (.inl rfl) hl
 have h:ev c (.var 4) [s0,s1,s2,s3,s,s5]=.ok (.val (.lst (rs.map aO))) [s0,s1,s2,s3,.val (.lst (rs.map aO)),s5]:=by
  rcases hs with rfl|rfl<;>simp
 unfold T3
 rw[rm,h,cC]
 simp only[items]
 rw[show List.replicate 1 Sl.un++[s0,s1,s2,s3,.val _,s5]=Sl.un::[s0,s1,s2,s3,.val _,s5]from rfl,a]
 simp
def HX c(rs:List (List Bool))(hl:∀r∈rs,r.length<=1000)(hn:rs.length<=1000)(hs:s=.own (.lst (rs.map aO)))s0 s1 s2 s3 s5:
  ex c w5 [s0,s1,s2,s3,s,s5]=.next [s0,s1,s2,s3,.own (.lst ((rs.map (· ++[false])++rs.map (· ++[true])).map aO)),s5]:=by
 have f:fits (rs.length+rs.length)=true:=by simp[fits];omega
 unfold w5
 simp only[x_0,x_1,x_5,v_5]
 rw[P0 c false rs hl (.inl hs),lR]
 rw[P0 c true rs hl (.inr rfl),lR]
 simp[f]
theorem vA(c:Cf)(s0 s1 s2 s3:Sl):∀(ys:List D)(k:Nat)(s5:Sl),uD s5->k+ys.length<=9->∃s5',uD s5'/\eY (.name 5) (ex c w5) ys [s0,s1,s2,s3,.own (.lst ((eV k).map aO)),s5]=.next [s0,s1,s2,s3,.own (.lst ((eV (k+ys.length)).map aO)),s5']
 |[]=>fun k s5 h5 _=>⟨s5,h5,by simp[eY]⟩
 |y::ys=>fun k s5 h5 hk=>by
  simp only[QAz]at hk
  obtain⟨s5',a1,a2⟩:=vA c s0 s1 s2 s3 ys (k+1) _ (.inr ⟨y,rfl⟩) (by omega)
  refine⟨s5',a1,?_⟩
  have st:eE (.name 5) y [s0,s1,s2,s3,.own (.lst ((eV k).map aO)),s5]=some [s0,s1,s2,s3,.own (.lst ((eV k).map aO)),.val y]:=by
   rcases h5 with rfl|⟨e,rfl⟩<;>simp[eE]
  have lens:∀k,∀r∈eV k,r.length=k:=by
   intro k
   induction k with
   |zero=>intro r hr;simp[eV]at hr;subst hr;rfl
   |succ k ih=>
    intro r hr
    simp only[eV,QXz,QCz]at hr
    rcases hr with ⟨q,hq,rfl⟩|⟨q,hq,rfl⟩<;>simp[ih q hq]
  have hn:(eV k).length<=1000:=by
   rw[oW]
   have:2 ^k<=2 ^9:=Nat.pow_le_pow_right (by omega) (by omega)
   omega
  rw[eY,st]
  simp only
  rw[HX c _ (fun r hr=>by rw[lens k r hr];omega) hn rfl,oN]
  rw[show(eV k).map _++(eV k).map _=eV (k+1)from rfl,a2]
  rw[show k+1+ys.length=k+(y::ys).length by simp;omega]
def qU:E:=.comp 1 (.name 0) (.var 4) qw (.var 0)
def Dz n ns k(hk:0<=k)zs s2 s3 s5:∃bs k',bs.length=zs.length/\0<=k'/\
  ev (pg.cf (n+3)) qU [.val (sc ns),.bor (.lst [.int k]),s2,s3,.own (.lst zs),s5]=.ok (.new (.lst (nW bs zs))) [.val (sc ns),.bor (.lst [.int k']),s2,s3,.val (.lst zs),s5]:=by
 obtain⟨bs,k',s',c1,c2,c3,c4⟩:=O9 n ns [s2,s3,.val _,s5] zs [] k .un hk (.inl rfl)
 refine⟨bs,k',c1,c2,?_⟩
 have h:ev (pg.cf (n+3)) (.var 4) [.val (sc ns),.bor (.lst [.int k]),s2,s3,.own (.lst zs),s5]=.ok (.val (.lst zs)) [.val (sc ns),.bor (.lst [.int k]),s2,s3,.val (.lst zs),s5]:=by simp
 unfold qU
 rw[rm,h,cC]
 simp only[items]
 rw[show List.replicate 1 Sl.un++[.val _,.bor _,s2,s3,.val _,s5]=Sl.un:: .val _:: .bor _::[s2,s3,.val _,s5]from rfl,c4]
 simp
def J7 n ns k(hk:0<=k)xs(hx:xs.length<=900)(h1:1<=xs.length):
  ∃ys rs k',ys.Sublist xs/\1<=ys.length/\ys.length<=3/\(∀r∈rs,r.length=ys.length)/\z9 rs=true/\0<=k'/\
   pg.fn (n+5) 31 [.val (sc ns),.bor (.lst [.int k]),.val (.tup xs)]=.ok (.val (.tup [.str "table",.tup ys,.tup (rs.map aO)])) [.val (sc ns),.bor (.lst [.int k']),.val (.tup xs)]:=by
 obtain⟨ys,k1,a1,a2,a3,a4,a5⟩:=Fb n ns k hk xs 1 3 hx (by omega) (by omega) (by omega)
 obtain⟨s5,b1,b2⟩:=vA (pg.cf (n+4)) (.val (sc ns)) (.bor (.lst [.int k1])) (.val (.tup xs)) (.val (.tup ys)) ys 0 .un (.inl rfl) (by omega)
 obtain⟨bs,k2,c1,c2,c4⟩:=Dz (n+1) ns k1 a4 ((eV ys.length).map aO) (.val (.tup xs)) (.val (.tup ys)) s5
 rw[Qvz,oW]at c1
 obtain⟨rs,d1,d2,d3⟩:=HD ys.length (by omega) (by omega) bs c1
 refine⟨ys,rs,k2,a1,by omega,by omega,d2,d3,c2,?_⟩
 rw[zj]
 have hb:kO=⟨3,6,.cons _ (.cons _ (.cons (.for_ _ _ w5)
  (.cons (.ret (.tup (.cons _ (.cons _ (.cons (.bi .tuple (.bi .sorted qU)) .nil))))) .nil)))⟩:=rfl
 rw[hb]
 have e1:([D.tup []])=(eV 0).map aO:=rfl
 have e2:(eV 0).length=1:=rfl
 have q:qU.aB=none:=rfl
 simp[a5,bj,items,e1,e2,b2,c4,d1,q]
end Tx
end
section
open PySem Mini
namespace Tx
inductive bQ(xs:List D):Nat->D->Prop
 |same {n:Nat} {x:D}:x∈xs->bQ xs n (.tup [.str "same",x])
 |not {n:Nat} {x:D}:x∈xs->bQ xs n (.tup [.str "not",x])
 |and {n:Nat} {ys:List D}:ys.Sublist xs->2<=ys.length->ys.length<=3->bQ xs n (.tup [.str "and",.tup ys])
 |or {n:Nat} {ys:List D}:ys.Sublist xs->2<=ys.length->ys.length<=3->bQ xs n (.tup [.str "or",.tup ys])
 |both {n:Nat} {ys:List D}:ys.Sublist xs->2<=ys.length->ys.length<=3->bQ xs n (.tup [.str "both",.tup ys])
 |table {n:Nat} {ys:List D} {rs:List (List Bool)}:ys.Sublist xs->1<=ys.length->ys.length<=3->(∀r∈rs,r.length=ys.length)->z9 rs=true->bQ xs n (.tup [.str "table",.tup ys,.tup (rs.map aO)])
 |held {n:Nat} {k x:D} {b:Bool}:bQ xs n k->x∈xs->bQ xs (n+1) (.tup [.str "held",k,x,.bl b])
def Pz xs r(h1:0<=r)(h2:r<xs.length):∃d,at? xs r=some d/\d∈xs:=by
 unfold at? ix?
 rw[if_neg (Int.not_lt.mpr h1),if_pos ⟨h1,h2⟩]
 have:=(Int.toNat_lt h1).mpr h2
 exact⟨xs[r.toNat],by simp[this],List.getElem_mem this⟩
def R9(r:Int):r%2=0\/r%2=1:=by omega
def Oh{r:Int}(h1:¬r<4)(h2:r<7):r-4=0\/r-4=1\/r-4=2:=by omega
def eight{r:Int}(h1:¬r<7)(h2:r<9)(h3:¬r=7):r=8:=by omega
def YM(n:Nat):¬((n:Int)+1=0):=by omega
def vX m ns xs(hx:xs.length<=900)(h1:1<=xs.length)deep
  (rec:∀dp,deep=dp+1->∀k:Int,0<=k->∃d k',bQ xs dp d/\0<=k'/\pg.fn (m+5) 32 [.val (sc ns),.bor (.lst [.int k]),.val (.tup xs),.val (.int dp)]=.ok (.val d) [.val (sc ns),.bor (.lst [.int k']),.val (.tup xs),.val (.int dp)])
  k(hk:0<=k):∃d k',bQ xs deep d/\0<=k'/\
  pg.fn (m+6) 32 [.val (sc ns),.bor (.lst [.int k]),.val (.tup xs),.val (.int deep)]=.ok (.val d) [.val (sc ns),.bor (.lst [.int k']),.val (.tup xs),.val (.int deep)]:=by
 obtain⟨r,r1,r2,er⟩:=bw (m+2) ns k 9 hk (by decide)
 have hk1:=Qn hk
 by_cases c1:r<4\/xs.length<2
 ·obtain⟨q,q1,q2,eq⟩:=bw (m+2) ns _ xs.length hk1 (Int.ofNat_lt.mpr h1)
  obtain⟨x,ex,mx⟩:=Pz xs q q1 q2
  obtain⟨w,ew,kw⟩:∃w,at? [.str "same",.str "not"] (r%2)=some _/\bQ xs deep (.tup [.str w,x]):=by
   rcases R9 r with h|h<;>rw[h]
   ·exact⟨_,rfl,.same mx⟩
   ·exact⟨_,rfl,.not mx⟩
  refine⟨_,k+1+1,kw,Qn hk1,?_⟩
  rw[jo]
  by_cases c4:r<4
  ·simp[dJ,er,c4,eq,ex,bj,ew]
  ·have c6:=c1.resolve_left c4
   have c5:(xs.length:Int)<2:=Int.ofNat_lt.mpr c6
   simp[dJ,er,c4,c5,c6,eq,ex,bj,ew]
 ·have c2:¬r<4:=fun h=>c1 (.inl h)
  have c3':=fun h=>c1 (.inr h)
  have c3:¬(xs.length:Int)<2:=fun h=>c3' (Int.ofNat_lt.mp h)
  by_cases c7:r<7
  ·obtain⟨ys,k',a1,a2,a3,a4,a5⟩:=Fb (m+1) ns _ hk1 xs 2 3 hx (by decide) (by decide) (Int.not_lt.mp c3)
   have a2:=Int.ofNat_le.mp a2
   have a3:=Int.ofNat_le.mp a3
   obtain⟨w,ew,kw⟩:∃w,at? [.str "and",.str "or",.str "both"] (r-4)=some _/\bQ xs deep (.tup [.str w,.tup ys]):=by
    rcases Oh c2 c7 with h|h|h<;>rw[h]
    ·exact⟨_,rfl,.and a1 a2 a3⟩
    ·exact⟨_,rfl,.or a1 a2 a3⟩
    ·exact⟨_,rfl,.both a1 a2 a3⟩
   exact⟨_,k',kw,a4,by rw[jo];simp[dJ,er,c2,c3,c3',c7,a5,bj,ew]⟩
  ·by_cases c8:r=7\/deep=0
   ·obtain⟨ys,rs,k',a1,a2,a3,a4,a5,a6,a7⟩:=J7 m ns _ hk1 xs hx h1
    refine⟨_,k',.table a1 a2 a3 a4 a5,a6,?_⟩
    rw[jo]
    by_cases c9:r=7
    ·subst c9
     simp[dJ,er,c3,c3',a7]
    ·have c10:=c8.resolve_left c9
     subst c10
     simp[dJ,er,c2,c3,c3',c7,c9,beq_false_of_ne c9,a7]
   ·obtain⟨dp,rfl⟩:=Nat.exists_eq_succ_of_ne_zero (fun h=>c8 (.inr h))
    have c9:=eight c7 r2 fun h=>c8 (.inl h)
    subst c9
    obtain⟨d,k1,b1,b2,b3⟩:=rec dp rfl _ hk1
    obtain⟨q,q1,q2,eq⟩:=bw (m+2) ns k1 xs.length b2 (Int.ofNat_lt.mpr h1)
    obtain⟨x,ex,mx⟩:=Pz xs q q1 q2
    obtain⟨z,z1,z2,ez⟩:=bw (m+2) ns _ 2 (Qn b2) (by decide)
    refine⟨_,k1+1+1,.held (b:=z==1) b1 mx,Qn (Qn b2),?_⟩
    rw[jo]
    have e1:=YM dp
    simp[dJ,er,c3,c3',beq_false_of_ne e1,e1,(Int.add_sub_cancel _ _),b3,eq,ex,ez,bj]
def afC m deep:m+deep+1+5=m+6+deep:=by omega
def afB m deep:m+6+(deep+1)=m+deep+1+6:=by omega
theorem xT ns xs(hx:xs.length<=900)(h1:1<=xs.length):∀(deep m:Nat)(k:Int),0<=k->∃d k',bQ xs deep d/\0<=k'/\
  pg.fn (m+6+deep) 32 [.val (sc ns),.bor (.lst [.int k]),.val (.tup xs),.val (.int deep)]=.ok (.val d) [.val (sc ns),.bor (.lst [.int k']),.val (.tup xs),.val (.int deep)]
 |0=>fun m k hk=>vX m ns xs hx h1 0 (fun dp h=>nomatch h) k hk
 |deep+1=>fun m k hk=>by
  have:=vX _ ns xs hx h1 (deep+1) (fun dp h k hk=>by
   cases h
   rw[afC m deep]
   exact(xT ns xs hx h1 deep m k hk)) k hk
  rw[afB m deep]
  exact this
end Tx
end
section
open PySem Mini
namespace Tx
def Gv:E:=(.tup AAt)
def M3 n ns k(hk:0<=k)xs(hx:xs.length<=900)(h1:1<=xs.length)x s3 s4 s5 s6 s8:∃d k',bQ xs 1 d/\0<=k'/\
  ev (pg.cf (n+7)) Gv [.val x,.val (sc ns),.bor (.lst [.int k]),s3,s4,s5,s6,.val (.tup xs),s8]=.ok (.val (.tup [x,d])) [.val x,.val (sc ns),.bor (.lst [.int k']),s3,s4,s5,s6,.val (.tup xs),s8]:=by
 obtain⟨d,k',a1,a2,a3⟩:=xT ns xs hx h1 1 n k hk
 refine⟨d,k',a1,a2,?_⟩
 simp only[Int.natCast_one,show n+6+1=n+7 from rfl]at a3
 simp[Gv,a3,bj]
theorem zV(n:Nat)(ns:List Int)(xs:List D)(hx:xs.length<=900)(h1:1<=xs.length)(s3 s4 s5 s6 s8:Sl):∀(row acc:List D)(k:Int)(s:Sl),0<=k->uD s->∃ks k' s',ks.length=row.length/\(∀d∈ks,bQ xs 1 d)/\0<=k'/\uD s'/\
  aN (.name 0) (ev (pg.cf (n+7)) AAH) (ev (pg.cf (n+7)) Gv) row acc [s,.val (sc ns),.bor (.lst [.int k]),s3,s4,s5,s6,.val (.tup xs),s8]
   =.ok (acc++aP row ks) [s',.val (sc ns),.bor (.lst [.int k']),s3,s4,s5,s6,.val (.tup xs),s8]
 |[]=>fun acc k s hk hs=>⟨[],k,s,rfl,fun d h=>(by cases h),hk,hs,by simp[aN,aP]⟩
 |x::row=>fun acc k s hk hs=>by
  obtain⟨d,k1,a1,a2,a3⟩:=M3 n ns k hk xs hx h1 x s3 s4 s5 s6 s8
  obtain⟨ks,k',s',b1,b2,b3,b4,b5⟩:=zV n ns xs hx h1 s3 s4 s5 s6 s8 row _ k1 _ a2 (.inr ⟨x,rfl⟩)
  refine⟨d::ks,k',s',by simp[b1],fun e h=>?_,b3,b4,?_⟩
  ·rcases QBz.mp h with rfl|h
   ·exact a1
   ·exact b2 e h
  ·rw[aN,jY hs]
   have e1:∀σ,ev (pg.cf (n+7)) AAH σ=.ok (.val (.bl true)) σ:=fun σ=>by simp
   simp only[e1,fK,if_true]
   rw[a3,cC,b5]
   simp[aP]
theorem tY(n:Nat)(ns:List Int)(rest:Ev):∀(xs acc:List D)(k:Int)(s:Sl),0<=k->uD s->∃(bs:List Bool)(k':Int)(s':Sl),bs.length=xs.length/\0<=k'/\uD s'/\
  aN (.name 0) (ev (pg.cf (n+3)) AAH) (ev (pg.cf (n+3)) qw) xs acc (s:: .val (sc ns):: .bor (.lst [.int k])::rest)=.ok (acc++bs.map .bl) (s':: .val (sc ns):: .bor (.lst [.int k'])::rest)
 |[]=>fun acc k s hk hs=>⟨[],k,s,rfl,hk,hs,by simp[aN]⟩
 |x::xs=>fun acc k s hk hs=>by
  obtain⟨b,e⟩:=yq n ns k hk x rest
  obtain⟨bs,k',s',a1,a2,a3,a4⟩:=tY n ns rest xs _ _ _ (Qn hk) (.inr ⟨x,rfl⟩)
  refine⟨b::bs,k',s',by simp[a1],a2,a3,?_⟩
  rw[aN,jY hs]
  have e1:∀σ,ev (pg.cf (n+3)) AAH σ=.ok (.val (.bl true)) σ:=fun σ=>by simp
  simp only[e1,fK,if_true]
  rw[e,cC,a4]
  simp
def Ge:E:=(.comp 1 (.name 0) (.var 5) AAH Gv)
def Gu:E:=(.comp 1 (.name 0) (.var 6) AAH qw)
def xM:S:=(.cons ACI (.cons (.set 7 (.bi .tuple Ge)) (.cons (.ret (.tup (.cons (.var 4) (.cons (.var 7) (.cons (.bi .tuple Gu) .nil))))) .nil)))
def Mq n ns k(hk:0<=k)ν row(hx:ν.length+row.length<=900)(h1:1<=row.length)s2 s3:∃(ks:List D)(ls:List Bool)(k':Int),ks.length=row.length/\(∀d∈ks,bQ (ν++row) 1 d)/\ls.length=(ν++row).length/\0<=k'/\
  ex (pg.cf (n+7)) xM [.val (sc ns),.bor (.lst [.int k]),s2,s3,.val (.tup ν),.val (.tup row),.un,.un]
   =.ret (.val (.tup [.tup ν,.tup (aP row ks),.tup (ls.map .bl)])) [.val (sc ns),.bor (.lst [.int k']),s2,s3,.val (.tup ν),.val (.tup row),.val (.tup (ν++row)),.val (.tup (aP row ks))]:=by
 obtain⟨ks,k1,s',a1,a2,a3,a4,a5⟩:=zV n ns (ν++row) (by simpa using hx) (by simp;omega) s2 s3 _ _ .un row [] k .un hk (.inl rfl)
 obtain⟨ls,k',s'',b1,b2,b3,b4⟩:=tY _ ns [s2,s3,.val _,.val _,.val _,.val _] _ [] k1 .un a3 (.inl rfl)
 refine⟨ks,ls,k',a1,a2,b1,b2,?_⟩
 have f:fits (ν.length+row.length)=true:=by simp[fits];omega
 have em:ev (pg.cf (n+7)) Ge [.val (sc ns),.bor (.lst [.int k]),s2,s3,.val (.tup ν),.val (.tup row),.val (.tup (ν++row)),.un]=.ok (.new (.lst (aP row ks))) [.val (sc ns),.bor (.lst [.int k1]),s2,s3,.val (.tup ν),.val (.tup row),.val (.tup (ν++row)),.un]:=by
  have h:ev (pg.cf (n+7)) (.var 5) [.val (sc ns),.bor (.lst [.int k]),s2,s3,.val (.tup ν),.val (.tup row),.val (.tup (ν++row)),.un]=.ok (.val (.tup row)) [.val (sc ns),.bor (.lst [.int k]),s2,s3,.val (.tup ν),.val (.tup row),.val (.tup (ν++row)),.un]:=by simp
  unfold Ge
  rw[rm,h,cC]
  simp only[items]
  rw[show List.replicate 1 Sl.un++[.val _,.bor _,s2,s3,.val _,.val _,.val _,.un]=[.un,.val _,.bor _,s2,s3,.val _,.val _,.val _,.un]from rfl,a5]
  simp
 have el:ev (pg.cf (n+7)) Gu [.val (sc ns),.bor (.lst [.int k1]),s2,s3,.val (.tup ν),.val (.tup row),.val (.tup (ν++row)),.val (.tup (aP row ks))]=.ok (.new (.lst (ls.map .bl))) [.val (sc ns),.bor (.lst [.int k']),s2,s3,.val (.tup ν),.val (.tup row),.val (.tup (ν++row)),.val (.tup (aP row ks))]:=by
  have h:ev (pg.cf (n+7)) (.var 6) [.val (sc ns),.bor (.lst [.int k1]),s2,s3,.val (.tup ν),.val (.tup row),.val (.tup (ν++row)),.val (.tup (aP row ks))]=.ok (.val (.tup (ν++row))) [.val (sc ns),.bor (.lst [.int k1]),s2,s3,.val (.tup ν),.val (.tup row),.val (.tup (ν++row)),.val (.tup (aP row ks))]:=by simp
  unfold Gu
  rw[rm,h,cC]
  simp only[items]
  rw[show List.replicate 1 Sl.un++[.val _,.bor _,s2,s3,.val _,.val _,.val _,.val _]=.un:: .val _:: .bor _::[s2,s3,.val _,.val _,.val _,.val _]from rfl,b4]
  simp
 have q1:Ge.aB=none:=rfl
 have q2:Gu.aB=none:=rfl
 simp[xM,f,em,el,q1,q2,bj]
def hd(h:Nat):List D:=([.str "a",.str "b",.str "come"]:List D).take h
def cY(g:Nat):List D:=([.str "p",.str "q",.str "rr",.str "go",.str "abcdef"]:List D).take g
def iM(h2:h<=2):(hd h).length=h:=List.length_take_of_le (Nat.le_succ_of_le h2)
def fB(g4:g<=5):(cY g).length=g:=List.length_take_of_le g4
def aR(h g:Nat)(ks:List D)(ls:List Bool):D:=.tup [.tup (hd h),.tup (aP (cY g) ks),.tup (ls.map .bl)]
structure cX(h g:Nat)(ks:List D)(ls:List Bool):Prop where
 h2:h<=2
 g1:1<=g
 g5:g<=5
 kl:ks.length=g
 kk:∀d∈ks,bQ (hd h++cY g) 1 d
 ll:ls.length=h+g
def Xy{h:Nat}(i2:ni<=2)(r2:(h:Int)<ni+1):h<=2:=by omega
def Mr n ns k(hk:0<=k)ni(i0:0<=ni)(i2:ni<=2):∃h g ks ls k',cX h g ks ls/\0<=k'/\
  pg.fn (n+8) 33 [.val (sc ns),.bor (.lst [.int k]),.val (.int ni),.val (.int 4)]=.ok (.val (aR h g ks ls)) [.val (sc ns),.bor (.lst [.int k']),.val (.int ni),.val (.int 4)]:=by
 obtain⟨r,r1,r2,er⟩:=bw (n+4) ns k _ hk (Int.lt_add_one_of_le i0)
 obtain⟨q,q1,q2,eq⟩:=bw (n+4) ns _ 4 (Qn hk) (by decide)
 obtain⟨h,rfl⟩:=Int.eq_ofNat_of_zero_le r1
 obtain⟨g,rfl⟩:=Int.eq_ofNat_of_zero_le q1
 have h2:=Xy i2 r2
 have g3:=Int.ofNat_lt.mp q2
 have g1:=Nat.le_add_right 1 g
 have g5:=Nat.add_le_add_left (Nat.le_of_lt g3) 1
 have lh:=iM h2
 have lg:=fB g5
 obtain⟨ks,ls,k',a1,a2,a3,a4,a5⟩:=Mq n ns _ (Qn (Qn hk)) (hd h) (cY _) (by rw[lh,lg];exact Nat.le_trans (Nat.add_le_add h2 g5) (by decide)) (by rw[lg];exact g1) (.val (.int ni)) (.val (.int 4))
 refine⟨h,1+g,ks,ls,k',⟨h2,g1,g5,a1.trans lg,a2,by rw[a3,QTq,lh,lg]⟩,a4,?_⟩
 rw[Ia]
 have hb:pF=⟨4,8,(.cons _ (.cons _ xM))⟩:=rfl
 rw[hb]
 have c1:jX (.tup [.str "a",.str "b",.str "come"]) none (some h)=some (.val (.tup (hd h))):=by
  rcases h with _|_|_|h
  ·rfl
  ·rfl
  ·rfl
  ·exact absurd h2 (by simp)
 have c2:jX (.tup [.str "p",.str "q",.str "rr",.str "go",.str "abcdef"]) none (some (1+g))=some (.val (.tup (cY (1+g)))):=by
  rcases g with _|_|_|_|g
  ·rfl
  ·rfl
  ·rfl
  ·rfl
  ·exact absurd g3 (by simp)
 simp[er,eq,bj,fj,E.nD,c1,c2,a5,aR]
end Tx
end
section
open PySem Mini
namespace Tx
def aQ n xs a b(h1:a<=xs.length)(h2:xs.length<=b):pg.fn (n+1) 3 [.val (.tup xs),.val (.int a),.val (.int b)]=.ok (.val (.bl true)) [.val (.tup xs),.val (.int a),.val (.int b)]:=by
 rw[sr]
 simp[jH,h1,h2]
def Vr:E:=.bi .all ABl
def wj n bs m(h:m=bs.length):pg.fn (n+2) 7 [.val (aO bs),.val (.int m)]=.ok (.val (.bl true)) [.val (aO bs),.val (.int m)]:=by
 subst h
 have e:ev (pg.cf (n+1)) Vr [.val (aO bs),.val (.int bs.length)]=.ok (.val (.bl true)) [.val (aO bs),.val (.int bs.length)]:=by
  refine all1 (r:=.val (aO bs)) (by simp) rfl rfl fun x hx=>?_
  obtain⟨b,_,rfl⟩:=QCz.mp hx
  simp
 have t:pg.fn _ 3 [.val (aO bs),.val _,.val _]=.ok _ [.val _,.val _,.val _]:=aQ n _ bs.length bs.length (by simp) (by simp)
 rw[K9]
 have hb:uw=⟨2,2,(.cons (.ret (.and (.cons _ (.cons Vr .nil)))) .nil)⟩:=rfl
 rw[hb]
 simp[t,e]
def dB(xs:List D):Prop:=∀x∈xs,∃s,x=.str s
def pB(h:dB xs):xs.all flat=true:=by
 rw[List.all_eq_true]
 intro x hx
 obtain⟨s,rfl⟩:=h x hx
 rfl
def qO{x:D}(hx:x∈xs)(h:dB xs):cF x xs=true:=by
 induction xs with
 |nil=>cases hx
 |cons y ys ih=>
  unfold cF
  rcases QBz.mp hx with rfl|hx
  ·obtain⟨s,rfl⟩:=h x QYz
   simp[gH]
  ·simp[ih hx fun z hz=>h z (QYq _ hz)]
def Dw(h:dB xs)(nd:xs.Nodup)(hx:x∈xs):ik x xs=1:=by
 induction xs with
 |nil=>cases hx
 |cons y ys ih=>
  have hys:=fun z hz=>h z (QYq _ hz)
  obtain⟨s,rfl⟩:=h y QYz
  rw[List.nodup_cons]at nd
  have zero:∀{zs:List D},dB zs->D.str s∉zs->ik (.str s) zs=0:=by
   intro zs
   induction zs with
   |nil=>intro _ _;rfl
   |cons z zs ihz=>
    intro hz hn
    obtain⟨q,rfl⟩:=hz z QYz
    have ne:q≠s:=fun e=>hn (by rw[e];exact QYz)
    simp[ik,gH,ne,ihz (fun w hw=>hz w (QYq _ hw)) fun hw=>hn (QYq _ hw)]
  rcases QBz.mp hx with rfl|hx
  ·simp[ik,gH,zero hys nd.1]
  ·obtain⟨q,rfl⟩:=hys x hx
   have ne:s≠q:=fun e=>nd.1 (by rw[e];exact hx)
   simp[ik,gH,ne,ih hys nd.2 hx]
def jz n{d:D}(dd:d=.tup xs\/d=.lst xs)(h:dB xs)(hx:x∈xs):pg.fn (n+1) 8 [.val x,.val d]=.ok (.val (.bl true)) [.val x,.val d]:=by
 obtain⟨s,rfl⟩:=h x hx
 rw[Ib]
 have o:jQ (.str s) xs=true:=by
  unfold jQ
  rw[pB h]
  rfl
 have e:aK .isin (.str s) d=some true:=by
  rcases dd with rfl|rfl<;>(show(if jQ _ xs then some _ else none)=_;rw[o,qO hx h];rfl)
 simp[pG,e]
def wQ:E:=.bi .all ABS
def my n{d:D}(hd:d=.tup xs\/d=.lst xs)(h:dB xs)(nd:xs.Nodup):pg.fn (n+1) 6 [.val d]=.ok (.val (.bl true)) [.val d]:=by
 have e:ev (pg.cf n) wQ [.val d]=.ok (.val (.bl true)) [.val d]:=by
  refine all1 (r:=.val d) (by simp) rfl (by rcases hd with rfl|rfl<;>rfl) fun x hx=>?_
  obtain⟨s,rfl⟩:=h x hx
  have e1:DG (.tup xs) (.str s)=some (.val (.int 1)):=by
   simp only[DG]
   rw[pB h,Dw h nd hx]
   rfl
  have e2:DG (.lst xs) _=some _:=e1
  rcases hd with rfl|rfl<;>simp[e1,e2]
 have hb:jJ=⟨1,1,(.cons (.ret wQ) .nil)⟩:=rfl
 rw[xm,hb]
 have q:wQ.aB=none:=rfl
 simp[e,q]
def uT:D->D
 |.tup (a::_)=>a
 |_=>.non
theorem wO:∀(gs ks:List D),ks.length=gs.length->(aP gs ks).map uT=gs
 |[],ks=>fun _=>by simp[aP]
 |g::gs,[]=>fun h=>by simp at h
 |g::gs,k::ks=>fun h=>by simp[aP,uT,wO gs ks (by simpa using h)]
def Ae(it:E):E:=.comp 1 (.name 0) it AAH AAf
def tX{σ:Ev}gs ks(hl:ks.length=gs.length)(hi:ev c it σ=.ok (.val (.tup (aP gs ks))) σ):ev c (Ae it) σ=.ok (.new (.lst gs)) σ:=by
 have:=qu (el:=.idx (.var 0) AAL) uT hi rfl rfl fun y hy=>by
  rw[dM]at hy
  obtain⟨p,_,rfl⟩:=QCz.mp hy
  simp[pairD,uT]
 rw[wO gs ks hl]at this
 exact this
def f9 n hs gs ks x(hl:ks.length=gs.length)(hf:hs.length+gs.length<=1000):
  pg.fn (n+1) 13 [.val (.tup [.tup hs,.tup (aP gs ks),x])]=.ok (.new (.lst (hs++gs))) [.val (.tup [.tup hs,.tup (aP gs ks),x])]:=by
 have f:fits (hs.length+gs.length)=true:=by simp[fits];omega
 have hb:jE=⟨1,1,.cons (.ret (.op .add _ (Ae _))) .nil⟩:=rfl
 rw[xf,hb]
 simp[tX (c:=pg.cf n) (it:=.idx (.var 0) AAG) (σ:=[.val (.tup [.tup hs,.tup (aP gs ks),x])]) gs ks hl (by simp),f]
end Tx
end
section
open PySem Mini
namespace Tx
@[simp↓]theorem Ub:decide (Str.ofString "same"=Str.ofString "same")=true:=rfl
@[simp↓]theorem Zq:decide (Str.ofString "not"=Str.ofString "not")=true:=rfl
@[simp↓]theorem Zw:decide (Str.ofString "and"=Str.ofString "and")=true:=rfl
@[simp↓]theorem acW:decide (Str.ofString "or"=Str.ofString "or")=true:=rfl
@[simp↓]theorem Ul:decide (Str.ofString "both"=Str.ofString "both")=true:=rfl
@[simp↓]theorem Qm:decide (Str.ofString "table"=Str.ofString "table")=true:=rfl
@[simp↓]theorem Uh:decide (Str.ofString "held"=Str.ofString "held")=true:=rfl
@[simp]theorem Vz:decide (Str.ofString "same"=Str.ofString "not")=false:=rfl
@[simp]theorem VB:decide (Str.ofString "same"=Str.ofString "and")=false:=rfl
@[simp]theorem Zk:decide (Str.ofString "same"=Str.ofString "or")=false:=rfl
@[simp]theorem Ud:decide (Str.ofString "same"=Str.ofString "both")=false:=rfl
@[simp]theorem Qx:decide (Str.ofString "same"=Str.ofString "table")=false:=rfl
@[simp]theorem Uc:decide (Str.ofString "same"=Str.ofString "held")=false:=rfl
@[simp]theorem VF:decide (Str.ofString "not"=Str.ofString "same")=false:=rfl
@[simp]theorem Zr:decide (Str.ofString "not"=Str.ofString "and")=false:=rfl
@[simp]theorem aam:decide (Str.ofString "not"=Str.ofString "or")=false:=rfl
@[simp]theorem VH:decide (Str.ofString "not"=Str.ofString "both")=false:=rfl
@[simp]theorem Ue:decide (Str.ofString "not"=Str.ofString "table")=false:=rfl
@[simp]theorem VG:decide (Str.ofString "not"=Str.ofString "held")=false:=rfl
@[simp]theorem VP:decide (Str.ofString "and"=Str.ofString "same")=false:=rfl
@[simp]theorem Zv:decide (Str.ofString "and"=Str.ofString "not")=false:=rfl
@[simp]theorem aan:decide (Str.ofString "and"=Str.ofString "or")=false:=rfl
@[simp]theorem V0:decide (Str.ofString "and"=Str.ofString "both")=false:=rfl
@[simp]theorem Um:decide (Str.ofString "and"=Str.ofString "table")=false:=rfl
@[simp]theorem VR:decide (Str.ofString "and"=Str.ofString "held")=false:=rfl
@[simp]theorem Zm:decide (Str.ofString "or"=Str.ofString "same")=false:=rfl
@[simp]theorem aak:decide (Str.ofString "or"=Str.ofString "not")=false:=rfl
@[simp]theorem aal:decide (Str.ofString "or"=Str.ofString "and")=false:=rfl
@[simp]theorem Zo:decide (Str.ofString "or"=Str.ofString "both")=false:=rfl
@[simp]theorem VD:decide (Str.ofString "or"=Str.ofString "table")=false:=rfl
@[simp]theorem Zn:decide (Str.ofString "or"=Str.ofString "held")=false:=rfl
@[simp]theorem Uj:decide (Str.ofString "both"=Str.ofString "same")=false:=rfl
@[simp]theorem VM:decide (Str.ofString "both"=Str.ofString "not")=false:=rfl
@[simp]theorem VN:decide (Str.ofString "both"=Str.ofString "and")=false:=rfl
@[simp]theorem Zu:decide (Str.ofString "both"=Str.ofString "or")=false:=rfl
@[simp]theorem Qz:decide (Str.ofString "both"=Str.ofString "table")=false:=rfl
@[simp]theorem Uk:decide (Str.ofString "both"=Str.ofString "held")=false:=rfl
@[simp]theorem Qu:decide (Str.ofString "table"=Str.ofString "same")=false:=rfl
@[simp]theorem T9:decide (Str.ofString "table"=Str.ofString "not")=false:=rfl
@[simp]theorem Ua:decide (Str.ofString "table"=Str.ofString "and")=false:=rfl
@[simp]theorem Vy:decide (Str.ofString "table"=Str.ofString "or")=false:=rfl
@[simp]theorem Qw:decide (Str.ofString "table"=Str.ofString "both")=false:=rfl
@[simp]theorem Qv:decide (Str.ofString "table"=Str.ofString "held")=false:=rfl
@[simp]theorem Ug:decide (Str.ofString "held"=Str.ofString "same")=false:=rfl
@[simp]theorem VJ:decide (Str.ofString "held"=Str.ofString "not")=false:=rfl
@[simp]theorem VL:decide (Str.ofString "held"=Str.ofString "and")=false:=rfl
@[simp]theorem Zt:decide (Str.ofString "held"=Str.ofString "or")=false:=rfl
@[simp]theorem Ui:decide (Str.ofString "held"=Str.ofString "both")=false:=rfl
@[simp]theorem Qy:decide (Str.ofString "held"=Str.ofString "table")=false:=rfl
@[simp]theorem Vi:aK .isin (.str "same") (.tup [.str "same",.str "not"])=some true:=rfl
@[simp]theorem X4:aK .isin (.str "not") (.tup [.str "same",.str "not"])=some true:=rfl
@[simp]theorem X7:aK .isin (.str "and") (.tup [.str "same",.str "not"])=some false:=rfl
@[simp]theorem ZP:aK .isin (.str "or") (.tup [.str "same",.str "not"])=some false:=rfl
@[simp]theorem Vk:aK .isin (.str "both") (.tup [.str "same",.str "not"])=some false:=rfl
@[simp]theorem SJ:aK .isin (.str "table") (.tup [.str "same",.str "not"])=some false:=rfl
@[simp]theorem Vj:aK .isin (.str "held") (.tup [.str "same",.str "not"])=some false:=rfl
@[simp]theorem X3:aK .isin (.str "same") (.tup [.str "and",.str "or"])=some false:=rfl
@[simp]theorem ZQ:aK .isin (.str "not") (.tup [.str "and",.str "or"])=some false:=rfl
@[simp]theorem ZR:aK .isin (.str "and") (.tup [.str "and",.str "or"])=some true:=rfl
@[simp]theorem ab1:aK .isin (.str "or") (.tup [.str "and",.str "or"])=some true:=rfl
@[simp]theorem X6:aK .isin (.str "both") (.tup [.str "and",.str "or"])=some false:=rfl
@[simp]theorem Vh:aK .isin (.str "table") (.tup [.str "and",.str "or"])=some false:=rfl
@[simp]theorem X5:aK .isin (.str "held") (.tup [.str "and",.str "or"])=some false:=rfl
def gl5:pg.gl 5=some (.int 4):=rfl
def gl6:pg.gl 6=some (.int 8):=rfl
def gl7:pg.gl 7=some (.int 3):=rfl
def JX:E:=.bi .all ABc
def dU n{d:D}(dd:d=.tup xs\/d=.lst xs)(h:dB xs)(nd:xs.Nodup)(hs:ys.Sublist xs)a b(h1:a<=ys.length)(h2:ys.length<=b):
  pg.fn (n+2) 9 [.val (.tup ys),.val d,.val (.int a),.val (.int b)]=.ok (.val (.bl true)) [.val (.tup ys),.val d,.val (.int a),.val (.int b)]:=by
 have e:ev (pg.cf (n+1)) JX [.val (.tup ys),.val d,.val (.int a),.val (.int b)]=.ok (.val (.bl true)) [.val (.tup ys),.val d,.val (.int a),.val (.int b)]:=by
  refine all1 (r:=.val (.tup ys)) (by simp) rfl rfl fun x hx=>?_
  simp[jz n dd h (hs.subset hx)]
 have hb:lr=⟨4,4,(.cons _ (.cons (.ret (.and (.cons JX _))) .nil))⟩:=rfl
 rw[zu,hb]
 simp[aQ n ys a b h1 h2,e,my n (.inl rfl) (fun z hz=>h z (hs.subset hz)) (hs.nodup nd)]
def af5 xs:cut xs (some 1) none=xs.tail:=by
 cases xs with
 |nil=>rfl
 |cons x xs=>
  have:clip (xs.length+1) 1=1:=by simp[clip];omega
  simp[cut,this]
theorem wk:∀(rs:List (List Bool)),z9 rs=true->∀p∈rs.zip rs.tail,lV p.1 p.2=true
 |[]=>fun _ p h=>by simp at h
 |[a]=>fun _ p h=>by simp at h
 |a::b::r=>fun hi p h=>by
  simp only[z9,QUq]at hi
  simp only[List.tail_cons,List.zip_cons_cons,QBz]at h
  rcases h with rfl|h
  ·exact hi.1
  ·exact wk _ hi.2 p (by simpa using h)
def UJ:E:=.bi .all ABd
def upC:E:=.bi .all AAz
def Ay n rs(m:Nat)(h:∀r∈rs,r.length=m)(hi:z9 rs=true):
  pg.fn (n+3) 10 [.val (.tup (rs.map aO)),.val (.int m)]=.ok (.val (.bl true)) [.val (.tup (rs.map aO)),.val (.int m)]:=by
 have e1:ev (pg.cf (n+2)) UJ [.val (.tup (rs.map aO)),.val (.int m)]=.ok (.val (.bl true)) [.val (.tup (rs.map aO)),.val (.int m)]:=by
  refine all1 (r:=.val (.tup (rs.map aO))) (by simp) rfl rfl fun x hx=>?_
  obtain⟨r,hr,rfl⟩:=QCz.mp hx
  simp[wj n r m (by rw[h r hr])]
 have e2:ev (pg.cf (n+2)) upC [.val (.tup (rs.map aO)),.val (.int m)]=.ok (.val (.bl true)) [.val (.tup (rs.map aO)),.val (.int m)]:=by
  have hz:aP (rs.map aO) (rs.map aO).tail=((rs.zip rs.tail).map fun p=>(aO p.1,aO p.2)).map pairD:=by
   rw[dM,<-List.map_tail,List.zip_map]
   rfl
  refine all2 (r:=.val (.lst (aP _ (rs.map aO).tail))) ?_ rfl (by show some _=some _;rw[hz]) fun x hx=>?_
  ·simp[fj,E.nD,jX,af5]
  ·obtain⟨p,hp,rfl⟩:=QCz.mp hx
   have lt:aK .lt (aO p.1) (aO p.2)=some true:=by
    simp[aK,ltD,aO,jf,wk rs hi p hp]
   simp[lt]
 have hb:nq=⟨2,2,(.cons (.ite (.or (.cons _ (.cons (.not UJ) .nil))) _ .nil) (.cons (.ret upC) .nil))⟩:=rfl
 have q:upC.aB=none:=rfl
 rw[Ci,hb]
 simp[e1,e2,q]
def Jl n k:n+4+2*k=n+2+2*k+1+1:=by omega
def Sv n k:n+1+2*k+2=n+2+2*k+1:=by omega
def afA n k:n+2*k+3=n+2+2*k+1:=by omega
def afz n k:n+3+2*k+1=n+4+2*k:=by omega
def afy n k:n+4+2*(k+1)=n+4+2*k+1+1:=by omega
def Gp{a:Nat}(h1:c<=a)(h2:d<=c):(d:Int)<=a:=Int.ofNat_le.mpr (Nat.le_trans h2 h1)
def Gq{a:Nat}(h1:a<=c)(h2:c<=d):(a:Int)<=d:=Int.ofNat_le.mpr (Nat.le_trans h1 h2)
theorem Dc{xs:List D}(h:dB xs)(nd:xs.Nodup):∀{k:Nat}{d:D},bQ xs k d->∀(n:Nat)(dp:Int),dp+k<=3->
  pg.fn (n+4+2*k) 11 [.val d,.val (.lst xs),.val (.int dp)]=.ok (.val (.bl true)) [.val d,.val (.lst xs),.val (.int dp)]:=by
 intro k d hk
 induction hk with
 | @same k x hx=>
  intro n dp _
  rw[Jl,fV]
  simp[dR,aQ (n+2+2*k) [.str "same",x] 2 4 (by simp) (by simp),jz (n+2+2*k) (.inr rfl) h hx,bj]
 | @not k x hx=>
  intro n dp _
  rw[Jl,fV]
  simp[dR,aQ (n+2+2*k) [.str "not",x] 2 4 (by simp) (by simp),jz (n+2+2*k) (.inr rfl) h hx,bj]
 | @and k ys hs h1 h2=>
  intro n dp _
  have w:=dU (n+1+2*k) (.inr rfl) h nd hs 1 4 (Gp h1 (by decide)) (Gq h2 (by decide))
  rw[Sv]at w
  rw[Jl,fV]
  simp[dR,aQ (n+2+2*k) [.str "and",.tup ys] 2 4 (by simp) (by simp),w,bj,gl5]
 | @or k ys hs h1 h2=>
  intro n dp _
  have w:=dU (n+1+2*k) (.inr rfl) h nd hs 1 4 (Gp h1 (by decide)) (Gq h2 (by decide))
  rw[Sv]at w
  rw[Jl,fV]
  simp[dR,aQ (n+2+2*k) [.str "or",.tup ys] 2 4 (by simp) (by simp),w,bj,gl5]
 | @both k ys hs h1 h2=>
  intro n dp _
  have w:=dU (n+1+2*k) (.inr rfl) h nd hs 2 4 (Gp h1 (by decide)) (Gq h2 (by decide))
  rw[Sv]at w
  rw[Jl,fV]
  simp[dR,aQ (n+2+2*k) [.str "both",.tup ys] 2 4 (by simp) (by simp),w,bj,gl5]
 | @table k ys rs hs h1 h2 hr hi=>
  intro n dp _
  have w:=dU (n+1+2*k) (.inr rfl) h nd hs 1 8 (Gp h1 (by decide)) (Gq h2 (by decide))
  rw[Sv]at w
  have z:=Ay (n+2*k) rs ys.length hr hi
  rw[afA]at z
  rw[Jl,fV]
  simp[dR,aQ (n+2+2*k) [.str "table",.tup ys,.tup (rs.map aO)] 2 4 (by simp) (by simp),w,z,bj,gl6]
 | @held k d x b hk hx ih=>
  intro n dp hd
  have w:=jz (n+3+2*k) (.inr rfl) h hx
  rw[afz]at w
  have hl:pg.fn (n+4+2*k+1) 12 [.val (.tup [.str "held",d,x,.bl b]),.val (.lst xs),.val (.int (dp+1))]=.ok (.val (.bl true)) [.val (.tup [.str "held",d,x,.bl b]),.val (.lst xs),.val (.int (dp+1))]:=by
   rw[Ig]
   simp[pI,ih n (dp+1) (by omega),w]
  have lt:dp<3:=by omega
  rw[afy,fV]
  simp[dR,aQ (n+4+2*k) [.str "held",d,x,.bl b] 2 4 (by simp) (by simp),hl,bj,gl7,lt]
end Tx
end
section
open PySem Mini
namespace Tx
def Vb(h g:Nat):List Str:=(["a","b","come"]:List Str).take h++(["p","q","rr","go","abcdef"]:List Str).take g
def names(h g:Nat):List D:=hd h++cY g
def nT h g:names h g=(Vb h g).map .str:=by
 simp[names,Vb,hd,cY,List.map_take]
def uP{ss:List Str}(h:ss.Nodup):(ss.map D.str).Nodup:=by
 induction ss with
 |nil=>simp
 |cons s ss ih=>
  rw[List.nodup_cons]at h
  rw[Qyq,List.nodup_cons]
  exact⟨fun z=>h.1 (by simpa using z),ih h.2⟩
def names_nodup(h2:h<=2)(g1:1<=g)(g4:g<=5):(names h g).Nodup:=by
 rw[nT]
 exact uP (((List.take_sublist h _).append (List.take_sublist g _)).nodup (by decide))
def bR h g:dB (names h g):=fun x hx=>by
 rw[nT]at hx
 obtain⟨s,_,rfl⟩:=QCz.mp hx
 exact⟨s,rfl⟩
def gP(h2:h<=2)(g4:g<=5):(names h g).length=h+g:=by
 rw[names,QTq,iM h2,fB g4]
def R7 n s(hs:s∈Vb 3 5):pg.fn (n+1) 5 [.val (.str s)]=.ok (.val (.bl true)) [.val (.str s)]:=by
 have:Vb 3 5=(["a","b","come","p","q","rr","go","abcdef"]:List Str):=by rfl
 rw[this]at hs
 simp only[QBz,QAq,or_false]at hs
 rcases hs with rfl|rfl|rfl|rfl|rfl|rfl|rfl|rfl<;>kernel_rfl
def FT{s:Str}(hs:s∈Vb h g):s∈Vb 3 5:=by
 unfold Vb at*
 rw[QXz]at*
 rcases hs with hs|hs
 ·exact .inl (by have:=List.mem_of_mem_take hs;simpa using this)
 ·exact .inr (by have:=List.mem_of_mem_take hs;simpa using this)
def gl3:pg.gl 3=some (.int 3):=rfl
def gl4:pg.gl 4=some (.int 5):=rfl
def Cy:E:=.bi .all (.comp 1 (.name 0) AAc AAH AAi)
def Ep(h:ys.length=xs.length):(aP xs ys).length=xs.length:=by
 rw[dM];simp[h]
section
def j5(h g:Nat)(ks:List D)(X:D):D:=.tup [.tup (hd h),.tup (aP (cY g) ks),X]
def Aa n(O:cX h g ks ls)X:pg.fn (n+2) 2 [.val (j5 h g ks X)]=.ok (.val (.bl true)) [.val (j5 h g ks X)]:=by
 have lg:=fB O.g5
 have lh:=iM O.h2
 have lz:(aP (cY g) ks).length=g:=by rw[Ep (by rw[lg,O.kl]),lg]
 have e:ev (pg.cf (n+1)) Cy [.val (j5 h g ks X)]=.ok (.val (.bl true)) [.val (j5 h g ks X)]:=by
  refine all1 (r:=.val (.tup (aP (cY g) ks))) (by simp[j5]) rfl rfl fun x hx=>?_
  rw[dM]at hx
  obtain⟨p,_,rfl⟩:=QCz.mp hx
  simp[pairD,aQ n [p.1,p.2] 2 2 (by simp) (by simp)]
 have hb:lq=⟨1,1,(.cons _ (.cons (.ret Cy) .nil))⟩:=rfl
 have q:Cy.aB=none:=rfl
 rw[zq,hb]
 simp only[j5]at*
 simp[aQ n (hd h) 0 3 (by omega) (by have:=O.h2;omega),aQ n (aP (cY g) ks) 1 5 (by have:=O.g1;omega) (by have:=O.g5;omega),gl3,gl4,e,q]
def Vc:E:=.bi .all ABr
def Vf:E:=.bi .all ABJ
def Nh n(O:cX h g ks ls)X b(t5:pg.fn (n+6) 7 [.val X,.val (.int (names h g).length)]=.ok (.val (.bl b)) [.val X,.val (.int (names h g).length)]):pg.fn (n+7) 1 [.val (j5 h g ks X)]=.ok (.val (.bl b)) [.val (j5 h g ks X)]:=by
 have lg:=fB O.g5
 have lh:=iM O.h2
 have T:=bR h g
 have Nd:=names_nodup O.h2 O.g1 O.g5
 have e1:ev (pg.cf (n+6)) Vc [.val (j5 h g ks X),.own (.lst (names h g))]=.ok (.val (.bl true)) [.val (j5 h g ks X),.val (.lst (names h g))]:=by
  refine all1 (r:=.val (.lst (names h g))) (by simp) rfl rfl fun x hx=>?_
  rw[nT]at hx
  obtain⟨s,hs,rfl⟩:=QCz.mp hx
  simp[R7 (n+5) s (FT hs)]
 have e2:ev (pg.cf (n+6)) Vf [.val (j5 h g ks X),.val (.lst (names h g))]=.ok (.val (.bl true)) [.val (j5 h g ks X),.val (.lst (names h g))]:=by
  refine all2 (r:=.val (.tup (aP (cY g) ks))) (by simp[j5]) rfl (by show some _=some _;rw[dM]) fun x hx=>?_
  simp[Dc T Nd (O.kk x.2 (List.of_mem_zip hx).2) n 0 (by decide)]
 have hb:ux=⟨1,2,(.cons _ (.cons _ (.cons (.ite (.or (.cons (.not Vc) _)) _ .nil) (.cons (.ret (.and (.cons Vf _))) .nil))))⟩:=rfl
 rw[La,hb]
 have nn:hd h++cY g=names h g:=rfl
 have g2:getD (j5 h g ks X) (.int 2)=some X:=by simp[j5]
 have t1':pg.fn _ 3 [.val (j5 h g ks X),.val _,.val _]=.ok _ [.val _,.val _,.val _]:=aQ (n+5) [.tup (hd h),.tup (aP (cY g) ks),X] 3 3 (by simp) (by simp)
 have t3':pg.fn _ 13 [.val (j5 h g ks X)]=.ok (.new (.lst (names h g))) [.val _]:=f9 (n+5) (hd h) (cY g) ks X (by rw[O.kl,lg]) (by have:=O.h2;have:=O.g5;omega)
 simp[t1',Aa (n+4) O X,t3',e1,my (n+5) (.inr rfl) T Nd,e2,g2,t5]
def Jm n(O:cX h g ks ls):pg.fn (n+7) 1 [.val (aR h g ks ls)]=.ok (.val (.bl true)) [.val (aR h g ks ls)]:=
 Nh n O _ true (wj _ ls (names h g).length (by rw[gP O.h2 O.g5,O.ll]))
def DP n(O:cX h g ks ls):pg.fn (n+8) 0 [.val (aR h g ks ls)]=.ok (.val (aR h g ks ls)) [.val (aR h g ks ls)]:=by
 rw[Ii]
 simp[pJ,Jm n O]
end
end Tx
end
section
open PySem Mini
namespace Tx
theorem goD(τ:Int->Ev){cond elt:Ev->Out Rv}(P:D->D->Prop)(all:Bool):∀(xs acc:List D)(k:Int)(s:Sl),0<=k->gK s->
  (∀x∈xs,∀k,0<=k->∃b k',0<=k'/\(all=true->b=true)/\cond (.val x::τ k)=.ok (.val (.bl b)) (.val x::τ k'))->
  (∀x∈xs,∀k,0<=k->∃y k',0<=k'/\P x y/\elt (.val x::τ k)=.ok (.val y) (.val x::τ k'))->
  ∃(zs:List (D×D))(k':Int)(s':Sl),(zs.map (·.1)).Sublist xs/\(all=true->zs.map (·.1)=xs)/\(∀p∈zs,P p.1 p.2)/\0<=k'/\aN (.name 0) cond elt xs acc (s::τ k)=.ok (acc++zs.map (·.2)) (s'::τ k')
 |[]=>fun acc k s hk _ _ _=>⟨[],k,s,List.Sublist.refl _,fun _=>rfl,fun p h=>(by cases h),hk,by simp[aN]⟩
 |x::xs=>fun acc k s hk hs hc he=>by
  obtain⟨b,k1,a1,a2,a3⟩:=hc x QYz k hk
  rw[aN,vp hs]
  simp only[a3,fK]
  cases b with
  |true=>
   obtain⟨y,k2,b1,b2,b3⟩:=he x QYz k1 a1
   obtain⟨zs,k',s',c1,c2,c3,c4,c5⟩:=goD τ P all xs _ k2 _ b1 (.inr ⟨_,rfl⟩) (fun z hz=>hc z (QYq _ hz)) fun z hz=>he z (QYq _ hz)
   refine⟨(x,y)::zs,k',s',c1.cons_cons x,fun h=>by simp[c2 h],fun p hp=>?_,c4,?_⟩
   ·rcases QBz.mp hp with rfl|hp
    ·exact b2
    ·exact c3 p hp
   ·rw[if_pos rfl,b3,cC,c5]
    simp
  |false=>
   obtain⟨zs,k',s',c1,c2,c3,c4,c5⟩:=goD τ P all xs acc k1 _ a1 (.inr ⟨_,rfl⟩) (fun z hz=>hc z (QYq _ hz)) fun z hz=>he z (QYq _ hz)
   exact⟨zs,k',s',c1.cons x,fun h=>by simpa using a2 h,c3,c4,by rw[if_neg (by simp),c5]⟩
def O6{σ:Ev}{r:Rv}{xs:List D}(τ:Int->Ev)(P:D->D->Prop)(all:Bool)(hk:0<=k)(hi:ev c it σ=.ok r (τ k))(hr:r.kI=some d)(hd:items d=some xs)
  (hc:∀x∈xs,∀k,0<=k->∃b k',0<=k'/\(all=true->b=true)/\ev c co (.val x::τ k)=.ok (.val (.bl b)) (.val x::τ k'))
  (he:∀x∈xs,∀k,0<=k->∃y k',0<=k'/\P x y/\ev c el (.val x::τ k)=.ok (.val y) (.val x::τ k')):
  ∃(zs:List (D×D))(k':Int),(zs.map (·.1)).Sublist xs/\(all=true->zs.map (·.1)=xs)/\(∀p∈zs,P p.1 p.2)/\0<=k'/\ev c (.comp 1 (.name 0) it co el) σ=.ok (.new (.lst (zs.map (·.2)))) (τ k'):=by
 obtain⟨zs,k',s',a1,a2,a3,a4,a5⟩:=goD τ P all xs [] k .un hk (.inl rfl) hc he
 refine⟨zs,k',a1,a2,a3,a4,?_⟩
 rw[rm,hi]
 have b:∀{β:Type}(g:D->Ev->Out β),(Out.ok r (τ k)).au g=g d (τ k):=fun g=>by cases r<;>simp[Rv.kI]at hr<;>subst hr<;>rfl
 rw[b]
 simp only[hd]
 rw[show List.replicate 1 Sl.un++τ k=.un::τ k from rfl,a5]
 simp
def zJ(m:D×Nat):D:=.tup [m.1,.int m.2]
def iH(st:List (D×Nat)):D:=.tup (st.map zJ)
def aU(os:List D)(sts:List (List (D×Nat))):D:=.tup [.tup os,.tup (sts.map iH)]
structure cL(h g:Nat)(os:List D)(sts:List (List (D×Nat))):Prop where
 ou:os.Sublist (cY g)
 s1:1<=sts.length
 s4:sts.length<=4
 mv:∀st∈sts,(st.map (·.1)).Sublist (hd h++os)/\∀m∈st,m.2<sts.length
def RL:E:=.comp 1 (.name 0) AAh AAp AAf
def Uz:E:=.comp 1 (.name 0) ABt qw (.var 0)
def Xq:E:=(.tup ABH)
def Xr:E:=.comp 1 (.name 0) (.var 8) AAH Xq
def yN:S:=(.cons (.set 8 Uz) (.cons (.append 6 (.bi .tuple Xr)) .nil))
def Wg{zs:List (D×D)}(h:(zs.map (·.1)).Sublist xs)(e:∀p∈zs,p.2=p.1):(zs.map (·.2)).Sublist xs:=by
 rw[show zs.map (·.2)=zs.map (·.1)from List.map_congr_left e];exact h
section
variable(n:Nat)(ns:List Int)(hs os gs:List D)(x:D)(s3 s5 s6 s7 s8:Sl)
def Ks(k:Int)(hk:0<=k)(hl:hs.length+os.length<=900):∃(ys:List D)(k':Int),ys.Sublist (hs++os)/\0<=k'/\
  ev (pg.cf (n+3)) Uz [.val (sc ns),.bor (.lst [.int k]),.val (.tup [.tup hs,.tup gs,x]),s3,.val (.tup os),s5,s6,s7,s8]=.ok (.new (.lst ys)) [.val (sc ns),.bor (.lst [.int k']),.val (.tup [.tup hs,.tup gs,x]),s3,.val (.tup os),s5,s6,s7,s8]:=by
 have f:fits (hs.length+os.length)=true:=by simp[fits];omega
 obtain⟨zs,k',a1,a2,a3,a4,a5⟩:=O6 (it:=ABt) (el:=.var 0) (σ:=[.val (sc ns),.bor (.lst [.int k]),.val (.tup [.tup hs,.tup gs,x]),s3,.val (.tup os),s5,s6,s7,s8]) (fun k=>[.val (sc ns),.bor (.lst [.int k]),.val (.tup [.tup hs,.tup gs,x]),s3,.val (.tup os),s5,s6,s7,s8])
  (fun x y=>y=x) false hk (r:=.val (.tup (hs++os))) (by simp[f]) rfl rfl
  (fun x _ k hk=>by obtain⟨b,e⟩:=yq n ns k hk x [.val _,s3,.val _,s5,s6,s7,s8];exact⟨b,k+1,by omega,by simp,e⟩) fun x _ k hk=>⟨x,k,hk,rfl,by simp⟩
 exact⟨_,k',Wg a1 a3,a4,a5⟩
theorem R8(k:Int)(hk:0<=k)(ys:List D)(many:Nat)(h1:1<=many)(net:D)(s4:Sl):∃(st:List (D×Nat))(k':Int),st.map (·.1)=ys/\(∀m∈st,m.2<many)/\0<=k'/\
  ev (pg.cf (n+3)) Xr [.val (sc ns),.bor (.lst [.int k]),.val net,s3,s4,.val (.int many),s6,s7,.own (.lst ys)]=.ok (.new (.lst (st.map zJ))) [.val (sc ns),.bor (.lst [.int k']),.val net,s3,s4,.val (.int many),s6,s7,.val (.lst ys)]:=by
 obtain⟨zs,k',a1,a2,a3,a4,a5⟩:=O6 (c:=pg.cf (n+3)) (it:=.var 8) (co:=.con (.bl true)) (el:=Xq) (σ:=[.val (sc ns),.bor (.lst [.int k]),.val net,s3,s4,.val (.int many),s6,s7,.own (.lst ys)]) (fun k=>[.val (sc ns),.bor (.lst [.int k]),.val net,s3,s4,.val (.int many),s6,s7,.val (.lst ys)])
  (fun x y=>∃j:Nat,j<many/\y=zJ (x,j)) true hk (r:=.val (.lst ys)) (by simp) rfl rfl
  (fun x _ k hk=>⟨true,k,hk,fun _=>rfl,by simp⟩) fun x _ k hk=>by
   obtain⟨q,q1,q2,e⟩:=bw n ns k many hk (by omega)
   obtain⟨j,rfl⟩:∃j:Nat,q=j:=⟨q.toNat,by omega⟩
   exact⟨_,k+1,by omega,⟨j,by omega,rfl⟩,by simp[Xq,e,bj,zJ]⟩
 have pick:∀(zs:List (D×D)),(∀p∈zs,∃j:Nat,j<many/\p.2=zJ (p.1,j))->∃st:List _,st.map (·.1)=zs.map (·.1)/\(∀m∈st,m.2<many)/\st.map zJ=zs.map (·.2):=by
  intro zs
  induction zs with
  |nil=>exact fun _=>⟨[],rfl,fun m h=>(by cases h),rfl⟩
  |cons z zs ih=>
   intro h
   obtain⟨j,j1,j2⟩:=h z QYz
   obtain⟨st,b1,b2,b3⟩:=ih fun p hp=>h p (QYq _ hp)
   refine⟨(z.1,j)::st,by simp[b1],fun m hm=>?_,by simp[b3,j2]⟩
   rcases QBz.mp hm with rfl|hm
   ·exact j1
   ·exact b2 m hm
 obtain⟨st,b1,b2,b3⟩:=pick zs a3
 exact⟨st,k',by rw[b1,a2 rfl],b2,a4,by rw[b3];exact a5⟩
def Hx(k:Int)(hk:0<=k)(hl:hs.length+os.length<=900)(many:Nat)(h1:1<=many)(acc:List D)(ha:acc.length<=1000)(h8:gK s8):∃(st:List (D×Nat))(k':Int)(s':Sl),(st.map (·.1)).Sublist (hs++os)/\(∀m∈st,m.2<many)/\0<=k'/\gK s'/\
  ex (pg.cf (n+3)) yN [.val (sc ns),.bor (.lst [.int k]),.val (.tup [.tup hs,.tup gs,x]),s3,.val (.tup os),.val (.int many),.own (.lst acc),s7,s8]=.next [.val (sc ns),.bor (.lst [.int k']),.val (.tup [.tup hs,.tup gs,x]),s3,.val (.tup os),.val (.int many),.own (.lst (acc++[iH st])),s7,s']:=by
 obtain⟨ys,k1,a1,a2,a3⟩:=Ks n ns hs os gs x s3 (.val (.int many)) (.own (.lst acc)) s7 s8 k hk hl
 obtain⟨st,k',b1,b2,b3,b4⟩:=R8 n ns s3 (.own (.lst acc)) s7 k1 a2 ys many h1 (.tup [.tup hs,.tup gs,x]) (.val (.tup os))
 have f:fits (acc.length+1)=true:=by simp[fits];omega
 have q:Xr.aB=none:=rfl
 refine⟨st,k',.val (.lst ys),by rw[b1];exact a1,b2,b3,.inr ⟨_,rfl⟩,?_⟩
 rcases h8 with rfl|⟨e,rfl⟩<;>simp[yN,a3,b4,ig,Iu,f,q,iH]
theorem vd(hl:hs.length+os.length<=900)(many:Nat)(h1:1<=many):∀(xs:List D)(acc:List (List (D×Nat)))(k:Int)(s7 s8:Sl),0<=k->gK s7->gK s8->acc.length+xs.length<=1000->∃(sts:List (List (D×Nat)))(k':Int)(t7 t8:Sl),sts.length=xs.length/\(∀st∈sts,(st.map (·.1)).Sublist (hs++os)/\∀m∈st,m.2<many)/\0<=k'/\
  eY (.name 7) (ex (pg.cf (n+3)) yN) xs [.val (sc ns),.bor (.lst [.int k]),.val (.tup [.tup hs,.tup gs,x]),s3,.val (.tup os),.val (.int many),.own (.lst (acc.map iH)),s7,s8]=.next [.val (sc ns),.bor (.lst [.int k']),.val (.tup [.tup hs,.tup gs,x]),s3,.val (.tup os),.val (.int many),.own (.lst ((acc++sts).map iH)),t7,t8]
 |[]=>fun acc k s7 s8 hk _ _ _=>⟨[],k,s7,s8,rfl,fun st h=>(by cases h),hk,by simp[eY]⟩
 |y::xs=>fun acc k s7 s8 hk h7 h8 hx=>by
  simp only[QAz]at hx
  obtain⟨st,k1,s',a1,a2,a3,a4,a5⟩:=Hx n ns hs os gs x s3 _ s8 k hk hl many h1 (acc.map iH) (by simp;omega) h8
  obtain⟨sts,k',t7,t8,b1,b2,b3,b4⟩:=vd hl many h1 xs (acc++[st]) k1 _ s' a3 (.inr ⟨_,rfl⟩) a4 (by simp;omega)
  refine⟨st::sts,k',t7,t8,by simp[b1],fun q hq=>?_,b3,?_⟩
  ·rcases QBz.mp hq with rfl|hq
   ·exact⟨a1,a2⟩
   ·exact b2 q hq
  ·rw[eY]
   have st1:eE (.name 7) y [.val (sc ns),.bor (.lst [.int k]),.val (.tup [.tup hs,.tup gs,x]),s3,.val (.tup os),.val (.int many),.own (.lst (acc.map iH)),s7,s8]=some [.val (sc ns),.bor (.lst [.int k]),.val (.tup [.tup hs,.tup gs,x]),s3,.val (.tup os),.val (.int many),.own (.lst (acc.map iH)),.val y,s8]:=by
    rcases h7 with rfl|⟨e,rfl⟩<;>simp[eE]
   rw[st1]
   simp only
   rw[a5,oN]
   rw[show acc.map iH++[iH st]=(acc++[st]).map iH by simp,b4]
   simp
end
theorem lE:∀(m:Nat)(lo:Int),(cV lo m).length=m
 |0=>fun _=>rfl
 |m+1=>fun lo=>by simp[cV,lE m]
def RK(n:Nat)(ns:List Int)(k:Int)(hk:0<=k)(hs gs ks:List D)(x:D)(hl:ks.length=gs.length)(s3 s4 s5 s6 s7 s8:Sl):∃(os:List D)(k':Int),os.Sublist gs/\0<=k'/\
  ev (pg.cf (n+3)) RL [.val (sc ns),.bor (.lst [.int k]),.val (.tup [.tup hs,.tup (aP gs ks),x]),s3,s4,s5,s6,s7,s8]=.ok (.new (.lst os)) [.val (sc ns),.bor (.lst [.int k']),.val (.tup [.tup hs,.tup (aP gs ks),x]),s3,s4,s5,s6,s7,s8]:=by
 obtain⟨zs,k',a1,a2,a3,a4,a5⟩:=O6 (c:=pg.cf (n+3)) (it:=AAh) (co:=AAp) (el:=AAf) (σ:=[.val (sc ns),.bor (.lst [.int k]),.val (.tup [.tup hs,.tup (aP gs ks),x]),s3,s4,s5,s6,s7,s8]) (fun k=>[.val (sc ns),.bor (.lst [.int k]),.val (.tup [.tup hs,.tup (aP gs ks),x]),s3,s4,s5,s6,s7,s8])
  (fun x y=>y=uT x) false hk (r:=.val (.tup (aP gs ks))) (by simp) rfl rfl
  (fun x _ k hk=>by
   obtain⟨q,_,_,e⟩:=bw n ns k 3 hk (by omega)
   exact⟨decide (0<q),k+1,by omega,by simp,by simp[e]⟩) fun x hx k hk=>by
   rw[dM]at hx
   obtain⟨p,_,rfl⟩:=QCz.mp hx
   exact⟨_,k,hk,rfl,by simp[pairD,uT]⟩
 refine⟨_,k',?_,a4,a5⟩
 have:=a1.map uT
 rw[wO gs ks hl]at this
 rw[show zs.map (·.2)=(zs.map (·.1)).map uT by rw[List.map_map];exact List.map_congr_left a3]
 exact this
def QG(n:Nat)(ns:List Int)(k:Int)(hk:0<=k){ks:List D}(O:cX h g ks ls):∃os sts k',cL h g os sts/\0<=k'/\
  pg.fn (n+4) 34 [.val (sc ns),.bor (.lst [.int k]),.val (aR h g ks ls),.val (.int 4)]=.ok (.val (aU os sts)) [.val (sc ns),.bor (.lst [.int k']),.val (aR h g ks ls),.val (.int 4)]:=by
 have lg:=fB O.g5
 have lh:=iM O.h2
 obtain⟨os,k1,a1,a2,a3⟩:=RK n ns k hk (hd h) (cY g) ks _ (by rw[O.kl,lg]) _ .un .un .un .un .un
 obtain⟨q,q1,q2,eq⟩:=bw n ns k1 4 a2 (by omega)
 obtain⟨m,rfl⟩:∃m:Nat,q=m:=⟨q.toNat,by omega⟩
 have lo:=a1.length_le
 have:=O.h2
 have:=O.g5
 obtain⟨sts,k',t7,t8,b1,b2,b3,b4⟩:=vd n ns (hd h) os _ _ _ (by omega) (1+m) (by omega) (cV 0 (1+m)) [] (k1+1) .un .un (by omega) (.inl rfl) (.inl rfl) (by simp[lE];omega)
 rw[lE]at b1
 refine⟨os,sts,k',⟨a1,by omega,by omega,fun st hst=>?_⟩,b3,?_⟩
 ·rw[b1];exact b2 st hst
 ·have hb:mY=⟨4,9,.cons (.set 4 (.bi .tuple RL)) (.cons _ (.cons _ (.cons (.for_ _ _ yN) _)))⟩:=rfl
  rw[BZ,hb]
  have q0:RL.aB=none:=rfl
  have fm:fits (1+m)=true:=by simp[fits];omega
  have md:Gd (1+m)=true:=by simp[Gd];omega
  have tn:(1+(m:Int)).toNat=1+m:=by omega
  have b4':eY (.name 7) (ex (pg.cf (n+3)) yN) (cV 0 (1+m)) [.val (sc ns),.bor (.lst [.int (k1+1)]),.val (aR h g ks ls),.val (.int 4),.val (.tup os),.val (.int (1+m)),.own (.lst []),.un,.un]=.next [.val (sc ns),.bor (.lst [.int k']),.val (aR h g ks ls),.val (.int 4),.val (.tup os),.val (.int (1+m)),.own (.lst (sts.map iH)),t7,t8]:=by simpa[aR]using b4
  have a3':ev _ RL [.val _,.bor _,.val (aR h g ks ls),.val (.int 4),.un,.un,.un,.un,.un]=.ok _ [.val _,.bor _,.val (aR h g ks ls),.val _,.un,.un,.un,.un,.un]:=a3
  simp[a3',q0,eq,bj,fm,md,tn,b4',items,aU]
end Tx
end
section
open PySem Mini
namespace Tx
def Gr:E:=(.comp 1 (.name 0) (.var 2) AAH qw)
def MT n ns k(hk:0<=k)xs s3 s4:∃(bs:List Bool)(k':Int),bs.length=xs.length/\0<=k'/\
  ev (pg.cf (n+3)) Gr [.val (sc ns),.bor (.lst [.int k]),.own (.lst xs),s3,s4]=.ok (.new (.lst (bs.map .bl))) [.val (sc ns),.bor (.lst [.int k']),.val (.lst xs),s3,s4]:=by
 obtain⟨bs,k',s',a1,a2,a3,a4⟩:=tY n ns [.val _,s3,s4] xs [] k .un hk (.inl rfl)
 refine⟨bs,k',a1,a2,?_⟩
 have h:ev (pg.cf (n+3)) (.var 2) [.val (sc ns),.bor (.lst [.int k]),.own (.lst xs),s3,s4]=.ok (.val (.lst xs)) [.val (sc ns),.bor (.lst [.int k]),.val (.lst xs),s3,s4]:=by simp
 unfold Gr
 rw[rm,h,cC]
 simp only[items]
 rw[show List.replicate 1 Sl.un++[.val _,.bor _,.val _,s3,s4]=.un:: .val _:: .bor _::[.val _,s3,s4]from rfl,a4]
 simp
def UL:S:=AAd
def rk(a b:String):D:=.tup [.str "held",.tup [.str "same",.str a],.str b,.bl false]
def zc:Nat->List D
 |3=>[rk "rr" "q",rk "p" "rr",rk "q" "p"]
 |4=>[rk "go" "q",rk "p" "rr",rk "q" "go",rk "rr" "p"]
 |_=>[rk "abcdef" "q",rk "p" "rr",rk "q" "go",rk "rr" "abcdef",rk "go" "p"]
def HY c s0 s1 g(hg:g=3\/g=4\/g=5):∃s4,eY (.name 4) (ex c UL) (cV 0 g) [s0,s1,.own (.lst (cY g)),.own (.lst []),.un]=.next [s0,s1,.own (.lst (cY g)),.own (.lst (aP (cY g) (zc g))),s4]:=by
 refine⟨.val (.int (g-1)),?_⟩
 rcases hg with rfl|rfl|rfl
 all_goals
  try rfl
def BR g(hg:g=3\/g=4\/g=5):∀d∈zc g,bQ (hd 0++cY g) 1 d:=by
 intro d h
 rcases hg with rfl|rfl|rfl<;>simp only[zc,QBz,QAq,or_false]at h<;>rcases h with rfl|rfl|rfl|rfl|rfl<;>exact .held (.same (by simp[hd,cY])) (by simp[hd,cY])
def Rh n ns k(hk:0<=k):∃g ks ls k',cX 0 g ks ls/\3<=g/\0<=k'/\pg.fn (n+4) 35 [.val (sc ns),.bor (.lst [.int k])]=.ok (.val (aR 0 g ks ls)) [.val (sc ns),.bor (.lst [.int k'])]:=by
 obtain⟨r,r1,r2,er⟩:=bw n ns k 3 hk (by omega)
 obtain⟨g,hg,hr⟩:∃g:Nat,(g=3\/g=4\/g=5)/\3+r=g:=⟨(3+r).toNat,by omega,by omega⟩
 have lg:(cY g).length=g:=fB (by omega)
 obtain⟨s4,a⟩:=HY (pg.cf (n+3)) (.val (sc ns)) (.bor (.lst [.int (k+1)])) g hg
 obtain⟨bs,k',b1,b2,b3⟩:=MT n ns (k+1) (by omega) (cY g) (.own (.lst (aP (cY g) (zc g)))) s4
 refine⟨g,zc g,bs,k',⟨by omega,by omega,by omega,?_,BR g hg,by omega⟩,by omega,b2,?_⟩
 ·rcases hg with rfl|rfl|rfl<;>rfl
 ·have hb:m7=⟨2,5,(.cons _ (.cons _ (.cons (.for_ _ _ UL) (.cons (.ret (.tup (.cons _ (.cons _ (.cons (.bi .tuple Gr) .nil))))) .nil))))⟩:=rfl
  rw[Cd,hb]
  have sl:jX (.lst [.str "p",.str "q",.str "rr",.str "go",.str "abcdef"]) none (some g)=some (.new (.lst (cY g))):=by
   rcases hg with rfl|rfl|rfl<;>rfl
  have fg:fits g=true:=by simp[fits];omega
  have md:Gd g=true:=by simp[Gd];omega
  have q:Gr.aB=none:=rfl
  simp[er,hr,sl,bj,fj,E.nD,lg,fg,md,items,a,b3,q,aR,hd]
def pD:S:=(.cons (.set 7 AAb) AAg)
def TQ xs b:at? (xs++[b]) (-1)=some b:=by
 unfold at? ix?
 have e:(-1+((xs.length:Int)+1)).toNat=xs.length:=by omega
 have e2:(0:Int)<= -1+(xs.length+1):=by omega
 have e3: -1+((xs.length:Int)+1)<xs.length+1:=by omega
 simp[e,e2,e3]
def DR n ns k(hk:0<=k)s2 s7(h7:gK s7)a x ls l acc(hl:ls.length<=1000)(ha:acc.length<=1000):
  ∃(w:Str)(b:Bool)(t7:Sl),(w="same"\/w="not")/\gK t7/\ex (pg.cf (n+3)) pD [.val (sc ns),.bor (.lst [.int k]),s2,.val a,.own (.lst ((ls++[l]).map .bl)),.own (.lst acc),.val x,s7]
   =.next [.val (sc ns),.bor (.lst [.int (k+1)]),s2,.val x,.own (.lst ((ls++[l]++[b]).map .bl)),.own (.lst (acc++[.tup [x,.tup [.str w,a]]])),.val x,t7]:=by
 obtain⟨r,r1,r2,er⟩:=bw n ns k 2 hk (by omega)
 have fa:fits (acc.length+1)=true:=by simp[fits];omega
 have fb:fits (ls.length+1+1)=true:=by simp[fits];omega
 have al:at? (ls.map D.bl++[.bl l]) (-1)=some _:=TQ _ _
 rcases (by omega:r=0\/r=1)with rfl|rfl
 ·refine⟨"same",l==true,.val (.int 0),.inl rfl,.inr ⟨_,rfl⟩,?_⟩
  rcases h7 with rfl|⟨e,rfl⟩<;>simp[pD,er,bj,fa,fb,ig,Iu,al]
 ·refine⟨"not",l==false,.val (.int 1),.inr rfl,.inr ⟨_,rfl⟩,?_⟩
  rcases h7 with rfl|⟨e,rfl⟩<;>simp[pD,er,bj,fa,fb,ig,Iu,al]
theorem uh(n:Nat)(ns:List Int)(s2:Sl):∀(xs acc:List D)(k:Int)(s6 s7:Sl)(a:D)(ls:List Bool)(l:Bool),0<=k->gK s6->gK s7->ls.length+xs.length<=1000->acc.length+xs.length<=1000->
  ∃(ks:List D)(bs:List Bool)(k':Int)(t3 t6 t7:Sl),ks.length=xs.length/\bs.length=xs.length/\0<=k'/\(∀d∈ks,∃y∈a::xs,d=.tup [.str "same",y]\/d=.tup [.str "not",y])/\
   eY (.name 6) (ex (pg.cf (n+3)) pD) xs [.val (sc ns),.bor (.lst [.int k]),s2,.val a,.own (.lst ((ls++[l]).map .bl)),.own (.lst acc),s6,s7]=.next [.val (sc ns),.bor (.lst [.int k']),s2,t3,.own (.lst ((ls++[l]++bs).map .bl)),.own (.lst (acc++aP xs ks)),t6,t7]
 |[]=>fun acc k s6 s7 a ls l hk _ _ _ _=>⟨[],[],k,.val a,s6,s7,rfl,rfl,hk,fun d h=>(by cases h),by simp[eY,aP]⟩
 |x::xs=>fun acc k s6 s7 a ls l hk h6 h7 hl ha=>by
  simp only[QAz]at hl ha
  obtain⟨w,b,t,a1,a2,a3⟩:=DR n ns k hk s2 s7 h7 a x ls l acc (by omega) (by omega)
  obtain⟨ks,bs,k',t3,t6,t7,b1,b2,b3,b4,b5⟩:=uh n ns s2 xs (acc++[.tup [x,.tup [.str w,a]]]) (k+1) (.val x) t x (ls++[l]) b (by omega) (.inr ⟨_,rfl⟩) a2 (by simp;omega) (by simp;omega)
  refine⟨.tup [.str w,a]::ks,b::bs,k',t3,t6,t7,by simp[b1],by simp[b2],b3,fun d hd=>?_,?_⟩
  ·rcases QBz.mp hd with rfl|hd
   ·exact⟨a,QYz,by rcases a1 with rfl|rfl<;>simp⟩
   ·obtain⟨y,hy,e⟩:=b4 d hd
    exact⟨y,QYq _ hy,e⟩
  ·have st:eE (.name 6) x [.val (sc ns),.bor (.lst [.int k]),s2,.val a,.own (.lst ((ls++[l]).map .bl)),.own (.lst acc),s6,s7]=some [.val (sc ns),.bor (.lst [.int k]),s2,.val a,.own (.lst ((ls++[l]).map .bl)),.own (.lst acc),.val x,s7]:=by
    rcases h6 with rfl|⟨e,rfl⟩<;>simp[eE]
   rw[eY,st]
   simp only
   rw[a3,oN,b5]
   simp[aP]
def agp(d:D):Prop:=∃h g ks ls os sts,cX h g ks ls/\cL h g os sts/\d=.tup [aR h g ks ls,aU os sts]
def Ph n ns k(hk:0<=k):∃h g ks ls os sts k',cX h g ks ls/\cL h g os sts/\0<=k'/\pg.fn (n+4) 36 [.val (sc ns),.bor (.lst [.int k])]=.ok (.val (.tup [aR h g ks ls,aU os sts])) [.val (sc ns),.bor (.lst [.int k'])]:=by
 obtain⟨r,r1,r2,er⟩:=bw n ns k 4 hk (by omega)
 obtain⟨g,hg,hr⟩:∃g:Nat,(g=1\/g=2\/g=3\/g=4)/\1+r=g:=⟨(1+r).toNat,by omega,by omega⟩
 have lg:(cY g).length=g:=fB (by omega)
 obtain⟨q,q1,q2,eq⟩:=bw n ns (k+1) 2 (by omega) (by omega)
 obtain⟨ks,bs,k',t3,t6,t7,b1,b2,b3,b4,b5⟩:=uh n ns _ (cY g) [] (k+1+1) .un .un _ [] _ (by omega) (.inl rfl) (.inl rfl) (by simp;omega) (by simp;omega)
 obtain⟨z,z1,z2⟩:∃z,at? (cY g) (-1)=some z/\z∈cY g:=by
  rcases hg with rfl|rfl|rfl|rfl
  ·exact⟨.str "p",rfl,by simp[cY]⟩
  ·exact⟨.str "q",rfl,by simp[cY]⟩
  ·exact⟨.str "rr",rfl,by simp[cY]⟩
  ·exact⟨.str "go",rfl,by simp[cY]⟩
 refine⟨1,g,ks,(q==1)::bs,[z],[[(.str "a",1)],[(z,0)]],k',⟨by omega,by omega,by omega,by omega,fun d dm=>?_,by simp[b2,lg];omega⟩,⟨by simpa using z2,by simp,by simp,fun st h=>?_⟩,b3,?_⟩
 ·obtain⟨y,hy,e⟩:=b4 d dm
  have hy':y∈hd 1++cY g:=by simpa[hd]using hy
  rcases e with rfl|rfl
  ·exact .same hy'
  ·exact .not hy'
 ·simp only[QBz,QAq,or_false]at h
  rcases h with rfl|rfl<;>simp[hd]
 ·have hb:kZ=⟨2,8,(.cons _ (.cons _ (.cons _ (.cons _ (.cons (.for_ _ _ pD) _)))))⟩:=rfl
  rw[zp,hb]
  have sl:jX (.lst [.str "p",.str "q",.str "rr",.str "go"]) none (some g)=some (.new (.lst (cY g))):=by
   rcases hg with rfl|rfl|rfl|rfl<;>rfl
  have b5':eY (.name 6) (ex (pg.cf (n+3)) pD) (cY g) [.val (sc ns),.bor (.lst [.int (k+1+1)]),.val (.lst (cY g)),.val (.str "a"),.own (.lst [.bl (q==1)]),.own (.lst []),.un,.un]=.next [.val (sc ns),.bor (.lst [.int k']),.val (.lst (cY g)),t3,.own (.lst (.bl (q==1)::bs.map .bl)),.own (.lst (aP (cY g) ks)),t6,t7]:=by simpa using b5
  simp[er,hr,eq,sl,bj,fj,E.nD,items,b5',z1,aR,aU,iH,zJ,hd]
end Tx
end
section
open PySem Mini
namespace Tx
def oR:S->S
 |.cons _ t=>t
 |s=>s
def hdS:S->S
 |.cons t _=>t
 |s=>s
def zN:S:=oR (oR (oR aH.body))
def I9 n ns k(hk:0<=k):∃(kd:D)(s2:Sl),(∀g,bQ (hd 2++cY g) 1 kd)/\
  ex (pg.cf (n+3)) aH.body [.val (sc ns),.bor (.lst [.int k]),.un,.un,.un,.un,.un,.un]=ex (pg.cf (n+3)) zN [.val (sc ns),.bor (.lst [.int (k+1)]),s2,.val kd,.un,.un,.un,.un]:=by
 obtain⟨r,r1,r2,er⟩:=bw n ns k 6 hk (by omega)
 have hb:aH.body=.cons (hdS aH.body) (.cons (hdS (oR aH.body)) (.cons (hdS (oR (oR aH.body))) zN)):=rfl
 have sb:∀g,([.str "a",.str "b"]:List D).Sublist (hd 2++cY g):=fun g=>List.sublist_append_left _ _
 have at6:=nu
 have hh:∀g,bQ (hd 2++cY g) 1 (.tup [.str "held",.tup [.str "same",.str "a"],.str "b",.bl true]):=fun g=>.held (.same (by simp[hd])) (by simp[hd])
 rcases (by omega:r=0\/r=1\/r=2\/r=3\/r=4\/r=5)with rfl|rfl|rfl|rfl|rfl|rfl
 ·refine⟨.tup [.str "both",.tup [.str "a",.str "b"]],.val (.int 0),fun g=>.both (sb g) (by simp) (by simp),?_⟩
  rw[hb];simp[aH,hdS,oR,er,bj,at?,ix?]
 ·refine⟨.tup [.str "both",.tup [.str "a",.str "b"]],.val (.int 1),fun g=>.both (sb g) (by simp) (by simp),?_⟩
  rw[hb];simp[aH,hdS,oR,er,bj,at?,ix?]
 ·refine⟨.tup [.str "and",.tup [.str "a",.str "b"]],.val (.int 2),fun g=>.and (sb g) (by simp) (by simp),?_⟩
  rw[hb];simp[aH,hdS,oR,er,bj,at?,ix?]
 ·refine⟨.tup [.str "or",.tup [.str "a",.str "b"]],.val (.int 3),fun g=>.or (sb g) (by simp) (by simp),?_⟩
  rw[hb];simp[aH,hdS,oR,er,bj,at?,ix?]
 ·refine⟨_,.val (.int 4),hh,?_⟩
  rw[hb];simp[aH,hdS,oR,er,bj,at?,ix?]
 ·refine⟨_,.val (.int 5),hh,?_⟩
  rw[hb];simp[aH,hdS,oR,er,bj,at?,ix?]
def fD:List (List (D×Nat)):=[[(.str "a",1),(.str "b",2)],[(.str "b",3)],[(.str "a",3)],[(.str "p",0)]]
def o5 g(h1:1<=g):cL 2 g [.str "p"] fD:=by
 refine⟨?_,by simp[fD],by simp[fD],fun st h=>?_⟩
 ·obtain⟨j,rfl⟩:∃j,g=j+1:=⟨g-1,by omega⟩
  simp[cY]
 ·simp only[fD,QBz,QAq,or_false]at h
  rcases h with rfl|rfl|rfl|rfl<;>simp[hd,fD]
def CK n ns k(hk:0<=k):∃h g ks ls os sts k',cX h g ks ls/\cL h g os sts/\0<=k'/\pg.fn (n+4) 37 [.val (sc ns),.bor (.lst [.int k])]=.ok (.val (.tup [aR h g ks ls,aU os sts])) [.val (sc ns),.bor (.lst [.int k'])]:=by
 obtain⟨kd,s2,a1,a2⟩:=I9 n ns k hk
 obtain⟨q,q1,q2,eq⟩:=bw n ns (k+1) 2 (by omega) (by omega)
 rcases (by omega:q=0\/q=1)with rfl|rfl
 ·obtain⟨z,z1,z2,ez⟩:=bw n ns (k+1+1) 2 (by omega) (by omega)
  refine⟨2,1,[kd],[z==1,z==1,z==1],[.str "p"],fD,k+1+1+1,⟨by omega,by omega,by omega,rfl,fun d h=>?_,rfl⟩,o5 1 (by omega),by omega,?_⟩
  ·cases QDq.mp h;exact a1 1
  ·rw[iI,a2]
   simp[zN,aH,oR,eq,ez,bj,aR,hd,cY,aP,aU,iH,zJ,fD]
 ·obtain⟨w,w1,w2,ew⟩:=bw n ns (k+1+1) 2 (by omega) (by omega)
  obtain⟨z,z1,z2,ez⟩:=bw n ns (k+1+1+1) 2 (by omega) (by omega)
  rcases (by omega:w=0\/w=1)with rfl|rfl
  ·refine⟨2,2,[kd,.tup [.str "same",.str "p"]],[z==1,z==1,z==1,z==1],[.str "p"],fD,k+1+1+1+1,⟨by omega,by omega,by omega,rfl,fun d h=>?_,rfl⟩,o5 2 (by omega),by omega,?_⟩
   ·simp only[QBz,QAq,or_false]at h
    rcases h with rfl|rfl
    ·exact a1 2
    ·exact .same (by simp[hd,cY])
   ·rw[iI,a2]
    simp[zN,aH,oR,eq,ew,ez,bj,aR,hd,cY,aP,aU,iH,zJ,fD,ig,Iu]
  ·refine⟨2,2,[kd,.tup [.str "not",.str "p"]],[z==1,z==1,z==1, !(z==1)],[.str "p"],fD,k+1+1+1+1,⟨by omega,by omega,by omega,rfl,fun d h=>?_,rfl⟩,o5 2 (by omega),by omega,?_⟩
   ·simp only[QBz,QAq,or_false]at h
    rcases h with rfl|rfl
    ·exact a1 2
    ·exact .not (by simp[hd,cY])
   ·rw[iI,a2]
    simp[zN,aH,oR,eq,ew,ez,bj,aR,hd,cY,aP,aU,iH,zJ,fD,ig,Iu]
end Tx
end
section
open PySem Mini
namespace Tx
theorem Eo:∀(gs ks:List D)(i:Nat)(x d:D),gs[i]? =some x->ks.length=gs.length->(aP gs ks).set i (.tup [x,d])=aP gs (ks.set i d)
 |[],_,_=>fun _ _ h _=>by simp at h
 |g::gs,[],_=>fun _ _ _ h=>by simp at h
 |g::gs,k::ks,0=>fun x d h _=>by simp at h;subst h;simp[aP]
 |g::gs,k::ks,i+1=>fun x d h hl=>by simp[aP,Eo gs ks i x d (by simpa using h) (by simpa using hl)]
theorem zip_get:∀(gs ks:List D)(i:Nat),i<gs.length->ks.length=gs.length->∃x d,(aP gs ks)[i]? =some (.tup [x,d])/\gs[i]? =some x
 |[],_,_=>fun h _=>by simp at h
 |g::gs,[],_=>fun _ h=>by simp at h
 |g::gs,k::ks,0=>fun _ _=>⟨g,k,by simp[aP],rfl⟩
 |g::gs,k::ks,i+1=>fun h hl=>by
  obtain⟨x,d,a,b⟩:=zip_get gs ks i (by simpa using h) (by simpa using hl)
  exact⟨x,d,by simp[aP,a],by simpa using b⟩
def HB n ns k(hk:0<=k){ks:List D}(O:cX h g ks ls):∃ks' k',cX h g ks' ls/\0<=k'/\
  pg.fn (n+8) 38 [.val (sc ns),.bor (.lst [.int k]),.val (aR h g ks ls)]=.ok (.val (aR h g ks' ls)) [.val (sc ns),.bor (.lst [.int k']),.val (aR h g ks ls)]:=by
 have lg:=fB O.g5
 have lh:=iM O.h2
 have h2:=O.h2
 have g1:=O.g1
 have g5:=O.g5
 have kl:=O.kl
 have lz:(aP (cY g) ks).length=g:=by rw[Ep (by rw[lg,kl]),lg]
 obtain⟨q,q1,q2,eq⟩:=bw (n+4) ns k g hk (by omega)
 obtain⟨i,rfl⟩:∃i:Nat,q=i:=⟨q.toNat,by omega⟩
 obtain⟨d,k',a1,a2,a3⟩:=xT ns (hd h++cY g) (by simp;omega) (by simp;omega) 1 n (k+1) (by omega)
 simp only[Int.natCast_one,show n+6+1=n+7 from rfl]at a3
 obtain⟨x,y,b1,b2⟩:=zip_get (cY g) ks i (by omega) (by omega)
 refine⟨ks.set i d,k',⟨h2,g1,g5,by simp[kl],fun e he=>?_,O.ll⟩,a2,?_⟩
 ·rcases List.mem_or_eq_of_mem_set he with he|rfl
  ·exact O.kk e he
  ·exact a1
 ·have hb:di=⟨3,6,.cons (.set 3 (.op .add _ (.bi .tuple (Ae _)))) _⟩:=rfl
  have f:fits ((hd h).length+(cY g).length)=true:=by simp[fits];omega
  have i1:at? (aP (cY g) ks) i=some (.tup [x,y]):=by rw[nu _ _ (by omega),b1]
  have i2:ix? g i=some i:=by simp[ix?];omega
  have q0:∀it,(Ae it).aB=none:=fun _=>rfl
  have n0:getD (aR h g ks ls) (.int 0)=some (.tup (hd h)):=by simp[aR]
  have n1:getD (aR h g ks ls) (.int 1)=some (.tup (aP (cY g) ks)):=by simp[aR]
  have n2:getD (aR h g ks ls) (.int 2)=some (.tup (ls.map .bl)):=by simp[aR]
  rw[nM,hb]
  simp[di,oR,tX (c:=pg.cf (n+7)) (it:=.idx (.var 2) AAG) (σ:=[.val (sc ns),.bor (.lst [.int k]),.val (aR h g ks ls),.un,.un,.un]) (cY g) ks (by omega) (by simp[aR]),q0,f,n0,n1,n2,lz,eq,a3,i1,i2,Ck,Eo _ ks i x d b2 (by omega),bj]
  simp[aR]
def vL h g:cL h g [] [[]]:=⟨by simp,by simp,by simp,fun st h=>by cases QDq.mp h;simp⟩
def WR g(h3:3<=g):cL 0 g [.str "q"] [[(.str "q",1)],[(.str "q",0)]]:=by
 refine⟨?_,by simp,by simp,fun st h=>?_⟩
 ·obtain⟨j,rfl⟩:∃j,g=j+2:=⟨g-2,by omega⟩
  simp[cY]
 ·simp only[QBz,QAq,or_false]at h
  rcases h with rfl|rfl<;>simp[hd]
def wF:S:=oR (oR (oR (oR (oR bG.body))))
def An:S:=oR wF
def Tv n ns k(hk:0<=k):∃h g ks ls os sts,cX h g ks ls/\cL h g os sts/\pg.fn (n+9) 39 [.val (sc ns),.val (.int k)]=.ok (.val (.tup [aR h g ks ls,aU os sts])) [.val (sc ns),.val (.int k)]:=by
 obtain⟨r,r1,r2,er⟩:=bw (n+5) ns k 8 hk (by omega)
 by_cases c2:r<2
 ·obtain⟨h,g,ks,ls,k1,O,a1,a2⟩:=Mr n ns (k+1) (by omega) 2 (by omega) (by omega)
  obtain⟨os,sts,k2,T,b1,b2⟩:=QG (n+4) ns k1 a1 O
  exact⟨h,g,ks,ls,os,sts,O,T,by rw[eU];simp[bG,er,c2,a2,b2,bj]⟩
 have c2b:=c2
 by_cases c3:r=2
 ·subst c3
  obtain⟨h,g,ks,ls,k1,O,a1,a2⟩:=Mr n ns (k+1) (by omega) 0 (by omega) (by omega)
  exact⟨h,g,ks,ls,[],[[]],O,vL h g,by rw[eU];simp[bG,er,a2,bj,aU,iH]⟩
 by_cases c4:r=3
 ·subst c4
  obtain⟨g,ks,ls,k1,O,g3,a1,a2⟩:=Rh (n+4) ns (k+1) (by omega)
  obtain⟨q,q1,q2,eq⟩:=bw (n+5) ns k1 2 a1 (by omega)
  rcases (by omega:q=1\/q=0)with rfl|rfl
  ·exact⟨0,g,ks,ls,[],[[]],O,vL 0 g,by rw[eU];simp[bG,er,a2,eq,bj,aU,iH]⟩
  ·exact⟨0,g,ks,ls,_,_,O,WR g g3,by rw[eU];simp[bG,er,a2,eq,bj,aU,iH,zJ]⟩
 have e2:(r==2)=false:=by simpa using c3
 have e3:(r==3)=false:=by simpa using c4
 have main:∃h g ks ls os sts k1,cX h g ks ls/\cL h g os sts/\0<=k1/\ex (pg.cf (n+8)) bG.body [.val (sc ns),.val (.int k),.un,.un,.un,.un]=ex (pg.cf (n+8)) An [.val (sc ns),.val (.int k),.own (.lst [.int k1]),.val (.int r),.val (aR h g ks ls),.val (aU os sts)]:=by
  have hb:bG.body=.cons _ (.cons _ (.cons _ (.cons _ (.cons _ (.cons _ An))))):=rfl
  by_cases c6:r<6
  ·obtain⟨h,g,ks,ls,os,sts,k1,O,T,a1,a2⟩:=Ph (n+4) ns (k+1) (by omega)
   refine⟨h,g,ks,ls,os,sts,k1,O,T,a1,?_⟩
   rw[hb]
   simp[bG,hdS,oR,wF,er,c2,e2,e3,c3,c4,c6,a2,bj,eE,mC,fP]
  ·obtain⟨h,g,ks,ls,os,sts,k1,O,T,a1,a2⟩:=CK (n+4) ns (k+1) (by omega)
   refine⟨h,g,ks,ls,os,sts,k1,O,T,a1,?_⟩
   rw[hb]
   simp[bG,hdS,oR,wF,er,c2,e2,e3,c3,c4,c6,a2,bj,eE,mC,fP]
 obtain⟨h,g,ks,ls,os,sts,k1,O,T,a1,a2⟩:=main
 by_cases c7:r%2=1
 ·obtain⟨q,q1,q2,eq⟩:=bw (n+5) ns k1 2 a1 (by omega)
  rcases (by omega:q=1\/q=0)with rfl|rfl
  ·obtain⟨ks',k2,O',b1,b2⟩:=HB n ns (k1+1) (by omega) O
   refine⟨h,g,ks',ls,os,sts,O',T,?_⟩
   rw[eU,a2]
   simp[An,wF,bG,oR,c7,eq,b2,bj]
  ·refine⟨h,g,ks,ls,os,sts,O,T,?_⟩
   rw[eU,a2]
   simp[An,wF,bG,oR,c7,eq,bj]
 ·refine⟨h,g,ks,ls,os,sts,O,T,?_⟩
  have c8:r%2=0:=by omega
  rw[eU,a2]
  simp[An,wF,bG,oR,c8,bj]
end Tx
end
section
open PySem Mini
namespace Tx
def Vd:E:=.bi .all ACL
def Mz:E:=.bi .all AAw
def YC:E:=.comp 1 (.name 0) (.var 0) AAH AAf
def z6 n(h:dB xs)(nd:xs.Nodup)st(N:Nat)(hs:(st.map (·.1)).Sublist xs)(hn:∀m∈st,m.2<N):
  pg.fn (n+3) 19 [.val (iH st),.val (.tup xs),.val (.int N)]=.ok (.val (.bl true)) [.val (iH st),.val (.tup xs),.val (.int N)]:=by
 have ll:=hs.length_le
 have e1:ev (pg.cf (n+2)) Vd [.val (iH st),.val (.tup xs),.val (.int N)]=.ok (.val (.bl true)) [.val (iH st),.val (.tup xs),.val (.int N)]:=by
  refine all1 (r:=.val (iH st)) (by simp) rfl rfl fun x hx=>?_
  obtain⟨m,_,rfl⟩:=QCz.mp hx
  simp[zJ,aQ (n+1) [m.1,.int m.2] 2 2 (by simp) (by simp)]
 have e2:ev (pg.cf (n+2)) Mz [.val (iH st),.val (.tup xs),.val (.int N)]=.ok (.val (.bl true)) [.val (iH st),.val (.tup xs),.val (.int N)]:=by
  refine all1 (r:=.val (iH st)) (by simp) rfl rfl fun x hx=>?_
  obtain⟨m,hm,rfl⟩:=QCz.mp hx
  have t:pg.fn (n+2) 4 [.val (.int m.2),.val (.int 0),.val (.int (N-1))]=.ok (.val (.bl true)) [.val (.int m.2),.val (.int 0),.val (.int (N-1))]:=by
   rw[pW]
   have:=Int.le_sub_one_of_lt (Int.ofNat_lt.mpr (hn m hm))
   simp[iG,ad0,this]
  simp[zJ,t]
 have e3:ev (pg.cf (n+2)) YC [.val (iH st),.val (.tup xs),.val (.int N)]=.ok (.new (.lst (st.map (·.1)))) [.val (iH st),.val (.tup xs),.val (.int N)]:=by
  have:=qu (c:=pg.cf (n+2)) (it:=.var 0) (σ:=[.val (iH st),.val (.tup xs),.val (.int N)]) (el:=.idx (.var 0) AAL) uT (r:=.val (iH st)) (by simp;rfl) rfl rfl fun y hy=>by
   obtain⟨m,_,rfl⟩:=QCz.mp hy
   simp[zJ,uT]
  rw[List.map_map]at this
  exact this
 have hb:m9=⟨3,3,(.cons (.ite (.or (.cons _ (.cons (.not Vd) .nil))) _ .nil) (.cons (.ite (.not (.call 9 (.cons (.bi .tuple YC) _))) _ .nil) (.cons (.ret Mz) .nil)))⟩:=rfl
 rw[Cg,hb]
 have q1:YC.aB=none:=rfl
 have q2:Mz.aB=none:=rfl
 have t1':pg.fn _ 3 [.val (iH st),.val _,.val _]=.ok _ [.val _,.val _,.val _]:=aQ (n+1) (st.map zJ) 0 xs.length (by omega) (by simpa using ll)
 simp[t1',e1,e3,q1,dU n (.inl rfl) h nd hs 0 xs.length (by omega) (by simpa using ll),e2,q2]
def gl8:pg.gl 8=some (.int 12):=rfl
def wX:E:=.bi .all AAq
section
variable{os:List D}
def cL.sub(T:cL h g os sts):(hd h++os).Sublist (names h g):=(List.Sublist.refl _).append T.ou
def KR:(cY g).Sublist (names h g):=List.sublist_append_right _ _
def CZ n(O:cX h g ks ls)(T:cL h g os sts):pg.fn (n+4) 18 [.val (aR h g ks ls),.val (aU os sts)]=.ok (.val (.bl true)) [.val (aR h g ks ls),.val (aU os sts)]:=by
 have lg:=fB O.g5
 have lh:=iM O.h2
 have h2:=O.h2
 have g5:=O.g5
 have s1:=T.s1
 have s4:=T.s4
 have lo:=T.ou.length_le
 have X:=bR h g
 have Nd:=names_nodup O.h2 O.g1 O.g5
 have t1:pg.fn _ 3 [.val (aU os sts),.val _,.val _]=.ok _ [.val _,.val _,.val _]:=aQ (n+2) [.tup os,.tup _] 2 2 (by simp) (by simp)
 have hb:pH=⟨2,4,(.cons _ (.cons (.set 2 (Ae _)) (.cons _ (.cons _ (.cons (.ret wX) .nil)))))⟩:=rfl
 have q:wX.aB=none:=rfl
 have f:fits ((hd h).length+os.length)=true:=by simp[fits];omega
 have n0:getD (aR h g ks ls) (.int 0)=some (.tup (hd h)):=by simp[aR]
 have m0:getD (aU os sts) (.int 0)=some (.tup os):=by simp[aU]
 have m1:getD (aU os sts) (.int 1)=some (.tup (sts.map iH)):=by simp[aU]
 have e':ev (pg.cf (n+3)) wX [.val (aR h g ks ls),.val (aU os sts),.val (.lst (cY g)),.val (.tup (hd h++os))]=.ok (.val (.bl true)) [.val (aR h g ks ls),.val (aU os sts),.val (.lst (cY g)),.val (.tup (hd h++os))]:=by
  refine all1 (r:=.val (.tup (sts.map iH))) (by simp[aU]) rfl rfl fun x hx=>?_
  obtain⟨st,hst,rfl⟩:=QCz.mp hx
  simp[aU,z6 n (fun x hx=>X x (T.sub.subset hx)) (T.sub.nodup Nd) st sts.length (T.mv st hst).1 (T.mv st hst).2]
 rw[Ie,hb]
 simp[t1,tX (c:=pg.cf (n+3)) (it:=.idx (.var 0) AAG) (σ:=[.val (aR h g ks ls),.val (aU os sts),.un,.un]) (cY g) ks (by rw[O.kl,lg]) (by simp[aR]),m0,m1,n0,lg,dU (n+1) (.inr rfl) (fun x hx=>X x (KR.subset hx)) (KR.nodup Nd) T.ou 0 g (by omega) (by omega),aQ (n+2) (sts.map iH) 1 12 (by simp;omega) (by simp;omega),gl8,f,e',q]
def qH n(O:cX h g ks ls)(T:cL h g os sts):pg.fn (n+9) 17 [.val (aR h g ks ls),.val (aU os sts)]=.ok (.val (aU os sts)) [.val (aR h g ks ls),.val (aU os sts)]:=by
 rw[sy]
 simp[ir,DP n O,CZ (n+4) O T]
end
end Tx
end
section
open PySem Mini
namespace Tx
def lk(x:D):List (D×Nat)->Option Nat
 |[]=>none
 |m::st=>if gH m.1 x then some m.2 else lk x st
abbrev jx(st:List (D×Nat)):List D:=st.map (·.1)
abbrev uG(st:List (D×Nat)):List D:=st.map fun m=>.int m.2
def dcD(st:List (D×Nat)):D:=.dq (jx st) (uG st)
theorem Gi x:∀st,dH x (jx st) (uG st)=(lk x st).map fun j:Nat=>D.int j
 |[]=>rfl
 |m::st=>by
  simp only[Qyq,dH,lk]
  split
  ·rfl
  ·exact Gi x st
theorem Gj x:∀st,cF x (jx st)=(lk x st).isSome
 |[]=>rfl
 |m::st=>by
  simp only[Qyq,cF,lk,Gj x st]
  cases gH m.1 x<;>simp
theorem jB:∀(st:List (D×Nat))(ks vs:List D),dB (ks++jx st)->(ks++jx st).Nodup->dictOf ks vs (st.map zJ)=some (ks++jx st,vs++uG st)
 |[]=>fun ks vs _ _=>by simp[dictOf]
 |m::st=>fun ks vs h nd=>by
  obtain⟨s,e⟩:=h m.1 (by simp)
  have no:cF m.1 ks=false:=by
   rw[e]
   have hn:=fun hm=>by
    rw[show jx _=m.1::jx st from rfl,List.nodup_append]at nd
    exact nd.2.2 _ hm _ QYz rfl
   rw[e]at hn
   have hk:=fun x hx=>h x (QWz _ hx)
   clear nd h
   induction ks with
   |nil=>rfl
   |cons y ys ih=>
    obtain⟨q,rfl⟩:=hk y QYz
    have ne:¬q=s:=fun c=>hn (by rw[c];exact QYz)
    simp[cF,gH,ne,ih (fun c=>hn (QYq _ c)) fun x hx=>hk x (QYq _ hx)]
  have r:=jB st (ks++[m.1]) (vs++[.int m.2]) (by simpa using h) (by simpa using nd)
  rw[Qyq,show zJ m=.tup [m.1,.int m.2]from rfl,dictOf,if_pos (by rw[e];rfl)]
  simp only[putD,no]
  rw[if_neg (by simp),r]
  simp
def dO(sts:List (List (D×Nat)))(i:Nat):List (D×Nat):=sts.getD i []
end Tx
end
section
open PySem Mini
namespace Tx
def tU{xs:List D}(h:dB xs)(hn:D.str s∉xs):cF (.str s) xs=false:=by
 induction xs with
 |nil=>rfl
 |cons x xs ih=>
  obtain⟨q,rfl⟩:=h x QYz
  have ne:q≠s:=fun e=>hn (by rw[e];exact QYz)
  simp[cF,gH,ne,ih (fun z hz=>h z (QYq _ hz)) fun hz=>hn (QYq _ hz)]
theorem GX:∀(xs ys ks vs:List D),ys.length=xs.length->dB xs->dB ks->(ks++xs).Nodup->dictOf ks vs (aP xs ys)=some (ks++xs,vs++ys)
 |[],ys=>fun ks vs hl _ _ _=>by
  have:ys=[]:=by cases ys<;>simp_all
  subst this
  simp[aP,dictOf]
 |x::xs,[]=>fun ks vs hl _ _ _=>by simp at hl
 |x::xs,y::ys=>fun ks vs hl h hk nd=>by
  obtain⟨s,rfl⟩:=h x QYz
  have hn:=fun z=>by
   have:=List.nodup_append.mp nd
   exact this.2.2 _ z _ QYz rfl
  have ih:=GX xs ys (ks++[.str s]) (vs++[y]) (by simpa using hl) (fun z hz=>h z (QYq _ hz)) (fun z hz=>by
   rcases QXz.mp hz with hz|hz
   ·exact hk z hz
   ·simp at hz;exact⟨s,hz⟩) (by simpa using nd)
  simp only[aP,dictOf,keyOk,if_true,putD,tU hk hn,Qyz,if_false]
  rw[ih]
  simp
def Aj(hl:ys.length=xs.length)(h:dB xs)(nd:xs.Nodup):dictOf [] [] (aP xs ys)=some (xs,ys):=by
 have:=GX xs ys [] [] hl h (fun z hz=>by cases hz) (by simpa using nd)
 simpa using this
def gF(xs:List D)(bs:List Bool)(x:D):Bool:=match dH x xs (bs.map .bl)with
 |some (.bl b)=>b
 |_=>false
theorem vW{x:D}:∀{xs:List D}{bs:List Bool},dB xs->bs.length=xs.length->x∈xs->dH x xs (bs.map .bl)=some (.bl (gF xs bs x))
 |[],_=>fun _ _ hx=>by cases hx
 |y::ys,[]=>fun _ hl _=>by simp at hl
 |y::ys,b::bs=>fun h hl hx=>by
  obtain⟨q,rfl⟩:=h x hx
  obtain⟨s,rfl⟩:=h y QYz
  by_cases e:s=q
  ·subst e
   simp[gF,dH,gH]
  ·have hx':D.str q∈ys:=by
    rcases QBz.mp hx with z|z
    ·cases z;exact absurd rfl e
    ·exact z
   have l:dH (.str q) (.str s::ys) ((b::bs).map .bl)=dH (.str q) ys (bs.map .bl):=by simp[dH,gH,e]
   have v:gF (.str s::ys) (b::bs) (.str q)=gF ys bs (.str q):=by
    unfold gF
    rw[l]
   rw[l,v]
   exact vW (fun z hz=>h z (QYq _ hz)) (by simpa using hl) hx'
def kj{xs:List D}(h:dB xs)(hl:bs.length=xs.length)(hx:x∈xs):getD (.dq xs (bs.map .bl)) x=some (.bl (gF xs bs x)):=by
 have e:=vW h hl hx
 obtain⟨q,rfl⟩:=h x hx
 exact e
def vM(bs:List Bool):mU (bs.map D.bl)=true:=by
 induction bs with
 |nil=>rfl
 |cons b bs ih=>simp[mU,nd,ih]
def Ds(bs:List Bool):lY (bs.map D.bl)=0:=by
 induction bs with
 |nil=>rfl
 |cons b bs ih=>simp[lY,dep,ih]
def Mt(rs:List (List Bool)):mU (rs.map aO)=true:=by
 induction rs with
 |nil=>rfl
 |cons r rs ih=>simp[mU,nd,aO,vM,ih]
def Nf(bs:List Bool)(rs:List (List Bool)):∃b,aK .isin (.tup (bs.map .bl)) (.tup (rs.map aO))=some b:=by
 have o:jQ (.tup (bs.map .bl)) (rs.map aO)=true:=by
  simp[jQ,nd,dep,vM,Ds,Mt]
 refine⟨cF (.tup (bs.map .bl)) (rs.map aO),?_⟩
 show(if jQ _ _ then some _ else none)=_
 rw[o]
 rfl
end Tx
end
section
open PySem Mini
namespace Tx
def tE:E:=.comp 1 (.name 0) AAc AAH (.idx (.var 3) (.var 0))
noncomputable def pO:Fn:=⟨3,5,(.cons (.set 3 AAf) (.cons (.ite (.cmp .eq (.var 3) ABk) (.cons (.ret ABn) .nil) .nil) (.cons (.ite ACH (.cons (.ret (.not ABn)) .nil) .nil) (.cons (.ite ABP ABW .nil) (.cons (.set 4 (.bi .tuple tE)) (.cons (.ite (.cmp .eq (.var 3) ABX) ACG .nil) (.cons (.ite (.cmp .eq (.var 3) ABb) ABz .nil) (.cons (.ite ABN ABs .nil) AAo))))))))⟩
def jn:Ed=pO:=rfl
section
variable{bs:List Bool}
def Jg n(h:dB xs)(hl:bs.length=xs.length)(hs:ys.Sublist xs)w r s1 s3 s4:
  ev (pg.cf n) tE [.val (.tup (w:: .tup ys::r)),s1,.val (.dq xs (bs.map .bl)),s3,s4]=.ok (.new (.lst ((ys.map (gF xs bs)).map .bl))) [.val (.tup (w:: .tup ys::r)),s1,.val (.dq xs (bs.map .bl)),s3,s4]:=by
 have:=qu (c:=pg.cf n) (it:=.idx (.var 0) AAG) (el:=.idx (.var 3) (.var 0)) (σ:=[.val (.tup (w:: .tup ys::r)),s1,.val (.dq xs (bs.map .bl)),s3,s4]) (fun x=>.bl (gF xs bs x)) (r:=.val (.tup ys)) (τ:=[.val (.tup (w:: .tup ys::r)),s1,.val (.dq xs (bs.map .bl)),s3,s4]) (by simp) rfl rfl fun x hx=>by
  simp[kj h hl (hs.subset hx)]
 rw[tE,this]
 simp
def nY(h:dB xs)(hl:bs.length=xs.length)(hs:ys.Sublist xs)w r:∃row:List Bool,
  ∀(n:Nat)(s1 s3 s4:Sl),ev (pg.cf n) tE [.val (.tup (w:: .tup ys::r)),s1,.val (.dq xs (bs.map .bl)),s3,s4]=.ok (.new (.lst (row.map .bl))) [.val (.tup (w:: .tup ys::r)),s1,.val (.dq xs (bs.map .bl)),s3,s4]:=
 ⟨ys.map _,fun n s1 s3 s4=>Jg n h hl hs w r s1 s3 s4⟩
def Agree(xs:List D)(bs:List Bool)(i:Nat)(d:D)(own b:Bool):Prop:=
 pg.fn i 15 [.val d,.val (.bl own),.val (.dq xs (bs.map .bl))]=.ok (.val (.bl b)) [.val d,.val (.bl own),.val (.dq xs (bs.map .bl))]
def Jh n k:n+1+2*k=n+2*k+1:=Nat.add_right_comm n 1 _
def ae7 n k:n+1+2*(k+1)=n+1+2*k+1+1:=rfl
def J6(h:dB xs)(hl:bs.length=xs.length):∀{k:Nat}{d:D},bQ xs k d->∀own:Bool,∃b,∀n:Nat,Agree xs bs (n+1+2*k) d own b:=by
 intro k d hk
 have q1:tE.aB=none:=rfl
 induction hk with
 | @same k x hx=>
  intro own
  have e:=kj h hl hx
  refine⟨gF xs bs x,fun n=>?_⟩
  rw[Agree,Jh,mO,jn]
  simp[pO,e]
 | @not k x hx=>
  intro own
  have e:=kj h hl hx
  refine⟨!gF xs bs x,fun n=>?_⟩
  rw[Agree,Jh,mO,jn]
  simp[pO,e]
 | @and k ys hs h1 h2=>
  intro own
  obtain⟨row,e1⟩:=nY h hl hs (.str "and") []
  have bb:=jf row
  refine⟨row.all id,fun n=>?_⟩
  rw[Agree,Jh,mO,jn]
  simp[pO,e1,q1,bb]
 | @or k ys hs h1 h2=>
  intro own
  obtain⟨row,e1⟩:=nY h hl hs (.str "or") []
  have bb:=jf row
  refine⟨row.any id,fun n=>?_⟩
  rw[Agree,Jh,mO,jn]
  simp[pO,e1,q1,bb]
 | @both k ys hs h1 h2=>
  intro own
  obtain⟨row,e1⟩:=nY h hl hs (.str "both") []
  have bb:=jf row
  refine⟨row.all id||(own&&row.any id),fun n=>?_⟩
  rw[Agree,Jh,mO,jn]
  cases ha:row.all id<;>cases own<;>simp[pO,e1,q1,bb,ha]
 | @table k ys rs hs h1 h2 hr hi=>
  intro own
  obtain⟨row,e1⟩:=nY h hl hs (.str "table") [.tup (rs.map aO)]
  obtain⟨b,eb⟩:=Nf row rs
  refine⟨b,fun n=>?_⟩
  rw[Agree,Jh,mO,jn]
  simp[pO,e1,q1,eb]
 | @held k d x bb hk hx ih=>
  intro own
  obtain⟨b,i1⟩:=ih own
  have e:=kj h hl hx
  have hh:∀n,pg.fn (n+1+2*k+1) 16 [.val (.tup [.str "held",d,x,.bl bb]),.val (.bl own),.val (.dq xs (bs.map .bl))]=.ok (.val (.bl (if (gF xs bs x==b)==bb then b else own))) [.val (.tup [.str "held",d,x,.bl bb]),.val (.bl own),.val (.dq xs (bs.map .bl))]:=fun n=>by
   have i2:=i1 n
   unfold Agree at i2
   rw[zg]
   cases hc:((gF xs bs x==b)==bb)<;>simp[kJ,i2,e,hc]
  refine⟨if (gF xs bs x==b)==bb then b else own,fun n=>?_⟩
  rw[Agree,ae7,mO,jn]
  simp[pO,hh]
end
end Tx
end
section
open PySem Mini
namespace Tx
section
def JZ:E:=.comp 2 (.tup [0,1]) AAc AAS (.var 0)
theorem JK(O:cX h g ks ls)(hl:bs.length=(names h g).length):∃zs:List D,zs.Sublist (cY g)/\∀n:Nat,
  pg.fn (n+4) 14 [.val (aR h g ks ls),.val (aO bs)]=.ok (.new (.lst zs)) [.val (aR h g ks ls),.val (aO bs)]:=by
 have T:=bR h g
 have Nd:=names_nodup O.h2 O.g1 O.g5
 have lg:=fB O.g5
 have lh:=iM O.h2
 have ag:∀k own,∃b,bQ (names h g) 1 k->∀n,Agree (names h g) bs (n+3) k own b:=fun k own=>by
  by_cases hk:bQ (names h g) 1 k
  ·obtain⟨b,z⟩:=J6 T hl hk own
   exact⟨b,fun _=>z⟩
  ·exact⟨true,fun z=>absurd z hk⟩
 have sk:∃F:D->Bool->Bool,∀k own,bQ (names h g) 1 k->∀n,Agree (names h g) bs (n+3) k own (F k own):=
  ⟨fun k own=>Classical.choose (ag k own),fun k own=>Classical.choose_spec (ag k own)⟩
 obtain⟨F,hF⟩:=sk
 let p:D×D->Bool:=fun x=> !(F x.2 (gF (names h g) bs x.1)==gF (names h g) bs x.1)
 have mem:∀x∈(cY g).zip ks,x.1∈names h g/\bQ (names h g) 1 x.2:=fun x hx=>⟨QVq _ (List.of_mem_zip hx).1,O.kk x.2 (List.of_mem_zip hx).2⟩
 obtain⟨x0,ps,zeq⟩:∃x0 ps,(cY g).zip ks=x0::ps:=by
  cases q:(cY g).zip ks with
  |nil=>
   have:=congrArg List.length q
   rw[List.length_zip,lg,O.kl]at this
   have:=O.g1
   simp at*
   omega
  |cons x ps=>exact⟨x,ps,rfl⟩
 have dz:dictOf [] [] (aP (names h g) (bs.map .bl))=some (names h g,bs.map .bl):=Aj (by simpa using hl) T Nd
 refine⟨(((cY g).zip ks).filter p).map (·.1),?_,fun n=>?_⟩
 ·have s1:((((cY g).zip ks).filter p).map (·.1)).Sublist (((cY g).zip ks).map (·.1)):=(List.filter_sublist).map _
  have s2:((cY g).zip ks).map (·.1)=cY g:=List.map_fst_zip (by rw[lg,O.kl];exact QVz _)
  rw[s2]at s1
  exact s1
 have w1:pg.fn (n+3) 13 [.val (aR h g ks ls)]=.ok (.new (.lst (names h g))) [.val (aR h g ks ls)]:=
  f9 (n+2) (hd h) (cY g) ks (.tup (ls.map .bl)) (by rw[O.kl,lg]) (by have:=O.h2;have:=O.g5;omega)
 have e1:ev (pg.cf (n+3)) JZ [.val (aR h g ks ls),.val (aO bs),.own (.dct (names h g) (bs.map .bl))]=.ok (.new (.lst ((((cY g).zip ks).filter p).map (·.1)))) [.val (aR h g ks ls),.val (aO bs),.val (.dq (names h g) (bs.map .bl))]:=by
  rw[zeq]at mem⊢
  have c0:∀x,x∈x0::ps->∀s:Sl,(s=.own (.dct (names h g) (bs.map .bl))\/s=.val (.dq (names h g) (bs.map .bl)))->ev (pg.cf (n+3)) AAS [.val x.1,.val x.2,.val (aR h g ks ls),.val (aO bs),s]=.ok (.val (.bl (p x))) [.val x.1,.val x.2,.val (aR h g ks ls),.val (aO bs),.val (.dq (names h g) (bs.map .bl))]:=fun x hx s hs=>by
   obtain⟨m1,m2⟩:=mem x hx
   have gl:=kj T hl m1
   have a:=hF x.2 (gF (names h g) bs x.1) m2 n
   unfold Agree at a
   rcases hs with rfl|rfl<;>simp[gl,a,p]
  have it:items (.tup (aP (cY g) ks))=some ((x0::ps).map pairD):=by show some _=some _;rw[dM,zeq]
  exact YW (·.1) p (r:=.val (.tup (aP (cY g) ks))) (by simp[aR]) rfl it (c0 x0 QYz _ (.inl rfl)) (fun x hx=>c0 x (QYq _ hx) _ (.inr rfl)) (fun x _ _=>by simp)
 have hb:gw=⟨2,3,(.cons (.set 2 (.bi .dict ABM)) (.cons (.ret JZ) .nil))⟩:=rfl
 have q:JZ.aB=none:=rfl
 have z:bH (aO bs)=some (bs.map .bl):=rfl
 rw[qx,hb]
 simp[w1,z,dz,e1,q]
end
end Tx
end
section
open PySem Mini
namespace Tx
structure Wt(h g:Nat)(ks:List D)(ls:List Bool)(W:List Bool->List D):Prop where
 sub:∀bs,bs.length=(names h g).length->(W bs).Sublist (cY g)
 pr:∀bs,bs.length=(names h g).length->∀n,pg.fn (n+4) 14 [.val (aR h g ks ls),.val (aO bs)]=.ok (.new (.lst (W bs))) [.val (aR h g ks ls),.val (aO bs)]
def aaj{ks:List D}(O:cX h g ks ls):∃W,Wt h g ks ls W:=by
 have ag:∀bs:List Bool,∃zs:List D,bs.length=(names h g).length->zs.Sublist _/\∀n:Nat,pg.fn _ 14 [.val _,.val _]=.ok _ [.val _,.val _]:=fun bs=>by
  by_cases hl:bs.length=(names h g).length
  ·obtain⟨zs,z⟩:=JK O hl
   exact⟨zs,fun _=>z⟩
  ·exact⟨[],fun z=>absurd z hl⟩
 exact⟨fun bs=>Classical.choose _,fun bs hl=>(Classical.choose_spec (ag bs) hl).1,fun bs hl n=>(Classical.choose_spec (ag bs) hl).2 n⟩
def XX{xs:List D}(h:dB xs):cF (.str s) xs=true↔D.str s∈xs:=by
 constructor
 ·intro z
  by_cases c:D.str s∈xs
  ·exact c
  ·rw[tU h c]at z;cases z
 ·intro z;exact qO z h
abbrev St:=List Bool×Nat
def dN(s:St):D:=.tup [aO s.1,.int s.2]
section
variable{os:List D}{sts:List (List (D×Nat))}
structure Vv(h g:Nat)(sts:List (List (D×Nat)))(s:St):Prop where
 l:s.1.length=(names h g).length
 j:s.2<sts.length
def rG(h:Nat)(sts:List (List (D×Nat)))(W:List Bool->List D)(s:St):List D:=(hd h).filter (fun x=>(lk x (dO sts s.2)).isSome)++W s.1
def xW h:dB (hd h):=fun x hx=>bR h 0 x (QWz _ hx)
def Q4 g:dB (cY g):=fun x hx=>bR 0 g x (QVq _ hx)
def rJ(hj:j<sts.length):dO sts j∈sts:=by simp[dO,hj]
def Bv(hj:j<sts.length):at? (sts.map iH) (j:Int)=some (iH (dO sts j)):=by
 rw[nu _ _ (by simpa using hj)]
 simp[dO,hj]
def rF(Wk:Wt h g ks ls W)(S:Vv h g sts s):(rG h sts W s).Sublist (names h g):=(List.filter_sublist).append (Wk.sub s.1 S.l)
def qK(T:cL h g os sts)(O:cX h g ks ls)(hj:j<sts.length):dB (jx (dO sts j))/\(jx (dO sts j)).Nodup:=by
 have:=(T.mv _ (rJ hj)).1
 exact⟨fun x hx=>bR h g x (T.sub.subset (this.subset hx)),this.nodup (T.sub.nodup (names_nodup O.h2 O.g1 O.g5))⟩
def stC:E:=.comp 1 (.name 0) AAf (.cmp .isin (.var 0) (.var 4)) (.var 0)
def yZ n(O:cX h g ks ls)(T:cL h g os sts)(Wk:Wt h g ks ls W)(S:Vv h g sts s):
  pg.fn (n+5) 21 [.val (aR h g ks ls),.val (aU os sts),.val (dN s)]=.ok (.new (.lst (rG h sts W s))) [.val (aR h g ks ls),.val (aU os sts),.val (dN s)]:=by
 have K:=qK T O S.j
 have d:=jB (dO sts s.2) [] [] (by simpa using K.1) (by simpa using K.2)
 have e:ev (pg.cf (n+4)) stC [.val (aR h g ks ls),.val (aU os sts),.val (dN s),.own (.dct (jx (dO sts s.2)) (uG (dO sts s.2)))]=.ok (.new (.lst ((hd h).filter fun x=>(lk x (dO sts s.2)).isSome))) [.val (aR h g ks ls),.val (aU os sts),.val (dN s),.own (.dct (jx (dO sts s.2)) (uG (dO sts s.2)))]:=by
  have:=O8 (c:=pg.cf (n+4)) (it:=.idx (.var 0) AAL) (co:=.cmp .isin (.var 0) (.var 4)) (el:=.var 0) (σ:=[.val (aR h g ks ls),.val (aU os sts),.val (dN s),.own (.dct (jx (dO sts s.2)) (uG (dO sts s.2)))]) (τ:=[.val (aR h g ks ls),.val (aU os sts),.val (dN s),.own (.dct (jx (dO sts s.2)) (uG (dO sts s.2)))]) (r:=.val (.tup (hd h))) (fun x=>x) (fun x=>(lk x (dO sts s.2)).isSome) (by simp[aR]) rfl rfl (fun x hx=>by
   obtain⟨q,rfl⟩:=xW h x hx
   have:aK .isin (.str q) (.dq (jx (dO sts s.2)) (uG (dO sts s.2)))=some (lk (.str q) (dO sts s.2)).isSome:=by rw[<-Gj];rfl
   simp[this,Ob.d]) (fun x _ _=>by simp)
  rw[List.map_id']at this
  exact this
 have w:=Wk.pr s.1 S.l n
 have t1:getD (aU os sts) (.int 1)=some (.tup (sts.map iH)):=by simp[aU]
 have s0:getD (dN s) (.int 0)=some (aO s.1):=by simp[dN]
 have s1:getD (dN s) (.int 1)=some (.int s.2):=by simp[dN]
 have st:=Bv S.j
 have sl:=(rF Wk S).length_le
 have nl:=gP O.h2 O.g5
 have h2:=O.h2
 have g5:=O.g5
 have f:fits (((hd h).filter fun x=>(lk x (dO sts s.2)).isSome).length+(W s.1).length)=true:=by
  simp only[rG,QTq]at sl
  simp[fits]
  omega
 have hb:mX=⟨3,4,(.cons _ (.cons (.ret (.op .add stC _)) .nil))⟩:=rfl
 rw[BX,hb]
 simp[t1,s0,s1,st,iH,d,e,w,f,rG]
end
end Tx
end
section
open PySem Mini
namespace Tx
section
def km(xs:List D)(bs:List Bool)(x:D):List Bool:=(xs.zip bs).map fun p=>if gH p.1 x then !p.2 else p.2
def Af{bs:List Bool}(hl:bs.length=xs.length)x:(km xs bs x).length=xs.length:=by simp[km,hl]
def chF(x:D)(p:D×D):D:=match p.2 with
 |.bl b=>.bl (if gH p.1 x then !b else b)
 |d=>d
theorem Hh x:∀(xs:List D)(bs:List Bool),(xs.zip (bs.map D.bl)).map (chF x)=(km xs bs x).map .bl
 |[],bs=>by simp[km]
 |_::_,[]=>by simp[km]
 |y::xs,b::bs=>by
  have:=Hh x xs bs
  simp only[km]at this⊢
  simp[chF,this]
def chC:E:=.comp 2 (.tup [0,1]) ABM AAH (.ite ABm (.not (.var 1)) (.var 1))
def DQ n(O:cX h g ks ls)(hl:bs.length=(names h g).length)(hx:∃s,x=.str s):
  pg.fn (n+2) 24 [.val (aR h g ks ls),.val (aO bs),.val x]=.ok (.val (aO (km (names h g) bs x))) [.val (aR h g ks ls),.val (aO bs),.val x]:=by
 obtain⟨q,rfl⟩:=hx
 have w:pg.fn _ 13 [.val (aR h g ks ls)]=.ok (.new (.lst (names h g))) [.val _]:=
  f9 n (hd h) _ ks _ (by rw[O.kl,fB O.g5]) (by rw[iM O.h2,fB O.g5];have:=O.h2;have:=O.g5;omega)
 have e:ev (pg.cf (n+1)) chC [.val (aR h g ks ls),.val (aO bs),.val (.str q)]=.ok (.new (.lst ((km (names h g) bs (.str q)).map .bl))) [.val (aR h g ks ls),.val (aO bs),.val (.str q)]:=by
  have:=O7 (c:=pg.cf (n+1)) (it:=.zip (.call 13 AAX) (.var 1)) (el:=.ite ABm (.not (.var 1)) (.var 1)) (σ:=[.val (aR h g ks ls),.val (aO bs),.val (.str q)]) (τ:=[.val (aR h g ks ls),.val (aO bs),.val (.str q)]) (r:=.val (.lst (aP (names h g) (bs.map .bl)))) (chF _) (by
    have z:bH (aO bs)=some _:=rfl
    simp[w,z]) rfl (by show some _=some _;rw[dM]) (fun p hp=>by
    obtain⟨u,eu⟩:=bR h g p.1 (List.of_mem_zip hp).1
    obtain⟨b,_,eb⟩:=QCz.mp (List.of_mem_zip hp).2
    rw[<-eb,eu]
    have e1:chF (.str q) p=.bl (if decide (u=q)then !b else b):=by
     unfold chF
     rw[<-eb,eu]
     rfl
    rw[e1]
    cases c:decide (u=q)<;>simp[c])
  rw[Hh]at this
  exact this
 have hb:pK=⟨3,3,(.cons (.ret (.bi .tuple chC)) .nil)⟩:=rfl
 have qv:chC.aB=none:=rfl
 rw[Ij,hb]
 simp[e,qv]
 rfl
end
end Tx
end
section
open PySem Mini
namespace Tx
section
variable{os:List D}
def Nb{xs:List D}(t:dB xs):aK .isin (.str q) (.lst xs)=some (cF (.str q) xs)/\aK .isin (.str q) (.tup xs)=some (cF (.str q) xs)/\aK .notin (.str q) (.tup xs)=some (!cF (.str q) xs):=by
 have o:jQ (.str q) xs=true:=by unfold jQ;rw[pB t];rfl
 refine⟨?_,?_,?_⟩
 ·show(if jQ _ xs then some _ else none)=_;rw[o];rfl
 ·show(if jQ _ xs then some _ else none)=_;rw[o];rfl
 ·show(if jQ _ xs then some _ else none)=_;rw[o];rfl
def Nu(O:cX h g ks ls)(hx:x∈hd h):x∉cY g:=fun hs=>by
 have nd:=names_nodup O.h2 O.g1 O.g5
 rw[names,List.nodup_append]at nd
 exact nd.2.2 _ hx _ hs rfl
theorem Xw{x:D}:∀{st:List (D×Nat)},dB (jx st)->(∃s,x=.str s)->((lk x st).isSome=true↔x∈jx st)
 |[],_,_=>by simp[lk]
 |m::st,t,⟨s,hs⟩=>by
  subst hs
  rw[<-Gj,XX t]
def CV(h g:Nat)(os:List D)(sts:List (List (D×Nat)))(s:St)(x:D):Option St:=
 if cF x (hd h)||cF x os then(lk x (dO sts s.2)).map fun j=>(km (names h g) s.1 x,j)else some (km (names h g) s.1 x,s.2)
def uO:Option St->D
 |none=>.non
 |some s=>dN s
def sdE(a:List Bool)(j:Nat):D.tup [aO a,.int j]=dN (a,j):=rfl
def xH(T:cL h g os sts):dB os:=fun x hx=>Q4 g x (T.ou.subset hx)
theorem Ve{x:D}{N:Nat}:∀{st:List (D×Nat)},(∀m∈st,m.2<N)->∀{j:Nat},lk x st=some j->j<N
 |[],_,_,e=>by cases e
 |m::st,hm,j,e=>by
  simp only[lk]at e
  split at e
  ·cases e;exact hm m QYz
  ·exact Ve (fun q hq=>hm q (QYq _ hq)) e
def Xx(T:cL h g os sts)(S:Vv h g sts s)(e:CV h g os sts s x=some s'):Vv h g sts s':=by
 unfold CV at e
 split at e
 ·obtain⟨j,hj,rfl⟩:=QJz.mp e
  exact⟨Af S.l x,Ve (T.mv _ (rJ S.j)).2 hj⟩
 ·cases e
  exact⟨Af S.l x,S.j⟩
def Bk n(O:cX h g ks ls)(T:cL h g os sts)(S:Vv h g sts s)q:
  pg.fn (n+1) 22 [.val (aU os sts),.val (dN s),.val (.str q)]=.ok (.val (.bl (cF (.str q) os&& !(lk (.str q) (dO sts s.2)).isSome))) [.val (aU os sts),.val (dN s),.val (.str q)]:=by
 have K:=qK T O S.j
 have t0:getD (aU os sts) (.int 0)=some (.tup os):=by simp[aU]
 have t1:getD (aU os sts) (.int 1)=some (.tup (sts.map iH)):=by simp[aU]
 have s1:getD (dN s) (.int 1)=some (.int s.2):=by simp[dN]
 have i:=(Nb (q:=q) (xH T)).2.1
 have i2:aK .notin (.str q) (.dq (jx (dO sts s.2)) (uG (dO sts s.2)))=some (!(lk (.str q) (dO sts s.2)).isSome):=by rw[<-Gj];rfl
 rw[xj]
 cases c:cF _ os<;>rw[c]at i<;>simp[jG,t0,i,t1,s1,Bv S.j,iH,jB _ [] [] (by simpa using K.1) (by simpa using K.2),Ob.d,i2]
def Su(O:cX h g ks ls)(T:cL h g os sts)(Wk:Wt h g ks ls W)(S:Vv h g sts s)(hx:D.str q∈rG h sts W s):(cF (.str q) os&& !(lk (.str q) (dO sts s.2)).isSome)=true/\CV h g os sts s (.str q)=none\/(cF (.str q) os&& !(lk (.str q) (dO sts s.2)).isSome)=false/\CV h g os sts s (.str q)=some (km (names h g) s.1 (.str q),(lk (.str q) (dO sts s.2)).getD s.2):=by
 unfold CV
 rcases QXz.mp hx with z|z
 ·obtain⟨z1,z2⟩:=List.mem_filter.mp z
  rw[tU (xH T) fun w=>Nu O z1 (T.ou.subset w),qO z1 (xW h)]
  obtain⟨j,hj⟩:=Option.isSome_iff_exists.mp z2
  rw[hj]
  exact .inr ⟨rfl,rfl⟩
 ·have zr:=(Wk.sub s.1 S.l).subset z
  rw[tU (xW h) fun w=>Nu O w zr]
  cases ho:cF _ os with
  |true=>
   cases hj:lk _ _ with
   |none=>exact .inl ⟨rfl,rfl⟩
   |some j=>exact .inr ⟨rfl,rfl⟩
  |false=>
   have hn:lk (.str q) (dO sts s.2)=none:=by
    cases hj:lk _ _ with
    |none=>rfl
    |some j=>
     rcases QXz.mp ((T.mv _ (rJ S.j)).1.subset ((Xw (qK T O S.j).1 ⟨q,rfl⟩).mp (by rw[hj];rfl)))with w|w
     ·exact absurd zr (Nu O w)
     ·rw[qO w (xH T)]at ho;cases ho
   rw[hn]
   exact .inr ⟨rfl,rfl⟩
def Jf n(O:cX h g ks ls)(T:cL h g os sts)(Wk:Wt h g ks ls W)(S:Vv h g sts s)(hx:x∈rG h sts W s):
  pg.fn (n+3) 23 [.val (aR h g ks ls),.val (aU os sts),.val (dN s),.val x]=.ok (.val (uO (CV h g os sts s x))) [.val (aR h g ks ls),.val (aU os sts),.val (dN s),.val x]:=by
 have K:=qK T O S.j
 obtain⟨q,rfl⟩:=bR h g x ((rF Wk S).subset hx)
 have u:=Bk (n+1) O T S q
 have t1:getD (aU os sts) (.int 1)=some (.tup (sts.map iH)):=by simp[aU]
 have s0:getD (dN s) (.int 0)=some (aO s.1):=by simp[dN]
 have s1:getD (dN s) (.int 1)=some (.int s.2):=by simp[dN]
 have gt:qg (.dq (jx (dO sts s.2)) (uG (dO sts s.2))) (.str q) (.int s.2)=some (.int ((lk (.str q) (dO sts s.2)).getD s.2)):=by
  show(if keyOk (.str q)then some _ else none)=_
  rw[Gi]
  cases lk _ _<;>rfl
 rw[K8]
 rcases (Su O T Wk S hx)with ⟨k1,k2⟩|⟨k1,k2⟩
 ·rw[k1]at u
  rw[k2]
  simp[oH,u,uO]
 ·rw[k1]at u
  rw[k2]
  simp[oH,u,t1,s0,s1,Bv S.j,iH,jB _ [] [] (by simpa using K.1) (by simpa using K.2),Ob.d,DQ n O S.l ⟨q,rfl⟩,tR,gt,bj,uO,sdE]
end
end Tx
end
section
open PySem Mini
namespace Tx
structure Cs where
 h:Nat
 g:Nat
 ks:List D
 ls:List Bool
 os:List D
 sts:List (List (D×Nat))
 W:List Bool->List D
namespace Cs
variable(C:Cs)
structure Ok:Prop where
 o:cX C.h C.g C.ks C.ls
 t:cL C.h C.g C.os C.sts
 w:Wt C.h C.g C.ks C.ls C.W
def n:D:=aR C.h C.g C.ks C.ls
def t:D:=aU C.os C.sts
abbrev nm:List D:=names C.h C.g
abbrev S(s:St):Prop:=Vv C.h C.g C.sts s
def st(s:St):List D:=rG C.h C.sts C.W s
def led(s:St)(x:D):Option St:=CV C.h C.g C.os C.sts s x
end Cs
section
variable{C:Cs}
namespace Cs.Ok
variable(K:C.Ok)
include K
def sub(S:C.S s):(C.st s).Sublist C.nm:=rF K.w S
def V8(S:C.S s):dB (C.st s):=fun x hx=>bR C.h C.g x ((K.sub S).subset hx)
def abL{t:St}(S:C.S s)(e:C.led s x=some t):C.S t:=Xx K.t S e
def bJ m(S:C.S s):pg.fn (m+5) 21 [.val C.n,.val C.t,.val (dN s)]=.ok (.new (.lst (C.st s))) [.val C.n,.val C.t,.val (dN s)]:=yZ m K.o K.t K.w S
def fY m(S:C.S s)(hx:x∈C.st s):pg.fn (m+3) 23 [.val C.n,.val C.t,.val (dN s),.val x]=.ok (.val (uO (C.led s x))) [.val C.n,.val C.t,.val (dN s),.val x]:=Jf m K.o K.t K.w S hx
def checked m:pg.fn (m+9) 17 [.val C.n,.val C.t]=.ok (.val C.t) [.val C.n,.val C.t]:=qH m K.o K.t
end Cs.Ok
def Tw m(ns:List Int)k(hk:0<=k):∃C:Cs,C.Ok/\pg.fn (m+9) 39 [.val (.lst (ns.map .int)),.val (.int k)]=.ok (.val (.tup [C.n,C.t])) [.val (.lst (ns.map .int)),.val (.int k)]:=by
 obtain⟨h,g,ks,ls,os,sts,O,T,e⟩:=Tv m ns k hk
 obtain⟨W,w⟩:=aaj O
 exact⟨⟨h,g,ks,ls,os,sts,W⟩,⟨O,T,w⟩,e⟩
def Mx:getD C.n (.int 2)=some (aO C.ls):=by simp[Cs.n,aR];rfl
end
def sI(ls:List Bool):St:=(ls,0)
def KQ{C:Cs}(K:C.Ok):C.S (sI C.ls):=⟨by rw[gP K.o.h2 K.o.g5];exact K.o.ll,K.t.s1⟩
end Tx
end
section
open PySem Mini
namespace Tx
theorem Gb f:∀n,0<n->fX f n<n
 |0=>fun h=>absurd h (Nat.lt_irrefl 0)
 |n+1=>fun _=>by
  rw[fX]
  split
  ·omega
  ·cases n with
   |zero=>simp[fX]
   |succ n=>have:=Gb f (n+1) (by omega);omega
theorem zM f g(ht:0<t)(h:∀i,g i=f i*t):∀n,fX g n=fX f n
 |0=>rfl
 |n+1=>by
  have e:=zM f g ht h n
  have z:(g n<g (fX f n))↔(f n<f (fX f n)):=by
   rw[h,h]
   exact Int.mul_lt_mul_right ht
  rw[fX,fX,e]
  by_cases c:f n<f (fX f n)
  ·rw[if_pos c,if_pos (z.mpr c)]
  ·rw[if_neg c,if_neg fun q=>c (z.mp q)]
def Fp:D->Str
 |.str x=>x
 |_=>""
def pY(nm:List D)(ss:iV)(tm:Int):iV:=nm.map fun x=>(Fp x,(bZ (Fp x) ss).getD tm)
def mF(t:Int)(ls:iV):iV:=ls.map fun p=>(p.1,p.2*t)
theorem Di t x:∀ls:iV,bZ x (mF t ls)=(bZ x ls).map (· *t)
 |[]=>rfl
 |p::ls=>by
  have:=Di t x ls
  simp only[mF,Qyq,bZ]at this⊢
  split
  ·rfl
  ·exact this
def Ow t ls ss i:iQ (mF t ls) (mF t ss) i=iQ ls ss i*t:=by
 unfold iQ
 rw[show _[i]? =(ss[i]?).map fun p=>(p.1,p.2*t) by simp[mF]]
 cases ss[i]? with
 |none=>simp
 |some p=>
  simp only[Option.map_some,Di]
  cases bZ p.1 ls<;>simp[Int.add_mul]
def FW t nm ss tm:pY nm (mF t ss) (tm*t)=mF t (pY nm ss tm):=by
 simp only[pY,mF,List.map_map]
 refine List.map_congr_left fun x _=>?_
 have:=Di t (Fp x) ss
 simp only[mF]at this
 simp only[Function.comp,this]
 cases bZ _ ss<;>simp
theorem yM(F:D->Int):∀{nm:List D},dB nm->oU nm (nm.map fun x=>.int (F x))=some (nm.map fun x=>(Fp x,F x))
 |[]=>fun _=>rfl
 |x::nm=>fun h=>by
  obtain⟨q,rfl⟩:=h x QYz
  simp[oU,yM F fun y hy=>h y (QYq _ hy),Fp]
theorem Eu x:∀ss:iV,dH (.str x) (uI ss) (Hw ss)=(bZ x ss).map D.int
 |[]=>rfl
 |p::ss=>by
  have:=Eu x ss
  simp only[uI,Hw]at this
  simp only[uI,Hw,Qyq,dH,bZ,gH]
  by_cases c:p.1=x<;>simp[c,this]
theorem ug(F:D->D):∀(xs ks vs:List D),dB (ks++xs)->(ks++xs).Nodup->dictOf ks vs (xs.map fun x=>.tup [x,F x])=some (ks++xs,vs++xs.map F)
 |[]=>fun ks vs _ _=>by simp[dictOf]
 |x::xs=>fun ks vs h nd=>by
  obtain⟨s,e⟩:=h x (by simp)
  have no:cF x ks=false:=by
   rw[e]
   refine tU (fun y hy=>h y (QWz _ hy)) fun hm=>?_
   rw[List.nodup_append]at nd
   exact nd.2.2 _ hm _ QYz e.symm
  have r:=ug F xs (ks++[x]) (vs++[F x]) (by simpa using h) (by simpa using nd)
  have kk:keyOk x=true:=by rw[e];rfl
  rw[Qyq,dictOf,if_pos kk]
  simp only[putD,no]
  rw[if_neg (by simp),r]
  simp
def swC:E:=.comp 1 (.name 0) (.var 0) AAH (.tup AAm)
def Ku n ss t(tx:dB xs)(nd:xs.Nodup):
  pg.fn (n+1) 26 [.val (.lst xs),.bor (.dct (uI ss) (Hw ss)),.val (.int t)]=.ok (.new (.dct xs (xs.map fun x=>.int ((bZ (Fp x) ss).getD t)))) [.val (.lst xs),.bor (.dct (uI ss) (Hw ss)),.val (.int t)]:=by
 have e:=qu (c:=pg.cf n) (it:=.var 0) (el:=.tup AAm) (σ:=[.val (.lst xs),.bor (.dct (uI ss) (Hw ss)),.val (.int t)]) (τ:=[.val (.lst xs),.bor (.dct (uI ss) (Hw ss)),.val (.int t)]) (r:=.val (.lst xs)) (fun x=>.tup [x,.int ((bZ (Fp x) ss).getD t)]) (by simp) rfl rfl (fun x hx=>by
  obtain⟨q,rfl⟩:=tx x hx
  have g:qg (.dq (uI ss) (Hw ss)) (.str q) (.int t)=some (.int ((bZ q ss).getD t)):=by
   show(if keyOk (.str q)then some _ else none)=_
   rw[if_pos (show keyOk _=true from rfl),Eu]
   cases bZ q ss<;>rfl
  simp[bj,g,Fp,Ob.d])
 have e':ev _ swC [.val _,.bor _,.val _]=_:=e
 have d:=ug (fun x=>.int ((bZ (Fp x) ss).getD t)) xs [] [] (by simpa using tx) (by simpa using nd)
 have b:b1 .dict (.lst (xs.map fun x=>.tup [x,.int ((bZ (Fp x) ss).getD t)]))=some (.new (.dct xs (xs.map fun x=>.int ((bZ (Fp x) ss).getD t)))):=by
  show(dictOf [] [] _).map _=_
  rw[d];rfl
 have q:swC.aB=none:=rfl
 have hb:jF=⟨3,3,(.cons (.ret (.bi .dict swC)) .nil)⟩:=rfl
 rw[xg,hb]
 simp[q,e',Ob.d,b]
def vo n ss t(tx_:dB xs)(nd:xs.Nodup):rQ (tx.gf (pg.cf (n+1))) xs ss t=some (pY xs ss t):=by
 have e:rQ (tx.gf (pg.cf (n+1))) xs ss t=Mp (pg.fn _ 26 [.val _,.bor _,.val _]):=rfl
 rw[e,Ku n ss t tx_ nd]
 exact yM _ tx_
end Tx
end
section
open PySem Mini
namespace Tx
structure Ps where
 cs:List (Int×Str)
 o:Option St
 ss:iV
def uF(cs:List (Int×Str)):List D:=cs.map fun p=>.tup [.int p.1,.str p.2]
def Ps.gs(g:Ps):Gs:=⟨uF g.cs,uO g.o,g.ss⟩
def Cs.Uy(C:Cs):Option St->List D
 |some s=>C.st s
 |none=>[]
def Cs.next(C:Cs)(g:Ps)(x:Str):Option St:=g.o.bind fun s=>C.led s (.str x)
def gC(ls ss:iV):Nat:=fX (iQ ls ss) ss.length
def gD(ls ss:iV):Str:=((ss[gC ls ss]?).map (·.1)).getD ""
def Cs.stp(C:Cs)(ls:iV)(g:Ps):Ps:=
 ⟨g.cs++[(iQ ls g.ss (gC ls g.ss),gD ls g.ss)],C.next g (gD ls g.ss),pY (C.Uy (C.next g (gD ls g.ss))) (g.ss.filter fun q=>decide (q.1≠gD ls g.ss)) (iQ ls g.ss (gC ls g.ss))⟩
def Cs.go(C:Cs)(ls:iV)(k:Nat):Nat->Ps->Ps
 |0,g=>g
 |m+1,g=>if !g.ss.isEmpty&&decide (g.cs.length<k)then C.go ls k m (C.stp ls g)else g
def Cs.ini(C:Cs):Ps:=⟨[],some (sI C.ls),pY (C.st (sI C.ls)) [] 0⟩
structure Cs.Pk(C:Cs)(g:Ps):Prop where
 o:∀s,g.o=some s->C.S s
 k:uI g.ss=C.Uy g.o
def Mm(h:dB nm)ss t:uI (pY nm ss t)=nm:=by
 simp only[uI,pY,List.map_map]
 refine(List.map_congr_left fun x hx=>?_).trans (List.map_id nm)
 obtain⟨q,rfl⟩:=h x hx
 rfl
theorem wy{x:Str}{i:Int}:∀{ss:iV},(uI ss).Nodup->(x,i)∈ss->bZ x ss=some i
 |[]=>fun _ h=>by cases h
 |p::ss=>fun nd h=>by
  have nd':D.str p.1∉uI ss/\(uI ss).Nodup:=List.nodup_cons.mp nd
  rcases QBz.mp h with e|e
  ·subst e;simp[bZ]
  ·have ne:¬p.1=x:=fun z=>nd'.1 (by rw[z];exact QCz.mpr ⟨(x,i),e,rfl⟩)
   simp[bZ,ne,wy nd'.2 e]
section
variable{C:Cs}{ls:iV}
def lC(K:C.Ok)(h:∀s,o=some s->C.S s):(C.Uy o).Nodup/\dB (C.Uy o)/\∀x∈C.Uy o,x∈C.nm:=by
 cases o with
 |none=>exact⟨List.nodup_nil,(fun x hx=>by cases hx),(fun x hx=>by cases hx)⟩
 |some s=>exact⟨(K.sub (h s rfl)).nodup (names_nodup K.o.h2 K.o.g1 K.o.g5),K.V8 (h s rfl),fun x hx=>(K.sub (h s rfl)).subset hx⟩
def Ko(K:C.Ok)(P:C.Pk g):C.Pk (C.stp ls g):=by
 have h:∀s,C.next g (gD ls g.ss)=some s->C.S s:=fun s e=>by
  obtain⟨s0,e0,e1⟩:=QJq.mp e
  exact K.abL (P.o s0 e0) e1
 exact⟨h,Mm (lC K h).2.1 _ _⟩
def Vg(K:C.Ok):C.Pk C.ini:=⟨fun s e=>by cases e;exact KQ K,Mm (K.V8 (KQ K)) _ _⟩
def acP(C:Cs)(ls:iV):Prop:=∀x:Str,D.str x∈C.nm->(bZ x ls).isSome=true
def FZ{g:Ps}(ne:g.ss≠[]):∃p,g.ss[gC ls g.ss]? =some p/\p∈g.ss/\gD ls g.ss=p.1:=by
 have l:gC ls g.ss<g.ss.length:=Gb _ _ (List.length_pos_iff.mpr ne)
 have e:=QXq l
 exact⟨_,e,List.getElem_mem l,by rw[gD,e];rfl⟩
def QM n(K:C.Ok)(P:C.Pk g)(hl:acP C ls)(ne:g.ss≠[])(hc:g.cs.length<=1000):jW (tx.gf (pg.cf (n+5))) C.n C.t ls g.gs=some (C.stp ls g).gs:=by
 obtain⟨nd,tx_,sub⟩:=lC K P.o
 rw[<-P.k]at nd tx_ sub
 have ok:okT ls g.ss=true:=by
  unfold okT
  rw[List.all_eq_true]
  intro p hp
  rw[wy nd hp,hl p.1 (sub _ (QCz.mpr ⟨p,hp,rfl⟩))]
  simp
 have f1:fits ((uF g.cs).length+1)=true:=by simp[uF,fits];omega
 obtain⟨p,e,hp,en⟩:=FZ (ls:=ls) ne
 obtain⟨s,hs⟩:∃s,g.o=some s:=by
  cases q:g.o with
  |some s=>exact⟨s,rfl⟩
  |none=>
   have:=P.k
   rw[q]at this
   exact absurd (List.map_eq_nil_iff.mp this) ne
 have S:=P.o s hs
 have hx:D.str p.1∈C.st s:=by
  have:=P.k
  rw[hs]at this
  rw[show C.st s=uI g.ss from this.symm]
  exact QCz.mpr ⟨p,hp,rfl⟩
 have lt:=K.fY (n+2) S hx
 have nx:C.next g (gD ls g.ss)=C.led s (.str p.1):=by rw[en,Cs.next,hs];rfl
 have P':=Ko (ls:=ls) K P
 have sn:=lC K P'.o
 have nm:xO (tx.gf (pg.cf (n+5))) C.n C.t (uO (C.led s (.str p.1)))=some (C.Uy (C.led s (.str p.1))):=by
  cases q:C.led s (.str p.1)with
  |none=>rfl
  |some s'=>
   have e:xO (tx.gf (pg.cf (n+5))) C.n C.t (uO (some s'))=Ja (pg.fn (n+5) 21 [.val C.n,.val C.t,.val (dN s')]):=rfl
   rw[e,K.bJ n (K.abL S q)]
   rfl
 have si:=vo (n+4) (xs:=C.Uy (C.led s (.str p.1))) (g.ss.filter fun q=>decide (q.1≠p.1)) (iQ ls g.ss (gC ls g.ss)) (nx▸sn.2.1) (nx▸sn.1)
 unfold jW
 show(if okT ls g.ss&&fits ((uF g.cs).length+1)then match g.ss[gC ls g.ss]? with|none=>none|some p=>_ else none)=_
 have lt':Bj ((tx.gf (pg.cf (n+5))).led [.val C.n,.val C.t,.val g.gs.sd,.val (.str p.1)])=some (uO (C.led s (.str p.1))):=by
  have e:(tx.gf (pg.cf (n+5))).led [.val C.n,.val C.t,.val g.gs.sd,.val (.str p.1)]=pg.fn (n+5) 23 [.val C.n,.val C.t,.val (uO g.o),.val (.str p.1)]:=rfl
  rw[e,hs]
  show Bj (pg.fn (n+2+3) 23 [.val C.n,.val C.t,.val (dN s),.val (.str p.1)])=_
  rw[lt]
  rfl
 rw[ok,f1,e]
 simp only[lt',nm,QFq,Bool.and_self,if_true]
 have si':rQ (tx.gf (pg.cf (n+5))) (C.Uy (C.led s (.str p.1))) (g.gs.ss.filter fun q=>decide (q.1≠p.1)) (iQ ls g.gs.ss (fX (iQ ls g.gs.ss) g.gs.ss.length))=_:=si
 rw[si']
 have nx2:C.next g p.1=C.led s (.str p.1):=by rw[<-en];exact nx.trans (by rw[en])
 simp only[Option.map_some,Cs.stp,Ps.gs,en,nx2,uF,List.map_append,Qyq,List.map_nil]
 rfl
theorem Gg(n:Nat)(K:C.Ok)(hl:acP C ls){k:Nat}(hk:k<=1000):∀(m:Nat){g:Ps},C.Pk g->k<m+g.cs.length->mq (jW (tx.gf (pg.cf (n+5))) C.n C.t ls) k m g.gs=some (C.go ls k m g).gs\/(m=0)
 |0,_,_,_=>.inr rfl
 |m+1,g,P,h=>by
  refine .inl ?_
  rw[mq,Cs.go]
  have e:decide (((Ps.gs g).cs.length)< (k:Int))=decide (g.cs.length<k):=by
   simp[Ps.gs,uF]
  rw[e]
  show(if !g.ss.isEmpty&&decide _ then _ else _)=_
  cases c:(!g.ss.isEmpty&&decide (g.cs.length<k))with
  |false=>rfl
  |true=>
   simp only[QUq,Bool.not_eq_true',QUz]at c
   have ne:g.ss≠[]:=fun z=>by rw[z]at c;simp at c
   rw[if_pos rfl,QM n K P hl ne (by omega)]
   show mq _ _ m (C.stp ls g).gs=_
   have hc:(C.stp ls g).cs.length=g.cs.length+1:=by simp[Cs.stp]
   rcases Gg n K hl hk m (Ko (ls:=ls) K P) (by omega)with z|z
   ·rw[z];rfl
   ·omega
def fH(nm:List D)(ws:List Int):iV:=(nm.zip ws).map fun p=>(Fp p.1,p.2)
theorem yL:∀{nm:List D}{ws:List Int},dB nm->ws.length=nm.length->oU nm (ws.map .int)=some (fH nm ws)
 |[],[]=>fun _ _=>rfl
 |[],_::_=>fun _ h=>by simp at h
 |_::_,[]=>fun _ h=>by simp at h
 |x::nm,w::ws=>fun h hl=>by
  obtain⟨q,rfl⟩:=h x QYz
  have:=yL (fun y hy=>h y (QYq _ hy)) (by simpa using hl)
  simp[oU,this,fH,Fp]
theorem vU:∀{nm:List D}{ws:List Int},dB nm->ws.length=nm.length->∀x:Str,D.str x∈nm->(bZ x (fH nm ws)).isSome=true
 |[],_=>fun _ _ x hx=>by cases hx
 |_::_,[]=>fun _ h _ _=>by simp at h
 |y::nm,w::ws=>fun h hl x hx=>by
  obtain⟨q,rfl⟩:=h y QYz
  have:=vU (fun y hy=>h y (QYq _ hy)) (by simpa using hl) x
  simp only[fH,List.zip_cons_cons,Qyq,bZ,Fp]
  by_cases c:q=x
  ·simp[c]
  ·rw[if_neg c]
   rcases QBz.mp hx with z|z
   ·cases z;exact absurd rfl c
   ·exact this z
def Sq t nm ws:fH nm (ws.map (· *t))=mF t (fH nm ws):=by
 simp only[fH,mF,List.zip_map_right,List.map_map]
 rfl
def vK n k a b:pg.fn (n+1) 4 [.val (.int k),.val (.int a),.val (.int b)]=.ok (.val (.bl (decide (a<=k)&&decide (k<=b)))) [.val (.int k),.val (.int a),.val (.int b)]:=by
 rw[pW]
 by_cases c:a<=k<;>simp[iG,c,tL]
def Wts(C:Cs)(ws:List Int):Prop:=ws.length=C.nm.length/\∀w∈ws,1<=w/\w<=99
abbrev mj(ws:List Int):D:=.tup (ws.map .int)
def cwC:E:=.comp 1 (.name 0) (.var 2) AAH (.call 4 AAy)
def Pb n(K:C.Ok)(H:Wts C ws):pg.fn (n+10) 25 [.val C.n,.val C.t,.val (mj ws)]=.ok (.val .non) [.val C.n,.val C.t,.val (mj ws)]:=by
 have ck:=K.checked n
 have ll:C.ls.length=C.nm.length:=by rw[gP K.o.h2 K.o.g5];exact K.o.ll
 have n2:getD C.n (.int 2)=some (aO C.ls):=Mx
 have le:b1 .len (aO C.ls)=some (.val (.int C.nm.length)):=by simp[aO,b1,zT,ll]
 have tu:pg.fn (n+9) 3 [.val (mj ws),.val (.int C.nm.length),.val (.int C.nm.length)]=.ok (.val (.bl true)) [.val (mj ws),.val (.int C.nm.length),.val (.int C.nm.length)]:=by
  rw[sr]
  simp[jH,tL,H.1]
 have e:ev (pg.cf (n+9)) cwC [.val C.n,.val C.t,.val (mj ws),.val (.int C.nm.length)]=.ok (.new (.lst ((ws.map fun _=>true).map .bl))) [.val C.n,.val C.t,.val (mj ws),.val (.int C.nm.length)]:=by
  have:=qu (c:=pg.cf (n+9)) (it:=.var 2) (el:=.call 4 AAy) (σ:=[.val C.n,.val C.t,.val (mj ws),.val (.int C.nm.length)]) (τ:=[.val C.n,.val C.t,.val (mj ws),.val (.int C.nm.length)]) (r:=.val (mj ws)) (fun _=>.bl true) (by simp) rfl rfl (fun x hx=>by
   obtain⟨w,hw,rfl⟩:=QCz.mp hx
   have:=vK (n+8) w 1 99
   have b:=H.2 w hw
   have g9:pg.gl 9=some (.int 99):=rfl
   simp[this,b.1,b.2,g9])
  rw[List.map_map]at this⊢
  exact this
 have bb:=jf (ws.map fun _=>true)
 have al:(ws.map fun _=>true).all id=true:=by simp
 generalize (ws.map fun _=>true)=row at e bb al
 have q:cwC.aB=none:=rfl
 have hb:iT=⟨3,4,(.cons ABx (.cons (.set 3 (.bi .len AAl)) (.cons (.ite (.or (.cons ABj (.cons (.not (.bi .all cwC)) .nil))) ABa .nil) .nil)))⟩:=rfl
 rw[uM,hb]
 simp[ck,n2,le,tu,q,e,Ob.d,bb,al]
def Ol n:pg.fn (n+1) 20 [.val C.n]=.ok (.val (dN (sI C.ls))) [.val C.n]:=by
 have n2:getD C.n _=some _:=Mx
 rw[uL]
 simp[iR,n2,bj,dN,sI]
def CT n(K:C.Ok)(H:Wts C ws):R4 (ev (pg.cf (n+10)) tx.mz [.un,.val C.n,.val C.t,.val (mj ws)])=some (fH C.nm ws):=by
 have w:pg.fn _ 13 [.val C.n]=.ok (.new (.lst C.nm)) [.val C.n]:=
  f9 (n+9) _ _ C.ks _ (by rw[K.o.kl,fB K.o.g5]) (by rw[iM K.o.h2,fB K.o.g5];have:=K.o.h2;have:=K.o.g5;omega)
 have dz:dictOf [] [] _=some (C.nm,ws.map .int):=Aj (by simpa using H.1) (bR _ _) (names_nodup K.o.h2 K.o.g1 K.o.g5)
 have z:bH (mj ws)=some _:=rfl
 have e:ev (pg.cf (n+10)) tx.mz [.un,.val C.n,.val C.t,.val (mj ws)]=.ok (.new (.dct C.nm (ws.map .int))) [.un,.val C.n,.val C.t,.val (mj ws)]:=by
  simp[tx,w,z,dz,Ob.d]
 rw[e]
 exact yL (bR _ _) H.1
def uV(g:Ps):D:=if g.o.isNone then .str "unasked" else if g.ss.isEmpty then .str "end" else .str "on"
theorem yK n(K:C.Ok)(H:Wts C ws){k:Nat}(hk:k<=200):
  pg.fn (n+11) 41 [.val C.n,.val C.t,.val (mj ws),.val (.int k)]=.ok (.val (.tup [.lst (uF (C.go (fH C.nm ws) k 1000 C.ini).cs),uV (C.go (fH C.nm ws) k 1000 C.ini)])) [.val C.n,.val C.t,.val (mj ws),.val (.int k)]:=by
 rw[Rm]
 have i1:Ni (pg.fn (n+10) 25 [.val C.n,.val C.t,.val (mj ws)])=true:=by rw[Pb n K H];rfl
 have i2:isT (pg.fn (n+10) 4 [.val (.int k),.val (.int 0),.val (.int 200)])=true:=by
  rw[vK,show(decide ((0:Int)<=k)&&decide ((k:Int)<=200))=true by simp;omega]
  rfl
 have ii:Sy tx (pg.cf (n+10)) C.n C.t (mj ws)=some (fH C.nm ws,C.ini.gs):=by
  have S:=KQ K
  unfold Sy
  have e1:Bj ((pg.cf (n+10)).fn tx.fst [.val C.n])=some (dN (sI C.ls)):=by
   have e:(pg.cf (n+10)).fn tx.fst [.val C.n]=pg.fn (n+10) 20 [.val C.n]:=rfl
   rw[e,Ol]
   rfl
  have e2:Ja ((pg.cf (n+10)).fn tx.stp [.val C.n,.val C.t,.val (dN (sI C.ls))])=some (C.st (sI C.ls)):=by
   have e:(pg.cf (n+10)).fn tx.stp [.val C.n,.val C.t,.val (dN (sI C.ls))]=pg.fn (n+5+5) 21 [.val C.n,.val C.t,.val (dN (sI C.ls))]:=rfl
   rw[e,K.bJ (n+5) S]
   rfl
  have e3:=vo (n+9) (xs:=C.st (sI C.ls)) [] 0 (K.V8 S) ((K.sub S).nodup (names_nodup K.o.h2 K.o.g1 K.o.g5))
  simp only[CT n K H,e1,e2,QFq]
  rw[e3]
  rfl
 have lo:=(Gg (ls:=fH C.nm ws) (n+5) K (vU (bR _ _) H.1) (k:=k) (by omega) 1000 (Vg K) (by omega)).resolve_right (by omega)
 have j1:Ni ((pg.cf (n+10)).fn tx.chk [.val C.n,.val C.t,.val (mj ws)])=true:=i1
 have j2:isT ((pg.cf (n+10)).fn tx.isn [.val (.int k),.val (.int 0),.val (.int tx.top)])=true:=i2
 have j3:mq (jW (tx.gf (pg.cf (n+10))) C.n C.t (fH C.nm ws)) k (pg.cf (n+10)).turns C.ini.gs=_:=lo
 rw[dY]
 simp only[j1,j2,ii,j3,QFq,Bool.and_self,if_true]
 have ee:Ov (C.go (fH C.nm ws) k 1000 C.ini).gs=uV (C.go (fH C.nm ws) k 1000 C.ini):=by
  generalize C.go (fH C.nm ws) k 1000 C.ini=g
  unfold Ov uV
  show(if gG (uO g.o)then _ else if g.ss.isEmpty then _ else _)=_
  cases g.o with
  |none=>rfl
  |some s=>rfl
 rw[ee]
 rfl
end
end Tx
end
section
open PySem Mini
namespace Tx
section
variable{C:Cs}
def Ms(t:∀x∈xs,x∈C.nm):mU xs=true/\lY xs=0:=by
 have ok:∀s∈Vb 3 5,WD s=true:=by decide+kernel
 induction xs with
 |nil=>exact⟨rfl,rfl⟩
 |cons x xs ih=>
  have m:=t x QYz
  rw[Cs.nm,nT]at m
  obtain⟨s,hs,rfl⟩:=QCz.mp m
  have i:=ih fun y hy=>t y (QYq _ hy)
  exact⟨by simp[mU,nd,ok s (FT hs),i.1],by simp[lY,dep,i.2]⟩
end
mutual
theorem yf:∀d:D,nd d=true->gH d d=true
 |.non=>fun _=>rfl
 |.bl b=>fun _=>by cases b<;>rfl
 |.int i=>fun _=>by simp[gH]
 |.str s=>fun _=>by simp[gH]
 |.tup xs=>fun h=>by simpa[gH]using tZ xs h
 |.lst xs=>fun h=>by simpa[gH]using tZ xs h
 |.dq _ _=>fun h=>by simp[nd]at h
 |.lU _ _=>fun h=>by simp[nd]at h
theorem tZ:∀xs:List D,mU xs=true->pC xs xs=true
 |[]=>fun _=>rfl
 |x::xs=>fun h=>by
  simp only[mU,QUq]at h
  simp[pC,yf x h.1,tZ xs h.2]
end
def ace(h:nd d=true/\dep d<=50):aK .eq d d=some true/\aK .ne d d=some false:=by
 have o:ud d d=true:=by simp[ud,h.1,h.2]
 constructor
 ·show(if ud d d then some _ else none)=_
  rw[yf _ h.1,o];rfl
 ·show(if ud d d then some _ else none)=_
  rw[yf _ h.1,o];rfl
end Tx
end
section
open PySem Mini
namespace Tx
def Ps.uK(t:Int)(g:Ps):Ps:=⟨g.cs.map fun p=>(p.1*t,p.2),g.o,mF t g.ss⟩
section
variable{C:Cs}{ls:iV}{t:Int}
def zH(ht:0<t)ss:gC (mF t ls) (mF t ss)=gC ls ss:=by
 unfold gC
 rw[show(mF t ss).length=ss.length by simp[mF]]
 exact zM _ _ ht (Ow t ls ss) _
def Mw(ht:0<t)ss:gD (mF t ls) (mF t ss)=gD ls ss:=by
 unfold gD
 rw[zH ht,show(mF t ss)[gC ls ss]? =(ss[gC ls ss]?).map fun p=>(p.1,p.2*t) by simp[mF]]
 cases ss[gC ls ss]? <;>rfl
def Wh(ht:0<t)g:C.stp (mF t ls) (g.uK t)=(C.stp ls g).uK t:=by
 have e1:gD _ (g.uK t).ss=gD ls g.ss:=Mw ht g.ss
 have e2:iQ (mF t ls) (g.uK t).ss (gC (mF t ls) (g.uK t).ss)=iQ ls g.ss (gC ls g.ss)*t:=by
  show iQ _ (mF t g.ss) (gC _ (mF t g.ss))=_
  rw[zH ht,Ow]
 have e3:((g.uK t).ss.filter fun q=>decide (q.1≠gD ls g.ss))=mF t (g.ss.filter fun q=>decide (q.1≠gD ls g.ss)):=by
  show(mF t g.ss).filter _=_
  rw[mF,List.filter_map]
  rfl
 have e4:C.next (g.uK t) (gD ls g.ss)=C.next g _:=rfl
 unfold Cs.stp
 rw[e1,e2,e3,e4,FW]
 simp[Ps.uK]
theorem Vl(ht:0<t)k:∀(m:Nat)(g:Ps),C.go (mF t ls) k m (g.uK t)=(C.go ls k m g).uK t
 |0=>fun _=>rfl
 |m+1=>fun g=>by
  have e:(!(g.uK t).ss.isEmpty&&decide ((g.uK t).cs.length<k))=(!g.ss.isEmpty&&decide (g.cs.length<k)):=by simp[Ps.uK,mF]
  rw[Cs.go,Cs.go,e,Wh ht]
  cases (!g.ss.isEmpty&&decide (g.cs.length<k))with
  |false=>rfl
  |true=>exact Vl ht k m _
def XR:(C.ini).uK t=C.ini:=by
 have:=FW t (C.st (sI C.ls)) [] 0
 simp only[Int.zero_mul]at this
 unfold Cs.ini Ps.uK
 rw[<-this]
 rfl
def YG g:uV (g.uK t)=uV g:=by
 unfold uV
 simp[Ps.uK,mF]
theorem Vm(K:C.Ok)(k:Nat):∀(m:Nat)(g:Ps),C.Pk g->(∀p∈g.cs,D.str p.2∈C.nm)->∀p∈(C.go ls k m g).cs,D.str p.2∈C.nm
 |0=>fun _ _ h=>h
 |m+1=>fun g P h=>by
  rw[Cs.go]
  cases c:(!g.ss.isEmpty&&decide (g.cs.length<k))with
  |false=>exact h
  |true=>
   have ne:g.ss≠[]:=fun z=>by rw[z]at c;simp at c
   refine Vm K k m _ (Ko K P) fun p hp=>?_
   rcases QXz.mp hp with z|z
   ·exact h p z
   ·obtain⟨q,e,hq,en⟩:=FZ ne
    rw[QDq.mp z]
    rw[en]
    refine(lC K P.o).2.2 _ ?_
    rw[<-P.k]
    exact QCz.mpr ⟨q,hq,rfl⟩
theorem Vq:∀{cs:List (Int×Str)},(∀p∈cs,D.str p.2∈C.nm)->mU (uF cs)=true/\lY (uF cs)<=1
 |[]=>fun _=>⟨rfl,by simp[uF,lY]⟩
 |p::cs=>fun h=>by
  have i:=Vq fun q hq=>h q (QYq _ hq)
  have a:=(Ms fun x hx=>by rw[QDq.mp hx];exact h p QYz).1
  simp only[uF]at i
  simp only[mU,nd,Bool.and_true]at a
  exact⟨by simp[uF,mU,nd,a,i.1],by simp[uF,lY,dep];omega⟩
def YJ g:nd (uV g)=true/\dep (uV g)=0:=by
 have s:WD (Str.ofString "unasked")=true/\WD (Str.ofString "end")=true/\WD (Str.ofString "on")=true:=by decide+kernel
 unfold uV
 split
 ·exact⟨s.1,rfl⟩
 ·split
  ·exact⟨s.2.1,rfl⟩
  ·exact⟨s.2.2,rfl⟩
end
def lwC:E:=.comp 1 (.name 0) (.range1 ABi) AAH (.op .add AAG AAj)
def ltC:E:=.comp 1 (.name 0) (.var 3) AAH (.op .mul (.var 0) (.var 5))
def lpC:E:=.comp 2 (.tup [0,1]) (.var 6) AAH (.tup ABO)
def agh:Px=⟨1,9,(.cons ABV (.cons (.set 3 (.bi .tuple lwC)) (.cons AAu (.cons ABK (.cons ABG (.cons (.set 8 (.call 41 (.cons (.var 1) (.cons (.var 2) (.cons (.bi .tuple ltC) ABy))))) (.cons (.ret (.cmp .eq (.var 8) (.tup (.cons lpC (.cons (.var 7) .nil))))) .nil)))))))⟩:=rfl
theorem K7:∀(n:Nat)(lo:Int)(x:D),x∈cV lo n->∃j:Int,lo<=j/\x=.int j
 |0=>fun _ _ h=>by cases h
 |n+1=>fun lo x h=>by
  rcases QBz.mp h with rfl|h
  ·exact⟨lo,Int.le_refl _,rfl⟩
  ·obtain⟨j,hj,e⟩:=K7 n _ x h
   exact⟨j,by omega,e⟩
def yH{C:Cs}(K:C.Ok)(ns:List Int)t:∃ws:List Int,(ws.length=C.nm.length/\∀w∈ws,1<=w/\w<=9)/\
  ev (pg.cf 39) lwC [.val (.lst (ns.map .int)),.val C.n,.val t,.un,.un,.un,.un,.un,.un]=.ok (.new (.lst (ws.map .int))) [.val (.lst (ns.map .int)),.val C.n,.val t,.un,.un,.un,.un,.un,.un]:=by
 have ex_:∀j:Int,∃r:Int,0<=j->0<=r/\r<9/\pg.fn 39 28 [.val _,.val _,.val _]=.ok _ [.val _,.val _,.val _]:=fun j=>by
  by_cases h:0<=j
  ·obtain⟨r,z⟩:=nU 37 ns j 9 h (by omega)
   exact⟨r,fun _=>z⟩
  ·exact⟨0,fun z=>absurd z h⟩
 obtain⟨F,hF⟩:∃F:Int->Int,∀j,0<=j->0<=F j/\F j<9/\pg.fn 39 28 [.val _,.val (.int j),.val _]=.ok (.val (.int (F j))) [.val _,.val (.int j),.val _]:=
  ⟨fun j=>Classical.choose _,fun j=>Classical.choose_spec (ex_ j)⟩
 have ll:C.ls.length=C.nm.length:=by rw[gP K.o.h2 K.o.g5];exact K.o.ll
 have nl:C.nm.length=C.h+C.g:=gP K.o.h2 K.o.g5
 have h2:=K.o.h2
 have g5:=K.o.g5
 have n2:getD C.n _=some _:=Mx
 have le:b1 .len (aO C.ls)=some (.val (.int C.nm.length)):=by simp[aO,b1,zT,ll]
 have f1:fits C.nm.length=true:=by simp[fits];omega
 have f2:Gd C.nm.length=true:=by simp[Gd];omega
 let f:D->Int:=fun d=>match d with|.int j=>1+F j|_=>1
 refine⟨(cV 0 C.nm.length).map f,⟨by rw[Qvz,lE],fun w hw=>?_⟩,?_⟩
 ·obtain⟨x,hx,rfl⟩:=QCz.mp hw
  obtain⟨j,hj,rfl⟩:=K7 _ _ _ hx
  have:=hF j hj
  show 1<=1+F j/\1+F j<=9
  omega
 ·have:=qu (c:=pg.cf 39) (it:=.range1 ABi) (el:=.op .add AAG AAj) (σ:=[.val (.lst (ns.map .int)),.val C.n,.val t,.un,.un,.un,.un,.un,.un]) (τ:=[.val (.lst (ns.map .int)),.val C.n,.val t,.un,.un,.un,.un,.un,.un]) (r:=.val (.lst (cV 0 C.nm.length))) (fun d=>.int (f d)) (by simp[n2,le,f1,f2]) rfl rfl (fun x hx=>by
   obtain⟨j,hj,rfl⟩:=K7 _ _ _ hx
   have:=(hF j hj).2.2
   simp[this,f])
  rw[List.map_map]
  exact this
def math(ns:List Int)(hl:ns.length<=63):∃qs,pg.fn 40 40 [.val (.lst (ns.map .int))]=.ok (.val (.bl true)) qs:=by
 obtain⟨C,K,e'⟩:=Tw 30 ns 12 (by omega)
 obtain⟨ws,H,ew⟩:=yH K ns C.t
 obtain⟨u,hu0,hu1,e1⟩:=nU 37 ns 9 11 (by omega) (by omega)
 obtain⟨v,hv0,hv1,e2⟩:=nU 37 ns 10 60 (by omega) (by omega)
 obtain⟨k,rfl⟩:∃k:Nat,v=k:=⟨v.toNat,by omega⟩
 have ht:0<1+u:=by omega
 have W1:Wts C ws:=⟨H.1,fun w hw=>⟨(H.2 w hw).1,by have:=(H.2 w hw).2;omega⟩⟩
 have W2:Wts C (ws.map (· *(1+u))):=⟨by rw[Qvz];exact H.1,fun w hw=>by
  obtain⟨x,hx,rfl⟩:=QCz.mp hw
  have b:=H.2 x hx
  have m1:1*1<=x*(1+u):=Int.mul_le_mul b.1 (by omega) (by omega) (by omega)
  have m2:x*(1+u)<=9*11:=Int.mul_le_mul b.2 (by omega) (by omega) (by omega)
  omega⟩
 have t1:=yK 28 K W1 (k:=k) (by omega)
 have t2:=yK 28 K W2 (k:=k) (by omega)
 have gs:=Vl (C:=C) (ls:=fH C.nm ws) ht k 1000 C.ini
 rw[XR,<-Sq]at gs
 rw[gs,YG]at t2
 have nm:=Vm (ls:=fH C.nm ws) K k 1000 C.ini (Vg K) (fun p hp=>by cases hp)
 generalize C.go (fH C.nm ws) k 1000 C.ini=G at*
 have en:=YJ G
 generalize uV G=ED at*
 have sm:small (1+u)=true:=by simp[small];omega
 have el:∀s6 s7 s8,ev (pg.cf 39) ltC [.val (.lst (ns.map .int)),.val C.n,.val C.t,.val (mj ws),.val (.int (1+u)),.val (.int k),s6,s7,s8]=.ok (.new (.lst ((ws.map (· *(1+u))).map .int))) [.val (.lst (ns.map .int)),.val C.n,.val C.t,.val (mj ws),.val (.int (1+u)),.val (.int k),s6,s7,s8]:=fun s6 s7 s8=>by
  have:=qu (c:=pg.cf 39) (it:=.var 3) (el:=.op .mul (.var 0) (.var 5)) (σ:=[.val (.lst (ns.map .int)),.val C.n,.val C.t,.val (mj ws),.val (.int (1+u)),.val (.int k),s6,s7,s8]) (τ:=[.val (.lst (ns.map .int)),.val C.n,.val C.t,.val (mj ws),.val (.int (1+u)),.val (.int k),s6,s7,s8]) (d:=mj ws) (xs:=ws.map .int) (r:=.val (mj ws)) (fun d=>match d with|.int w=>.int (w*(1+u))|d=>d) (by simp) rfl rfl (fun x hx=>by
   obtain⟨w,_,rfl⟩:=QCz.mp hx
   simp[sm])
  rw[List.map_map]at this⊢
  exact this
 have ep:∀s8,ev (pg.cf 39) lpC [.val (.lst (ns.map .int)),.val C.n,.val C.t,.val (mj ws),.val (.int (1+u)),.val (.int k),.val (.lst (uF G.cs)),.val ED,s8]=.ok (.new (.lst (uF (G.uK (1+u)).cs))) [.val (.lst (ns.map .int)),.val C.n,.val C.t,.val (mj ws),.val (.int (1+u)),.val (.int k),.val (.lst (uF G.cs)),.val ED,s8]:=fun s8=>by
  have:=O7 (c:=pg.cf 39) (it:=.var 6) (el:=.tup ABO) (σ:=[.val (.lst (ns.map .int)),.val C.n,.val C.t,.val (mj ws),.val (.int (1+u)),.val (.int k),.val (.lst (uF G.cs)),.val ED,s8]) (τ:=[.val (.lst (ns.map .int)),.val C.n,.val C.t,.val (mj ws),.val (.int (1+u)),.val (.int k),.val (.lst (uF G.cs)),.val ED,s8]) (d:=.lst (uF G.cs)) (ps:=G.cs.map fun p=>(D.int p.1,D.str p.2)) (r:=.val (.lst (uF G.cs))) (fun x=>match x.1 with|.int i=>.tup [.int (i*(1+u)),x.2]|d=>d) (by simp) rfl (by show some _=some _;rw[List.map_map];rfl) (fun x hx=>by
   obtain⟨p,_,rfl⟩:=QCz.mp hx
   simp[sm,bj])
  rw[List.map_map]at this
  refine this.trans ?_
  simp only[Ps.uK,uF,List.map_map]
  rfl
 have nn:=Vq (C:=C) (cs:=(G.uK (1+u)).cs) fun p hp=>by
  obtain⟨q,hq,rfl⟩:=QCz.mp hp
  exact nm q hq
 have ne:=(ace (d:=.tup [.lst (uF (G.uK (1+u)).cs),ED]) ⟨by simp[nd,mU,nn.1,en.1],by simp[dep,lY,en.2];have:=nn.2;omega⟩).1
 have q1:lwC.aB=none:=rfl
 have q2:ltC.aB=none:=rfl
 have w1:D.tup (ws.map D.int)=mj ws:=rfl
 have w2:D.tup ((ws.map (· *(1+u))).map D.int)=mj (ws.map (· *(1+u))):=rfl
 generalize ws.map (· *(1+u))=ws2 at*
 rw[show(40:Nat)=39+1 from rfl,abb,agh]
 refine⟨[.val (.lst (ns.map .int))],?_⟩
 generalize mj ws=W at*
 generalize mj ws2=W' at*
 simp[e',eE,mC,fP,ew,q1,Ob.d,w1,e1,e2,t1,el,q2,w2,t2,ep,bj,ne]
end Tx
end
namespace Tx
open PySem PySem.W L2 Mini
def cR{K:QQq}{x:Str}{st:Stmt}(m:Value)(f c:Addr)(a:PySem.W.nsIn K mainGlobals x=some (some (.ref f)):=by kernel_rfl)(l:K.lookup f=some (fO x st m c):=by kernel_rfl)(q:PySem.W.codeIn K (.ref c) x=true:=by kernel_rfl):Qi K x st:=Mini.dIn a l q (by unfold PySem.W.keepIn;dsimp only;rw[l];rfl)
def bI:Y7 (Dt ds gj dI) tx.mz s90:=⟨_,_,_,_,_,_,_,_,_,_,_,_,_,_,_,_,_,_,_,_,_,_,_,_,_,_,_,_,_,_,_,_,_,_,_,_,rfl,fun _ _=>rfl,by kernel_rfl⟩
def bU:Y9 s91:=⟨_,_,_,_,_,_,_,_,_,_,rfl⟩
def bC:Za s92:=⟨_,_,_,_,_,_,_,_,_,_,_,_,_,_,_,_,_,_,_,_,_,_,_,_,_,_,_,_,_,_,_,_,_,_,_,_,_,_,_,_,_,_,_,_,_,_,_,_,_,_,_,_,_,_,_,_,_,_,_,_,_,_,_,_,_,_,_,_,_,_,rfl,fun _=>⟨_,rfl⟩,rfl,rfl⟩
def bE:Y8 s93:=⟨_,_,_,_,_,_,_,_,_,_,_,_,_,_,_,_,_,rfl⟩
def bT:Y6 s41:=⟨_,_,_,_,_,_,_,_,_,_,_,_,_,_,_,_,_,_,_,_,_,_,_,_,_,_,_,_,_,_,_,_,_,_,_,_,_,_,_,_,_,_,_,_,rfl,fun _=>⟨_,rfl⟩,fun _=>⟨_,rfl⟩⟩
def gok{P:Params}{mg:QZz}(m1:mg "Going"=some (.ref 292))(m2:mg "min"=none)(m3:mg "list"=none)(m4:mg "len"=none)(m5:∃tu,mg "MOST_CHANGES"=some (.int tx.top tu)):GoK (Kf P) mg (Dt ds gj dI) tx 292 261 268 275 289 s90 s91 s92 s93 s41:=
 ⟨⟨by kernel_rfl,by kernel_rfl,by kernel_rfl,by kernel_rfl⟩,⟨by unfold aW;kernel_rfl,by unfold aW;kernel_rfl,by unfold aW;kernel_rfl,by unfold aW;kernel_rfl,by unfold aW;kernel_rfl,by unfold aW;kernel_rfl⟩,⟨⟨by kernel_rfl,by kernel_rfl,by kernel_rfl⟩,by kernel_rfl,by kernel_rfl,by kernel_rfl⟩,⟨by kernel_rfl,by kernel_rfl,by kernel_rfl,by kernel_rfl⟩,⟨by kernel_rfl,by kernel_rfl,by kernel_rfl⟩,⟨by kernel_rfl,by kernel_rfl,by kernel_rfl⟩,mfk (m:=Ga) (c:=260) (by kernel_rfl) (by kernel_rfl) (fun _ _ _ _ _ _ us hl=>by obtain⟨_,_,_,_,rfl⟩:=zU hl;rfl) (by decide+kernel) (by decide+kernel),mfk (m:=Ga) (c:=267) (by kernel_rfl) (by kernel_rfl) (fun _ _ _ _ _ _ us hl=>by obtain⟨_,_,rfl⟩:=o7 hl;rfl) (by decide+kernel) (by decide+kernel),mfk (m:=Ga) (c:=274) (by kernel_rfl) (by kernel_rfl) (fun _ _ _ _ _ _ us hl=>by obtain⟨_,rfl⟩:=sZ hl;rfl) (by decide+kernel) (by decide+kernel),mfk (m:=Ga) (c:=288) (by kernel_rfl) (by kernel_rfl) (fun _ _ _ _ _ _ us hl=>by obtain⟨_,rfl⟩:=sZ hl;rfl) (by decide+kernel) (by decide+kernel),bI,bU,bC,bE,bT,uA (by decide+kernel),uA (by decide+kernel),uA (by decide+kernel),uA (by decide+kernel),m1,m2,m3,m4,m5⟩
def ad1:Ze ds 41 tx:=⟨⟨by decide,_,rfl,rfl,by kernel_rfl⟩,⟨by decide,_,rfl,rfl,by kernel_rfl⟩,⟨by decide,_,rfl,rfl,by kernel_rfl⟩,⟨by decide,_,rfl,rfl,by kernel_rfl⟩,⟨by decide,_,rfl,rfl,by kernel_rfl⟩,⟨by decide,_,rfl,rfl,by kernel_rfl⟩⟩
end Tx
open PySem PySem.W PyProof.Rows
theorem PySem.Challenge.cw_anywait_k14_whole_times_as_great_holds : PySem.Challenge.rw_anywait_k14_whole_times_as_great.Holds := by
 w_on
 refine PySem.W.holds_law Tx.w0w fun said => ?_
 refine PySem.W.holds_open (q := Tx.qV) (loose := Tx.lo) (Xt := fun s => recOk [] s) (XP := fun _ _ => True) (Yf := Hook.obs Tx.Kh) (Ya := Hook.val Tx.Kh) (YP := Hook.says Tx.Kh) (N := 5736) Tx.hl (Hook.of Tx.Kh) (Hook.keeps Tx.Kh) (fun _ _ => trivial) (fun _ _ _ _ _ => trivial) (by rfl) (by rfl) (by rfl) (fun s e => recFacts_of e) (by rfl) said (by decide +kernel) ⟨rfl, rfl, rfl, rfl, rfl, by decide +kernel⟩ ?hw ?hc
 case hw => w_witness2
 case hc =>
  refine Mini.Hr (p := Tx.pg) (L := 40) (y := "_law_script") (l := PySem.Challenge.rw_anywait_k14_whole_times_as_great) rfl rfl (fun w h Y => PySem.W.kIn_of Y) Tx.math ?qF
  intro w mg fa h KX G hmg
  refine Mini.PJ (dL := Tx.d40) (dt := Tx.d41) (dI := Tx.dI) (T := Tx.tx) KX G hmg rfl rfl rfl Tx.bd Tx.scp Tx.nC ?qA ?qB ?qZ rfl rfl rfl (by kernel_rfl) (by kernel_rfl) (Tx.gok (PySem.W.mg_of KX G (by kernel_rfl)) (PySem.W.mg_none_of KX G (by kernel_rfl)) (PySem.W.mg_none_of KX G (by kernel_rfl)) (PySem.W.mg_none_of KX G (by kernel_rfl)) ⟨502, PySem.W.mg_of KX G (by kernel_rfl)⟩) Tx.ad1 rfl rfl
  case qA =>
   show Mini.AllIn _ Tx.nms
   exact ⟨Tx.cR Tx.lL 90 89, Tx.cR Tx.lL 95 94, Tx.cR Tx.lL 100 99, Tx.cR Tx.lL 107 106, Tx.cR Tx.lL 114 113, Tx.cR Tx.lL 119 118, Tx.cR Tx.lL 124 123, Tx.cR Tx.lL 129 128, Tx.cR Tx.lL 136 135, Tx.cR Tx.lL 141 140, Tx.cR Tx.lL 146 145, Tx.cR Tx.lL 153 152, Tx.cR Tx.lL 160 159, Tx.cR Tx.lL 165 164, Tx.cR Tx.lL 170 169, Tx.cR Tx.lL 175 174, Tx.cR Tx.lL 182 181, Tx.cR Tx.ZG 189 188, Tx.cR Tx.ZG 194 193, Tx.cR Tx.ZG 199 198, Tx.cR Tx.Qo 206 205, Tx.cR Tx.Qo 211 210, Tx.cR Tx.Qo 218 217, Tx.cR Tx.Qo 225 224, Tx.cR Tx.Qo 230 229, Tx.cR Tx.Ga 242 241, Tx.cR Tx.Ga 247 246, Tx.cR Tx.oK 303 302, Tx.cR Tx.oK 310 309, Tx.cR Tx.oK 317 316, Tx.cR Tx.oK 324 323, Tx.cR Tx.oK 329 328, Tx.cR Tx.oK 336 335, Tx.cR Tx.oK 341 340, Tx.cR Tx.oK 346 345, Tx.cR Tx.oK 351 350, Tx.cR Tx.oK 358 357, Tx.cR Tx.oK 365 364, Tx.cR Tx.oK 370 369, Tx.cR Tx.oK 377 376, Tx.cR Tx.oK 382 381, Tx.cR Tx.Ga 237 236, trivial⟩
  case qB => exact ⟨.v (u := .str "abcdefghijklmnopqrstuvwxyz" 280) (by kernel_rfl) (by decide +kernel), .v (u := .int 6 282) (by kernel_rfl) (by decide +kernel), .t (a := 83) (o := Tx.o83) (by kernel_rfl) (by kernel_rfl) (by decide +kernel), .v (u := .int 3 299) (by kernel_rfl) (by decide +kernel), .v (u := .int 5 301) (by kernel_rfl) (by decide +kernel), .v (u := .int 4 303) (by kernel_rfl) (by decide +kernel), .v (u := .int 8 305) (by kernel_rfl) (by decide +kernel), .v (u := .int 3 307) (by kernel_rfl) (by decide +kernel), .v (u := .int 12 435) (by kernel_rfl) (by decide +kernel), .v (u := .int 99 500) (by kernel_rfl) (by decide +kernel), .v (u := .int 200 502) (by kernel_rfl) (by decide +kernel), trivial⟩
  case qZ => exact ⟨by kernel_rfl, by kernel_rfl, by kernel_rfl, by kernel_rfl, by kernel_rfl, by kernel_rfl, by kernel_rfl, by kernel_rfl, by kernel_rfl, by kernel_rfl, by kernel_rfl, by kernel_rfl, by kernel_rfl, by kernel_rfl, trivial⟩