import PyProof.Rows.All
import Wide.All
import OpenK.AllK
import Wide.FinOn
import PySem.Syntax
import Lean
import PyProof.EqAt
import PyProof.EqKinds
import PyProof.TupleCall
import PyProof.TupleKey
import PyProof.DictRoadsH
import Wide.Seal
import KE.KDictList
import KE.KSortAsk
import PyProof.ListMulAny
import PyProof.FactsAll.tuple_2
import PyProof.NeData
import PyProof.P3In
import KE.KSortTup
import PyProof.CompFree
import PySem.Challenge.RW_anywait_k07_whole_fault_walked
set_option linter.all false
set_option Elab.async false
set_option maxRecDepth 100000
set_option maxHeartbeats 0
set_option compiler.extract_closed false
abbrev QQq:=PySem.W.Frag
abbrev QQz:=List (PySem.Addr×PySem.Obj)
abbrev QZq:=PySem.Value→PySem.Shared→Prop
abbrev QZz:=PySem.Str→Option PySem.Value
def QJq:=@Option.bind_eq_some_iff
def QJz:=@Option.map_eq_some_iff
def QYq:=@List.mem_cons_of_mem
def QYz:=@List.mem_cons_self
def QXq:=@List.getElem?_eq_getElem
def QXz:=@List.mem_append
def QWq:=@PySem.Heap.get?_push_of_some
def QWz:=@List.mem_append_left
def QVq:=@List.mem_append_right
def QVz:=@Nat.le_refl
def QUq:=@Bool.and_eq_true
def QUz:=@decide_eq_true_eq
def QTq:=@List.length_append
def QTz:=@List.mem_map_of_mem
def QKq:=@PySem.wpAny_bind
def QKz:=@PySem.wpAny_pure
def QGq:=@PySem.wpAny_mono
def QGz:=@PySem.wpAny_field
def Qqq:=@PySem.wpAny_holding
def Qqz:=@PySem.Heap.lt_size
def Qzq:=@PySem.Heap.get?_push_size
def Qzz:=@PySem.wpAny_call_entry
def Qjq:=@PySem.wpAny_newObj_type
def Qjz:=@Bool.false_ne_true
def Qyq:=@List.size_toArray
def Qyz:=@List.map_cons
def Qxq:=@Bool.false_eq_true
def Qxz:=@List.getElem?_set_ne
def Qwq:=@List.getElem?_set_self
def Qwz:=@List.getElem?_append_left
def Qvq:=@Nat.lt_of_lt_of_le
def Qvz:=@Nat.ne_of_lt
def QAq:=@List.length_map
def QAz:=@List.not_mem_nil
def QBq:=@List.length_cons
def QBz:=@List.mem_of_getElem?
def QCq:=@List.mem_cons
def QCz:=@List.getElem?_eq_some_iff
def QDq:=@List.mem_map
def QDz:=@List.mem_singleton
def QEq:=@Option.some.inj
def QEz:=@decide_eq_false
def QFq:=@decide_eq_true
def QFz:=@List.getElem?_map
def QHq:=@Option.bind_some
def QHz:=@List.lookup_cons
def QIq:=@Nat.zero_le
def QIz:=@List.getElem?_append_right
def QLq:=@List.append_assoc
def QLz:=@List.cons_append
noncomputable section
section
namespace L2
open PySem
def dJ(s:Stmt):Arguments:=match s with
 |.FunctionDef _ a _ _ _ _ _ _ _ _=>a
 |_=>{posonlyargs:=[],args:=[],vararg:=none,kwonlyargs:=[],kw_defaults:=[],kwarg:=none,defaults:=[]}
def dI(s:Stmt):List Stmt:=match s with
 |.FunctionDef _ _ b _ _ _ _ _ _ _=>b
 |_=>[]
def bu(s:Stmt):Scope:=match s with
 |.FunctionDef _ _ _ _ _ _ sc _ _ _=>sc
 |_=>{kind:=.function,names:=[],isGenerator:=false,isCoroutine:=false}
end L2
end
section
namespace Tx
open PySem PySem.W L2 PyProof.Rows
theorem w0w:PySem.Challenge.rw_anywait_k07_whole_fault_walked.wellSaid=true:=by kernel_rfl
def top(i:Nat):Stmt:=PySem.Challenge.pw_anywait_k07_whole_fault_walked.main.body.getD i (.Pass ⟨0,0,0,0⟩)
abbrev s0:Stmt:=top 13
abbrev s1:Stmt:=top 14
abbrev s2:Stmt:=top 15
abbrev s3:Stmt:=top 16
abbrev s4:Stmt:=top 17
abbrev s5:Stmt:=top 18
abbrev s6:Stmt:=top 19
abbrev s7:Stmt:=top 20
abbrev s8:Stmt:=top 21
abbrev s9:Stmt:=top 22
abbrev mO:Stmt:=top 23
abbrev zG:Stmt:=top 24
abbrev s12:Stmt:=top 25
abbrev s13:Stmt:=top 26
abbrev s14:Stmt:=top 27
abbrev s15:Stmt:=top 28
abbrev s16:Stmt:=top 29
abbrev s17:Stmt:=top 32
abbrev s18:Stmt:=top 33
abbrev s19:Stmt:=top 34
abbrev s20:Stmt:=top 36
abbrev s21:Stmt:=top 37
abbrev s22:Stmt:=top 38
abbrev s23:Stmt:=top 39
abbrev s24:Stmt:=top 40
abbrev s25:Stmt:=top 41
abbrev s26:Stmt:=top 43
abbrev s27:Stmt:=top 44
abbrev s28:Stmt:=top 45
abbrev s29:Stmt:=top 46
abbrev s30:Stmt:=top 48
abbrev s31:Stmt:=top 49
abbrev s32:Stmt:=top 50
abbrev s33:Stmt:=top 51
abbrev s34:Stmt:=top 52
abbrev s35:Stmt:=top 53
abbrev s36:Stmt:=top 54
abbrev s37:Stmt:=top 55
abbrev s38:Stmt:=top 56
abbrev s39:Stmt:=top 57
abbrev s40:Stmt:=top 58
abbrev s41:Stmt:=top 59
abbrev s42:Stmt:=top 60
abbrev s43:Stmt:=top 61
abbrev s44:Stmt:=top 62
abbrev s45:Stmt:=top 63
abbrev s46:Stmt:=top 64
abbrev s47:Stmt:=top 65
abbrev s48:Stmt:=top 66
abbrev s49:Stmt:=top 67
abbrev s50:Stmt:=top 68
abbrev s51:Stmt:=top 69
abbrev s52:Stmt:=top 70
def gE(P:Params)(x:Str)(i:Nat)(v:Value):DictEntry:=⟨PyData.keyHash P x,.str x i,v⟩
def fO(x:Str)(st:Stmt)(m:Value)(c:Addr):Obj:=⟨.type "function",none,.func (PySem.W.fnOf x x (dJ st) (dI st) (bu st) .none .none .none m none (.ref c) .none), #[]⟩
def cO(x:Str)(a:Nat)(l n:Int)(r s:Nat)(u v:Value)(t:Nat)(q:Int)(z:Nat):Obj:=⟨.type "code",none,.fields #[.str x a,.str x (a+1),.str "/claim/cut.py" (a+2),.int l 0,.int n 0,.int 0 0,.int 0 0,.int 3 0,.ref r,.bool true,.int 181 0,.ref s,.none,u,v,.ref t,.int q 0,.int l 0,.str "/claim/cut.py" z], #[]⟩
def Tw:Value:=.str "anywait.faults" 472
def kJ:Value:=.str "anywait.nets" 239
def HS:Value:=.str "anywait.stands" 418
def Za:Value:=.str "anywait.talks" 394
def gF:Value:=.str "law_anywait_k07_whole_fault_walked" 517
def o52:Obj:=⟨.type "tuple",none,.seq #[.str "input" 245,.str "gate" 246,.str "start" 247,.str "out" 248,.str "state" 249,.str "same" 250,.str "not" 251,.str "and" 252,.str "or" 253,.str "both" 254,.str "held" 255,.str "table" 256,.str "on" 257,.str "off" 258], #[]⟩
def Kf(P:Params):QQq:=[(3,⟨.type "dict",none,.dict #[gE P "__name__" 165 (.str "law_anywait_k07_whole_fault_walked" 517),gE P "__doc__" 166 .none,gE P "__package__" 167 .none,gE P "__loader__" 168 (.builtin "__main__.__loader__#opaque"),gE P "__spec__" 169 .none,gE P "__annotations__" 170 (.ref 6),gE P "__builtins__" 171 (.ref 4),gE P "__file__" 173 (.str "/claim/cut.py" 172),gE P "__cached__" 174 .none,gE P "WaitError" 206 (.ref 24),gE P "NoNet" 222 (.ref 37),gE P "NoTalk" 238 (.ref 49),gE P "LETTERS" 242 (.str "abcdefghijklmnopqrstuvwxyz" 241),gE P "LONGEST_NAME" 244 (.int 6 243),gE P "WORDS" 259 (.ref 52),gE P "MOST_INPUTS" 261 (.int 3 260),gE P "MOST_GATES" 263 (.int 5 262),gE P "MOST_WIRES" 265 (.int 4 264),gE P "MOST_TABLE_WIRES" 267 (.int 8 266),gE P "DEEPEST_HELD" 269 (.int 3 268),gE P "checked" 276 (.ref 59),gE P "is_net" 282 (.ref 64),gE P "has_parts" 288 (.ref 69),gE P "is_tuple" 297 (.ref 76),gE P "is_number" 306 (.ref 83),gE P "is_name" 312 (.ref 88),gE P "are_unlike" 318 (.ref 93),gE P "is_row" 324 (.ref 98),gE P "is_wire" 332 (.ref 105),gE P "are_wires" 338 (.ref 110),gE P "are_rows" 344 (.ref 115),gE P "is_kind" 355 (.ref 122),gE P "is_held" 364 (.ref 129),gE P "wire_names" 370 (.ref 134),gE P "waiting_gates" 376 (.ref 139),gE P "told" 382 (.ref 144),gE P "told_held" 393 (.ref 151),gE P "MOST_STATES" 397 (.int 12 396),gE P "checked_talk" 405 (.ref 158),gE P "is_talk" 411 (.ref 163),gE P "is_state" 417 (.ref 168),gE P "first_stand" 426 (.ref 175),gE P "steps_at" 432 (.ref 180),gE P "is_unasked" 441 (.ref 187),gE P "led_to" 452 (.ref 194),gE P "changed" 458 (.ref 199),gE P "newly_met" 471 (.ref 206),gE P "fault" 484 (.ref 213),gE P "fault_at" 497 (.ref 220),gE P "has_out" 503 (.ref 225),gE P "fault_of_step" 516 (.ref 232),gE P "_law_cell_at" 526 (.ref 239),gE P "_law_mixed" 536 (.ref 246),gE P "_law_next" 545 (.ref 253),gE P "_law_some" 557 (.ref 260),gE P "_law_table" 563 (.ref 265),gE P "_law_kind" 575 (.ref 272),gE P "_law_net" 581 (.ref 277),gE P "_law_talk" 587 (.ref 282),gE P "_law_ring" 593 (.ref 287),gE P "_law_chain" 607 (.ref 294),gE P "_law_meeting" 621 (.ref 301),gE P "_law_spoilt_kind" 627 (.ref 306),gE P "_law_case" 639 (.ref 313),gE P "_law_names" 645 (.ref 318),gE P "_law_tells" 651 (.ref 323),gE P "_law_waiting" 657 (.ref 328),gE P "_law_steps" 663 (.ref 333),gE P "_law_led" 669 (.ref 338),gE P "_law_stands" 682 (.ref 345),gE P "_law_fault_at" 688 (.ref 350),gE P "_law_drawn_run" 706 (.ref 357),gE P "_law_shows" 712 (.ref 362),gE P "law" 729 (.ref 369)] 74, #[]⟩),
 (59,fO "checked" s0 kJ 58),
 (58,cO "checked" 270 17 1 53 54 (.ref 55) (.ref 56) 57 274 275),
 (64,fO "is_net" s1 kJ 63),
 (63,cO "is_net" 277 21 1 60 61 .none .none 62 280 281),
 (69,fO "has_parts" s2 kJ 68),
 (68,cO "has_parts" 283 28 1 65 66 .none .none 67 286 287),
 (76,fO "is_tuple" s3 kJ 75),
 (75,cO "is_tuple" 289 32 3 70 71 (.ref 72) (.ref 73) 74 295 296),
 (83,fO "is_number" s4 kJ 82),
 (82,cO "is_number" 298 34 3 77 78 (.ref 79) (.ref 80) 81 304 305),
 (88,fO "is_name" s5 kJ 87),
 (87,cO "is_name" 307 36 1 84 85 .none .none 86 310 311),
 (93,fO "are_unlike" s6 kJ 92),
 (92,cO "are_unlike" 313 40 1 89 90 .none .none 91 316 317),
 (98,fO "is_row" s7 kJ 97),
 (97,cO "is_row" 319 42 2 94 95 .none .none 96 322 323),
 (105,fO "is_wire" s8 kJ 104),
 (104,cO "is_wire" 325 44 2 99 100 (.ref 101) (.ref 102) 103 330 331),
 (110,fO "are_wires" s9 kJ 109),
 (109,cO "are_wires" 333 46 4 106 107 .none .none 108 336 337),
 (115,fO "are_rows" mO kJ 114),
 (114,cO "are_rows" 339 50 2 111 112 .none .none 113 342 343),
 (122,fO "is_kind" zG kJ 121),
 (121,cO "is_kind" 345 54 3 116 117 (.ref 118) (.ref 119) 120 353 354),
 (129,fO "is_held" s12 kJ 128),
 (128,cO "is_held" 356 70 3 123 124 (.ref 125) (.ref 126) 127 362 363),
 (134,fO "wire_names" s13 kJ 133),
 (133,cO "wire_names" 365 72 1 130 131 .none .none 132 368 369),
 (139,fO "waiting_gates" s14 kJ 138),
 (138,cO "waiting_gates" 371 74 2 135 136 .none .none 137 374 375),
 (144,fO "told" s15 kJ 143),
 (143,cO "told" 377 77 3 140 141 .none .none 142 380 381),
 (151,fO "told_held" s16 kJ 150),
 (150,cO "told_held" 383 93 3 145 146 (.ref 147) (.ref 148) 149 391 392),
 (158,fO "checked_talk" s17 Za 157),
 (157,cO "checked_talk" 398 99 2 152 153 (.ref 154) (.ref 155) 156 403 404),
 (163,fO "is_talk" s18 Za 162),
 (162,cO "is_talk" 406 103 2 159 160 .none .none 161 409 410),
 (168,fO "is_state" s19 Za 167),
 (167,cO "is_state" 412 111 3 164 165 .none .none 166 415 416),
 (175,fO "first_stand" s20 HS 174),
 (174,cO "first_stand" 420 118 1 169 170 (.ref 171) (.ref 172) 173 424 425),
 (180,fO "steps_at" s21 HS 179),
 (179,cO "steps_at" 427 120 3 176 177 .none .none 178 430 431),
 (187,fO "is_unasked" s22 HS 186),
 (186,cO "is_unasked" 433 123 3 181 182 (.ref 183) (.ref 184) 185 439 440),
 (194,fO "led_to" s23 HS 193),
 (193,cO "led_to" 442 125 4 188 189 (.ref 190) (.ref 191) 192 450 451),
 (199,fO "changed" s24 HS 198),
 (198,cO "changed" 453 130 3 195 196 .none .none 197 456 457),
 (206,fO "newly_met" s25 HS 205),
 (205,cO "newly_met" 459 132 4 200 201 (.ref 202) (.ref 203) 204 469 470),
 (213,fO "fault" s26 Tw 212),
 (212,cO "fault" 474 141 2 207 208 (.ref 209) (.ref 210) 211 482 483),
 (220,fO "fault_at" s27 Tw 219),
 (219,cO "fault_at" 485 151 4 214 215 (.ref 216) (.ref 217) 218 495 496),
 (225,fO "has_out" s28 Tw 224),
 (224,cO "has_out" 498 160 2 221 222 .none .none 223 501 502),
 (232,fO "fault_of_step" s29 Tw 231),
 (231,cO "fault_of_step" 504 162 5 226 227 (.ref 228) (.ref 229) 230 514 515),
 (239,fO "_law_cell_at" s30 gF 238),
 (238,cO "_law_cell_at" 519 171 2 233 234 (.ref 235) (.ref 236) 237 524 525),
 (246,fO "_law_mixed" s31 gF 245),
 (245,cO "_law_mixed" 527 177 3 240 241 (.ref 242) (.ref 243) 244 534 535),
 (253,fO "_law_next" s32 gF 252),
 (252,cO "_law_next" 537 180 3 247 248 (.ref 249) (.ref 250) 251 543 544),
 (260,fO "_law_some" s33 gF 259),
 (259,cO "_law_some" 546 183 5 254 255 (.ref 256) (.ref 257) 258 555 556),
 (265,fO "_law_table" s34 gF 264),
 (264,cO "_law_table" 558 188 3 261 262 .none .none 263 561 562),
 (272,fO "_law_kind" s35 gF 271),
 (271,cO "_law_kind" 564 194 4 266 267 (.ref 268) (.ref 269) 270 573 574),
 (277,fO "_law_net" s36 gF 276),
 (276,cO "_law_net" 576 204 4 273 274 .none .none 275 579 580),
 (282,fO "_law_talk" s37 gF 281),
 (281,cO "_law_talk" 582 210 4 278 279 .none .none 280 585 586),
 (287,fO "_law_ring" s38 gF 286),
 (286,cO "_law_ring" 588 218 2 283 284 .none .none 285 591 592),
 (294,fO "_law_chain" s39 gF 293),
 (293,cO "_law_chain" 594 224 2 288 289 (.ref 290) (.ref 291) 292 605 606),
 (301,fO "_law_meeting" s40 gF 300),
 (300,cO "_law_meeting" 608 235 2 295 296 (.ref 297) (.ref 298) 299 619 620),
 (306,fO "_law_spoilt_kind" s41 gF 305),
 (305,cO "_law_spoilt_kind" 622 249 3 302 303 .none .none 304 625 626),
 (313,fO "_law_case" s42 gF 312),
 (312,cO "_law_case" 628 255 2 307 308 (.ref 309) (.ref 310) 311 637 638),
 (318,fO "_law_names" s43 gF 317),
 (317,cO "_law_names" 640 275 1 314 315 .none .none 316 643 644),
 (323,fO "_law_tells" s44 gF 322),
 (322,cO "_law_tells" 646 277 3 319 320 .none .none 321 649 650),
 (328,fO "_law_waiting" s45 gF 327),
 (327,cO "_law_waiting" 652 295 2 324 325 .none .none 326 655 656),
 (333,fO "_law_steps" s46 gF 332),
 (332,cO "_law_steps" 658 298 3 329 330 .none .none 331 661 662),
 (338,fO "_law_led" s47 gF 337),
 (337,cO "_law_led" 664 302 4 334 335 .none .none 336 667 668),
 (345,fO "_law_stands" s48 gF 344),
 (344,cO "_law_stands" 670 311 2 339 340 (.ref 341) (.ref 342) 343 680 681),
 (350,fO "_law_fault_at" s49 gF 349),
 (349,cO "_law_fault_at" 683 323 4 346 347 .none .none 348 686 687),
 (357,fO "_law_drawn_run" s50 gF 356),
 (356,cO "_law_drawn_run" 689 338 5 351 352 (.ref 353) (.ref 354) 355 704 705),
 (362,fO "_law_shows" s51 gF 361),
 (361,cO "_law_shows" 707 352 4 358 359 .none .none 360 710 711),
 (369,fO "law" s52 gF 368),
 (368,cO "law" 713 365 1 363 364 (.ref 365) (.ref 366) 367 727 728),
 (52,o52)]
def Ka:List Addr:=[3,59,58,64,63,69,68,76,75,83,82,88,87,93,92,98,97,105,104,110,109,115,114,122,121,129,128,134,133,139,138,144,143,151,150,158,157,163,162,168,167,175,174,180,179,187,186,194,193,199,198,206,205,213,212,220,219,225,224,232,231,239,238,246,245,253,252,260,259,265,264,272,271,277,276,282,281,287,286,294,293,301,300,306,305,313,312,318,317,323,322,328,327,333,332,338,337,345,344,350,349,357,356,362,361,369,368,52]
def Ke(P:Params):Ka=(Kf P).map (·.1):=rfl
abbrev Kh:PySem.W.Hook:=PySem.W.kHook Kf Ka Ke
def lo:List Str:="__name__"::"WaitError"::"NoNet"::"NoTalk"::"LETTERS"::"LONGEST_NAME"::"WORDS"::"MOST_INPUTS"::"MOST_GATES"::"MOST_WIRES"::"MOST_TABLE_WIRES"::"DEEPEST_HELD"::"checked"::"is_net"::"has_parts"::"is_tuple"::"is_number"::"is_name"::"are_unlike"::"is_row"::"is_wire"::"are_wires"::"are_rows"::"is_kind"::"is_held"::"wire_names"::"waiting_gates"::"told"::"told_held"::"MOST_STATES"::"checked_talk"::"is_talk"::"is_state"::"first_stand"::"steps_at"::"is_unasked"::"led_to"::"changed"::"newly_met"::"fault"::"fault_at"::"has_out"::"fault_of_step"::"_law_cell_at"::"_law_mixed"::"_law_next"::"_law_some"::"_law_table"::"_law_kind"::"_law_net"::"_law_talk"::"_law_ring"::"_law_chain"::"_law_meeting"::"_law_spoilt_kind"::"_law_case"::"_law_names"::"_law_tells"::"_law_waiting"::"_law_steps"::"_law_led"::"_law_stands"::"_law_fault_at"::"_law_drawn_run"::"_law_shows"::[]
def qV:Program:=view PySem.Challenge.pw_anywait_k07_whole_fault_walked [70]
def hl:LeftO PySem.Challenge.pw_anywait_k07_whole_fault_walked qV lo (fun s=>recOk [] s) (Hook.obs Kh) (Hook.val Kh) 4774:=fun w=>by
 rw[PySem.W.Fast.te4187177175401517315,PySem.W.Fast.te5923862056798008813,PySem.W.Fast.te14364793385576792824]
 kernel_rfl
end Tx
end
section
namespace L2
open PySem PySem.Spec PyProof.Rows
abbrev Key:=Sum Int Str
def u5:Key->Value->Bool
 |.inl k,v=>Value.isInt k v
 |.inr x,v=>Value.isStrOf x v
def afu(w:World):Key->Int
 |.inl k=>hashInt k
 |.inr x=>hashStr w x
theorem cB:∀{k:Key}{v:Value},u5 k v=true->(∃i t,k=Sum.inl i/\v=Value.int i t)\/(∃x t,k=Sum.inr x/\v=Value.str x t)
 |.inl i,v,h=>by
  obtain⟨t,e⟩:=Value.isInt_shape (k:=i) (v:=v) h
  exact .inl ⟨i,t,rfl,e⟩
 |.inr x,v,h=>by
  obtain⟨t,e⟩:=Value.isStrOf_shape (x:=x) (v:=v) h
  exact .inr ⟨x,t,rfl,e⟩
def Hg(i:Int)(t:Tok):u5 (.inl i) (.int i t)=true:=by simp[u5,Value.isInt]
def Hf(x:Str)(t:Tok):u5 (.inr x) (.str x t)=true:=by simp[u5,Value.isStrOf]
def WR(a b:Int):decide ((Sum.inl a:Key)=Sum.inl b)=(a==b):=by
 by_cases e:a=b
 ·subst e;simp
 ·have h:¬(Sum.inl a:Key)=Sum.inl b:=fun q=>e (Sum.inl.inj q)
  rw[QEz h]
  exact(beq_eq_false_iff_ne.mpr e).symm
def WN(a b:Str):decide ((Sum.inr a:Key)=Sum.inr b)=decide (a=b):=by
 by_cases e:a=b
 ·subst e;simp
 ·have h:¬(Sum.inr a:Key)=Sum.inr b:=fun q=>e (Sum.inr.inj q)
  rw[QEz h,QEz e]
def WQ(a:Int)(b:Str):decide ((Sum.inl a:Key)=Sum.inr b)=false:=QEz (fun q=>nomatch q)
def WP(a:Str)(b:Int):decide ((Sum.inr a:Key)=Sum.inl b)=false:=QEz (fun q=>nomatch q)
def cg(prog:Program)(w:World):PySem.KeyKind prog w Key where
 is:=u5
 hash:=afu w
 inj:=fun v a b ha hb=>by
  rcases cB ha with ⟨i,t,rfl,rfl⟩|⟨x,t,rfl,rfl⟩
  ·rcases cB hb with ⟨j,u,rfl,e⟩|⟨y,u,rfl,e⟩
   ·injection e with e1 _;rw[e1]
   ·exact nomatch e
  ·rcases cB hb with ⟨j,u,rfl,e⟩|⟨y,u,rfl,e⟩
   ·exact nomatch e
   ·injection e with e1 _;rw[e1]
 byValue:=fun k v h=>by
  rcases cB h with ⟨i,t,rfl,rfl⟩|⟨x,t,rfl,rfl⟩<;>rfl
 pyHash:=fun hv h=>by
  rcases cB hv with ⟨i,t,rfl,rfl⟩|⟨x,t,rfl,rfl⟩
  ·exact wpAny_pyHash_int h
  ·exact wpAny_pyHash_str h
 eqBool:=fun hu hv h=>by
  rcases cB hu with ⟨i,t,rfl,rfl⟩|⟨x,t,rfl,rfl⟩
  ·rcases cB hv with ⟨j,u,rfl,rfl⟩|⟨y,u,rfl,rfl⟩
   ·rw[WR]at h;exact wpAny_eqBool_int h
   ·rw[WQ]at h;exact SeqAt.EqAt.int_str i t y u _ _ _ _ h
  ·rcases cB hv with ⟨j,u,rfl,rfl⟩|⟨y,u,rfl,rfl⟩
   ·rw[WP]at h;exact SeqAt.EqAt.str_int x t j u _ _ _ _ h
   ·rw[WN]at h;exact wpAny_eqBool_str h
 «strs»:=fun k x t v h=>by
  rcases cB h with ⟨i,u,rfl,e⟩|⟨y,u,rfl,e⟩
  ·exact nomatch e
  ·injection e with e1 _
   subst e1
   cases v<;>rfl
def yx(prog:Program)(w:World)(i:Int)(t:Tok):(cg prog w).is (.inl i) (.int i t)=true:=Hg i t
def yw(prog:Program)(w:World)(x:Str)(t:Tok):(cg prog w).is (.inr x) (.str x t)=true:=Hf x t
inductive V where
 |non|bl (b:Bool)|int (i:Int)|str (x:Str)|byt (b:Array UInt8)|flt (b:UInt64)|ref (a:Addr)|ty (n:String)
 deriving DecidableEq
def RelV:V->Value->Prop
 |.non,u=>u=Value.none
 |.bl b,u=>u=Value.bool b
 |.int i,u=>∃t,u=Value.int i t
 |.str x,u=>∃t,u=Value.str x t
 |.byt b,u=>∃t,u=Value.bytes b t
 |.flt b,u=>∃t,u=Value.float b t
 |.ref a,u=>u=Value.ref a
 |.ty n,u=>u=Value.type n
abbrev Vals:List V->List Value->Prop:=Paired RelV
theorem Vals.length{xs:List V}{us:List Value}(r:Vals xs us):xs.length=us.length:=Paired.length r
theorem Vals.get:∀{xs:List V}{us:List Value}{i:Nat}{x:V},Vals xs us->xs[i]? =some x->∃u,us[i]? =some u/\RelV x u
 |_,_,_,_,.nil=>fun e=>by simp at e
 |_,_,0,_,.cons r _=>fun e=>by simp at e;subst e;exact⟨_,rfl,r⟩
 |_,_,i+1,x,.cons _ t=>fun e=>by
  obtain⟨u,h1,h2⟩:=Vals.get (i:=i) (x:=x) t (by simpa using e)
  exact⟨u,by simpa using h1,h2⟩
theorem Vals.set{x:V}{u:Value}(r:RelV x u):∀{xs:List V}{us:List Value}(i:Nat),Vals xs us->Vals (xs.set i x) (us.set i u)
 |_,_,_,.nil=>.nil
 |_,_,0,.cons _ t=>.cons r t
 |_,_,i+1,.cons q t=>.cons q (Vals.set r i t)
theorem Vals.append:∀{xs ys:List V}{us ws:List Value},Vals xs us->Vals ys ws->Vals (xs++ys) (us++ws)
 |_,_,_,_,.nil=>fun s=>s
 |_,_,_,_,.cons r t=>fun s=>.cons r (Vals.append t s)
theorem Vals.take:∀{xs:List V}{us:List Value}(n:Nat),Vals xs us->Vals (xs.take n) (us.take n)
 |_,_,0,_=>.nil
 |_,_,_+1,.nil=>.nil
 |_,_,n+1,.cons r t=>.cons r (Vals.take n t)
theorem Vals.drop:∀{xs:List V}{us:List Value}(n:Nat),Vals xs us->Vals (xs.drop n) (us.drop n)
 |_,_,0,r=>r
 |_,_,_+1,.nil=>.nil
 |_,_,n+1,.cons _ t=>Vals.drop n t
def nQ:Option V->Option Value->Prop
 |some v,some u=>RelV v u
 |none,none=>True
 |_,_=>False
def KV{κ:Type}:List (κ×V)->List (κ×Value)->Prop:=Paired fun(p:κ×V)(q:κ×Value)=>p.1=q.1/\RelV p.2 q.2
def kV:Key->V
 |.inl i=>.int i
 |.inr x=>.str x
abbrev SK:=List Bool×Int
abbrev SV:=SK×Addr×V
def bh(b:Bool):Int:=reduceHash (if b then 1 else 0)
def stH(k:SK):Int:=reduceHash (Builtin.Tuple.tupleHashOf [reduceHash (Builtin.Tuple.tupleHashOf (k.1.map bh)),hashInt k.2])
abbrev NT:SV->SK×Addr×Value->Prop:=fun p q=>p.1=q.1/\p.2.1=q.2.1/\RelV p.2.2 q.2.2
inductive HO where
 |lst (xs:List V)
 |tup (xs:List V)
 |dK (kvs:List (Key×V))|dT (kvs:List (List Key×V))|dS (xs:List SV)
 |set (S:Int->Bool) (n:Nat)
 |ins (C dx:Addr) (fs:List (Str×V))
 |own (x:Addr)
 |xd (fs:List (Str×V))
 |met (f x:Addr)
 |rng (lo hi:Int)
 |frz (o:Obj) (u:HO)
 |tbl (ps:Array Value)
 |ext (φ:Heap->Prop)
abbrev Hp:=Addr->Option HO
def upd(H:Hp)(a:Addr)(o:HO):Hp:=fun b=>if b=a then some o else H b
variable{H:Hp}{a:Addr}
def aW{o:HO}:upd H a o a=some o:=by unfold upd;rw[if_pos rfl]
variable{b:Addr}
def aC{o:HO}(h:b≠a):upd H a o b=H b:=by unfold upd;rw[if_neg h]
def abv{o u:HO}(h:H a=some o)(h':H b=some u)(d:o≠u):a≠b:=by
 intro e;subst e;rw[h]at h';exact d (QEq h')
def gn{o:HO}(h:H a=some o)(h':H b=none):a≠b:=by
 intro e;subst e;rw[h]at h';cases h'
def TupOk(h:Heap)(a:Addr)(items:Array Value):Prop:=∃o,h.get? a=some o/\o.cls=.type "tuple"/\o.dict=none/\∃n,o.data=.seq items n
variable{h:Heap}
def TupOk.is{items:Array Value}(x:TupOk h a items):IsTup h a items:=let ⟨o,e,c,_,d⟩:=x;⟨o,e,c,d⟩
def TupOk.new(h:Heap)(items:Array Value):TupOk (h.push {cls:=.type "tuple",data:=.seq items}) h.objs.size items:=⟨_,Qzq _ rfl,rfl,rfl,_,rfl⟩
section
variable(P:Program)(w:World)
def bW(H:Hp)(h:Heap)(a:Addr):HO->Prop
 |.lst xs=>xs.length<=sizeLine/\∃(its:List Value)(n:Nat),Vals xs its/\h.get? a=some {cls:=.type "list",data:=.seq its.toArray n}
 |.tup xs=>xs.length<=sizeLine/\∃its:List Value,Vals xs its/\TupOk h a its.toArray
 |.dK kvs=>kvs.length<=sizeLine/\(a==sysModules)=false/\∃vs,KV kvs vs/\h.DictOf (cg P w) a vs
 |.dT kvs=>kvs.length<=sizeLine/\(a==sysModules)=false/\∃xs:List (List Key×Addr×Value),
   Paired (fun(p:List Key×V)(q:List Key×Addr×Value)=>p.1=q.1/\H q.2.1=some (.tup (p.1.map kV))/\RelV p.2 q.2.2) kvs xs/\
   ∃o es ep,h.get? a=some o/\o.ExactDict/\o.data=.dict es ep/\es.toList=xs.map (entryOfKey (tupleKind (cg P w)))/\(xs.map (·.1)).Nodup
 |.dS xs=>xs.length<=sizeLine/\(a==sysModules)=false/\(xs.map (·.1)).Nodup/\∃(ys:List (SK×Addr×Value))(o:Obj)(es:Array DictEntry)(ep:Nat),Paired NT xs ys/\h.get? a=some o/\o.ExactDict/\o.data=.dict es ep/\es.toList=ys.map fun y=>⟨stH y.1,.ref y.2.1,y.2.2⟩
 |.set S n=>h.SetOf (intKind P w) a S n
 |.ins C dx fs=>H dx=some (.own a)/\fs.length<=1000/\dx≠a/\h.get? a=some (PySem.W.instObj C dx)/\
   ∃mA,h.Ns1 dx mA/\(∀f,nQ (fs.lookup f) (mA f))/\PySem.Within mA (fs.map (·.1))
 |.own _=>∃o,h.get? a=some o
 |.xd fs=>∃mA,h.Ns1 a mA/\∀f,nQ (fs.lookup f) (mA f)
 |.rng lo hi=>∃t u v,h.get? a=some {cls:=.type "range",data:=.fields #[.int lo t,.int hi u,.int 1 v]}
 |.frz o u=>h.get? a=some o/\bW H h a u
 |.tbl ps=>h.get? a=some {cls:=.none,data:=.fields ps}
 |.met f x=>h.get? a=some (PySem.W.methodObj (.ref f) (.ref x))
 |.ext φ=>φ h/\(∃o,h.get? a=some o)/\∀h1 h2:Heap,φ h1->(∀o,h1.get? a=some o->h2.get? a=some o)->φ h2
def mG(H:Hp)(h:Heap):Prop:=∀a o,H a=some o->bW P w H h a o
end
section
variable{P:Program}{w:World}{H H':Hp}{h h':Heap}{a:Addr}{o:HO}
theorem bW.lt(x:bW P w H h a o):a<h.objs.size:=by
 cases o with
 |lst xs=>obtain⟨_,_,_,_,e⟩:=x;exact Qqz e
 |tup xs=>obtain⟨_,_,_,p⟩:=x;exact p.is.lt
 |dK kvs=>obtain⟨_,_,_,_,o,_,_,e,_⟩:=x;exact Qqz e
 |dT kvs=>obtain⟨_,_,_,_,o,_,_,e,_⟩:=x;exact Qqz e
 |dS xs=>obtain⟨_,_,_,_,o,_,_,_,e,_⟩:=x;exact Qqz e
 |set S n=>obtain⟨o,_,_,_,e,_⟩:=x;exact Qqz e
 |ins C dx fs=>obtain⟨_,_,_,e,_⟩:=x;exact Qqz e
 |own y=>obtain⟨_,e⟩:=x;exact Qqz e
 |xd fs=>obtain⟨_,⟨_,_,_,e,_⟩,_⟩:=x;exact Qqz e
 |rng lo hi=>obtain⟨_,_,_,e⟩:=x;exact Qqz e
 |frz ob u=>obtain⟨e,_⟩:=x;exact Qqz e
 |tbl ps=>exact Qqz (show h.get? a=some _ from x)
 |met f y=>exact Qqz (show h.get? a=some _ from x)
 |ext φ=>obtain⟨_,⟨_,e⟩,_⟩:=x;exact Qqz e
theorem Paired.Wy{α β:Type}{F G:α->β->Prop}:∀{l₁:List α}{l₂:List β},Paired F l₁ l₂->(∀a b,F a b->G a b)->Paired G l₁ l₂
 |_,_,.nil=>fun _=>.nil
 |_,_,.cons r t=>fun f=>.cons (f _ _ r) (Paired.Wy t f)
theorem bW.stay(x:bW P w H h a o)(k:∀b u,(b=a\/H b=some (.own a))->h.get? b=some u->h'.get? b=some u)
  (ho:∀b,H b=some (.own a)->H' b=some (.own a))(ht:∀b xs,H b=some (.tup xs)->H' b=some (.tup xs)):bW P w H' h' a o:=by
 induction o with
 |lst xs=>obtain⟨z,its,n,r,e⟩:=x;exact⟨z,its,n,r,k _ _ (.inl rfl) e⟩
 |tup xs=>obtain⟨z,its,r,ob,e,c⟩:=x;exact⟨z,its,r,ob,k _ _ (.inl rfl) e,c⟩
 |dK kvs=>obtain⟨z,y,vs,r,ob,es,ep,e,c⟩:=x;exact⟨z,y,vs,r,ob,es,ep,k _ _ (.inl rfl) e,c⟩
 |dT kvs=>
  obtain⟨z,y,xs,r,ob,es,ep,e,c⟩:=x
  exact⟨z,y,xs,Paired.Wy r fun p q z=>⟨z.1,ht _ _ z.2.1,z.2.2⟩,ob,es,ep,k _ _ (.inl rfl) e,c⟩
 |dS xs=>obtain⟨z,y,nd,ys,ob,es,ep,pr,e,c⟩:=x;exact⟨z,y,nd,ys,ob,es,ep,pr,k _ _ (.inl rfl) e,c⟩
 |set S n=>obtain⟨ob,es,ep,t,e,c⟩:=x;exact⟨ob,es,ep,t,k _ _ (.inl rfl) e,c⟩
 |ins C dx fs=>
  obtain⟨d,z,ne,e,mA,⟨od,es,ep,e2,c⟩,r⟩:=x
  exact⟨ho _ d,z,ne,k _ _ (.inl rfl) e,mA,⟨od,es,ep,k _ _ (.inr d) e2,c⟩,r⟩
 |own y=>obtain⟨ob,e⟩:=x;exact⟨ob,k _ _ (.inl rfl) e⟩
 |xd fs=>obtain⟨mA,⟨od,es,ep,e,c⟩,r⟩:=x;exact⟨mA,⟨od,es,ep,k _ _ (.inl rfl) e,c⟩,r⟩
 |rng lo hi=>obtain⟨t,u,v,e⟩:=x;exact⟨t,u,v,k _ _ (.inl rfl) e⟩
 |frz ob u ih=>obtain⟨e,q⟩:=x;exact⟨k _ _ (.inl rfl) e,ih q⟩
 |tbl ps=>
  have e:h.get? a=some {cls:=.none,data:=.fields ps}:=x
  show h'.get? a=some {cls:=.none,data:=.fields ps}
  exact k a _ (.inl rfl) e
 |met f y=>
  have e:h.get? a=some (PySem.W.methodObj (.ref f) (.ref y)):=x
  show h'.get? a=some (PySem.W.methodObj (.ref f) (.ref y))
  exact k a _ (.inl rfl) e
 |ext φ=>obtain⟨p,⟨o,e⟩,st⟩:=x;exact⟨st _ _ p fun o q=>k _ _ (.inl rfl) q,⟨o,k _ _ (.inl rfl) e⟩,st⟩
theorem mG.lt(x:mG P w H h)(e:H a=some o):a<h.objs.size:=(x a o e).lt
def mG.fresh(x:mG P w H h)(e:h.objs.size<=a):H a=none:=by
 cases q:H a with
 |none=>rfl
 |some u=>exact absurd (Qvq (x.lt q) e) (Nat.lt_irrefl _)
def mG.kept(x:mG P w H h)(k:∀b u,h.get? b=some u->h'.get? b=some u):mG P w H h':=fun a o e=>
 (x a o e).stay (fun b u _ q=>k b u q) (fun _ q=>q) fun _ _ q=>q
def mG.laid(x:mG P w H h)(k:∀b u,h.get? b=some u->h'.get? b=some u)(hp:h.objs.size<=a)(new:bW P w (upd H a o) h' a o):mG P w (upd H a o) h':=fun b u e=>by
 have hn:=x.fresh hp
 by_cases hb:b=a
 ·subst hb;rw[aW]at e;cases e;exact new
 ·rw[aC hb]at e
  exact(x b u e).stay (fun c v _ q=>k c v q) (fun c q=>by rw[aC (gn q hn)];exact q) fun c xs q=>by rw[aC (gn q hn)];exact q
end
def Rd(H:Hp)(a:Addr)(u:HO):Prop:=H a=some u\/∃o,H a=some (.frz o u)
variable{P:Program}
def Rd.ok{w:World}{u:HO}(r:Rd H a u)(x:mG P w H h):bW P w H h a u:=by
 rcases r with r|⟨o,r⟩
 ·exact x a u r
 ·obtain⟨_,q⟩:=x a _ r
  exact q
def Mut:Option HO->Prop
 |some (.lst _)=>True
 |some (.dK _)=>True
 |some (.dT _)=>True
 |some (.dS _)=>True
 |some (.set _ _)=>True
 |some (.ins _ _ _)=>True
 |some (.ext _)=>True
 |_=>False
section
variable{P:Program}{w:World}{H:Hp}{h h':Heap}{x e:Addr}{o':HO}
def mG.write(ok:mG P w H h)(mu:Mut (H x))(he:e=x\/H e=some (.own x))(k:∀b u,b≠e->h.get? b=some u->h'.get? b=some u)(heo:∃u,h'.get? e=some u)
  (new:bW P w (upd H x o') h' x o'):mG P w (upd H x o') h':=fun b u q=>by
 have nown:∀c y,H c=some (.own y)->c≠x:=fun c y r z=>by subst z;rw[r]at mu;exact mu
 have ntup:∀c xs,H c=some (.tup xs)->c≠x:=fun c xs r z=>by subst z;rw[r]at mu;exact mu
 by_cases hb:b=x
 ·subst hb;rw[aW]at q;cases q;exact new
 ·rw[aC hb]at q
  by_cases hbe:b=e
  ·have q':H b=some (.own x):=by
    rcases he with z|z
    ·exact absurd (hbe.trans z) hb
    ·rw[hbe];exact z
   rw[q]at q';cases q'
   obtain⟨v,hv⟩:=heo
   exact⟨v,by rw[hbe];exact hv⟩
  ·refine(ok b u q).stay (fun c v hc r=>k c v ?_ r) (fun c r=>by rw[aC (nown c b r)];exact r) fun c xs r=>by rw[aC (ntup c xs r)];exact r
   rcases hc with rfl|hc
   ·exact hbe
   ·rintro rfl
    rcases he with z|z
    ·exact nown c b hc z
    ·rw[hc]at z;cases z;exact hb rfl
end
structure Un(fs ex:List Addr)(H H':Hp)(h h':Heap):Prop where
 keep:∀b o,h.get? b=some o->H b=none->b∉fs->b∉ex->h'.get? b=some o
 slot:∀b o,h.get? b=some o->H b=none->b∈fs->b∉ex->∃sl,h'.get? b=some {o with slots:=sl}
 free:∀b o,h.get? b=some o->H b=none->b∉ex->H' b=none
 there:∀b o,h.get? b=some o->b∉ex->∃o',h'.get? b=some o'
 tups:∀b xs,H b=some (.tup xs)->H' b=some (.tup xs)
 frzs:∀b o u,H b=some (.frz o u)->H' b=some (.frz o u)
 tbls:∀b ps,H b=some (.tbl ps)->∃more,H' b=some (.tbl (ps++more))
section
variable{fs fs' ex ex':List Addr}{H H1 H2:Hp}{h h1 h2 h':Heap}{a x e:Addr}{o:HO}
def Un.any(u:Un fs ex H H1 h h1){ob:Obj}(q:h.get? b=some ob)(n:H b=none)(hx:b∉ex):∃sl,h1.get? b=some {ob with slots:=sl}:=by
 by_cases hb:b∈fs
 ·exact u.slot b ob q n hb hx
 ·exact⟨ob.slots,u.keep b ob q n hb hx⟩
theorem Un.trans(a:Un fs ex H H1 h h1)(b:Un fs ex H1 H2 h1 h2):Un fs ex H H2 h h2 where
 keep:=fun c ob q n hc hx=>b.keep c ob (a.keep c ob q n hc hx) (a.free c ob q n hx) hc hx
 slot:=fun c ob q n hc hx=>by
  obtain⟨sl,e1⟩:=a.slot c ob q n hc hx
  obtain⟨sl',e2⟩:=b.slot c _ e1 (a.free c ob q n hx) hc hx
  exact⟨sl',e2⟩
 free:=fun c ob q n hx=>by
  obtain⟨o',e1⟩:=a.there c ob q hx
  exact b.free c o' e1 (a.free c ob q n hx) hx
 there:=fun c ob q hx=>by
  obtain⟨o',e1⟩:=a.there c ob q hx
  exact b.there c o' e1 hx
 tups:=fun c xs q=>b.tups c xs (a.tups c xs q)
 frzs:=fun c ob xs q=>b.frzs c ob xs (a.frzs c ob xs q)
 tbls:=fun c ps q=>by
  obtain⟨m1,e1⟩:=a.tbls c ps q
  obtain⟨m2,e2⟩:=b.tbls c _ e1
  exact⟨m1++m2,by rw[e2,Array.append_assoc]⟩
def Un.kept(k:∀b u,h.get? b=some u->h'.get? b=some u):Un fs ex H H h h':=
 ⟨fun b ob q _ _ _=>k b ob q,fun b ob q _ _ _=>⟨ob.slots,k b ob q⟩,fun _ _ _ n _=>n,fun b ob q _=>⟨ob,k b ob q⟩,fun _ _ q=>q,fun _ _ _ q=>q,fun _ ps q=>⟨#[],by rw[q];simp⟩⟩
def Un.refl:Un fs ex H H h h:=Un.kept fun _ _ q=>q
theorem Un.laid(k:∀b u,h.get? b=some u->h'.get? b=some u)(hp:h.objs.size<=a)(hn:H a=none):Un fs ex H (upd H a o) h h' where
 keep:=fun b u q _ _ _=>k b u q
 slot:=fun b u q _ _ _=>⟨u.slots,k b u q⟩
 free:=fun b u q n _=>by rw[aC (Qvz (Qvq (Qqz q) hp))];exact n
 there:=fun b u q _=>⟨u,k b u q⟩
 tups:=fun b xs q=>by rw[aC (gn q hn)];exact q
 frzs:=fun b u xs q=>by rw[aC (gn q hn)];exact q
 tbls:=fun b ps q=>⟨#[],by rw[aC (gn q hn),q];simp⟩
def Un.write(mu:Mut (H x))(he:e=x\/H e=some (.own x))(k:∀b u,b≠e->h.get? b=some u->h'.get? b=some u)(heo:∃u,h'.get? e=some u):Un fs ex H (upd H x o) h h':=by
 have hx:∀b,H b=none->b≠x:=fun b n z=>by subst z;rw[n]at mu;exact mu
 have hb:∀b,H b=none->b≠e:=fun b n z=>by
  subst z
  rcases he with r|r
  ·exact hx b n r
  ·rw[n]at r;cases r
 have hm:∀b u,H b=some u->¬Mut (some u)->b≠x:=fun b u q nm z=>by subst z;rw[q]at mu;exact nm mu
 refine⟨fun b u q n _ _=>k b u (hb b n) q,fun b u q n _ _=>⟨u.slots,k b u (hb b n) q⟩,fun b u q n _=>by rw[aC (hx b n)];exact n,fun b u q _=>?_,
  fun b xs q=>by rw[aC (hm b _ q fun z=>z)];exact q,fun b u xs q=>by rw[aC (hm b _ q fun z=>z)];exact q,fun b ps q=>⟨#[],by rw[aC (hm b _ q fun z=>z),q];simp⟩⟩
 by_cases hbe:b=e
 ·subst hbe;exact heo
 ·exact⟨u,k b u hbe q⟩
end
def trk(h:Heap)(H:Hp):List Addr:=(List.range h.objs.size).filter fun a=>(H a).isSome
def wB(h:Heap)(H:Hp):Heap:=PySem.W.hideAll h (trk h H)
def Hk(h:Heap)(H:Hp):(wB h H).objs.size=h.objs.size:=PySem.W.hideAll_size _ _
variable{o:Obj}
def Lh(e:h.get? b=some o)(n:H b=none):(wB h H).get? b=some o:=
 PySem.W.hideAll_get _ e fun hm=>by
  have q:(H b).isSome=true:=(List.mem_filter.mp hm).2
  rw[n]at q;simp at q
def QD(e:(wB h H).get? b=some o):h.get? b=some o/\H b=none:=by
 have e':h.get? b=some o:=PySem.W.of_hideAll (trk h H) e
 refine⟨e',?_⟩
 cases q:H b with
 |none=>rfl
 |some x=>
  have hm:b∈trk h H:=List.mem_filter.mpr ⟨List.mem_range.mpr (Qqz e'),by simp[q]⟩
  have z:(wB h H).get? b=none:=PySem.W.hideAll_none (trk h H) hm
  rw[z]at e;cases e
def RJ(g h:Heap)(L:Addr):List (Addr×Obj):=(List.range h.objs.size).filterMap fun a=>if a=L\/(g.get? a).isSome=true then none else(h.get? a).map fun o=>(a,o)
def rest(g h:Heap)(L d:Addr):List (Addr×Obj):=(RJ g h L).filter fun p=>decide (p.1≠d)
structure Mod(K:QQq)(mg:QZz)(base:Heap):Prop where
 kin:K.In base
 glob:base.Ns mainGlobals mg
 blt:∃mb,base.Ns builtinsNs mb/\∀x:Str,x≠"__name__"->mb x=bootBuiltins x
 nolimit:base.NoLimit
structure Cx where
 prog:Program
 w:World
 K:QQq
 mg:Str->Option Value
 base:Heap
 A:Around
 N:List Str
 s₀:Shared
 H₀:Hp
 env:Env
 outer:List Env
 stack:List Env
 ex:List Addr
 fn:Str->Bool
 calm:Bool
 pn:List (Addr×Obj)
 xe:Value->Shared->Prop
def frs(l:List Env):List Addr:=l.filterMap (·.frame)
abbrev Cx.fs(X:Cx):List Addr:=frs X.outer
def Z0(sc:Scope)(x:Str):Prop:=sc.names.lookup x=some .local\/sc.names.lookup x=some .cell\/sc.names.lookup x=some .free
def Loc(sc:Scope)(x:Str):Prop:=sc.names.lookup x=some .local\/sc.names.lookup x=some .cell
def Look(env:Env)(h:Heap)(m:QZz)(x:Str)(u:Value):Prop:=
 (env.kindOf x=some .local/\m x=some u)\/((env.kindOf x=some .cell\/env.kindOf x=some .free)/\∃c,env.cells.lookup x=some c/\h.IsCell c (some u))
structure Cx.Ok(X:Cx):Prop where
 mod:Mod X.K X.mg X.base
 kind:X.env.scope.kind=.function
 glob:X.env.globals=mainGlobals
 blt:X.env.builtins=builtinsNs
 above:X.s₀.heap.objs.size<=X.env.locals
 inj:∀x y c,X.env.cells.lookup x=some c->X.env.cells.lookup y=some c->x=y
 has:∀x,(X.env.kindOf x=some .cell\/X.env.kindOf x=some .free)->∃c,X.env.cells.lookup x=some c
 cab:∀x c,X.fn x=true->X.env.cells.lookup x=some c->X.s₀.heap.objs.size<=c
 hd:X.calm=true->X.A.handled=none
 frames:X.A.frames=some X.stack
 stk:X.stack=X.outer\/(X.stack=X.env::X.outer/\X.env.frame=some X.env.locals)
 exf:∀b∈X.ex,b≠X.env.locals/\∀x c,X.env.cells.lookup x=some c->c≠b
 bs:∀b o,X.base.get? b=some o->X.s₀.heap.get? b=some o/\X.H₀ b=none
 bsz:X.base.objs.size<=X.s₀.heap.objs.size
 noex:∀b o,X.base.get? b=some o->b∉X.ex
 exfs:∀b∈X.ex,b∉X.fs
 lU:X.s₀.heap.FunFrames X.base X.outer
 frf:∀b∈X.fs,X.H₀ b=none
structure Inv(X:Cx)(Q0q:QQz)(σ:List (Option V))(H:Hp)(s:Shared):Prop where
 ok:X.Ok
 os:s.os=X.s₀.os
 bare:AllBare s.gens
 base:Un X.fs X.ex X.H₀ H X.s₀.heap s.heap
 loc:∃m,s.heap.Ns X.env.locals m/\∀(i:Nat)(x:Str)(v:V),X.N[i]? =some x->σ[i]? =some (some v)->Z0 X.env.scope x->∃u,RelV v u/\Look X.env s.heap m x u
 cell:∀x c,X.env.cells.lookup x=some c->∃v,s.heap.IsCell c v
 free:H X.env.locals=none
 freeC:∀x c,X.env.cells.lookup x=some c->H c=none
 pin:∀p∈X.pn++Q0q,s.heap.get? p.1=some p.2/\H p.1=none/\p.1≠X.env.locals/\p.1∉X.fs/\∀v,p.2.data≠ .cell v
 hok:mG X.prog X.w H s.heap
 len:σ.length=X.N.length
variable{A:Around}{M:Model}{Q:Unit->Shared->Prop}{i t':Nat}{u:Value}{v:V}{x:Str}
section
variable{X:Cx}{Q0q:QQz}{σ:List (Option V)}{H H':Hp}{s:Shared}{h':Heap}
def Cx.Ok.afq(ok:X.Ok)(e:X.base.get? b=some o):b∉X.fs:=fun hb=>by
 have:=(ok.lU.mem hb).1
 rw[e]at this;cases this
theorem Inv.bs(I:Inv X Q0q σ H s):∀b o,X.base.get? b=some o->s.heap.get? b=some o/\H b=none:=fun b o e=>
 ⟨I.base.keep b o (I.ok.bs b o e).1 (I.ok.bs b o e).2 (I.ok.afq e) (I.ok.noex b o e),I.base.free b o (I.ok.bs b o e).1 (I.ok.bs b o e).2 (I.ok.noex b o e)⟩
def Inv.bk(I:Inv X Q0q σ H s):∀b o,X.base.get? b=some o->s.heap.get? b=some o:=fun b o e=>(I.bs b o e).1
theorem Inv.mod(I:Inv X Q0q σ H s):Mod X.K X.mg X.base:=I.ok.mod
def Inv.Zi(I:Inv X Q0q σ H s):X.K.In s.heap:=I.ok.mod.kin.keeps I.bk
def Inv.fr(I:Inv X Q0q σ H s):∃m,Fr X.base X.env.locals s.heap m:=
 let ⟨m,hn,_⟩:=I.loc
 ⟨m,hn,I.bk,Nat.le_trans I.ok.bsz I.ok.above⟩
theorem Inv.lt(I:Inv X Q0q σ H s):X.env.locals<s.heap.objs.size:=let ⟨_,hn,_⟩:=I.loc;hn.lt
def Inv.sz(I:Inv X Q0q σ H s):X.s₀.heap.objs.size<=s.heap.objs.size:=Nat.le_trans I.ok.above (Nat.le_of_lt I.lt)
def Inv.afp(I:Inv X Q0q σ H s)(h:s.heap.objs.size<=a):a∉X.fs:=fun hb=>by
 obtain⟨_,o,ho,_⟩:=I.ok.lU.mem hb
 exact absurd (Qvq (Qqz ho) (Nat.le_trans I.sz h)) (Nat.lt_irrefl _)
def Inv.Yl(I:Inv X Q0q σ H s):∀x c,X.env.cells.lookup x=some c->c≠X.env.locals:=fun x c e z=>by
 obtain⟨v,o,ho,hd⟩:=I.cell x c e
 obtain⟨m,⟨o',es,ep,ho',hd',_⟩,_⟩:=I.loc
 rw[z,ho']at ho;cases ho;rw[hd']at hd;cases hd
theorem Inv.lU(I:Inv X Q0q σ H s):s.heap.FunFrames X.base X.outer:=by
 have all:∀(l:List Env),(∀b∈frs l,b∈X.fs)->X.s₀.heap.FunFrames X.base l->s.heap.FunFrames X.base l:=by
  intro l
  induction l with
  |nil=>intro _ _;trivial
  |cons env r ih=>
   intro hs hl
   obtain⟨hk,⟨L,o,hf,hn,ho,hd⟩,hr⟩:=hl
   have hL:L∈X.fs:=hs L (by unfold frs;rw[List.filterMap_cons,hf];exact QYz)
   obtain⟨sl,e⟩:=I.base.slot L o ho (I.ok.frf L hL) hL fun z=>I.ok.exfs L z hL
   exact⟨hk,⟨L,_,hf,hn,e,hd⟩,ih (fun b hb=>hs b (by unfold frs;rw[List.filterMap_cons,hf];exact QYq _ hb)) hr⟩
 exact all X.outer (fun _ hb=>hb) I.ok.lU
theorem Inv.stack(I:Inv X Q0q σ H s):s.heap.FunFrames X.base X.stack:=by
 rcases I.ok.stk with e|⟨e,hf⟩
 ·rw[e];exact I.lU
 ·rw[e]
  obtain⟨m,hn,_⟩:=I.loc
  refine .cons (by rw[I.ok.kind];decide) hf hn ?_ I.lU
  exact Heap.get?_none_of_le (Nat.le_trans I.ok.bsz I.ok.above)
def Inv.zR(I:Inv X Q0q σ H s):∀b∈frs X.stack,b∈X.env.locals::X.fs:=fun b hb=>by
 rcases I.ok.stk with e|⟨e,hf⟩
 ·rw[e]at hb;exact QYq _ hb
 ·rw[e]at hb
  unfold frs at hb
  rw[List.filterMap_cons,hf]at hb
  exact hb
def Inv.Cr(I:Inv X Q0q σ H s):∀b∈frs X.stack,H b=none:=fun b hb=>by
 rcases QCq.mp (I.zR b hb)with e|hb
 ·rw[e];exact I.free
 ·obtain⟨_,o,ho,_⟩:=I.ok.lU.mem hb
  exact I.base.free b o ho (I.ok.frf b hb) fun z=>I.ok.exfs b z hb
def Inv.step{g':Array GenState}{d':Drawn}{ch:List Addr}(I:Inv X Q0q σ H s)
  (hch:∀b∈ch,(b∈X.ex\/X.s₀.heap.objs.size<=b)/\b≠X.env.locals/\(∀x c,X.env.cells.lookup x=some c->c≠b)/\∀p∈X.pn++Q0q,p.1≠b)
  (keep:∀b o,b≠X.env.locals->b∉X.fs->b∉ch->s.heap.get? b=some o->H b=none->h'.get? b=some o)
  (slot:∀b o,b≠X.env.locals->b∈X.fs->b∉ch->s.heap.get? b=some o->H b=none->∃sl,h'.get? b=some {o with slots:=sl})(free:∀b o,b∉ch->s.heap.get? b=some o->H b=none->H' b=none)
  (there:∀b o,b∉ch->s.heap.get? b=some o->∃o',h'.get? b=some o')
  (tups:∀b xs,H b=some (.tup xs)->H' b=some (.tup xs))(frzs:∀b o u,H b=some (.frz o u)->H' b=some (.frz o u))(tbls:∀b ps,H b=some (.tbl ps)->∃more,H' b=some (.tbl (ps++more)))
  (ns:∀m,s.heap.Ns X.env.locals m->h'.Ns X.env.locals m)(hok:mG X.prog X.w H' h')(hg:AllBare g'):
  Inv X Q0q σ H' {s with heap:=h',gens:=g',drawn:=d',toks:=t'}:=by
 have neL:∀b o,X.s₀.heap.get? b=some o->b≠X.env.locals:=fun b o e=>Qvz (Qvq (Qqz e) I.ok.above)
 have neC:∀b o,X.s₀.heap.get? b=some o->b∉X.ex->b∉ch:=fun b o e hx hb=>by
  rcases (hch b hb).1 with z|z
  ·exact hx z
  ·exact absurd (Qvq (Qqz e) z) (Nat.lt_irrefl _)
 have cellK:∀x c,X.env.cells.lookup x=some c->∀v,s.heap.IsCell c v->h'.IsCell c v:=fun x c e v⟨o,ho,hd⟩=>by
  have nch:c∉ch:=fun z=>(hch c z).2.2.1 x c e rfl
  by_cases hc:c∈X.fs
  ·obtain⟨sl,q⟩:=slot c o (I.Yl x c e) hc nch ho (I.freeC x c e)
   exact⟨_,q,hd⟩
  ·exact⟨o,keep c o (I.Yl x c e) hc nch ho (I.freeC x c e),hd⟩
 refine⟨I.ok,I.os,hg,⟨fun b o e n hb hx=>?_,fun b o e n hb hx=>?_,fun b o e n hx=>?_,fun b o e hx=>?_,fun b xs e=>tups b xs (I.base.tups b xs e),fun b o xs e=>frzs b o xs (I.base.frzs b o xs e),fun b ps e=>?_⟩,?_,fun x c e=>?_,?_,fun x c e=>?_,fun p hp=>?_,hok,I.len⟩
 ·exact keep b o (neL b o e) hb (neC b o e hx) (I.base.keep b o e n hb hx) (I.base.free b o e n hx)
 ·obtain⟨sl,e1⟩:=I.base.slot b o e n hb hx
  obtain⟨sl',e2⟩:=slot b _ (neL b o e) hb (neC b o e hx) e1 (I.base.free b o e n hx)
  exact⟨sl',e2⟩
 ·obtain⟨o',e1⟩:=I.base.there b o e hx
  exact free b o' (neC b o e hx) e1 (I.base.free b o e n hx)
 ·obtain⟨o',e1⟩:=I.base.there b o e hx
  exact there b o' (neC b o e hx) e1
 ·obtain⟨m1,e1⟩:=I.base.tbls b ps e
  obtain⟨m2,e2⟩:=tbls b _ e1
  exact⟨m1++m2,by rw[e2,Array.append_assoc]⟩
 ·obtain⟨m,hn,hl⟩:=I.loc
  refine⟨m,ns m hn,fun i x v e1 e2 e3=>?_⟩
  obtain⟨u,r,l⟩:=hl i x v e1 e2 e3
  refine⟨u,r,?_⟩
  rcases l with l|⟨k,c,e,z⟩
  ·exact .inl l
  ·exact .inr ⟨k,c,e,cellK x c e _ z⟩
 ·obtain⟨v,z⟩:=I.cell x c e
  exact⟨v,cellK x c e v z⟩
 ·obtain⟨m,⟨o,_,_,ho,_⟩,_⟩:=I.loc
  exact free _ o (fun z=>(hch _ z).2.1 rfl) ho I.free
 ·obtain⟨v,o,ho,hd⟩:=I.cell x c e
  exact free c o (fun z=>(hch c z).2.2.1 x c e rfl) ho (I.freeC x c e)
 ·obtain⟨e,n,ne,nf,d⟩:=I.pin p hp
  have nch:p.1∉ch:=fun z=>(hch p.1 z).2.2.2 p hp rfl
  exact⟨keep p.1 p.2 ne nf nch e n,free p.1 p.2 nch e n,ne,nf,d⟩
def Inv.un(I:Inv X Q0q σ H s)(u:Un X.fs [] H H' s.heap h')(hok:mG X.prog X.w H' h'):Inv X Q0q σ H' {s with heap:=h',toks:=t'}:=by
 obtain⟨m,⟨o,es,ep,ho,r⟩,_⟩:=id I.loc
 obtain⟨sl,hL⟩:=u.any ho I.free (by simp)
 exact I.step (g':=s.gens) (d':=s.drawn) (ch:=[]) (fun _ z=>nomatch z) (fun b o _ hb _ e n=>u.keep b o e n hb (by simp)) (fun b o _ hb _ e n=>u.slot b o e n hb (by simp)) (fun b o _ e n=>u.free b o e n (by simp)) (fun b o _ e=>u.there b o e (by simp)) u.tups u.frzs u.tbls (fun m' hm=>by
  obtain⟨o',es',ep',ho',r'⟩:=hm
  rw[ho]at ho';cases ho'
  exact⟨_,es',ep',hL,r'⟩) hok I.bare
def Inv.call{g':Array GenState}{d':Drawn}{ch:List Addr}(I:Inv X Q0q σ H s)(u:Un (frs X.stack) ch H H' s.heap h')(hok:mG X.prog X.w H' h')(hg:AllBare g')
  (hch:∀b∈ch,(b∈X.ex\/X.s₀.heap.objs.size<=b)/\b≠X.env.locals/\(∀x c,X.env.cells.lookup x=some c->c≠b)/\∀p∈X.pn++Q0q,p.1≠b):
  Inv X Q0q σ H' {s with heap:=h',gens:=g',drawn:=d',toks:=t'}:=by
 obtain⟨m,⟨o,es,ep,ho,r⟩,_⟩:=id I.loc
 obtain⟨sl,hL⟩:=u.any ho I.free fun z=>(hch _ z).2.1 rfl
 exact I.step (ch:=ch) hch (fun b o hL hb hc e n=>u.keep b o e n (fun z=>(QCq.mp (I.zR b z)).elim hL hb) hc) (fun b o _ _ hc e n=>u.any e n hc) (fun b o hc e n=>u.free b o e n hc) (fun b o hc e=>u.there b o e hc) u.tups u.frzs u.tbls (fun m' hm=>by
  obtain⟨o',es',ep',ho',r'⟩:=hm
  rw[ho]at ho';cases ho'
  exact⟨_,es',ep',hL,r'⟩) hok hg
def Inv.turned{it:Addr}(I:Inv X Q0q σ H s)(k:∀b o,b≠it->s.heap.get? b=some o->h'.get? b=some o)(hn:H it=none)(hL:it≠X.env.locals)
  (h1:it∈X.ex\/X.s₀.heap.objs.size<=it)(h2:∀x c,X.env.cells.lookup x=some c->c≠it)(h3:∀p∈X.pn++Q0q,p.1≠it):Inv X Q0q σ H {s with heap:=h',toks:=t'}:=by
 have nit:∀b u,H b=some u->b≠it:=fun b u e z=>by rw[z,hn]at e;cases e
 refine I.step (g':=s.gens) (d':=s.drawn) (ch:=[it]) (fun b hb=>?_) (fun b o _ _ hc e _=>k b o (fun z=>hc (by simp[z])) e) (fun b o _ _ hc e _=>⟨o.slots,k b o (fun z=>hc (by simp[z])) e⟩) (fun _ _ _ _ n=>n)
  (fun b o hc e=>⟨o,k b o (fun z=>hc (by simp[z])) e⟩) (fun _ _ e=>e) (fun _ _ _ e=>e) (fun b ps e=>⟨#[],by rw[e];simp⟩) (fun m hm=>?_) (fun b u e=>?_) I.bare
 ·have e:b=it:=by simpa using hb
  subst e
  exact⟨h1,hL,h2,h3⟩
 ·obtain⟨o,es,ep,ho,r⟩:=hm
  exact⟨o,es,ep,k _ o (Ne.symm hL) ho,r⟩
 ·refine(I.hok b u e).stay (fun c v hc q=>k c v ?_ q) (fun _ q=>q) fun _ _ q=>q
  rcases hc with z|z
  ·rw[z];exact nit b u e
  ·exact nit c _ z
def Inv.tok(I:Inv X Q0q σ H s)(t:Nat):Inv X Q0q σ H {s with toks:=t}:=I.un (h':=s.heap) (t':=t) Un.refl I.hok
theorem Inv.kept{t':Nat}(I:Inv X Q0q σ H s)(k:∀b u,s.heap.get? b=some u->h'.get? b=some u):Inv X Q0q σ H {s with heap:=h',toks:=t'}:=I.un (Un.kept k) (I.hok.kept k)
theorem Inv.laid{a:Addr}{o:HO}{t':Nat}(I:Inv X Q0q σ H s)(k:∀b u,s.heap.get? b=some u->h'.get? b=some u)(hp:s.heap.objs.size<=a)(new:bW X.prog X.w (upd H a o) h' a o):
  Inv X Q0q σ (upd H a o) {s with heap:=h',toks:=t'}:=I.un (Un.laid k hp (I.hok.fresh hp)) (I.hok.laid k hp new)
theorem Inv.write{x e:Addr}{o:HO}{t':Nat}(I:Inv X Q0q σ H s)(mu:Mut (H x))(he:e=x\/H e=some (.own x))(k:∀b u,b≠e->s.heap.get? b=some u->h'.get? b=some u)(heo:∃u,h'.get? e=some u)
  (new:bW X.prog X.w (upd H x o) h' x o):Inv X Q0q σ (upd H x o) {s with heap:=h',toks:=t'}:=I.un (Un.write mu he k heo) (I.hok.write mu he k heo new)
def Inv.CV{pins':QQz}(I:Inv X Q0q σ H s)(h:∀p∈pins',s.heap.get? p.1=some p.2/\H p.1=none/\p.1≠X.env.locals/\p.1∉X.fs/\∀v,p.2.data≠ .cell v):Inv X pins' σ H s:=
 ⟨I.ok,I.os,I.bare,I.base,I.loc,I.cell,I.free,I.freeC,fun p hp=>(QXz.mp hp).elim (fun z=>I.pin p (QWz _ z)) (h p),I.hok,I.len⟩
def yu{N:List Str}(hN:N.Nodup){j:Nat}(a:N[i]? =some x)(b:N[j]? =some x):i=j:=by
 obtain⟨h1,e1⟩:=QCz.mp a
 obtain⟨h2,e2⟩:=QCz.mp b
 exact(List.getElem_inj hN).mp (e1.trans e2.symm)
def uy{E:QZq}(I:Inv X Q0q σ H s)(hN:X.N.Nodup)(hi:X.N[i]? =some x)(hx:Loc X.env.scope x)(r:RelV v u)
  (h:∀s',Inv X Q0q (σ.set i (some v)) H s'->(∃a,Heap.SameBut a s.heap s'.heap/\(a=X.env.locals\/X.env.cells.lookup x=some a))->Q () s')(hf:X.fn x=true\/X.env.scope.names.lookup x=some .local:=by first|exact .inl rfl|exact .inr rfl|assumption):wpAny M A (storeName X.env x u) Q E s:=by
 obtain⟨m,hn,hl⟩:=id I.loc
 have hcls:(X.env.scope.kind== .class||(X.env.scope.kind== .module&&X.env.locals !=X.env.globals))=false:=by rw[I.ok.kind];rfl
 have hiσ:i<σ.length:=by rw[I.len];exact(QCz.mp hi).1
 have Yl:=I.Yl
 have tracked:∀{a:Addr}{h':Heap},(∃o,s.heap.get? a=some o/\H a=none)->Heap.SameBut a s.heap h'->mG X.prog X.w H h':=fun{a h'}ha hs b ob e=>by
  obtain⟨_,_,hfree⟩:=ha
  refine(I.hok b ob e).stay (fun c w' hc q=>(hs.2 c ?_).trans q) (fun _ q=>q) fun _ _ q=>q
  rintro rfl
  rcases hc with rfl|hc
  ·rw[hfree]at e;cases e
  ·rw[hfree]at hc;cases hc
 rcases hx with hk|hk
 ·refine wpAny_storeName_local hk hn (fun h' hn' hs=>?_) hcls
  obtain⟨oL,_,_,hoL,_⟩:=id hn
  refine h _ ⟨I.ok,I.os,I.bare,⟨fun b o e n hb hx=>?_,fun b o e n hb hx=>?_,I.base.free,fun b o e hx=>?_,I.base.tups,I.base.frzs,I.base.tbls⟩,⟨_,hn',fun j y v' e1 e2 e3=>?_⟩,fun y c e=>?_,I.free,I.freeC,fun p hp=>?_,tracked ⟨oL,hoL,I.free⟩ hs,by simpa using I.len⟩ ⟨_,hs,.inl rfl⟩
  ·exact(hs.2 b (Qvz (Qvq (Qqz e) I.ok.above))).trans (I.base.keep b o e n hb hx)
  ·obtain⟨sl,e1⟩:=I.base.slot b o e n hb hx
   exact⟨sl,(hs.2 b (Qvz (Qvq (Qqz e) I.ok.above))).trans e1⟩
  ·obtain⟨o',e1⟩:=I.base.there b o e hx
   exact⟨o',(hs.2 b (Qvz (Qvq (Qqz e) I.ok.above))).trans e1⟩
  ·by_cases hj:j=i
   ·subst hj
    rw[hi]at e1;cases e1
    rw[Qwq hiσ]at e2
    cases e2
    exact⟨u,r,.inl ⟨hk,by simp⟩⟩
   ·rw[Qxz (Ne.symm hj)]at e2
    obtain⟨u',r',q⟩:=hl j y v' e1 e2 e3
    refine⟨u',r',?_⟩
    rcases q with ⟨k,e⟩|⟨k,c,e,z⟩
    ·refine .inl ⟨k,?_⟩
     have:y≠x:=fun e=>hj (yu hN e1 (e▸hi))
     simp[this,e]
    ·exact .inr ⟨k,c,e,z.sameBut hs (Yl y c e)⟩
  ·obtain⟨w',z⟩:=I.cell y c e
   exact⟨w',z.sameBut hs (Yl y c e)⟩
  ·obtain⟨e,n,ne,nf,d⟩:=I.pin p hp
   exact⟨(hs.2 p.1 ne).trans e,n,ne,nf,d⟩
 ·have hfn:X.fn x=true:=by
   rcases hf with z|z
   ·exact z
   ·rw[z]at hk;cases hk
  obtain⟨c,hc⟩:=I.ok.has x (.inl hk)
  obtain⟨w',z⟩:=I.cell x c hc
  refine wpAny_storeName_cell I.ok.kind hk hc z (fun h' hc' hs=>?_)
  obtain⟨oc,hoc,hocd⟩:=id z
  refine h {s with heap:=h'} ⟨I.ok,I.os,I.bare,⟨fun b o e n hb hx=>?_,fun b o e n hb hx=>?_,I.base.free,fun b o e hx=>?_,I.base.tups,I.base.frzs,I.base.tbls⟩,⟨m,hn.sameBut hs (Ne.symm (Yl x c hc)),fun j y v' e1 e2 e3=>?_⟩,fun y c' e=>?_,I.free,I.freeC,fun p hp=>?_,tracked ⟨oc,hoc,I.freeC x c hc⟩ hs,by simpa using I.len⟩ ⟨c,hs,.inr hc⟩
  ·exact(hs.2 b (Qvz (Qvq (Qqz e) (I.ok.cab x c hfn hc)))).trans (I.base.keep b o e n hb hx)
  ·obtain⟨sl,e1⟩:=I.base.slot b o e n hb hx
   exact⟨sl,(hs.2 b (Qvz (Qvq (Qqz e) (I.ok.cab x c hfn hc)))).trans e1⟩
  ·obtain⟨o',e1⟩:=I.base.there b o e hx
   exact⟨o',(hs.2 b (Qvz (Qvq (Qqz e) (I.ok.cab x c hfn hc)))).trans e1⟩
  ·by_cases hj:j=i
   ·subst hj
    rw[hi]at e1;cases e1
    rw[Qwq hiσ]at e2
    cases e2
    exact⟨u,r,.inr ⟨.inl hk,c,hc,hc'⟩⟩
   ·rw[Qxz (Ne.symm hj)]at e2
    obtain⟨u',r',q⟩:=hl j y v' e1 e2 e3
    refine⟨u',r',?_⟩
    rcases q with q|⟨k,c',e,z'⟩
    ·exact .inl q
    ·refine .inr ⟨k,c',e,z'.sameBut hs ?_⟩
     rintro rfl
     exact hj (yu hN e1 (I.ok.inj _ _ _ e hc▸hi))
  ·by_cases hcc:c'=c
   ·subst hcc;exact⟨_,hc'⟩
   ·obtain⟨w2,z2⟩:=I.cell y c' e
    exact⟨w2,z2.sameBut hs hcc⟩
  ·obtain⟨e,n,ne,nf,d⟩:=I.pin p hp
   refine⟨(hs.2 p.1 ?_).trans e,n,ne,nf,d⟩
   intro q
   rw[q,hoc]at e
   have q':oc=p.2:=QEq e
   exact d w' (by rw[<-q'];exact hocd)
def xQ{E:QZq}(I:Inv X Q0q σ H s)(hN:X.N.Nodup)(hi:X.N[i]? =some x)(hx:Loc X.env.scope x)(r:RelV v u)
  (h:∀s',Inv X Q0q (σ.set i (some v)) H s'->Q () s')(hf:X.fn x=true\/X.env.scope.names.lookup x=some .local:=by first|exact .inl rfl|exact .inr rfl|assumption):wpAny M A (storeName X.env x u) Q E s:=
 uy I hN hi hx r (fun s' I' _=>h s' I') hf
def Inv.call'{s':Shared}{ch:List Addr}(I:Inv X Q0q σ H s)(ho:s'.os=s.os)(u:Un (frs X.stack) ch H H' s.heap s'.heap)(hok:mG X.prog X.w H' s'.heap)(hg:AllBare s'.gens)
  (hch:∀b∈ch,(b∈X.ex\/X.s₀.heap.objs.size<=b)/\b≠X.env.locals/\(∀x c,X.env.cells.lookup x=some c->c≠b)/\∀p∈X.pn++Q0q,p.1≠b):Inv X Q0q σ H' s':=by
 obtain⟨h',g',d',t',o'⟩:=s'
 have e:o'=s.os:=ho
 subst e
 exact I.call (g':=g') (t':=t') (d':=d') u hok hg hch
end
abbrev XK:=Value->Option Addr->Hp->Prop
abbrev St:=List (Option V)
abbrev VK:=V->Hp->Prop
abbrev TE:=St->Hp->VK->Prop
abbrev TT:=St->Hp->(Bool->Hp->Prop)->Prop
abbrev TA:=St->Hp->(List V->Hp->Prop)->Prop
structure Ends where
 nx:St->Hp->Prop
 rt:VK
 bk:St->Hp->Prop:=fun _ _=>False
 ct:St->Hp->Prop:=fun _ _=>False
abbrev TS:=Ends->St->Hp->Prop
def EP(X:Cx)(Q0q:QQz)(σ:St)(Q:VK)(u:Value)(s':Shared):Prop:=∃v H',Inv X Q0q σ H' s'/\RelV v u/\Q v H'
def TP(X:Cx)(Q0q:QQz)(σ:St)(Q:Bool->Hp->Prop)(b:Bool)(s':Shared):Prop:=∃H',Inv X Q0q σ H' s'/\Q b H'
def AP(X:Cx)(Q0q:QQz)(σ:St)(Q:List V->Hp->Prop)(us:List Value)(s':Shared):Prop:=∃vs H',Inv X Q0q σ H' s'/\Vals vs us/\Q vs H'
def SP(X:Cx)(Q0q:QQz)(D:Ends)(f:Flow)(s':Shared):Prop:=
 match f with
 |.next=>∃σ' H',Inv X Q0q σ' H' s'/\D.nx σ' H'
 |.brk=>∃σ' H',Inv X Q0q σ' H' s'/\D.bk σ' H'
 |.cont=>∃σ' H',Inv X Q0q σ' H' s'/\D.ct σ' H'
 |.ret u=>∃v σ' H',Inv X Q0q σ' H' s'/\RelV v u/\D.rt v H'
def PE(X:Cx)(e:Expr)(t:TE):Prop:=
 ∀(Q0q:QQz)(s:Shared)(σ:St)(H:Hp)(Q:VK),Inv X Q0q σ H s->t σ H Q->wpAny (model X.prog X.w) X.A (eval e X.env) (EP X Q0q σ Q) X.xe s
def PT(X:Cx)(e:Expr)(t:TT):Prop:=
 ∀(Q0q:QQz)(s:Shared)(σ:St)(H:Hp)(Q:Bool->Hp->Prop),Inv X Q0q σ H s->t σ H Q->wpAny (model X.prog X.w) X.A (isTrue e X.env (eval e X.env)) (TP X Q0q σ Q) X.xe s
def PW(X:Cx)(e:Expr)(t:TT):Prop:=
 ∀(whole:Sem Value)(Q0q:QQz)(s:Shared)(σ:St)(H:Hp)(Q:Bool->Hp->Prop),Inv X Q0q σ H s->t σ H Q->wpAny (model X.prog X.w) X.A (isTrue e X.env whole) (TP X Q0q σ Q) X.xe s
variable{X:Cx}{e:Expr}
def PW.pt{t:TT}(h:PW X e t):PT X e t:=h _
def PA(X:Cx)(es:List Expr)(t:TA):Prop:=
 ∀(pos:Pos)(Q0q:QQz)(s:Shared)(σ:St)(H:Hp)(Q:List V->Hp->Prop),Inv X Q0q σ H s->t σ H Q->wpAny (model X.prog X.w) X.A (spliced (backTo pos (starEach es X.env))) (AP X Q0q σ Q) X.xe s
def PS(X:Cx)(st:Stmt)(t:TS):Prop:=
 ∀(Q0q:QQz)(s:Shared)(σ:St)(H:Hp)(D:Ends),Inv X Q0q σ H s->t D σ H->wpAny (model X.prog X.w) X.A (exec st X.env) (SP X Q0q D) X.xe s
def w6(X:Cx)(st:List Stmt)(t:TS):Prop:=
 ∀(Q0q:QQz)(s:Shared)(σ:St)(H:Hp)(D:Ends),Inv X Q0q σ H s->t D σ H->wpAny (model X.prog X.w) X.A (execs st X.env) (SP X Q0q D) X.xe s
variable{s:Shared}
def cA{α:Type}{t:Sem α}{Q Q':α->Shared->Prop}{E:QZq}(h:wpAny M A t Q E s)(hQ:∀a s,Q a s->Q' a s):wpAny M A t Q' E s:=QGq h hQ fun _ _ x=>x
variable{Q0q:QQz}{c:Expr}{pos:Pos}{σ:St}
section
variable{X:Cx}
def bin{a b:Expr}{ta tb:TE}(ha:PE X a ta)(hb:PE X b tb){R:V->V->Hp->Prop}(I:Inv X Q0q σ H s)(h:ta σ H fun x H1=>tb σ H1 fun y H2=>R x y H2)
  {α:Type}{Q:α->Shared->Prop}{f:Value->Value->Sem α}
  (hf:∀v u s2 x y H2,Inv X Q0q σ H2 s2->RelV x v->RelV y u->R x y H2->wpAny (model X.prog X.w) X.A (f v u) Q X.xe s2):
  wpAny (model X.prog X.w) X.A (eval a X.env) (fun v s₁=>wpAny (model X.prog X.w) X.A (eval b X.env) (fun u s₂=>wpAny (model X.prog X.w) X.A (f v u) Q X.xe s₂) X.xe s₁) X.xe s:=by
 refine cA (ha Q0q s σ H _ I h) fun v s1⟨x,H1,I1,r1,q1⟩=>?_
 refine cA (hb Q0q s1 σ H1 _ I1 q1) fun u s2⟨y,H2,I2,r2,q2⟩=>?_
 exact hf v u s2 x y H2 I2 r1 r2 q2
def Ja(i:Nat):TE:=fun σ H Q=>∃v,σ[i]? =some (some v)/\Q v H
def tC(v:V):TE:=fun _ H Q=>Q v H
def JW(hN:X.N[i]? =some x)(hv:Z0 X.env.scope x)(hd:(x==("__debug__":Str))=false:=by decide)(hcd:(x==("__classdict__":Str))=false:=by decide):PE X (.Name x pos) (Ja i):=by
 intro Q0q s σ H Q I h
 obtain⟨v,e,h⟩:=h
 obtain⟨m,hn,hl⟩:=I.loc
 obtain⟨u,r,l⟩:=hl i x v hN e hv
 have fin:EP X Q0q σ Q u s:=⟨v,H,I,r,h⟩
 rcases l with ⟨hk,hm⟩|⟨hk,c,hc,hcell⟩
 ·exact wpAny_Name (wpAny_loadName_local I.ok.kind hk hn hm fin) hd
 ·rcases hk with hk|hk
  ·exact wpAny_Name (wpAny_loadName_cell I.ok.kind hk hc hcell fin) hd
  ·exact wpAny_Name (wpAny_loadName_free I.ok.kind hk hc hcell fin hcd) hd
def Wb{i j pos}:PE X (.Constant (.int i) j pos) (tC (.int i)):=fun _ _ _ H _ I h=>wpAny_Constant_int ⟨.int i,H,I.tok _,⟨_,rfl⟩,h⟩
def abf{b j pos}:PE X (.Constant (.bool b) j pos) (tC (.bl b)):=fun _ _ _ H _ I h=>Constant_bool ⟨.bl b,H,I,rfl,h⟩
def V9{j pos}:PE X (.Constant .none j pos) (tC .non):=fun _ _ _ H _ I h=>Constant_none ⟨.non,H,I,rfl,h⟩
def V8{x j pos}:PE X (.Constant (.str x) j pos) (tC (.str x)):=fun _ _ _ H _ I h=>Calls.Constant_str ⟨.str x,H,I.tok _,⟨_,rfl⟩,h⟩
def Gl(X:Cx)(x:Str):Prop:=X.env.kindOf x=some .globalImplicit
def DQ{E:QZq}{Q:QZq}(I:Inv X Q0q σ H s)(hg:Gl X x)(hm:X.mg x=some u)(h:Q u s)
  (hd:(x==("__debug__":Str))=false:=by decide):wpAny (model X.prog X.w) X.A (eval (.Name x pos) X.env) Q E s:=
 Calls.Name_function_global I.ok.kind hg (Calls.loadGlobal_global (by rw[I.ok.glob];exact I.mod.glob.keeps I.bk) hm h) hd
def jO{E:QZq}{Q:QZq}(I:Inv X Q0q σ H s)(hg:Gl X x)(hm:X.mg x=none)(hv:bootBuiltins x=some u)(h:Q u s)
  (hn:x≠"__name__":=by decide)(hd:(x==("__debug__":Str))=false:=by decide):wpAny (model X.prog X.w) X.A (eval (.Name x pos) X.env) Q E s:=by
 obtain⟨mb,h1,h2⟩:=I.mod.blt
 exact Calls.Name_function_global I.ok.kind hg (Calls.loadGlobal_builtin (by rw[I.ok.glob];exact I.mod.glob.keeps I.bk) hm (by rw[I.ok.blt];exact h1.keeps I.bk) ((h2 x hn).trans hv) h) hd
def Qm(hg:Gl X x)(hm:X.mg x=some u)(r:RelV v u)(hd:(x==("__debug__":Str))=false:=by decide):PE X (.Name x pos) (tC v):=
 fun _ _ _ H _ I h=>DQ I hg hm ⟨v,H,I,r,h⟩ hd
def Qq(hg:Gl X x)(hm:X.mg x=none)(hv:bootBuiltins x=some u)(r:RelV v u)(hn:x≠"__name__":=by decide)(hd:(x==("__debug__":Str))=false:=by decide):PE X (.Name x pos) (tC v):=
 fun _ _ _ H _ I h=>jO I hg hm hv ⟨v,H,I,r,h⟩ hn hd
variable{a b:Expr}{ta tb:TE}{pos:Pos}
variable{tA tB':TT}{rest:List Expr}
def aeu(t u:TT):TT:=fun σ H Q=>t σ H fun c H1=>if c=true then u σ H1 Q else Q false H1
def tOr(t u:TT):TT:=fun σ H Q=>t σ H fun c H1=>if c=true then Q true H1 else u σ H1 Q
def aep(t:TT):TT:=fun σ H Q=>t σ H fun c H1=>Q (!c) H1
def Qa(ha:PT X a tA):PW X (.BoolOp .And [a] pos) tA:=by
 intro wh Q0q s σ H Q I h
 refine isTrue_and (cA (ha Q0q s σ H Q I h) fun c s1 e=>?_)
 cases c with
 |true=>exact isTrue_and_nil e
 |false=>exact e
def VR(ha:PT X a tA):PW X (.BoolOp .Or [a] pos) tA:=by
 intro wh Q0q s σ H Q I h
 refine isTrue_or (cA (ha Q0q s σ H Q I h) fun c s1 e=>?_)
 cases c with
 |false=>exact isTrue_or_nil e
 |true=>exact e
def V0(ha:PT X a tA)(hb:PW X (.BoolOp .And (b::rest) pos) tB'):PW X (.BoolOp .And (a::b::rest) pos) (aeu tA tB'):=by
 intro wh Q0q s σ H Q I h
 refine isTrue_and (cA (ha Q0q s σ H _ I h) fun c s1⟨H1,I1,q1⟩=>?_)
 cases c with
 |true=>exact hb wh Q0q s1 σ H1 Q I1 q1
 |false=>exact⟨H1,I1,q1⟩
def aa8(ha:PT X a tA)(hb:PW X (.BoolOp .Or (b::rest) pos) tB'):PW X (.BoolOp .Or (a::b::rest) pos) (tOr tA tB'):=by
 intro wh Q0q s σ H Q I h
 refine isTrue_or (cA (ha Q0q s σ H _ I h) fun c s1⟨H1,I1,q1⟩=>?_)
 cases c with
 |true=>exact⟨H1,I1,q1⟩
 |false=>exact hb wh Q0q s1 σ H1 Q I1 q1
def V2(ha:PT X a tA):PT X (.UnaryOp .Not a pos) (aep tA):=by
 intro Q0q s σ H Q I h
 exact isTrue_not (ha Q0q s σ H (fun c H1=>Q (!c) H1) I h)
def aaw(ta tb:TE):TE:=fun σ H Q=>ta σ H fun x H1=>∃c,x=.bl c/\if c=true then tb σ H1 Q else Q (.bl false) H1
def aeo(ta tb:TE):TE:=fun σ H Q=>ta σ H fun x H1=>∃c,x=.bl c/\if c=true then Q (.bl true) H1 else tb σ H1 Q
def J0{op}{t:TE}(h:PE X a t):PE X (.BoolOp op [a] pos) t:=fun Q0q s σ H Q I hw=>BoolOp_one (h Q0q s σ H Q I hw)
def Wd(ha:PE X a ta)(hb:PE X (.BoolOp .And (b::rest) pos) tb):PE X (.BoolOp .And (a::b::rest) pos) (aaw ta tb):=by
 intro Q0q s σ H Q I h
 refine BoolOp_and (cA (ha Q0q s σ H _ I h) fun v s1⟨x,H1,I1,r1,q1⟩=>?_)
 obtain⟨c,rfl,q1⟩:=q1
 cases r1
 refine wpAny_truthy_bool ?_
 cases c with
 |true=>exact hb Q0q s1 σ H1 Q I1 q1
 |false=>exact⟨.bl false,H1,I1,rfl,q1⟩
def abd(ha:PE X a ta)(hb:PE X (.BoolOp .Or (b::rest) pos) tb):PE X (.BoolOp .Or (a::b::rest) pos) (aeo ta tb):=by
 intro Q0q s σ H Q I h
 refine BoolOp_or (cA (ha Q0q s σ H _ I h) fun v s1⟨x,H1,I1,r1,q1⟩=>?_)
 obtain⟨c,rfl,q1⟩:=q1
 cases r1
 refine wpAny_truthy_bool ?_
 cases c with
 |false=>exact hb Q0q s1 σ H1 Q I1 q1
 |true=>exact⟨.bl true,H1,I1,rfl,q1⟩
def tIf(t:TT)(ta tb:TE):TE:=fun σ H Q=>t σ H fun c H1=>if c=true then ta σ H1 Q else tb σ H1 Q
def J1(hc:PT X c tA)(ha:PE X a ta)(hb:PE X b tb):PE X (.IfExp c a b pos) (tIf tA ta tb):=by
 intro Q0q s σ H Q I h
 refine wpAny_IfExp (cA (hc Q0q s σ H _ I h) fun d s1⟨H1,I1,q1⟩=>?_)
 cases d with
 |true=>exact ha Q0q s1 σ H1 Q I1 q1
 |false=>exact hb Q0q s1 σ H1 Q I1 q1
end
def jm(K:QQq)(H:Hp)(a:Addr)(xs:List V):Prop:=
 Rd H a (.lst xs)\/
  ∃(o:Obj)(its:Array Value)(n:Nat),K.lookup a=some o/\o.cls=.type "list"/\o.dict=none/\o.data=.seq its n/\its.size<=sizeLine/\Vals xs its.toList
def iy(K:QQq)(H:Hp)(a:Addr)(xs:List V):Prop:=
 Rd H a (.tup xs)\/
  ∃(o:Obj)(its:Array Value)(n:Nat),K.lookup a=some o/\o.cls=.type "tuple"/\o.dict=none/\o.data=.seq its n/\its.size<=sizeLine/\Vals xs its.toList
def agp:Value->Option V
 |.none=>some .non
 |.bool b=>some (.bl b)
 |.int i _=>some (.int i)
 |.str x _=>some (.str x)
 |.bytes b _=>some (.byt b)
 |.float b _=>some (.flt b)
 |.ref a=>some (.ref a)
 |.type n=>some (.ty n)
 |_=>none
def RelV.abs{x:V}(r:RelV x u):agp u=some x:=by
 cases x with
 |non=>cases r;rfl
 |bl _=>cases r;rfl
 |int _=>obtain⟨t,rfl⟩:=r;rfl
 |str _=>obtain⟨t,rfl⟩:=r;rfl
 |byt _=>obtain⟨t,rfl⟩:=r;rfl
 |flt _=>obtain⟨t,rfl⟩:=r;rfl
 |ref _=>cases r;rfl
 |ty _=>cases r;rfl
def RelV.inj{x y:V}(r:RelV x u)(q:RelV y u):x=y:=QEq (r.abs.symm.trans q.abs)
theorem Vals.inj:∀{xs ys:List V}{us:List Value},Vals xs us->Vals ys us->xs=ys
 |_,_,_,.nil,.nil=>rfl
 |_,_,_,.cons r t,.cons r' t'=>by rw[r.inj r',Vals.inj t t']
section
variable{X:Cx}{Q0q:QQz}{σ:St}{H:Hp}{s:Shared}{a:Addr}{xs ys:List V}
def Inv.list(I:Inv X Q0q σ H s)(h:jm X.K H a xs):∃its:List Value,Vals xs its/\PlainL s.heap a its.toArray/\xs.length<=sizeLine:=by
 rcases h with h|⟨o,its,n,hk,hc,hd,hs,hz,r⟩
 ·obtain⟨z,its,n,r,e⟩:=h.ok I.hok
  exact⟨its,r,⟨_,n,e,rfl,rfl,rfl⟩,z⟩
 ·refine⟨its.toList,r,⟨o,n,I.Zi a o hk,hc,hd,by simpa using hs⟩,?_⟩
  have e:=r.length
  simp only[Array.length_toList]at e
  omega
def Inv.zN(I:Inv X Q0q σ H s)(h:iy X.K H a xs):∃its:List Value,Vals xs its/\TupOk s.heap a its.toArray/\xs.length<=sizeLine:=by
 rcases h with h|⟨o,its,n,hk,hc,hn,hs,hz,r⟩
 ·obtain⟨z,its,r,p⟩:=h.ok I.hok
  exact⟨its,r,p,z⟩
 ·refine⟨its.toList,r,⟨o,I.Zi a o hk,hc,hn,n,by simpa using hs⟩,?_⟩
  have e:=r.length
  simp only[Array.length_toList]at e
  omega
def Inv.tuple(I:Inv X Q0q σ H s)(h:iy X.K H a xs):∃its:List Value,Vals xs its/\IsTup s.heap a its.toArray/\xs.length<=sizeLine:=by
 obtain⟨its,r,p,z⟩:=I.zN h
 exact⟨its,r,p.is,z⟩
def Inv.yG(I:Inv X Q0q σ H s)(h:jm X.K H a xs)(h':jm X.K H a ys):xs=ys:=by
 obtain⟨its,r,⟨o,n,e,_,_,d⟩,_⟩:=I.list h
 obtain⟨its',r',⟨o',n',e',_,_,d'⟩,_⟩:=I.list h'
 rw[e]at e';cases e'
 rw[d]at d'
 injection d' with d1 _
 have:its=its':=by simpa using congrArg Array.toList d1
 subst this
 exact r.inj r'
def Inv.uw(I:Inv X Q0q σ H s)(h:iy X.K H a xs)(h':iy X.K H a ys):xs=ys:=by
 obtain⟨its,r,⟨o,e,_,n,d⟩,_⟩:=I.tuple h
 obtain⟨its',r',⟨o',e',_,n',d'⟩,_⟩:=I.tuple h'
 rw[e]at e';cases e'
 rw[d]at d'
 injection d' with d1 _
 have:its=its':=by simpa using congrArg Array.toList d1
 subst this
 exact r.inj r'
end
abbrev Cx.wish(X:Cx)(E:QZq):Cx:={X with xe:=E}
abbrev Cx.nox(X:Cx):Cx:=X.wish fun _ _=>False
theorem Cx.Ok.wish{X:Cx}(ok:X.Ok)(E:QZq):(X.wish E).Ok:=
 ⟨ok.mod,ok.kind,ok.glob,ok.blt,ok.above,ok.inj,ok.has,ok.cab,ok.hd,ok.frames,ok.stk,ok.exf,ok.bs,ok.bsz,ok.noex,ok.exfs,ok.lU,ok.frf⟩
def Cx.Ok.jD{E:QZq}(ok:(X.wish E).Ok):X.Ok:=
 ⟨ok.mod,ok.kind,ok.glob,ok.blt,ok.above,ok.inj,ok.has,ok.cab,ok.hd,ok.frames,ok.stk,ok.exf,ok.bs,ok.bsz,ok.noex,ok.exfs,ok.lU,ok.frf⟩
section
variable{X:Cx}{Q0q:QQz}{σ:St}{H:Hp}{s:Shared}{E:QZq}
theorem Inv.wish(I:Inv X Q0q σ H s)(E:QZq):Inv (X.wish E) Q0q σ H s:=⟨I.ok.wish E,I.os,I.bare,I.base,I.loc,I.cell,I.free,I.freeC,I.pin,I.hok,I.len⟩
theorem Inv.jD(I:Inv (X.wish E) Q0q σ H s):Inv X Q0q σ H s:=⟨I.ok.jD,I.os,I.bare,I.base,I.loc,I.cell,I.free,I.freeC,I.pin,I.hok,I.len⟩
theorem SP.jD{D:Ends}{f:Flow}{s':Shared}(h:SP (X.wish E) Q0q D f s'):SP X Q0q D f s':=by
 cases f with
 |next=>obtain⟨σ',H',I,q⟩:=h;exact⟨σ',H',I.jD,q⟩
 |brk=>obtain⟨σ',H',I,q⟩:=h;exact⟨σ',H',I.jD,q⟩
 |cont=>obtain⟨σ',H',I,q⟩:=h;exact⟨σ',H',I.jD,q⟩
 |ret u=>obtain⟨v,σ',H',I,r,q⟩:=h;exact⟨v,σ',H',I.jD,r,q⟩
theorem w6.nox{st:List Stmt}{t:TS}(h:w6 X.nox st t):w6 X st t:=fun Q0q s σ H D I hw=>
 QGq (h Q0q s σ H D (I.wish _) hw) (fun _ _ q=>q.jD) fun _ _ z=>False.elim z
end
section
variable{X:Cx}{st:Stmt}{rest:List Stmt}{t u:TS}{e:Expr}{te:TE}{pos:Pos}
def aaq:TS:=fun D σ H=>D.nx σ H
def aak(t u:TS):TS:=fun D σ H=>t {D with nx:=u D} σ H
def Qe:w6 X [] aaq:=fun _ _ σ H _ I h=>wpAny_execs_nil ⟨σ,H,I,h⟩
def JP(h1:PS X st t)(h2:w6 X rest u):w6 X (st::rest) (aak t u):=by
 intro Q0q s σ H D I h
 refine wpAny_execs_cons (cA (h1 Q0q s σ H {D with nx:=u D} I h) fun f s1 q=>?_)
 cases f with
 |next=>
  obtain⟨σ',H',I',q⟩:=q
  exact h2 Q0q s1 σ' H' D I' q
 |ret v=>exact q
 |brk=>exact q
 |cont=>exact q
def Inv.quiet(I:Inv X Q0q σ H s):interactive X.env=false:=by simp[interactive,I.ok.kind]
def aat(te:TE):TS:=fun D σ H=>te σ H fun _ H1=>D.nx σ H1
def CQ(he:PE X e te)(hs:swapsWith e none pos.line X.env=pure false:=by rfl):PS X (.Expr e pos) (aat te):=by
 intro Q0q s σ H D I h
 exact wpAny_Expr_any (cA (he Q0q s σ H _ I h) fun v s1⟨x,H1,I1,r1,q1⟩=>⟨σ,H1,I1,q1⟩) I.quiet hs
def aam(te:TE):TS:=fun D σ H=>te σ H D.rt
def oA(he:PE X e te):PS X (.Return (some e) pos) (aam te):=by
 intro Q0q s σ H D I h
 exact wpAny_Return_some (cA (he Q0q s σ H _ I h) fun v s1⟨x,H1,I1,r1,q1⟩=>⟨x,σ,H1,I1,r1,q1⟩)
def aal:TS:=fun D _ H=>D.rt .non H
def Qf:PS X (.Return none pos) aal:=fun _ _ σ H _ I h=>wpAny_Return_none ⟨.non,σ,H,I,rfl,h⟩
def aer(c:TT)(t u:TS):TS:=fun D σ H=>c σ H fun b H1=>if b=true then t D σ H1 else u D σ H1
def aba{a b:List Stmt}{tc:TT}(hc:PT X c tc)(ha:w6 X a t)(hb:w6 X b u):PS X (.If c a b pos) (aer tc t u):=by
 intro Q0q s σ H D I h
 refine wpAny_If (cA (hc Q0q s σ H _ I h) fun d s1⟨H1,I1,q1⟩=>?_)
 cases d with
 |true=>exact ha Q0q s1 σ H1 D I1 q1
 |false=>exact hb Q0q s1 σ H1 D I1 q1
end
abbrev TG:=V->St->Hp->(St->Hp->Prop)->Prop
abbrev Yu:=List V->St->Hp->(St->Hp->Prop)->Prop
def PG(X:Cx)(target:Expr)(t:TG):Prop:=
 ∀(Q0q:QQz)(s:Shared)(σ:St)(H:Hp)(v:V)(u:Value)(Q:St->Hp->Prop),Inv X Q0q σ H s->RelV v u->t v σ H Q->
  wpAny (model X.prog X.w) X.A (assign target X.env u) (fun _ s'=>∃σ' H',Inv X Q0q σ' H' s'/\Q σ' H') X.xe s
def PGs(X:Cx)(ts:List Expr)(t:Yu):Prop:=
 ∀(Q0q:QQz)(s:Shared)(σ:St)(H:Hp)(vs:List V)(us:List Value)(Q:St->Hp->Prop),Inv X Q0q σ H s->Vals vs us->t vs σ H Q->
  wpAny (model X.prog X.w) X.A (assignInOrder ((assignEach ts X.env).map (·.2)) us) (fun _ s'=>∃σ' H',Inv X Q0q σ' H' s'/\Q σ' H') X.xe s
abbrev Yt:=V->V->V->Hp->(Hp->Prop)->Prop
def Nt(X:Cx)(t:Yt):Prop:=
 ∀(Q0q:QQz)(s:Shared)(σ:St)(H:Hp)(o i v:V)(ov iv u:Value)(Q:Hp->Prop),Inv X Q0q σ H s->RelV o ov->RelV i iv->RelV v u->t o i v H Q->
  wpAny (model X.prog X.w) X.A (setItem ov iv u) (fun _ s'=>∃H',Inv X Q0q σ H' s'/\Q H') X.xe s
variable{tg:Expr}
section
variable{X:Cx}{pos:Pos}
def Ue(i:Nat):TG:=fun v σ H Q=>Q (σ.set i (some v)) H
def Qk(hN:X.N.Nodup)(hi:X.N[i]? =some x)(hx:Loc X.env.scope x)(hf:X.fn x=true\/X.env.scope.names.lookup x=some .local:=by first|exact .inl rfl|exact .inr rfl|assumption):PG X (.Name x pos) (Ue i):=by
 intro Q0q s σ H v u Q I r h
 exact wpAny_assign_Name (xQ I hN hi hx r (fun s' I'=>⟨_,H,I',h⟩) hf)
def afZ:Yu:=fun vs σ H Q=>vs=[]/\Q σ H
def aca(t:TG)(u:Yu):Yu:=fun vs σ H Q=>∃v r,vs=v::r/\t v σ H fun σ' H'=>u r σ' H' Q
def Qj:PGs X [] afZ:=by
 intro Q0q s σ H vs us Q I r h
 obtain⟨e,h⟩:=h
 subst e
 cases r
 exact assignInOrder_nil ⟨σ,H,I,h⟩
theorem JV{es:List Expr}{t:TG}{u:Yu}(h1:PG X e t)(h2:PGs X es u)
  (hs:(assignEach (e::es) X.env).map (·.2)=assign e X.env::(assignEach es X.env).map (·.2):=by rfl):PGs X (e::es) (aca t u):=by
 intro Q0q s σ H vs us Q I r h
 obtain⟨v,vr,e1,h⟩:=h
 subst e1
 cases r with
 |cons r rr=>
  rw[hs]
  refine assignInOrder_cons (cA (h1 Q0q s σ H _ _ _ I r h) fun _ s1⟨σ1,H1,I1,q1⟩=>?_)
  exact h2 Q0q s1 σ1 H1 _ _ Q I1 rr q1
def afX(K:QQq)(n:Nat)(t:Yu):TG:=fun v σ H Q=>∃a xs,v=.ref a/\iy K H a xs/\xs.length=n/\t xs σ H Q
def V5{es:List Expr}{k:Nat}{t:Yu}{n:Nat}(hc:X.calm=true)(h:PGs X es t)
  (hn:(assignEach es X.env).length=n:=by rfl)(hst:(assignEach es X.env).findIdx? (·.1)=none:=by rfl):PG X (.Tuple es k pos) (afX X.K n t):=by
 intro Q0q s σ H v u Q I r hw
 obtain⟨a,xs,e1,hq,hl,hw⟩:=hw
 subst e1
 cases r
 obtain⟨its,rv,ht,hz⟩:=I.tuple hq
 refine assign_Tuple_tuple (I.ok.hd hc) ht (by simp[hn,<-hl,rv.length]) hst fun h' hx=>?_
 have I1:Inv X Q0q σ H {s with heap:=h'}:=I.kept (t':=s.toks) fun b o e=>hx b o (Qvz (Qqz e)) e
 exact h Q0q _ σ H xs _ Q I1 (by simpa using rv) hw
def afY(to ti:TE)(t:Yt):TG:=fun v σ H Q=>to σ H fun o H1=>ti σ H1 fun i H2=>t o i v H2 fun H3=>Q σ H3
def V6{o i:Expr}{to ti:TE}{t:Yt}(ho:PE X o to)(hi:PE X i ti)(hs:Nt X t)
  (ha:∀v,assign (.Subscript o i pos) X.env v=(do
   let ov<-holding [v] (eval o X.env)
   let iv<-holding [v,ov] (eval i X.env)
   standAt pos
   holding [v,ov,iv] (setItem ov iv v)
   release [v,ov,iv] []):=by intro _;rfl):PG X (.Subscript o i pos) (afY to ti t):=by
 intro Q0q s σ H v u Q I r h
 rw[ha]
 refine QKq (Qqq (cA (ho Q0q s σ H _ I h) fun ov s1⟨x,H1,I1,r1,q1⟩=>?_))
 refine QKq (Qqq (cA (hi Q0q s1 σ H1 _ I1 q1) fun iv s2⟨y,H2,I2,r2,q2⟩=>?_))
 refine QKq (wpAny_standAt (QKq (Qqq (cA (hs Q0q s2 σ H2 x y v ov iv u _ I2 r1 r2 r q2) fun _ s3⟨H3,I3,q3⟩=>?_))))
 exact wpAny_release ⟨σ,H3,I3,q3⟩
def aav(te:TE)(g:TG):TS:=fun D σ H=>te σ H fun x H1=>g x σ H1 D.nx
def JR{te:TE}{g:TG}(he:PE X e te)(hg:PG X tg g)(hs:swapsWithSole [tg] e pos.line X.env=pure false:=by rfl)(hw:swappedStores [tg] e X.env=pure none:=by rfl)
  (h1:(assignEach [tg] X.env).map (·.2)=[assign tg X.env]:=by rfl):PS X (.Assign [tg] e pos) (aav te g):=by
 intro Q0q s σ H D I h
 refine wpAny_Assign_stores (cA (he Q0q s σ H _ I h) fun v s1⟨x,H1,I1,r1,q1⟩=>?_) hs hw
 rw[h1]
 exact cA (hg Q0q s1 σ H1 x v _ I1 r1 q1) fun _ s2 q=>q
def V3{te:TE}{pos':Pos}(hN:X.N.Nodup)(hi:X.N[i]? =some x)(hx:Loc X.env.scope x)(he:PE X e te)(hs:swapsWith e (some (.Name x pos')) pos.line X.env=pure false:=by rfl)(hf:X.fn x=true\/X.env.scope.names.lookup x=some .local:=by first|exact .inl rfl|exact .inr rfl|assumption):
  PS X (.Assign [.Name x pos'] e pos) (aav te (Ue i)):=by
 intro Q0q s σ H D I h
 refine wpAny_Assign_Name (cA (he Q0q s σ H _ I h) fun v s1⟨y,H1,I1,r1,q1⟩=>?_) hs
 exact xQ I1 hN hi hx r1 (fun s2 I2=>⟨_,H1,I2,q1⟩) hf
end
variable{body:List Stmt}
section
variable{X:Cx}{pos:Pos}
def Vh(c:TT)(tb:TS):TS:=fun D σ H=>∃W:Nat->St->Hp->Prop,(∃m,W m σ H)/\∀m σ H,W m σ H->
 c σ H fun b H1=>if b=true then∃N:St->Hp->Prop,(∀σ' H',N σ' H'->∃m',m'<m/\W m' σ' H')/\tb {D with nx:=N,ct:=N,bk:=D.nx} σ H1 else D.nx σ H1
def JQ{tc:TT}{tb:TS}(hp:PassesOwn (model X.prog X.w) X.A X.env X.xe)(hc:PT X c tc)(hb:w6 X body tb):PS X (.While c body [] pos) (Vh tc tb):=by
 intro Q0q s σ H D I h
 obtain⟨W,⟨m0,w0⟩,turn⟩:=h
 refine wpAny_While (codeAny_whileLoop (fun n s'=>∃σ' H',Inv X Q0q σ' H' s'/\W n σ' H') ?_ m0 ⟨σ,H,I,w0⟩)
 rintro n s1 ⟨σ1,H1,I1,w1⟩
 refine wpAny_passesOwn hp (cA (hc Q0q s1 σ1 H1 _ I1 (turn n σ1 H1 w1)) fun b s2⟨H2,I2,q2⟩=>?_)
 cases b with
 |true=>
  obtain⟨N,hN,q2⟩:=q2
  rw[if_pos rfl]
  refine wpAny_passesOwn hp (cA (hb Q0q s2 σ1 H2 _ I2 q2) fun f s3 q3=>?_)
  cases f with
  |next=>
   obtain⟨σ3,H3,I3,n3⟩:=q3
   obtain⟨m',hm,w3⟩:=hN σ3 H3 n3
   exact⟨m',hm,σ3,H3,I3,w3⟩
  |cont=>
   obtain⟨σ3,H3,I3,n3⟩:=q3
   obtain⟨m',hm,w3⟩:=hN σ3 H3 n3
   exact⟨m',hm,σ3,H3,I3,w3⟩
  |brk=>exact q3
  |ret v=>exact q3
 |false=>
  rw[if_neg Qjz]
  exact wpAny_execs_nil ⟨σ1,H2,I2,q2⟩
end
structure It where
 go:Nat->Hp->Prop
 yld:Nat->Hp->V->Hp->Prop
 stop:Nat->Hp->Prop
def gK(X:Cx)(Q0q:QQz)(H:Hp)(b:Addr):Prop:=
 H b=none/\b≠X.env.locals/\b∉X.fs/\(b∈X.ex\/X.s₀.heap.objs.size<=b)/\(∀x c,X.env.cells.lookup x=some c->c≠b)/\∀p∈X.pn++Q0q,p.1≠b
def Inv.Bj{H':Hp}(I:Inv X Q0q σ H s)(hb:s.heap.objs.size<=b)(hn:H' b=none):gK X Q0q H' b:=by
 refine⟨hn,Nat.ne_of_gt (Qvq I.lt hb),I.afp hb,.inr (Nat.le_trans I.sz hb),fun x c e z=>?_,fun p hp z=>?_⟩
 ·obtain⟨v,q⟩:=I.cell x c e
  exact absurd (Qvq q.lt (by rw[z];exact hb)) (Nat.lt_irrefl _)
 ·exact absurd (Qvq (Qqz (I.pin p hp).1) (by rw[z];exact hb)) (Nat.lt_irrefl _)
structure Turn(P:Program)(w:World)(K:QQq)(tg:Expr)(J:It)(fp:List Addr)(it:Addr)(tn:Nat->Heap->Prop):Prop where
 mem:it∈fp
 obj:∀i h,tn i h->∀b∈fp,∃o,h.get? b=some o/\∀v,o.data≠ .cell v
 keep:∀i h h',tn i h->(∀b∈fp,∀o,h.get? b=some o->h'.get? b=some o)->tn i h'
 item:∀(X:Cx),X.prog=P->X.w=w->X.K=K->X.calm=true->∀(i:Nat)(Q0q:QQz)(s:Shared)(σ:St)(H:Hp)(E:QZq),Inv X Q0q σ H s->(∀b∈fp,gK X Q0q H b)->tn i s.heap->J.go i H->
  wpAny (model P w) X.A (pyNext (.ref it)) (fun r s1=>∃u,r=some u/\
   wpAny (model P w) X.A (letOwnedTupleGo tg (.ref it) u) (fun _ s2=>∃x H',Inv X Q0q σ H' s2/\RelV x u/\J.yld i H x H'/\tn (i+1) s2.heap/\∀b∈fp,H' b=none) E s1) E s
 done:∀(X:Cx),X.prog=P->X.w=w->X.K=K->X.calm=true->∀(i:Nat)(Q0q:QQz)(s:Shared)(σ:St)(H:Hp)(E:QZq),Inv X Q0q σ H s->(∀b∈fp,gK X Q0q H b)->tn i s.heap->J.stop i H->
  wpAny (model P w) X.A (pyNext (.ref it)) (fun r s1=>r=none/\Inv X Q0q σ H s1) E s
 self:∀(A:Around)(i:Nat)(s:Shared)(Q:QZq)(E:QZq),tn i s.heap->Q (.ref it) s->wpAny (model P w) A (pyIter (.ref it)) Q E s
abbrev TI:=St->Hp->(It->Hp->Prop)->Prop
def PIE(X:Cx)(Q0q:QQz)(σ:St)(tg:Expr)(R:It->Hp->Prop)(itv:Value)(s2:Shared):Prop:=
 ∃(it:Addr)(fp:List Addr)(tn:Nat->Heap->Prop)(J:It)(H':Hp),itv=.ref it/\Inv X Q0q σ H' s2/\Turn X.prog X.w X.K tg J fp it tn/\tn 0 s2.heap/\(∀b∈fp,gK X Q0q H' b)/\R J H'
def PI(X:Cx)(tg iter:Expr)(wi:TI):Prop:=
 ∀(Q0q:QQz)(s:Shared)(σ:St)(H:Hp)(R:It->Hp->Prop),Inv X Q0q σ H s->wi σ H R->
  wpAny (model X.prog X.w) X.A (eval iter X.env) (fun v s1=>wpAny (model X.prog X.w) X.A (pyIter v) (PIE X Q0q σ tg R) X.xe s1) X.xe s
def Eg {E : QZq} {it : Addr} {n : String} {vs : Array Value} (ho : s.heap.get? it = some o) (hc : o.cls = .type n) (hd : o.data = .fields vs)
    (hn : ["enumerate", "zip", "dict_itemiterator", "dict_reverseitemiterator", "odict_iterator", "itertools.zip_longest", "itertools.pairwise"].contains n = false) (hQ : Q () s) : wpAny M A (letOwnedTupleGo tg (.ref it) u) Q E s := by
  unfold letOwnedTupleGo
  cases tg <;> first
    | exact QKz hQ
    | (cases u <;> first
        | exact QKz hQ
        | (refine QKq (wpAny_load ho ?_)
           rw [hc, hd]
           show wpAny M A (if (["enumerate", "zip", "dict_itemiterator", "dict_reverseitemiterator", "odict_iterator", "itertools.zip_longest", "itertools.pairwise"].contains n && vs[0]? == some (rawInt _)) = true then _ else _) Q E s
           rw [if_neg (by intro h; rw [hn, Bool.false_and] at h; cases h)]
           exact QKz hQ))
def Itl(K:QQq)(a:Addr):It:=
 ⟨fun i H=>∃xs x,jm K H a xs/\xs[i]? =some x,fun i H x H'=>H'=H/\∀xs,jm K H a xs->xs[i]? =some x,fun i H=>∃xs,jm K H a xs/\xs.length<=i⟩
def Itt(K:QQq)(a:Addr):It:=
 ⟨fun i H=>∃xs x,iy K H a xs/\xs[i]? =some x,fun i H x H'=>H'=H/\∀xs,iy K H a xs->xs[i]? =some x,fun i H=>∃xs,iy K H a xs/\xs.length<=i⟩
def Itr(lo:Int)(n:Nat):It:=⟨fun i _=>i<n,fun i H x H'=>H'=H/\x=.int (lo+i),fun i _=>n<=i⟩
variable{K:QQq}
theorem FN{w:World}(a it:Addr):Turn P w K tg (Itl K a) [it] it (fun i h=>h.IsListIter it a i) where
 mem:=by simp
 obj:=fun i h st b hb=>by
  have e:b=it:=by simpa using hb
  subst e
  obtain⟨o,e,c,d⟩:=st
  exact⟨o,e,fun v z=>by rw[d]at z;cases z⟩
 keep:=fun i h h' st k=>st.at fun o e=>k it (by simp) o e
 item:=by
  intro X hP hw hK hc i Q0q s σ H E I hf st hg
  subst hP hw hK
  obtain⟨xs,x,hq,hx⟩:=hg
  obtain⟨its,rv,p,hz⟩:=I.list hq
  obtain⟨u,hu,ru⟩:=rv.get hx
  obtain⟨f0,f1,f2,f3,f4,f5⟩:=hf it (by simp)
  refine wpAny_pyNext_list_item st p.isList (x:=u) (by simpa using hu) fun h' st' sb=>?_
  have I1:Inv X Q0q σ H {s with heap:=h'}:=I.turned (t':=s.toks) (fun b o hb e=>(sb.2 b hb).trans e) f0 f1 f3 f4 f5
  obtain⟨o,e,c,d⟩:=id st'
  exact⟨u,rfl,Eg (s:={s with heap:=h'}) e c d (by decide) ⟨x,H,I1,ru,⟨rfl,fun ys hy=>by rw[I.yG hy hq];exact hx⟩,st',fun b hb=>(hf b hb).1⟩⟩
 done:=by
  intro X hP hw hK hc i Q0q s σ H E I hf st hg
  subst hP hw hK
  obtain⟨xs,hq,hx⟩:=hg
  obtain⟨its,rv,p,hz⟩:=I.list hq
  obtain⟨f0,f1,f2,f3,f4,f5⟩:=hf it (by simp)
  have hl:=rv.length
  exact wpAny_pyNext_list_end (I.ok.hd hc) st p.isList (by simp;omega) fun h' eb=>⟨rfl,I.turned (t':=s.toks) (fun b o hb e=>eb b o hb e) f0 f1 f3 f4 f5⟩
 self:=fun _ _ _ _ _ st h=>wpAny_pyIter_listiter st h
theorem zL{w:World}(a it:Addr):Turn P w K tg (Itt K a) [it] it (fun i h=>h.IsTupleIter it a i) where
 mem:=by simp
 obj:=fun i h st b hb=>by
  have e:b=it:=by simpa using hb
  subst e
  obtain⟨o,e,c,d⟩:=st
  exact⟨o,e,fun v z=>by rw[d]at z;cases z⟩
 keep:=fun i h h' st k=>st.at fun o e=>k it (by simp) o e
 item:=by
  intro X hP hw hK hc i Q0q s σ H E I hf st hg
  subst hP hw hK
  obtain⟨xs,x,hq,hx⟩:=hg
  obtain⟨its,rv,p,hz⟩:=I.tuple hq
  obtain⟨u,hu,ru⟩:=rv.get hx
  obtain⟨f0,f1,f2,f3,f4,f5⟩:=hf it (by simp)
  refine wpAny_pyNext_tuple_item st (show s.heap.IsTuple a its.toArray from p) (x:=u) (by simpa using hu) fun h' st' sb=>?_
  have I1:Inv X Q0q σ H {s with heap:=h'}:=I.turned (t':=s.toks) (fun b o hb e=>(sb.2 b hb).trans e) f0 f1 f3 f4 f5
  obtain⟨o,e,c,d⟩:=id st'
  exact⟨u,rfl,Eg (s:={s with heap:=h'}) e c d (by decide) ⟨x,H,I1,ru,⟨rfl,fun ys hy=>by rw[I.uw hy hq];exact hx⟩,st',fun b hb=>(hf b hb).1⟩⟩
 done:=by
  intro X hP hw hK hc i Q0q s σ H E I hf st hg
  subst hP hw hK
  obtain⟨xs,hq,hx⟩:=hg
  obtain⟨its,rv,p,hz⟩:=I.tuple hq
  obtain⟨f0,f1,f2,f3,f4,f5⟩:=hf it (by simp)
  have hl:=rv.length
  exact wpAny_pyNext_tuple_end (I.ok.hd hc) st (show s.heap.IsTuple a its.toArray from p) (by simp;omega) fun h' eb=>⟨rfl,I.turned (t':=s.toks) (fun b o hb e=>eb b o hb e) f0 f1 f3 f4 f5⟩
 self:=fun _ _ _ _ _ st h=>wpAny_pyIter_tupleiter st h
theorem zM{w:World}(it:Addr)(lo:Int)(n:Nat):Turn P w K tg (Itr lo n) [it] it (fun i h=>IsRangeIter h it (lo+(i:Nat)*1) ((n:Int)- (i:Nat)) 1) where
 mem:=by simp
 obj:=fun i h st b hb=>by
  have e:b=it:=by simpa using hb
  subst e
  exact⟨_,st,fun v z=>by
   have z':Data.fields _=Data.cell v:=z
   cases z'⟩
 keep:=fun i h h' st k=>k it (by simp) _ st
 item:=by
  intro X hP hw hK hc i Q0q s σ H E I hf st hg
  subst hP hw hK
  obtain⟨f0,f1,f2,f3,f4,f5⟩:=hf it (by simp)
  have W:=Walks.range (prog:=X.prog) (w:=X.w) (I.ok.hd hc) it lo 1 n
  refine W.item i s _ _ hg st fun v h' tk hv st' kk=>?_
  obtain⟨t,rfl⟩:=hv
  have I1:Inv X Q0q σ H {s with heap:=h',toks:=tk}:=I.turned (fun b o hb e=>kk b o (by simpa using hb) e) f0 f1 f3 f4 f5
  refine⟨_,rfl,Eg (s:={s with heap:=h',toks:=tk}) (n:="range_iterator") st' rfl rfl (by decide) ⟨.int (lo+i),H,I1,⟨t,?_⟩,⟨rfl,rfl⟩,st',fun b hb=>(hf b hb).1⟩⟩
  rw[Int.mul_one]
 done:=by
  intro X hP hw hK hc i Q0q s σ H E I hf st hg
  subst hP hw hK
  obtain⟨f0,f1,f2,f3,f4,f5⟩:=hf it (by simp)
  exact wpAny_pyNext_range_end (I.ok.hd hc) st (by have:n<=i:=hg;omega) fun h' eb=>⟨rfl,I.turned (t':=s.toks) (fun b o hb e=>eb b o hb e) f0 f1 f3 f4 f5⟩
 self:=fun _ _ _ _ _ st h=>wpAny_pyIter_rangeiter st h
variable{fp:List Addr}
section
variable{X:Cx}{tg:Expr}
def Jy{R:It->Hp->Prop}{E:QZq}{lo hi:Int}{t u v:Tok}{tk:Nat}(I:Inv X Q0q σ H s)(h1: -(2 ^62)<=lo)(h2:lo<2 ^62)(h3: -(2 ^62)<=hi)(h4:hi<2 ^62)
  (q:R (Itr lo (hi-lo).toNat) H):wpAny (model X.prog X.w) X.A (pyIter (.ref s.heap.objs.size)) (PIE X Q0q σ tg R) E {s with heap:=s.heap.push {cls:=.type "range",data:=.fields #[.int lo t,.int hi u,.int 1 v]},toks:=tk}:=by
 refine wpAny_pyIter_range (IsRange.new ..) (small_one h1 h2 h3 h4) ?_
 have I1:Inv X Q0q σ H {s with heap:=s.heap.push {cls:=.type "range",data:=.fields #[.int lo t,.int hi u,.int 1 v]},toks:=tk}:=I.kept fun b o e=>QWq _ e
 refine⟨(s.heap.push {cls:=.type "range",data:=.fields #[.int lo t,.int hi u,.int 1 v]}).objs.size,[(s.heap.push {cls:=.type "range",data:=.fields #[.int lo t,.int hi u,.int 1 v]}).objs.size],_,_,H,rfl,
  I1.kept (t':=tk) fun b o e=>QWq _ e,zM _ lo (hi-lo).toNat,?_,fun b hb=>?_,q⟩
 ·have e1:lo+((0:Nat):Int)*1=lo:=by simp
  have e2:(((hi-lo).toNat:Nat):Int)- ((0:Nat):Int)=Builtin.Range.rangeSize lo hi 1:=by rw[rangeSize_one];split<;>omega
  show IsRangeIter _ _ (lo+((0:Nat):Int)*1) ((((hi-lo).toNat:Nat):Int)- ((0:Nat):Int)) 1
  rw[e1,e2]
  exact Qzq _ rfl
 ·have e:b=(s.heap.push {cls:=.type "range",data:=.fields #[.int lo t,.int hi u,.int 1 v]}).objs.size:=by simpa using hb
  subst e
  exact I1.Bj (QVz _) (I1.hok.fresh (QVz _))
def ab1(ta:TA):TI:=fun σ H R=>ta σ H fun vs H1=>∃j:Int,vs=[.int j]/\ -(2 ^62)<=j/\j<2 ^62/\R (Itr 0 j.toNat) H1
def GD{a:Expr}{ta:TA}{p:Pos}(hg:Gl X "range")(hm:X.mg "range"=none)(ha:PA X [a] ta)(hs:starEach [a] X.env=[(false,eval a X.env)]:=by rfl):PI X tg (.Call (.Name "range" p) [a] [] pos) (ab1 ta):=by
 intro Q0q s σ H R I h
 refine Call_ (jO I hg hm boot_range (PyProof.Rows.callWith_type1 (cA (ha pos Q0q s σ H _ I h) fun us s1⟨vs,H1,I1,r1,q1⟩=>?_) hs rfl))
 obtain⟨j,e,q1,q2,q⟩:=q1
 subst e
 cases r1 with
 |cons r rr=>
  cases rr
  obtain⟨t,rfl⟩:=r
  exact call_range_1 (Jy I1 (by omega) (by omega) q1 q2 (by simpa using q))
def aes(wi:TI)(g:TG)(tb:TS):TS:=fun D σ H=>wi σ H fun J H1=>∃W:Nat->Nat->St->Hp->Prop,(∃m,W 0 m σ H1)/\∀i m σ H,W i m σ H->
 (J.stop i H/\D.nx σ H)\/(J.go i H/\∃N:St->Hp->Prop,(∀σ' H',N σ' H'->∃m',m'<m/\W (i+1) m' σ' H')/\∀x H',J.yld i H x H'->g x σ H' fun σ2 H2=>tb {D with nx:=N,ct:=N,bk:=D.nx} σ2 H2)
def oE(fp:List Addr)(h:Heap):List (Addr×Obj):=fp.filterMap fun b=>(h.get? b).map fun o=>(b,o)
def iW(hb:b∈fp)(e:h.get? b=some o):(b,o)∈oE fp h:=List.mem_filterMap.mpr ⟨b,hb,by rw[e];rfl⟩
def GX{p:Addr×Obj}(hp:p∈oE fp h):p.1∈fp/\h.get? p.1=some p.2:=by
 obtain⟨b,hb,e⟩:=List.mem_filterMap.mp hp
 cases q:h.get? b with
 |none=>rw[q]at e;cases e
 |some o=>
  rw[q]at e
  have e':(b,o)=p:=QEq e
  subst e'
  exact⟨hb,q⟩
def Inv.pinned(I:Inv X Q0q σ H s)(hf:∀b∈fp,gK X Q0q H b)(ho:∀b∈fp,∃o,s.heap.get? b=some o/\∀v,o.data≠ .cell v):Inv X (Q0q++oE fp s.heap) σ H s:=
 I.CV fun p hp=>(QXz.mp hp).elim (fun z=>I.pin p (QVq _ z)) fun z=>by
  obtain⟨hb,e⟩:=GX z
  obtain⟨f0,f1,f2,_⟩:=hf p.1 hb
  obtain⟨o,e',d⟩:=ho p.1 hb
  rw[e]at e';cases e'
  exact⟨e,f0,f1,f2,d⟩
def Inv.mJ{pl:QQz}(I:Inv X (Q0q++pl) σ H s):Inv X Q0q σ H s:=I.CV fun p hp=>I.pin p (QVq _ (QWz _ hp))
theorem V4{iter:Expr}{wi:TI}{g:TG}{tb:TS}(hp:PassesOwn (model X.prog X.w) X.A X.env X.xe)(hc:X.calm=true)(hi:PI X tg iter wi)(hg:PG X tg g)(hb:w6 X body tb)
  (hs:∀x,foldedSetIterable iter X.env x=pure x:=by intro _;rfl):PS X (.For tg iter body [] pos) (aes wi g tb):=by
 intro Q0q s σ H D I h
 refine wpAny_For (cA (hi Q0q s σ H _ I h) fun v s1 h1=>cA h1 fun itv s2 h2=>?_) hs
 obtain⟨it,fp,tn,J,H2,e,I2,T,st2,f2,W,⟨m0,w0⟩,turn⟩:=h2
 subst e
 have stat:∀{H':Hp},(∀b∈fp,H' b=none)->∀b∈fp,gK X Q0q H' b:=fun hn b hb=>⟨hn b hb,(f2 b hb).2⟩
 refine codeAny_forLoop_any (fun n s'=>∃i σ' H',Inv X Q0q σ' H' s'/\tn i s'.heap/\(∀b∈fp,H' b=none)/\W i n σ' H') ?_ m0 ⟨0,σ,H2,I2,st2,fun b hb=>(f2 b hb).1,w0⟩
 rintro n s3 ⟨i,σ3,H3,I3,st3,fr3,w3⟩
 rcases turn i n σ3 H3 w3 with ⟨stop,qn⟩|⟨go,N,hN,step⟩
 ·refine wpAny_passesOwn hp (cA (T.done X rfl rfl rfl hc i Q0q s3 σ3 H3 X.xe I3 (stat fr3) st3 stop) fun r s4⟨hr,I4⟩=>?_)
  subst hr
  exact wpAny_execs_nil ⟨σ3,H3,I4,qn⟩
 ·refine wpAny_passesOwn hp (cA (T.item X rfl rfl rfl hc i Q0q s3 σ3 H3 X.xe I3 (stat fr3) st3 go) fun r s4⟨u,hr,h4⟩=>?_)
  subst hr
  refine wpAny_passesOwn hp (cA h4 fun _ s5⟨x,H5,I5,r5,y5,st5,fr5⟩=>?_)
  have I5':=I5.pinned (stat fr5) (T.obj _ _ st5)
  refine wpAny_passesOwn hp (cA (hg _ s5 σ3 H5 x u _ I5' r5 (step x H5 y5)) fun _ s6⟨σ6,H6,I6,q6⟩=>?_)
  refine wpAny_passesOwn hp (cA (hb _ s6 σ6 H6 _ I6 q6) fun f s7 q7=>?_)
  have again:∀{σ7:St}{H7:Hp},Inv X (Q0q++oE fp s5.heap) σ7 H7 s7->N σ7 H7->∃m,m<n/\∃i σ' H',Inv X Q0q σ' H' s7/\tn i s7.heap/\(∀b∈fp,H' b=none)/\W i m σ' H':=fun{σ7 H7}I7 n7=>by
   obtain⟨m',hm,w7⟩:=hN σ7 H7 n7
   refine⟨m',hm,i+1,σ7,H7,I7.mJ,T.keep _ _ _ st5 fun b hb o e=>(I7.pin (b,o) (QVq _ (QVq _ (iW hb e)))).1,fun b hb=>?_,w7⟩
   obtain⟨o,e,d⟩:=T.obj _ _ st5 b hb
   exact(I7.pin (b,o) (QVq _ (QVq _ (iW hb e)))).2.1
  cases f with
  |next=>obtain⟨σ7,H7,I7,n7⟩:=q7;exact again I7 n7
  |cont=>obtain⟨σ7,H7,I7,n7⟩:=q7;exact again I7 n7
  |brk=>obtain⟨σ7,H7,I7,q7⟩:=q7;exact⟨σ7,H7,I7.mJ,q7⟩
  |ret v=>obtain⟨x7,σ7,H7,I7,r7,q7⟩:=q7;exact⟨x7,σ7,H7,I7.mJ,r7,q7⟩
end
abbrev R2:=V->V->Hp->VK->Prop
def fY(X:Cx)(f:Value->Value->Sem Value)(r:R2):Prop:=
 ∀(Q0q:QQz)(s:Shared)(σ:St)(H:Hp)(x y:V)(v u:Value)(Q:VK),Inv X Q0q σ H s->RelV x v->RelV y u->r x y H Q->
  wpAny (model X.prog X.w) X.A (f v u) (EP X Q0q σ Q) X.xe s
def UnR(X:Cx)(f:Value->Sem Value)(r:V->Hp->VK->Prop):Prop:=
 ∀(Q0q:QQz)(s:Shared)(σ:St)(H:Hp)(x:V)(v:Value)(Q:VK),Inv X Q0q σ H s->RelV x v->r x H Q->
  wpAny (model X.prog X.w) X.A (f v) (EP X Q0q σ Q) X.xe s
def f9(X:Cx)(f:Value)(r:List V->Hp->VK->Prop):Prop:=
 ∀(Q0q:QQz)(s:Shared)(σ:St)(H:Hp)(xs:List V)(us:List Value)(Q:VK),Inv X Q0q σ H s->Vals xs us->r xs H Q->
  wpAny (model X.prog X.w) X.A (call f us) (EP X Q0q σ Q) X.xe s
def ags(X:Cx)(r:V->Hp->(Bool->Hp->Prop)->Prop):Prop:=
 ∀(Q0q:QQz)(s:Shared)(σ:St)(H:Hp)(x:V)(v:Value)(Q:Bool->Hp->Prop),Inv X Q0q σ H s->RelV x v->r x H Q->
  wpAny (model X.prog X.w) X.A (truthy v) (TP X Q0q σ Q) X.xe s
def YX(r:R2)(ta tb:TE):TE:=fun σ H Q=>ta σ H fun x H1=>tb σ H1 fun y H2=>r x y H2 Q
def tUn(r:V->Hp->VK->Prop)(ta:TE):TE:=fun σ H Q=>ta σ H fun x H1=>r x H1 Q
def rI(C:Int->Int->Prop)(g:Int->Int->V):R2:=fun x y H Q=>∃i j,x=.int i/\y=.int j/\C i j/\Q (g i j) H
def JH(g:Int->Int->V):R2:=fun x y H Q=>∃i j,x=.int i/\y=.int j/\Q (g i j) H
def rU(g:Int->V):V->Hp->VK->Prop:=fun x H Q=>∃i,x=.int i/\Q (g i) H
variable{f:Value->Value->Sem Value}{r:R2}
section
variable{X:Cx}{a b c:Expr}{ta tb tc:TE}{pos:Pos}
def Yn(ha:PE X a ta)(hb:PE X b tb){R:V->V->Hp->Prop}(I:Inv X Q0q σ H s)
  (h:ta σ H fun x H1=>tb σ H1 fun y H2=>R x y H2){Q:QZq}{f:Value->Value->Sem Value}
  (hf:∀v u s2 x y H2,Inv X Q0q σ H2 s2->RelV x v->RelV y u->R x y H2->wpAny (model X.prog X.w) X.A (f v u) Q X.xe s2):
  wpAny (model X.prog X.w) X.A (eval a X.env) (fun v s₁=>wpAny (model X.prog X.w) X.A (eval b X.env) (fun u s₂=>wpAny (model X.prog X.w) X.A (f v u) Q X.xe s₂) X.xe s₁) X.xe s:=by
 refine cA (ha Q0q s σ H _ I h) fun v s1⟨x,H1,I1,r1,q1⟩=>?_
 refine cA (hb Q0q s1 σ H1 _ I1 q1) fun u s2⟨y,H2,I2,r2,q2⟩=>?_
 exact hf v u s2 x y H2 I2 r1 r2 q2
def uO{op:Operator}(ho:fY X (binaryOp op) r)(ha:PE X a ta)(hb:PE X b tb):PE X (.BinOp a op b pos) (YX r ta tb):=by
 intro Q0q s σ H Q I h
 exact wpAny_BinOp (Yn ha hb I h fun v u s2 x y H2 I2 rx ry q=>ho Q0q s2 σ H2 x y v u Q I2 rx ry q)
def abb{op:UnaryOp}{r:V->Hp->VK->Prop}(ho:UnR X (unaryOp op) r)(ha:PE X a ta):PE X (.UnaryOp op a pos) (tUn r ta):=by
 intro Q0q s σ H Q I h
 exact UnaryOp_ (cA (ha Q0q s σ H _ I h) fun v s1⟨x,H1,I1,r1,q1⟩=>ho Q0q s1 σ H1 x v Q I1 r1 q1)
def opI{C:Int->Int->Prop}{g:Int->Int->Int}
  (rule:∀(i j:Int)(t u:Tok)(s:Shared)(Q:QZq)(E:QZq),C i j->Q (.int (g i j) s.toks) {s with toks:=s.toks+1}->wpAny (model X.prog X.w) X.A (f (.int i t) (.int j u)) Q E s):
  fY X f (rI C fun i j=>.int (g i j)):=by
 intro Q0q s σ H x y v u Q I rx ry h
 obtain⟨i,j,rfl,rfl,hc,q⟩:=h
 obtain⟨t,rfl⟩:=rx
 obtain⟨t',rfl⟩:=ry
 exact rule i j t t' s _ _ hc ⟨.int (g i j),H,I.tok _,⟨_,rfl⟩,q⟩
def abo{g:Int->Int->Int}
  (rule:∀(i j:Int)(t u:Tok)(s:Shared)(Q:QZq)(E:QZq),Q (.int (g i j) s.toks) {s with toks:=s.toks+1}->wpAny (model X.prog X.w) X.A (f (.int i t) (.int j u)) Q E s):
  fY X f (JH fun i j=>.int (g i j)):=by
 intro Q0q s σ H x y v u Q I rx ry h
 obtain⟨i,j,rfl,rfl,q⟩:=h
 obtain⟨t,rfl⟩:=rx
 obtain⟨t',rfl⟩:=ry
 exact rule i j t t' s _ _ ⟨.int (g i j),H,I.tok _,⟨_,rfl⟩,q⟩
def QC{g:Int->Int->Bool}
  (rule:∀(i j:Int)(t u:Tok)(s:Shared)(Q:QZq)(E:QZq),Q (.bool (g i j)) s->wpAny (model X.prog X.w) X.A (f (.int i t) (.int j u)) Q E s):
  fY X f (JH fun i j=>.bl (g i j)):=by
 intro Q0q s σ H x y v u Q I rx ry h
 obtain⟨i,j,rfl,rfl,q⟩:=h
 obtain⟨t,rfl⟩:=rx
 obtain⟨t',rfl⟩:=ry
 exact rule i j t t' s _ _ ⟨.bl (g i j),H,I,rfl,q⟩
def acN(i j:Int):Prop:=0<j/\j<1073741824
def acM(i j:Int):Prop:=0<=j/\j<=1000000/\i.natAbs<2 ^64
def RP(i j:Int):Prop:=(-(2 ^64)<i/\i<2 ^64)\/(-(2 ^64)<j/\j<2 ^64)
def RP.ok{i j:Int}(h:RP i j):IntMulOk i j:=by
 rcases h with ⟨h1,h2⟩|⟨h1,h2⟩
 ·exact .of_left (intBits_le_64 h1 h2)
 ·exact .of_right (intBits_le_64 h1 h2)
def Ws:fY X (binaryOp .Add) (JH fun i j=>.int (i+j)):=abo fun _ _ _ _ _ _ _ q=>add_int q
def Wf:fY X (binaryOp .Sub) (JH fun i j=>.int (i-j)):=abo fun _ _ _ _ _ _ _ q=>sub_int q
def Wj:fY X (binaryOp .Mult) (rI RP fun i j=>.int (i*j)):=opI fun _ _ _ _ _ _ _ hc q=>mul_int q hc.ok
def Qw:fY X (binaryOp .FloorDiv) (rI acN fun i j=>.int (i/j)):=opI fun i j _ _ _ _ _ hc q=>by
 have h1:(0:Int)<j:=hc.1
 have h2:j<1073741824:=hc.2
 exact floordiv_int (by omega) (by rw[Int.fdiv_eq_ediv_of_nonneg i (by omega)];exact q) (.inl (PyProof.noPylong_small (by omega)))
def Wl:fY X (binaryOp .Mod) (rI (fun _ j=>0<j) fun i j=>.int (i%j)):=opI fun i j _ _ _ _ _ hc q=>by
 have h1:(0:Int)<j:=hc
 exact mod_int' (by omega) (by rw[Int.fmod_eq_emod_of_nonneg i (by omega)];exact q)
def Wg:fY X (binaryOp .Pow) (rI acM fun i j=>.int (i ^j.toNat)):=opI fun _ _ _ _ _ _ _ hc q=>pow_int_small hc.1 hc.2.1 hc.2.2 q
def unI{f:Value->Sem Value}{g:Int->Int}
  (rule:∀(i:Int)(t:Tok)(s:Shared)(Q:QZq)(E:QZq),Q (.int (g i) s.toks) {s with toks:=s.toks+1}->wpAny (model X.prog X.w) X.A (f (.int i t)) Q E s):
  UnR X f (rU fun i=>.int (g i)):=by
 intro Q0q s σ H x v Q I rx h
 obtain⟨i,rfl,q⟩:=h
 obtain⟨t,rfl⟩:=rx
 exact rule i t s _ _ ⟨.int (g i),H,I.tok _,⟨_,rfl⟩,q⟩
def Vb:UnR X (unaryOp .USub) (rU fun i=>.int (-i)):=unI fun _ _ _ _ _ q=>neg_int q
end
def Pb:V->V->Bool
 |.non,.non=>true|.non,.int _=>true|.int _,.non=>true|.non,.bl _=>true|.bl _,.non=>true|.non,.str _=>true|.str _,.non=>true
 |.int _,.int _=>true|.bl _,.bl _=>true|.str _,.str _=>true|.byt _,.byt _=>true
 |.int _,.str _=>true|.str _,.int _=>true|.bl _,.str _=>true|.str _,.bl _=>true
 |_,_=>false
def rEq:R2:=fun x y H Q=>Pb x y=true/\Q (.bl (decide (x=y))) H
def rNe:R2:=fun x y H Q=>Pb x y=true/\Q (.bl (!decide (x=y))) H
def Ey{i j:Int}:decide (V.int i=V.int j)=(i==j):=by
 rw[Bool.eq_iff_iff]
 simp
def Mq{i j:Bool}:decide (V.bl i=V.bl j)=(i==j):=by
 rw[Bool.eq_iff_iff]
 simp
def Ex{i j:Str}:decide (V.str i=V.str j)=(i==j):=by
 rw[Bool.eq_iff_iff]
 simp
def Ez{i j:Array UInt8}:decide (V.byt i=V.byt j)=(i.toList==j.toList):=by
 rw[Bool.eq_iff_iff]
 cases i
 cases j
 simp
variable{op:CmpOp}{r':R2}{us:List Value}
section
variable{X:Cx}{a b c:Expr}{ta tb tc:TE}{pos:Pos}
def bA{Q:VK}{k k':Bool}(I:Inv X Q0q σ H s)(q:Q (.bl k) H)(e:k=k'):EP X Q0q σ Q (.bool k') s:=by
 subst e
 exact⟨.bl k,H,I,rfl,q⟩
def abm:fY X (compareOp .Eq) rEq:=by
 intro Q0q s σ H x y v u Q I rx ry h
 obtain⟨hs,q⟩:=h
 cases x with
 |non=>
  cases rx
  cases y with
  |non=>cases ry;exact PySem.EqNone.eq_none_none (bA I q (by simp))
  |bl j=>cases ry;exact PySem.EqNone.eq_none_bool (bA I q (by simp))
  |int j=>obtain⟨t',rfl⟩:=ry;exact PySem.EqNone.eq_none_int (bA I q (by simp))
  |str j=>obtain⟨t',rfl⟩:=ry;exact PySem.EqNone.eq_none_str (bA I q (by simp))
  |_=>exact absurd (show false=true from hs) Qjz
 |bl i=>
  cases rx
  cases y with
  |non=>cases ry;exact PySem.EqNone.eq_bool_none (bA I q (by simp))
  |bl j=>cases ry;exact eq_bool (bA I q Mq)
  |str j=>obtain⟨t',rfl⟩:=ry;exact PySem.EqMixed.eq_bool_str (bA I q (by simp))
  |_=>exact absurd (show false=true from hs) Qjz
 |int i=>
  obtain⟨t,rfl⟩:=rx
  cases y with
  |non=>cases ry;exact PySem.EqNone.eq_int_none (bA I q (by simp))
  |int j=>obtain⟨t',rfl⟩:=ry;exact eq_int (bA I q Ey)
  |str j=>obtain⟨t',rfl⟩:=ry;exact PySem.EqMixed.eq_int_str (bA I q (by simp))
  |_=>exact absurd (show false=true from hs) Qjz
 |str i=>
  obtain⟨t,rfl⟩:=rx
  cases y with
  |non=>cases ry;exact PySem.EqNone.eq_str_none (bA I q (by simp))
  |bl j=>cases ry;exact PySem.EqMixed.eq_str_bool (bA I q (by simp))
  |int j=>obtain⟨t',rfl⟩:=ry;exact PySem.EqMixed.eq_str_int (bA I q (by simp))
  |str j=>obtain⟨t',rfl⟩:=ry;exact eq_str (bA I q Ex)
  |_=>exact absurd (show false=true from hs) Qjz
 |byt i=>
  obtain⟨t,rfl⟩:=rx
  cases y with
  |byt j=>obtain⟨t',rfl⟩:=ry;exact PySem.W.eq_bytes (bA I q Ez)
  |_=>exact absurd (show false=true from hs) Qjz
 |_=>cases y<;>exact absurd (show false=true from hs) Qjz
def abh:fY X (compareOp .NotEq) rNe:=by
 intro Q0q s σ H x y v u Q I rx ry h
 obtain⟨hs,q⟩:=h
 cases x with
 |non=>
  cases rx
  cases y with
  |non=>cases ry;exact PySem.EqNone.ne_none_none (bA I q (by simp))
  |bl j=>cases ry;exact PySem.EqNone.ne_none_bool (bA I q (by simp))
  |int j=>obtain⟨t',rfl⟩:=ry;exact PySem.EqNone.ne_none_int (bA I q (by simp))
  |str j=>obtain⟨t',rfl⟩:=ry;exact PySem.EqNone.ne_none_str (bA I q (by simp))
  |_=>exact absurd (show false=true from hs) Qjz
 |bl i=>
  cases rx
  cases y with
  |non=>cases ry;exact PySem.EqNone.ne_bool_none (bA I q (by simp))
  |bl j=>cases ry;exact ne_bool (bA I q (congrArg not Mq))
  |str j=>obtain⟨t',rfl⟩:=ry;exact PySem.EqMixed.ne_bool_str (bA I q (by simp))
  |_=>exact absurd (show false=true from hs) Qjz
 |int i=>
  obtain⟨t,rfl⟩:=rx
  cases y with
  |non=>cases ry;exact PySem.EqNone.ne_int_none (bA I q (by simp))
  |int j=>obtain⟨t',rfl⟩:=ry;exact ne_int (bA I q (congrArg not Ey))
  |str j=>obtain⟨t',rfl⟩:=ry;exact PySem.EqMixed.ne_int_str (bA I q (by simp))
  |_=>exact absurd (show false=true from hs) Qjz
 |str i=>
  obtain⟨t,rfl⟩:=rx
  cases y with
  |non=>cases ry;exact PySem.EqNone.ne_str_none (bA I q (by simp))
  |bl j=>cases ry;exact PySem.EqMixed.ne_str_bool (bA I q (by simp))
  |int j=>obtain⟨t',rfl⟩:=ry;exact PySem.EqMixed.ne_str_int (bA I q (by simp))
  |str j=>obtain⟨t',rfl⟩:=ry;exact ne_str (bA I q (congrArg not Ex))
  |_=>exact absurd (show false=true from hs) Qjz
 |byt i=>
  obtain⟨t,rfl⟩:=rx
  cases y with
  |byt j=>obtain⟨t',rfl⟩:=ry;exact PySem.W.ne_bytes (bA I q (congrArg not Ez))
  |_=>exact absurd (show false=true from hs) Qjz
 |_=>cases y<;>exact absurd (show false=true from hs) Qjz
def abi:fY X (compareOp .Lt) (JH fun i j=>.bl (decide (i<j))):=QC fun _ _ _ _ _ _ _ q=>lt_int q
def abj:fY X (compareOp .LtE) (JH fun i j=>.bl (decide (i<=j))):=QC fun _ _ _ _ _ _ _ q=>le_int q
def abk:fY X (compareOp .Gt) (JH fun i j=>.bl (decide (j<i))):=QC fun _ _ _ _ _ _ _ q=>gt_int q
def abl:fY X (compareOp .GtE) (JH fun i j=>.bl (decide (j<=i))):=QC fun _ _ _ _ _ _ _ q=>ge_int q
def GP:fY X (compareOp .Lt) (fun x y H Q=>∃i j,x=.str i/\y=.str j/\Q (.bl (decide (i.cps.toList<j.cps.toList))) H):=by
 intro Q0q s σ H x y v u Q I rx ry h
 obtain⟨i,j,rfl,rfl,q⟩:=h
 obtain⟨t,rfl⟩:=rx
 obtain⟨t',rfl⟩:=ry
 exact lt_str (bA I q rfl)
def GQ:fY X (compareOp .In) (fun x y H Q=>∃i j,x=.str i/\y=.str j/\Q (.bl (!(Builtin.Str.occurrences j i 0 j.length 1).isEmpty)) H):=by
 intro Q0q s σ H x y v u Q I rx ry h
 obtain⟨i,j,rfl,rfl,q⟩:=h
 obtain⟨t,rfl⟩:=rx
 obtain⟨t',rfl⟩:=ry
 exact in_str (bA I q rfl)
def Wn:fY X (compareOp .Is) (fun x y H Q=>y=.non/\Q (.bl (decide (x=.non))) H):=by
 intro Q0q s σ H x y v u Q I rx ry h
 obtain⟨rfl,q⟩:=h
 cases ry
 refine is_none_gen (bA I q ?_)
 cases x<;>first
  |(cases rx;rfl)
  |(obtain⟨t,rfl⟩:=rx;rfl)
def Qu:fY X (compareOp .IsNot) (fun x y H Q=>y=.non/\Q (.bl (!decide (x=.non))) H):=by
 intro Q0q s σ H x y v u Q I rx ry h
 obtain⟨rfl,q⟩:=h
 cases ry
 refine isnot_none_gen (bA I q ?_)
 cases x<;>first
  |(cases rx;rfl)
  |(obtain⟨t,rfl⟩:=rx;rfl)
def fY.or(h:fY X f r)(h':fY X f r'):fY X f (fun x y H Q=>r x y H Q\/r' x y H Q):=by
 intro Q0q s σ H x y v u Q I rx ry q
 rcases q with q|q
 ·exact h Q0q s σ H x y v u Q I rx ry q
 ·exact h' Q0q s σ H x y v u Q I rx ry q
def Qo(ho:fY X (compareOp op) r)(ha:PE X a ta)(hb:PE X b tb)(hm:behindInMarks op b=false):PE X (.Compare a [op] [b] pos) (YX r ta tb):=by
 intro Q0q s σ H Q I h
 exact wpAny_Compare1 (Yn ha hb I h fun v u s2 x y H2 I2 rx ry q=>ho Q0q s2 σ H2 x y v u Q I2 rx ry q) hm
def Su(t:TE):TT:=fun σ H Q=>t σ H fun x H'=>∃k,x=.bl k/\Q k H'
def Qd(ho:fY X (compareOp op) r)(ha:PE X a ta)(hb:PE X b tb)(hm:behindInMarks op b=false):PT X (.Compare a [op] [b] pos) (Su (YX r ta tb)):=by
 intro Q0q s σ H Q I h
 refine wpAny_isTrue_Compare1 (cA (ha Q0q s σ H _ I h) fun v s1⟨x,H1,I1,r1,q1⟩=>cA (hb Q0q s1 σ H1 _ I1 q1) fun u s2⟨y,H2,I2,r2,q2⟩=>
  cA (ho Q0q s2 σ H2 x y v u _ I2 r1 r2 q2) fun c s3⟨z,H3,I3,r3,k,e,q3⟩=>?_) hm
 subst e
 cases r3
 exact wpAny_truthy_bool ⟨H3,I3,q3⟩
def zP(r r':R2)(ta tb tc:TE):TE:=fun σ H Q=>ta σ H fun x H1=>tb σ H1 fun y H2=>r x y H2 fun z H3=>∃k,z=.bl k/\
 (if k=true then tc σ H3 fun w' H4=>r' y w' H4 Q else Q (.bl false) H3)
theorem J3{op':CmpOp}(ho:fY X (compareOp op) r)(ho':fY X (compareOp op') r')(ha:PE X a ta)(hb:PE X b tb)(hc:PE X c tc)
  (hm:lastMarks [op,op'] [b,c]=false:=by with_unfolding_all rfl):PE X (.Compare a [op,op'] [b,c] pos) (zP r r' ta tb tc):=by
 intro Q0q s σ H Q I h
 refine Compare_chain (cA (ha Q0q s σ H _ I h) fun v s1⟨x,H1,I1,r1,q1⟩=>chain_link (cA (hb Q0q s1 σ H1 _ I1 q1) fun u s2⟨y,H2,I2,r2,q2⟩=>
  cA (ho Q0q s2 σ H2 x y v u _ I2 r1 r2 q2) fun d s3⟨z,H3,I3,r3,k,e,q3⟩=>?_)) hm
 subst e
 cases r3
 refine wpAny_truthy_bool ?_
 cases k with
 |false=>exact ite_ff ⟨.bl false,H3,I3,rfl,q3⟩
 |true=>exact ite_tt (chain_last (cA (hc Q0q s3 σ H3 _ I3 q3) fun w' s4⟨z',H4,I4,r4,q4⟩=>ho' Q0q s4 σ H4 y z' u w' Q I4 r2 r4 q4))
theorem JN{op':CmpOp}(ho:fY X (compareOp op) r)(ho':fY X (compareOp op') r')(ha:PE X a ta)(hb:PE X b tb)(hc:PE X c tc)
  (hm:lastMarks [op,op'] [b,c]=false:=by with_unfolding_all rfl):PT X (.Compare a [op,op'] [b,c] pos) (Su (zP r r' ta tb tc)):=by
 intro Q0q s σ H Q I h
 refine isTrue_chain (cA (ha Q0q s σ H _ I h) fun v s1⟨x,H1,I1,r1,q1⟩=>test_link (cA (hb Q0q s1 σ H1 _ I1 q1) fun u s2⟨y,H2,I2,r2,q2⟩=>
  cA (ho Q0q s2 σ H2 x y v u _ I2 r1 r2 q2) fun d s3⟨z,H3,I3,r3,k,e,q3⟩=>?_)) hm
 subst e
 cases r3
 refine wpAny_truthy_bool ?_
 cases k with
 |false=>
  obtain⟨k',e',q'⟩:=q3
  cases e'
  exact ite_ff ⟨H3,I3,q'⟩
 |true=>
  refine ite_tt (test_last (cA (hc Q0q s3 σ H3 _ I3 q3) fun w' s4⟨z',H4,I4,r4,q4⟩=>cA (ho' Q0q s4 σ H4 y z' u w' _ I4 r2 r4 q4) fun d' s5⟨z2,H5,I5,r5,k2,e2,q5⟩=>?_))
  subst e2
  cases r5
  exact wpAny_truthy_bool ⟨H5,I5,q5⟩
def Nm(K:QQq)(x:V)(H:Hp)(k:Bool):Prop:=
 match x with
 |.non=>k=false
 |.bl b=>k=b
 |.int i=>k=(i !=0)
 |.str y=>y.length<=sizeLine/\k=((y.length:Int) !=0)
 |.byt y=>y.size<=sizeLine/\k=((y.size:Int) !=0)
 |.ref p=>(∃xs,jm K H p xs/\k= !xs.isEmpty)\/(∃xs,iy K H p xs/\k= !xs.isEmpty)\/∃kvs,H p=some (.dK kvs)/\k= !kvs.isEmpty
 |_=>False
def Ay{κ:Type}{kvs:List (κ×V)}{vs:List (κ×Value)}(r:KV kvs vs):(!vs.isEmpty)= !kvs.isEmpty:=by
 cases r<;>rfl
def rW{xs:List V}{its:List Value}(r:Vals xs its):(!its.toArray.isEmpty)= !xs.isEmpty:=by
 cases r<;>simp
def oM:(sizeLine:Nat)<2 ^63:=by rw[sizeLine_eq];decide
def Iz:ags X (fun x H Q=>∃k,Nm X.K x H k/\Q k H):=by
 intro Q0q s σ H x v Q I rx h
 obtain⟨k,e,q⟩:=h
 have hl:=oM
 have hs:sizeLine=16777216:=sizeLine_eq
 cases x with
 |non=>
  cases rx
  have e':k=false:=e
  subst e'
  exact truthy_none ⟨H,I,q⟩
 |bl b=>
  cases rx
  have e':k=b:=e
  subst e'
  exact wpAny_truthy_bool ⟨H,I,q⟩
 |int i=>
  obtain⟨t,rfl⟩:=rx
  have e':k=(i !=0):=e
  subst e'
  exact PySem.P.truthy_int ⟨H,I,q⟩
 |str y=>
  obtain⟨t,rfl⟩:=rx
  obtain⟨hy,e'⟩:y.length<=sizeLine/\k=((y.length:Int) !=0):=e
  subst e'
  exact PySem.P.truthy_str (by omega) ⟨H,I.tok _,q⟩
 |byt y=>
  obtain⟨t,rfl⟩:=rx
  obtain⟨hy,e'⟩:y.size<=sizeLine/\k=((y.size:Int) !=0):=e
  subst e'
  exact PySem.W.truthy_bytes (by omega) ⟨H,I.tok _,q⟩
 |ref p=>
  cases rx
  have e':(∃xs,jm X.K H p xs/\k= !xs.isEmpty)\/(∃xs,iy X.K H p xs/\k= !xs.isEmpty)\/∃kvs,H p=some (.dK kvs)/\k= !kvs.isEmpty:=e
  rcases e' with ⟨xs,hx,e'⟩|⟨xs,hx,e'⟩|⟨kvs,hx,e'⟩
  ·subst e'
   obtain⟨its,r,pl,hz⟩:=I.list hx
   have hlen:=r.length
   exact wpAny_truthy_list pl.isList (by simp only[Qyq];omega) ⟨H,I.tok _,by rw[rW r];exact q⟩
  ·subst e'
   obtain⟨its,r,pl,hz⟩:=I.tuple hx
   have hlen:=r.length
   exact truthy_tuple pl (by simp only[Qyq];omega) ⟨H,I.tok _,by rw[rW r];exact q⟩
  ·subst e'
   obtain⟨hz,hS,vs,r,m⟩:kvs.length<=sizeLine/\(p==sysModules)=false/\∃vs,KV kvs vs/\s.heap.DictOf (cg X.prog X.w) p vs:=I.hok p _ hx
   have hlen:kvs.length=vs.length:=Paired.length r
   exact wpAny_truthy_dict hS m (by omega) ⟨H,I.tok _,by rw[Ay r];exact q⟩
 |_=>exact(show False from e).elim
def JM(ha:PE X a ta)(he:∀whole,isTrue a X.env whole=(do let v<-whole;standAt a.pos;holding [v] (truthy v))):
  PT X a (fun σ H Q=>ta σ H fun x H'=>∃k,Nm X.K x H' k/\Q k H'):=by
 intro Q0q s σ H Q I h
 exact isTrue_plain (cA (ha Q0q s σ H _ I h) fun v s1⟨x,H1,I1,r1,q1⟩=>Iz Q0q s1 σ H1 x v Q I1 r1 q1) (he _)
def vals1{x:V}(r:Vals [x] us):∃u,us=[u]/\RelV x u:=by
 cases r with
 |cons r1 r2=>cases r2;exact⟨_,rfl,r1⟩
def HB:f9 X (.type "int") (fun xs H Q=>(∃i,xs=[.int i]/\Q (.int i) H)\/∃k,xs=[.bl k]/\Q (.int (if k then 1 else 0)) H):=by
 intro Q0q s σ H xs us Q I r h
 rcases h with ⟨i,rfl,q⟩|⟨k,rfl,q⟩
 ·obtain⟨u,rfl,t,rfl⟩:=vals1 r
  exact call_int_int ⟨.int i,H,I,⟨_,rfl⟩,q⟩
 ·obtain⟨u,rfl,r1⟩:=vals1 r
  cases r1
  exact call_int_bool ⟨.int (if k then 1 else 0),H,I.tok _,⟨_,rfl⟩,q⟩
def Yv(K:QQq)(x:V)(H:Hp)(n:Nat):Prop:=
 match x with
 |.str y=>y.length<=sizeLine/\n=y.length
 |.byt y=>y.size<=sizeLine/\n=y.size
 |.ref p=>(∃xs,jm K H p xs/\n=xs.length)\/∃xs,iy K H p xs/\n=xs.length
 |_=>False
def Mz:f9 X (.builtin "len") (fun xs H Q=>∃x n,xs=[x]/\Yv X.K x H n/\Q (.int n) H):=by
 intro Q0q s σ H xs us Q I r h
 obtain⟨x,n,rfl,e,q⟩:=h
 obtain⟨u,rfl,rx⟩:=vals1 r
 have hl:=oM
 have hs:sizeLine=16777216:=sizeLine_eq
 cases x with
 |str y=>
  obtain⟨t,rfl⟩:=rx
  obtain⟨hy,e'⟩:y.length<=sizeLine/\n=y.length:=e
  subst e'
  exact len_str (by omega) ⟨.int _,H,I.tok _,⟨_,rfl⟩,q⟩
 |byt y=>
  obtain⟨t,rfl⟩:=rx
  obtain⟨hy,e'⟩:y.size<=sizeLine/\n=y.size:=e
  subst e'
  exact PySem.W.len_bytes (by omega) ⟨.int _,H,I.tok _,⟨_,rfl⟩,q⟩
 |ref p=>
  cases rx
  have e':(∃xs,jm X.K H p xs/\n=xs.length)\/∃xs,iy X.K H p xs/\n=xs.length:=e
  rcases e' with ⟨xs,hx,e'⟩|⟨xs,hx,e'⟩
  ·subst e'
   obtain⟨its,r',pl,hz⟩:=I.list hx
   have hlen:=r'.length
   exact Calls.call_len_list pl.isList (by simp only[Qyq];omega) ⟨.int xs.length,H,I.tok _,⟨_,by simp only[Qyq];rw[hlen]⟩,q⟩
  ·subst e'
   obtain⟨its,r',pl,hz⟩:=I.tuple hx
   have hlen:=r'.length
   exact len_tuple pl (by simp only[Qyq];omega) ⟨.int xs.length,H,I.tok _,⟨_,by simp only[Qyq];rw[hlen]⟩,q⟩
 |_=>exact(show False from e).elim
end
section
variable{prog:Program}{w:World}{A:Around}{E:QZq}{s:Shared}{K:QQq}{x dx C f:Addr}{mA:QZz}{name:Str}{v:Value}
end
def nQ.some_of{o:Option Value}(r:nQ (some v) o):∃u,o=some u/\RelV v u:=by
 cases o with
 |none=>exact(show False from r).elim
 |some u=>exact⟨u,rfl,r⟩
section
variable{P:Program}{w:World}{H H':Hp}{h h':Heap}{a C dx:Addr}{fs fs':List (Str×V)}
end
section
variable{X:Cx}{Q0q:QQz}{σ:St}{H:Hp}{s:Shared}{a C dx:Addr}{fs:List (Str×V)}{f:Str}{v:V}{A:Around}{E:QZq}
end
section
variable{X:Cx}{o e value:Expr}{f:Str}{pos pos' tpos:Pos}{ta tv:TE}
end
section
variable{X:Cx}{Q0q:QQz}{σ:St}{H:Hp}{s:Shared}{A:Around}{E:QZq}{Q:QZq}{c:Value}{b:Bool}
end
structure jz(k:Nat)(A:Around):Prop where
 hd:A.handled=none
 dp:A.depth+3*k+5<recursionLimit
 un:A.units+16*k+200<cLine
theorem jz.deeper{k:Nat}{A:Around}(r:jz (k+1) A)(env:Env):jz k (A.deeper env):=
 ⟨r.hd,by have:=r.dp;show A.depth+1+3*k+5<_;omega,by have:=r.un;show A.units+3+16*k+200<_;omega⟩
theorem jz.in1{k:Nat}{A:Around}(r:jz (k+1) A):jz k A.in1:=
 ⟨r.hd,by have:=r.dp;show A.depth+3*k+5<_;omega,by have:=r.un;show A.units+1+16*k+200<_;omega⟩
theorem jz.depth{k:Nat}{A:Around}(r:jz k A):A.depth<recursionLimit:=by have:=r.dp;omega
def aap:TA:=fun _ H Q=>Q [] H
def Jd(ta:TE)(tr:TA):TA:=fun σ H Q=>ta σ H fun x H1=>tr σ H1 fun xs H2=>Q (x::xs) H2
section
variable{X:Cx}{e:Expr}{es:List Expr}{te:TE}{t:TA}{pos:Pos}
def fL:PA X [] aap:=fun _ _ _ _ H Q I h=>Calls.spliced_nil ⟨[],H,I,.nil,h⟩
def cM(ha:PE X e te)(hr:PA X es t)(hs:starEach (e::es) X.env=(false,eval e X.env)::starEach es X.env:=by rfl):PA X (e::es) (Jd te t):=by
 intro pos Q0q s σ H Q I h
 rw[hs]
 show wpAny _ _ (spliced ((false,eval e X.env)::backTo pos (starEach es X.env))) _ _ s
 refine Calls.spliced_cons (cA (ha Q0q s σ H _ I h) fun u s1⟨x,H1,I1,r1,q1⟩=>?_)
 exact cA (hr pos Q0q s1 σ H1 _ I1 q1) fun us s2⟨xs,H2,I2,r2,q2⟩=>⟨x::xs,H2,I2,.cons r1 r2,q2⟩
def aen(t:TA):TE:=fun σ H Q=>t σ H fun xs H1=>xs.length<=sizeLine/\∀p,H1 p=none->Q (.ref p) (upd H1 p (.tup xs))
def aeq(t:TA):TE:=fun σ H Q=>t σ H fun xs H1=>xs.length<=sizeLine/\∀p,H1 p=none->Q (.ref p) (upd H1 p (.lst xs))
def V7{x1}(h:PA X es t):PE X (.Tuple es x1 pos) (aen t):=by
 intro Q0q s σ H Q I hq
 refine wpAny_Tuple_spliced (cA (h pos Q0q s σ H _ I hq) fun us s1⟨xs,H1,I1,r,z,q⟩=>⟨by rw[<-r.length];exact z,?_⟩)
 have hf:H1 s1.heap.objs.size=none:=I1.hok.fresh (QVz _)
 refine⟨.ref s1.heap.objs.size,upd H1 s1.heap.objs.size (.tup xs),I1.laid (t':=s1.toks) (fun b u e=>QWq _ e) (QVz _) ?_,rfl,q _ hf⟩
 exact⟨z,us,r,TupOk.new _ _⟩
def Wa(h:PA X es t):PE X (.List es pos) (aeq t):=by
 intro Q0q s σ H Q I hq
 refine wpAny_List_spliced (cA (h pos Q0q s σ H _ I hq) fun us s1⟨xs,H1,I1,r,z,q⟩=>⟨by rw[<-r.length];exact z,?_⟩)
 have hf:H1 s1.heap.objs.size=none:=I1.hok.fresh (QVz _)
 refine⟨.ref s1.heap.objs.size,upd H1 s1.heap.objs.size (.lst xs),I1.laid (t':=s1.toks) (fun b u e=>QWq _ e) (QVz _) ?_,rfl,q _ hf⟩
 exact⟨z,us,0,r,Qzq _ rfl⟩
end
abbrev Sp:=List V->Hp->VK->XK->Prop
abbrev H8:=List Env->Hp->Shared->XK->Value->Shared->Prop
structure Cd(P:Program)(w:World)(K:QQq)(mg:QZz)(base:Heap)(A:Around)(outer:List Env)(s:Shared)(H:Hp):Prop where
 frames:A.frames=some outer
 mod:Mod K mg base
 bs:∀b o,base.get? b=some o->s.heap.get? b=some o/\H b=none
 bsz:base.objs.size<=s.heap.objs.size
 lU:s.heap.FunFrames base outer
 frf:∀b∈frs outer,H b=none
 hok:mG P w H s.heap
 bare:AllBare s.gens
def CE(outer:List Env)(P:Program)(w:World)(H:Hp)(s:Shared)(Q:VK)(u:Value)(s':Shared):Prop:=
 ∃v H',s'.os=s.os/\AllBare s'.gens/\Un (frs outer) [] H H' s.heap s'.heap/\mG P w H' s'.heap/\RelV v u/\Q v H'
def CR(CX:H8)(outer:List Env)(P:Program)(w:World)(H:Hp)(s:Shared)(Q:VK)(E:XK)(r:Result)(s':Shared):Prop:=
 match r with
 |.ok (.ret u)=>CE outer P w H s Q u s'
 |.ok _=>False
 |.error e=>CX outer H s E e s'
structure pC(P:Program)(w:World)(K:QQq)(mg:QZz)(base:Heap)(CX:H8)(k:Nat)(f:Addr)(fd:FuncData)(ps:List Str)(sp:Sp):Prop where
 len:∀vs H Q E,sp vs H Q E->vs.length=ps.length
 run:∀(A:Around)(outer:List Env)(s:Shared)(H:Hp)(args:Args)(us:List Value)(vs:List V)(Q:VK)(E:XK),jz k A->Cd P w K mg base A outer s H->BindsTo s fd args (ps.zip us)->Vals vs us->sp vs H Q E->
  codeAny (model P w) A (.call (.ref f) args) (CR CX outer P w H s Q E) s
theorem Cd.in1{P:Program}{w:World}{K:QQq}{mg:QZz}{base:Heap}{A:Around}{outer:List Env}{s:Shared}{H:Hp}(e:Cd P w K mg base A outer s H):
  Cd P w K mg base A.in1 outer s H:=⟨e.frames,e.mod,e.bs,e.bsz,e.lU,e.frf,e.hok,e.bare⟩
section
variable{X:Cx}{Q0q:QQz}{σ:St}{H:Hp}{s s':Shared}
def Inv.env0(I:Inv X Q0q σ H s):Cd X.prog X.w X.K X.mg X.base X.A X.stack s H:=
 ⟨I.ok.frames,I.ok.mod,I.bs,Nat.le_trans I.ok.bsz I.sz,I.stack,I.Cr,I.hok,I.bare⟩
def Inv.after{Q:VK}(I:Inv X Q0q σ H s)(h:CE X.stack X.prog X.w H s Q u s'):EP X Q0q σ Q u s':=by
 obtain⟨v,H',os,bare,un,hok,r,q⟩:=h
 obtain⟨hh,g,d,t,os'⟩:=s'
 obtain rfl:os'=s.os:=os
 exact⟨v,H',I.call (h':=hh) (g':=g) (d':=d) (t':=t) (ch:=[]) un hok bare (fun b z=>absurd z (by simp)),r,q⟩
end
def aau(sp:Sp)(dvs:List V)(E:XK)(t:TA):TE:=fun σ H Q=>t σ H fun vs H1=>sp (vs++dvs) H1 Q E
def Binds(K:QQq)(fd:FuncData)(ps:List Str)(ds:List Value):Prop:=
 ∀(s:Shared)(us:List Value),K.In s.heap->(us++ds).length=ps.length->BindsTo s fd ⟨us,[]⟩ (ps.zip (us++ds))
def Binds.all{fd:FuncData}{ps:List Str}(h:∀us:List Value,us.length=ps.length->bindArgs fd ⟨us,[]⟩=pure (ps.zip us)):Binds K fd ps []:=fun s us _ hl=>by
 rw[List.append_nil]at hl⊢
 exact .of_eq (h us hl)
def BZ(CX:H8)(X:Cx)(E:XK):Prop:=∀(Q0q:QQz)(σ:St)(H:Hp)(s:Shared)(e:Value)(s':Shared),Inv X Q0q σ H s->CX X.stack H s E e s'->X.xe e s'
section
variable{X:Cx}{CX:H8}{k:Nat}{f C:Addr}{fd:FuncData}{ps:List Str}{sp:Sp}{dvs:List V}{ds:List Value}{E:XK}{x m:Str}{p pos apos:Pos}{e o:Expr}{es:List Expr}{ta:TE}{t:TA}
theorem Vz{Q:VK}{vs:List V}(F:pC X.prog X.w X.K X.mg X.base CX k f fd ps sp)(hr:jz k X.A)(hb:Binds X.K fd ps ds)(hd:Vals dvs ds)(hx:BZ CX X E)
  (I:Inv X Q0q σ H s)(r:Vals vs us)(h:sp (vs++dvs) H Q E):wpAny (model X.prog X.w) X.A (call (.ref f) us) (EP X Q0q σ Q) X.xe s:=by
 have r2:Vals (vs++dvs) (us++ds):=r.append hd
 have hl:(us++ds).length=ps.length:=by rw[<-r2.length];exact F.len _ _ _ _ h
 refine wpAny_call (codeAny_mono (F.run X.A X.stack s H ⟨us,[]⟩ (us++ds) (vs++dvs) Q E hr I.env0 (hb s us I.Zi hl) r2 h) fun r s' hq=>?_)
 cases r with
 |error e=>exact hx Q0q σ H s e s' I hq
 |ok fl=>
  cases fl with
  |ret u=>exact I.after hq
  |next=>exact False.elim hq
  |brk=>exact False.elim hq
  |cont=>exact False.elim hq
def Qp(F:pC X.prog X.w X.K X.mg X.base CX k f fd ps sp)(hr:jz k X.A)(hg:Gl X x)(hm:X.mg x=some (.ref f))(hk:PySem.W.keepIn X.K (.ref f)=true)(hb:Binds X.K fd ps ds)(hd:Vals dvs ds)(hx:BZ CX X E)
  (ha:PA X (e::es) t)(hdb:(x==("__debug__":Str))=false:=by decide)(he:starEach (e::es) X.env=(false,eval e X.env)::starEach es X.env:=by rfl)(hpl:(backTo pos (starEach es X.env)).any (·.1)=false:=by rfl):
  PE X (.Call (.Name x p) (e::es) [] pos) (aau sp dvs E t):=by
 intro Q0q s σ H Q I h
 refine wpAny_Call_Name_kw (DQ I hg hm ?_ hdb)
 refine PySem.W.callWith_K (h₀:=X.base) I.ok.mod.kin hk (cA (ha pos Q0q s σ H _ I h) fun us s1⟨vs,H1,I1,r,q⟩=>⟨I1.Zi,?_⟩) he hpl
 exact Vz F hr hb hd hx I1 r q
end
section
variable{X:Cx}{CX:H8}{k:Nat}{f C:Addr}{fd:FuncData}{ps ks:List Str}{sp:Sp}{E:XK}{x m:Str}{p pos apos kpos:Pos}{e o:Expr}{es:List Expr}{kws:List Keyword}{te ta:TE}{t tk:TA}{nm:Option Str}
variable{g:List Value->List Value->List Value}{gV:List V->List V->List V}
end
structure lA(N P:List Str)(sc:Scope):Prop where
 kind:sc.kind=.function
 co:sc.isCoroutine=false
 gen:sc.isGenerator=false
 nd:N.Nodup
 pre:N.take P.length=P
 par:∀x∈P,sc.names.lookup x=some .local\/sc.names.lookup x=some .cell
 nofree:∀y∈sc.names,y.2≠ .free
theorem vG{kindOf:Str->Option NameKind}{x:Str}:∀{binds:List (Str×Value)}{m:QZz},(∀v,(x,v)∉binds)->bindL kindOf binds m x=m x
 |[],_,_=>rfl
 |(n,v)::r,m,h=>by
  unfold bindL
  rw[vG fun w hw=>h w (QYq _ hw)]
  split
  ·have:x≠n:=by rintro rfl;exact h v QYz
   simp[this]
  ·rfl
theorem vI{kindOf:Str->Option NameKind}{x:Str}:∀{binds:List (Str×Value)}{m:QZz},(∀v,(x,v)∉binds)->bindC kindOf binds m x=m x
 |[],_,_=>rfl
 |(n,v)::r,m,h=>by
  unfold bindC
  rw[vI fun w hw=>h w (QYq _ hw)]
  split
  ·rfl
  ·have:x≠n:=by rintro rfl;exact h v QYz
   simp[this]
theorem vH{kindOf:Str->Option NameKind}{x:Str}{v:Value}:∀{P:List Str}{vs:List Value}{i:Nat}{m:QZz},P.Nodup->P[i]? =some x->vs[i]? =some v->kindOf x=some .local->
  bindL kindOf (P.zip vs) m x=some v
 |[],_,_,_,_,h,_,_=>by simp at h
 |_::_,[],_,_,_,_,h,_=>by simp at h
 |p::P,w::vs,0,m,nd,h1,h2,hk=>by
  simp at h1 h2;subst h1;subst h2
  show bindL kindOf ((p,w)::P.zip vs) m p=_
  unfold bindL
  rw[vG fun v hv=>(List.nodup_cons.mp nd).1 (List.of_mem_zip hv).1,if_pos hk]
  simp
 |p::P,w::vs,i+1,m,nd,h1,h2,hk=>by
  show bindL kindOf ((p,w)::P.zip vs) m x=_
  unfold bindL
  exact vH (i:=i) (List.nodup_cons.mp nd).2 (by simpa using h1) (by simpa using h2) hk
theorem vJ{kindOf:Str->Option NameKind}{x:Str}{v:Value}:∀{P:List Str}{vs:List Value}{i:Nat}{m:QZz},P.Nodup->P[i]? =some x->vs[i]? =some v->kindOf x≠some .local->
  bindC kindOf (P.zip vs) m x=some v
 |[],_,_,_,_,h,_,_=>by simp at h
 |_::_,[],_,_,_,_,h,_=>by simp at h
 |p::P,w::vs,0,m,nd,h1,h2,hk=>by
  simp at h1 h2;subst h1;subst h2
  show bindC kindOf ((p,w)::P.zip vs) m p=_
  unfold bindC
  rw[vI fun v hv=>(List.nodup_cons.mp nd).1 (List.of_mem_zip hv).1,if_neg hk]
  simp
 |p::P,w::vs,i+1,m,nd,h1,h2,hk=>by
  show bindC kindOf ((p,w)::P.zip vs) m x=_
  unfold bindC
  exact vJ (i:=i) (List.nodup_cons.mp nd).2 (by simpa using h1) (by simpa using h2) hk
def start(N:List Str)(vs:List V):St:=vs.map some++List.replicate (N.length-vs.length) none
def Bq(CX:H8)(P:Program)(w:World)(K:QQq)(mg:QZz)(base:Heap)(N:List Str)(qual:Str)(scope:Scope)(f:Addr)(cd:Value)(A:Around)(outer:List Env)(s:Shared)(H:Hp)(E:XK):Cx where
 prog:=P
 w:=w
 K:=K
 mg:=mg
 base:=base
 A:=A.deeper (envOfC qual scope s.heap.objs.size f cd)
 N:=N
 s₀:=s
 H₀:=H
 env:=envOfC qual scope s.heap.objs.size f cd
 outer:=outer
 stack:=envOfC qual scope s.heap.objs.size f cd::outer
 ex:=[]
 calm:=true
 fn:=fun _=>true
 pn:=[]
 xe:=fun e s'=>wpAny (model P w) (A.deeper (envOfC qual scope s.heap.objs.size f cd)) (leaving (envOfC qual scope s.heap.objs.size f cd) e) (fun _ s''=>CX outer H s E e s'') (fun e' s''=>CX outer H s E e' s'') s'
def zj{sc:Scope}{n:Nat}(h:sc.names.lookup x=some .cell):∃c,(cellsFrom n sc.names []).lookup x=some c:=by
 have q:=PySem.W.cellsFrom_some sc.names n [] (.inl h)
 exact Option.isSome_iff_exists.mp q
def Hj{CX:H8}{w:World}{mg:QZz}{base:Heap}{N ps:List Str}{qual:Str}{scope:Scope}{f:Addr}{cd:Value}{outer:List Env}{s1:Shared}{E:XK}{vs:List V}
  (S:lA N ps scope)(hd:A.handled=none)(e0:Cd P w K mg base A outer s H)(hl:vs.length=ps.length)(r:Vals vs us)
  (x:InCallC s s.heap.objs.size (bindL (envOfC qual scope s.heap.objs.size f cd).kindOf (ps.zip us) fun _=>none) (cellsFrom (s.heap.objs.size+1) scope.names []) (bindC (envOfC qual scope s.heap.objs.size f cd).kindOf (ps.zip us) fun _=>none) s1):
  Inv (Bq CX P w K mg base N qual scope f cd A outer s H E) [] (start N vs) H s1:=by
 have hpl:ps.length<=N.length:=by have:=congrArg List.length S.pre;rw[List.length_take]at this;omega
 obtain⟨h1,tk,rfl,hk⟩:=x.done
 have noA:∀b:Addr,b∉(Bq CX P w K mg base N qual scope f cd A outer s H E).ex:=fun b z=>absurd (show b∈([]:List Addr)from z) (by simp)
 refine⟨⟨e0.mod,S.kind,rfl,rfl,QVz _,fun y z c h1 h2=>?_,fun y hy=>?_,fun y c _ h=>?_,fun _=>hd,Around.frames_deeper e0.frames,.inr ⟨rfl,rfl⟩,fun b z=>absurd z (noA b),e0.bs,e0.bsz,fun b _ _=>noA b,fun b z=>absurd z (noA b),e0.lU,e0.frf⟩,
  rfl,e0.bare,Un.kept hk,⟨_,x.toInCall.ns,fun i y v h1 h2 h3=>?_⟩,fun y c h=>⟨_,x.cell y c h⟩,e0.hok.fresh (QVz _),fun y c h=>?_,fun p hp=>absurd (show p∈([]:QQz)from hp) (by simp),e0.hok.kept hk,?_⟩
 ·exact name_of_addr x.apart (PySem.mem_of_lookup h1) (PySem.mem_of_lookup h2)
 ·have hy:scope.names.lookup y=some .cell\/scope.names.lookup y=some .free:=hy
  rcases hy with hy|hy
  ·exact zj hy
  ·exact absurd rfl (S.nofree _ (PySem.mem_of_lookup hy))
 ·exact Nat.le_of_lt (x.above y c (PySem.mem_of_lookup h))
 ·have hi:i<vs.length:=by
   unfold start at h2
   by_cases hi:i<vs.length
   ·exact hi
   ·rw[QIz (by simpa using hi)]at h2
    rw[List.getElem?_replicate]at h2
    split at h2<;>cases h2
  have ha:vs[i]? =some v:=by
   unfold start at h2
   rw[Qwz (by simpa using hi),QFz]at h2
   cases e:vs[i]? with
   |none=>rw[e]at h2;cases h2
   |some a=>rw[e]at h2;cases h2;rfl
  obtain⟨u,hu,rv⟩:=r.get ha
  have hp:ps[i]? =some y:=by
   rw[<-S.pre,List.getElem?_take_of_lt (by omega)];exact h1
  have ndP:ps.Nodup:=by rw[<-S.pre];exact S.nd.sublist (List.take_sublist _ _)
  refine⟨u,rv,?_⟩
  rcases S.par y (QBz hp)with k|k
  ·exact .inl ⟨k,vH ndP hp hu k⟩
  ·obtain⟨c,e⟩:=zj (n:=s.heap.objs.size+1) k
   refine .inr ⟨.inl k,c,e,?_⟩
   have q:=x.cell y c e
   rw[vJ ndP hp hu (by show scope.names.lookup y≠_;rw[k];decide)]at q
   exact q
 ·exact e0.hok.fresh (Nat.le_of_lt (x.above y c (PySem.mem_of_lookup h)))
 ·unfold start
  show _=N.length
  rw[QTq,QAq,List.length_replicate]
  omega
theorem acb{CX:H8}{w:World}{mg:QZz}{base:Heap}{k:Nat}{f:Addr}{name qual:Str}{params:Arguments}{scope:Scope}{dV kV doc pm cdv ct oc:Value}{an od:Option Addr}
  {osl:Array (Option Value)}{N ps:List Str}{sp:Sp}(lk:K.lookup f=some ⟨oc,od,.func (PySem.W.fnOf name qual params body scope dV kV doc pm an cdv ct),osl⟩)(hcd:PySem.W.codeIn K cdv qual=true)(S:lA N ps scope)
  (len:∀vs H Q E,sp vs H Q E->vs.length=ps.length)
  (hbody:∀(A:Around)(outer:List Env)(s:Shared)(H:Hp)(vs:List V)(Q:VK)(E:XK),jz k (A.deeper (envOfC qual scope s.heap.objs.size f cdv))->sp vs H Q E->
   ∃t,w6 (Bq CX P w K mg base N qual scope f cdv A outer s H E) body t/\t {nx:=fun _ H'=>Q .non H',rt:=Q} (start N vs) H):
  pC P w K mg base CX (k+1) f (PySem.W.fnOf name qual params body scope dV kV doc pm an cdv ct) ps sp:=by
 refine⟨len,fun A outer s H args us vs Q E hr e0 hb r hsp=>?_⟩
 have hl:=len _ _ _ _ hsp
 have KX:K.In s.heap:=e0.mod.kin.keeps fun b o e=>(e0.bs b o e).1
 have lim:s.heap.NoLimit:=e0.mod.nolimit.keeps fun b o e=>(e0.bs b o e).1
 have hkind:∀y∈ps.zip us,scope.names.lookup y.1=some .local\/(scope.names.lookup y.1=some .cell/\((cellsFrom (s.heap.objs.size+1) scope.names []).lookup y.1).isSome=true):=fun⟨n,v⟩hy=>by
  rcases S.par n (List.of_mem_zip hy).1 with q|q
  ·exact .inl q
  ·exact .inr ⟨q,PySem.W.cellsFrom_some _ _ _ (.inl q)⟩
 refine codeAny_call_function hr.depth (KX _ _ lk) rfl S.co S.gen rfl (PySem.W.codeRec_of KX hcd) (hb _ _ _ _ ?_)
 refine wpAny_newFunctionEnv_cells S.kind hkind fun env he s1 x=>?_
 subst he
 refine⟨lim.keeps x.toInCall.keep,codeAny_func ?_⟩
 obtain⟨t,ht,hq⟩:=hbody A outer s H vs Q E (hr.deeper _) hsp
 have I:Inv (Bq CX P w K mg base N qual scope f cdv A outer s H E) [] (start N vs) H s1:=Hj S hr.hd e0 hl r x
 refine QGq (ht [] s1 (start N vs) H _ I hq) (fun fl s' hs=>?_) fun e s' hs=>hs
 have fin:∀{σ':St}{H':Hp}{v:V}{u:Value},Inv (Bq CX P w K mg base N qual scope f cdv A outer s H E) [] σ' H' s'->RelV v u->Q v H'->CE outer P w H s Q u s':=
  fun{σ' H' v u}J rv q=>⟨v,H',J.os,J.bare,J.base,J.hok,rv,q⟩
 cases fl with
 |ret u=>
  obtain⟨v,σ',H',J,rv,q⟩:=hs
  exact fin J rv q
 |next=>
  obtain⟨σ',H',J,q⟩:=hs
  exact fin (v:=V.non) (u:=Value.none) J rfl q
 |brk=>
  obtain⟨_,_,_,q⟩:=hs
  exact False.elim q
 |cont=>
  obtain⟨_,_,_,q⟩:=hs
  exact False.elim q
section
variable{X:Cx}{x:Str}{p pos:Pos}{e:Expr}{es:List Expr}{t:TA}{id T:String}{r:List V->Hp->VK->Prop}
def tCB(r:List V->Hp->VK->Prop)(t:TA):TE:=fun σ H Q=>t σ H fun vs H1=>r vs H1 Q
def rB(hc:f9 X (.builtin id) r)(hg:Gl X x)(hm:X.mg x=none)(hv:bootBuiltins x=some (.builtin id))(ha:PA X (e::es) t)(hn:x≠"__name__":=by decide)(hdb:(x==("__debug__":Str))=false:=by decide)
  (he:starEach (e::es) X.env=(false,eval e X.env)::starEach es X.env:=by rfl)(hpl:(backTo pos (starEach es X.env)).any (·.1)=false:=by rfl):PE X (.Call (.Name x p) (e::es) [] pos) (tCB r t):=by
 intro Q0q s σ H Q I h
 refine wpAny_Call_Name_kw (jO I hg hm hv ?_ hn hdb)
 exact PyProof.Rows.callWith_builtin1 (cA (ha pos Q0q s σ H _ I h) fun us s1⟨vs,H1,I1,r1,q1⟩=>hc Q0q s1 σ H1 vs us Q I1 r1 q1) he hpl
def oF(hc:f9 X (.type T) r)(hg:Gl X x)(hm:X.mg x=none)(hv:bootBuiltins x=some (.type T))(ha:PA X (e::es) t)(hn:x≠"__name__":=by decide)(hdb:(x==("__debug__":Str))=false:=by decide)
  (he:starEach (e::es) X.env=(false,eval e X.env)::starEach es X.env:=by rfl)(hpl:(backTo pos (starEach es X.env)).any (·.1)=false:=by rfl):PE X (.Call (.Name x p) (e::es) [] pos) (tCB r t):=by
 intro Q0q s σ H Q I h
 refine wpAny_Call_Name_kw (jO I hg hm hv ?_ hn hdb)
 exact PyProof.Rows.callWith_type1 (cA (ha pos Q0q s σ H _ I h) fun us s1⟨vs,H1,I1,r1,q1⟩=>hc Q0q s1 σ H1 vs us Q I1 r1 q1) he hpl
end
end L2
namespace HT
open PySem PyProof.Rows
section
open PySem.SeqAt
open PySem.AutoSeq1 (wpAny_loadPart')
open PySem.MeetsSeq PySem.MeetsSeq2 PySem.MeetsSeq3
end
section
variable{prog:Program}{w:World}{A:Around}{E:QZq}{s:Shared}
def Rp{t b:Addr}{vs ws:List Value}{Q:QZq}(ht:IsTup s.heap t vs.toArray)(hb:IsTup s.heap b ws.toArray)(hv:vs≠[])
  (h1:ws=[]->Q (.ref t) s)(h2:ws≠[]->Q (.ref s.heap.objs.size) {s with heap:=s.heap.push {cls:=.type "tuple",data:=.seq (vs++ws).toArray}})
  (hsz:vs.length+ws.length<=sizeLine):wpAny (model prog w) A (binaryOp .Add (.ref t) (.ref b)) Q E s:=by
 obtain⟨⟨cls,dd,data,sl⟩,ho,hc,n,hd⟩:=id ht
 obtain⟨⟨cls2,dd2,data2,sl2⟩,ho2,hc2,n2,hd2⟩:=id hb
 simp only at hc hd hc2 hd2
 subst hc hd hc2 hd2
 have e:vs.toArray++ws.toArray=(vs++ws).toArray:=by simp
 by_cases hw:ws=[]
 ·exact concat_meets ⟨_,ho,rfl⟩ ⟨_,ho2,rfl⟩ noFill_tuple_add seq_tuple_add PySem.F.slot_tuple_add PySem.F.entry_tuple_add (PySem.F.args_tuple_add_2 _ _)
   (tuple_addW1 t b vs.toArray ws.toArray n n2 dd dd2 sl sl2 (by simpa using hv) (by simp[hw])) ⟨ho,ho2,h1 hw⟩
 ·refine concat_meets ⟨_,ho,rfl⟩ ⟨_,ho2,rfl⟩ noFill_tuple_add seq_tuple_add PySem.F.slot_tuple_add PySem.F.entry_tuple_add (PySem.F.args_tuple_add_2 _ _)
   (tuple_addW2 t b vs.toArray ws.toArray n n2 dd dd2 sl sl2 (by simpa using hv) (by simpa using hw) (by rw[Qyq,Qyq];exact hsz)) ⟨ho,ho2,?_⟩
  rw[e]
  exact h2 hw
def dg(n d:Nat):Option Int->Nat
 |none=>d
 |some v=>if v<0 then(v+(n:Int)).toNat else min v.toNat n
def mL(n d:Nat):dg n d none=d:=rfl
def Vy(n d:Nat)(hd:d<=n)(o:Option Int):dg n d o<=n:=by
 cases o with
 |none=>exact hd
 |some v=>
  show(if v<0 then(v+(n:Int)).toNat else min v.toNat n)<=n
  by_cases hv:v<0
  ·rw[if_pos hv];omega
  ·rw[if_neg hv];exact Nat.min_le_right _ _
def Fe(v:Int)(n d:Nat):(if v<0 then max (v+(n:Int)) 0 else min v (n:Int))=((dg n d (some v):Nat):Int):=by
 show(if v<0 then max (v+(n:Int)) 0 else min v (n:Int))=(((if v<0 then(v+(n:Int)).toNat else min v.toNat n):Nat):Int)
 by_cases hv:v<0
 ·simp only[if_pos hv];omega
 ·simp only[if_neg hv];omega
def BX(lo hi:Option Int)(n:Nat):Builtin.Slice.sliceAdjust lo hi 1 (n:Int)=(((dg n 0 lo:Nat):Int),((dg n n hi:Nat):Int)):=by
 have h1:¬((1:Int)<0):=by omega
 unfold Builtin.Slice.sliceAdjust
 simp only[h1,if_false]
 refine Prod.ext ?_ ?_
 ·cases lo with
  |none=>rfl
  |some v=>exact Fe v n 0
 ·cases hi with
  |none=>rfl
  |some v=>exact Fe v n n
def Ah(i j:Nat):Builtin.Slice.slicePlaces (i:Int) (j:Int) 1=j-i:=by
 unfold Builtin.Slice.slicePlaces
 have h1:(1:Int)>0:=by omega
 simp only[h1,if_true,Int.ediv_one]
 split<;>omega
def qP{v:Value}{o:Option Int}{Q:Option Int->Shared->Prop}(p:IsPart v o)(h:Q o s):wpAny (model prog w) A (Builtin.Slice.slicePartIndex v) Q E s:=by
 cases p with
 |none=>exact slicePart_none h
 |int i t=>exact slicePart_int h
def iD{sl:Addr}{vl vu:Value}{lo hi:Option Int}{n:Nat}{Q:Int×Int×Nat->Shared->Prop}(hs:s.heap.IsSliceOf sl vl vu .none)(pl:IsPart vl lo)(pu:IsPart vu hi)
  (h:Q (((dg n 0 lo:Nat):Int),1,dg n n hi-dg n 0 lo) s):wpAny (model prog w) A (Builtin.Slice.sliceApplied (.ref sl) (pure (n:Int))) Q E s:=by
 obtain⟨os,hos,hcs,hds⟩:=id hs
 unfold Builtin.Slice.sliceApplied Builtin.Slice.sliceFields
 refine QKq (QKq (QGz hos hds (x:=vl) rfl (QKq (QGz hos hds (x:=vu) rfl (QKq (QGz hos hds (x:=.none) rfl (QKz ?_)))))))
 refine QKq (slicePart_none ?_)
 show wpAny _ _ (if ((1:Int)==0)=true then _ else _) _ _ s
 rw[if_neg (by decide)]
 refine QKq (qP pl (QKq (qP pu (QKq (QKz ?_)))))
 show wpAny _ _ (match Builtin.Slice.sliceAdjust lo hi 1 (n:Int)with|(lo,hi)=>pure (lo,(1:Int),Builtin.Slice.slicePlaces lo hi 1)) _ _ s
 rw[BX lo hi n]
 show wpAny _ _ (pure (((dg n 0 lo:Nat):Int),(1:Int),Builtin.Slice.slicePlaces ((dg n 0 lo:Nat):Int) ((dg n n hi:Nat):Int) 1)) _ _ s
 rw[Ah]
 exact QKz h
def JT(xs:Array Value)(i k:Nat):((List.range k).filterMap fun(m:Nat)=>xs[((i:Int)+(m:Int)*1).toNat]?).toArray=((xs.toList.drop i).take k).toArray:=by
 have e:(fun(m:Nat)=>xs[((i:Int)+(m:Int)*1).toNat]?)=fun m=>xs[i+m]? :=by
  funext m
  have:((i:Int)+(m:Int)*1).toNat=i+m:=by omega
  rw[this]
 rw[e]
 have:=pick_run xs i k
 rw[List.filterMap_map]at this
 have e2:((fun x=>xs[x]?)∘fun x=>i+x)=fun m=>xs[i+m]? :=rfl
 rw[e2]at this
 rw[this]
theorem nq{t sl:Addr}{items:Array Value}{vl vu:Value}{lo hi:Option Int}{Q:QZq}(ht:IsTup s.heap t items)(hs:s.heap.IsSliceOf sl vl vu .none)(pl:IsPart vl lo)(pu:IsPart vu hi)
  (hw:¬(dg items.size 0 lo=0/\dg items.size items.size hi=items.size))
  (h:Q (.ref s.heap.objs.size) {s with heap:=s.heap.push {cls:=.type "tuple",data:=.seq ((items.toList.drop (dg items.size 0 lo)).take (dg items.size items.size hi-dg items.size 0 lo)).toArray}})
  (hsz:items.size<=sizeLine):wpAny (model prog w) A (getItem (.ref t) (.ref sl)) Q E s:=by
 have htake:sizeOk (.seq ((items.toList.drop (dg items.size 0 lo)).take (dg items.size items.size hi-dg items.size 0 lo)).toArray):=by
  show((items.toList.drop (dg items.size 0 lo)).take (dg items.size items.size hi-dg items.size 0 lo)).toArray.size<=sizeLine
  rw[Qyq,List.length_take,List.length_drop,Array.length_toList]
  omega
 have hj:dg items.size items.size hi<=items.size:=Vy _ _ (QVz _) hi
 obtain⟨os,hos,hcs,hds⟩:=id hs
 have hTs:s.TypeIs (.ref sl) "slice":=⟨os,hos,hcs⟩
 unfold getItem
 try with_reducible refine Qqq ?_
 first|refine QKq (QKz ?_)|skip
 refine QKq (wpAny_sequenceKey ht.typeIs (by decide) ?_)
 refine QKq (wpAny_callSpecial?_slot (name:=Str.ofString "__getitem__") ht.typeIs PyProof.Rows.slot_tuple_getitem
  (Qzz PyProof.Rows.slot_tuple_getitem ht.typeIs entry_tuple_getitem ?_ (args_tuple_getitem _ _)))
 show wpAny _ _ (Builtin.Tuple.tupleItemsOf (.ref t)>>=_) _ _ s
 refine QKq (tupleItemsOf_ ht ?_)
 refine QKq (wpAny_typeOf hTs ?_)
 rw[if_pos (by decide)]
 refine QKq (iD hs pl pu ?_)
 have hno:¬((((dg items.size 0 lo:Nat):Int)==0&&(1:Int)==1&&(dg items.size items.size hi-dg items.size 0 lo)==items.size)=true):=by
  intro q
  rw[QUq,QUq]at q
  have q1:((dg items.size 0 lo:Nat):Int)=0:=eq_of_beq q.1.1
  have q2:dg items.size items.size hi-dg items.size 0 lo=items.size:=eq_of_beq q.2
  exact hw ⟨by omega,by omega⟩
 show wpAny _ _ (if (((dg items.size 0 lo:Nat):Int)==0&&(1:Int)==1&&(dg items.size items.size hi-dg items.size 0 lo)==items.size)=true then _ else _) _ _ s
 rw[if_neg hno,JT]
 first
  |exact QKq (m:=Builtin.Tuple.tupleExact _) (Qjq (QKz ⟨_,rfl,QKz h⟩) htake)
  |exact QKq (m:=Builtin.Tuple.tupleExact _) (Qjq (QKq (QKz (QKz ⟨_,rfl,QKz h⟩))) htake)
  |exact QKq (QKq (m:=Builtin.Tuple.tupleExact _) (Qjq (QKz (QKz ⟨_,rfl,QKz h⟩)) htake))
  |exact QKq (QKq (m:=Builtin.Tuple.tupleExact _) (Qjq (QKz ⟨_,rfl,QKz h⟩) htake))
end
end HT
namespace L2
open PySem PySem.Spec PyProof.Rows
abbrev TO:=St->Hp->(Option Int->Hp->Prop)->Prop
def PO(X:Cx)(e:Option Expr)(t:TO):Prop:=
 ∀(Q0q:QQz)(s:Shared)(σ:St)(H:Hp)(Q:Option Int->Hp->Prop),Inv X Q0q σ H s->t σ H Q->
  wpAny (model X.prog X.w) X.A (evalPart e X.env) (fun u s'=>∃o H',Inv X Q0q σ H' s'/\IsPart u o/\Q o H') X.xe s
def OJ:TO:=fun _ H Q=>Q none H
def aan(t:TE):TO:=fun σ H Q=>t σ H fun x H1=>∃i,x=.int i/\Q (some i) H1
section
variable{X:Cx}{e:Expr}{te:TE}{lo hi:Option Expr}{tl th:TO}{pos p2:Pos}
def Qi:PO X none OJ:=by
 intro Q0q s σ H Q I h
 rw[evalPart_none]
 exact QKz ⟨none,H,I,.none,h⟩
def Qh(h:PE X e te):PO X (some e) (aan te):=by
 intro Q0q s σ H Q I hw
 rw[evalPart_some]
 refine cA (h Q0q s σ H _ I hw) fun u s1⟨x,H1,I1,r1,q1⟩=>?_
 obtain⟨i,rfl,q⟩:=q1
 obtain⟨t,rfl⟩:=r1
 exact⟨some i,H1,I1,.int i t,q⟩
def RL(X:Cx)(r:V->Option Int->Option Int->Hp->VK->Prop):Prop:=
 ∀(Q0q:QQz)(s:Shared)(σ:St)(H:Hp)(x:V)(v vl vu:Value)(lo hi:Option Int)(sl:Addr)(Q:VK),Inv X Q0q σ H s->RelV x v->s.heap.IsSliceOf sl vl vu .none->IsPart vl lo->IsPart vu hi->r x lo hi H Q->
  ∃T id,typeLookup (.type T) "__getitem__"=pure (some (.builtin id))/\s.TypeIs v T/\wpAny (model X.prog X.w) X.A (getItem v (.ref sl)) (EP X Q0q σ Q) X.xe s
def RL.or{r r':V->Option Int->Option Int->Hp->VK->Prop}(h:RL X r)(h':RL X r'):RL X (fun x lo hi H Q=>r x lo hi H Q\/r' x lo hi H Q):=by
 intro Q0q s σ H x v vl vu lo hi sl Q I rx hs pl pu q
 rcases q with q|q
 ·exact h Q0q s σ H x v vl vu lo hi sl Q I rx hs pl pu q
 ·exact h' Q0q s σ H x v vl vu lo hi sl Q I rx hs pl pu q
def tSl(r:V->Option Int->Option Int->Hp->VK->Prop)(te:TE)(tl th:TO):TE:=fun σ H Q=>te σ H fun x H1=>tl σ H1 fun l H2=>th σ H2 fun u H3=>r x l u H3 Q
def JZ{r:V->Option Int->Option Int->Hp->VK->Prop}(hr:RL X r)(he:PE X e te)(hl:PO X lo tl)(hu:PO X hi th):PE X (.Subscript e (.Slice lo hi none p2) pos) (tSl r te tl th):=by
 intro Q0q s σ H Q I h
 refine Subscript_ (cA (he Q0q s σ H _ I h) fun v s1⟨x,H1,I1,r1,q1⟩=>?_)
 refine wpAny_Slice (cA (hl Q0q s1 σ H1 _ I1 q1) fun vl s2⟨l,H2,I2,pl,q2⟩=>cA (hu Q0q s2 σ H2 _ I2 q2) fun vu s3⟨u,H3,I3,pu,q3⟩=>?_)
 rw[evalPart_none]
 refine QKz ?_
 have I4:Inv X Q0q σ H3 {s3 with heap:=s3.heap.push {cls:=.type "slice",data:=.fields #[vl,vu,.none]}}:=I3.kept (t':=s3.toks) fun b ob q=>QWq _ q
 obtain⟨T,id,hT,ht,hg⟩:=hr Q0q {s3 with heap:=s3.heap.push {cls:=.type "slice",data:=.fields #[vl,vu,.none]}} σ H3 x v vl vu l u s3.heap.objs.size Q I4 r1 (Heap.IsSliceOf.new ..) pl pu q3
 show wpAny (model X.prog X.w) X.A (subscriptTail e (.Slice lo hi none p2) v (.ref s3.heap.objs.size)) (EP X Q0q σ Q) X.xe {s3 with heap:=s3.heap.push {cls:=.type "slice",data:=.fields #[vl,vu,.none]}}
 exact tail_any (ops:=[.ref s3.heap.objs.size,v]) ht hT hg (by with_unfolding_all rfl)
def sV(xs:List V)(lo hi:Option Int):List V:=(xs.drop (HT.dg xs.length 0 lo)).take (HT.dg xs.length xs.length hi-HT.dg xs.length 0 lo)
def pM(xs:List V)(lo hi:Option Int):(sV xs lo hi).length<=xs.length:=by
 unfold sV
 rw[List.length_take,List.length_drop]
 omega
def aaZ(K:QQq):V->Option Int->Option Int->Hp->VK->Prop:=fun x lo hi H Q=>∃a xs,x=.ref a/\iy K H a xs/\
 ¬(HT.dg xs.length 0 lo=0/\HT.dg xs.length xs.length hi=xs.length)/\∀p,H p=none->Q (.ref p) (upd H p (.tup (sV xs lo hi)))
def Vu:RL X (aaZ X.K):=by
 intro Q0q s σ H x v vl vu lo hi sl Q I rx hs pl pu h
 obtain⟨a,xs,rfl,hx,hw,q⟩:=h
 cases rx
 obtain⟨its,r,ht,hz⟩:=I.tuple hx
 have hlen:its.toArray.size=xs.length:=by rw[Qyq];exact r.length.symm
 refine⟨"tuple",_,PyProof.Rows.slot_tuple_getitem.lookup,ht.typeIs,?_⟩
 refine HT.nq ht hs pl pu (by rw[hlen];exact hw) ?_ (by rw[hlen];exact hz)
 rw[hlen]
 refine⟨.ref s.heap.objs.size,_,I.laid (t':=s.toks) (o:=.tup (sV xs lo hi)) (fun b ob q=>QWq _ q) (QVz _) ?_,rfl,q _ (I.hok.fresh (QVz _))⟩
 exact⟨Nat.le_trans (pM xs lo hi) hz,_,(r.drop (HT.dg xs.length 0 lo)).take (HT.dg xs.length xs.length hi-HT.dg xs.length 0 lo),TupOk.new _ _⟩
def aa7(K:QQq):R2:=fun x y H Q=>∃a b xs ys,x=.ref a/\y=.ref b/\iy K H a xs/\iy K H b ys/\xs≠[]/\xs.length+ys.length<=sizeLine/\
 (ys=[]->Q (.ref a) H)/\(ys≠[]->∀p,H p=none->Q (.ref p) (upd H p (.tup (xs++ys))))
def Vals.bH{xs:List V}{us:List Value}(r:Vals xs us):us=[]↔xs=[]:=by
 cases r with
 |nil=>simp
 |cons _ _=>simp
def Qx:fY X (binaryOp .Add) (aa7 X.K):=by
 intro Q0q s σ H x y v u Q I rx ry h
 obtain⟨a,b,xs,ys,rfl,rfl,ha,hb,hx,hz,q1,q2⟩:=h
 cases rx
 cases ry
 obtain⟨its,r1,p1,_⟩:=I.tuple ha
 obtain⟨its2,r2,p2,_⟩:=I.tuple hb
 refine HT.Rp p1 p2 (fun z=>hx (r1.bH.mp z)) (fun z=>⟨.ref a,H,I,rfl,q1 (r2.bH.mp z)⟩) (fun z=>?_) (by rw[<-r1.length,<-r2.length];exact hz)
 refine⟨.ref s.heap.objs.size,_,I.laid (t':=s.toks) (o:=.tup (xs++ys)) (fun b ob q=>QWq _ q) (QVz _) ?_,rfl,q2 (fun w=>z (r2.bH.mpr w)) _ (I.hok.fresh (QVz _))⟩
 exact⟨by rw[QTq];exact hz,_,r1.append r2,TupOk.new _ _⟩
end
def QV(n:Nat)(i:Int):Option Nat:=if 0<=i then(if i<n then some i.toNat else none)else if-(n:Int)<=i then some (i+n).toNat else none
def Yp{α:Type}(xs:List α)(i:Int):Option α:=(QV xs.length i).bind fun j=>xs[j]?
def Ea{n:Nat}{i:Int}{j:Nat}(h:QV n i=some j):seqIndex? i n=some j/\j<n/\ -(n:Int)<=i/\i<n:=by
 unfold QV at h
 by_cases h0:0<=i
 ·rw[if_pos h0]at h
  by_cases h1:i<n
  ·rw[if_pos h1]at h
   have e:i.toNat=j:=QEq h
   exact⟨by rw[seqIndex_of h0 h1,e],by omega,by omega,h1⟩
  ·rw[if_neg h1]at h;cases h
 ·rw[if_neg h0]at h
  by_cases h1: -(n:Int)<=i
  ·rw[if_pos h1]at h
   have e:(i+n).toNat=j:=QEq h
   exact⟨by rw[seqIndex_neg (by omega) h1,e],by omega,h1,by omega⟩
  ·rw[if_neg h1]at h;cases h
def wZ{α:Type}{xs:List α}{i:Int}{v:α}(h:Yp xs i=some v):∃j,seqIndex? i xs.length=some j/\xs[j]? =some v/\j<xs.length/\ -(xs.length:Int)<=i/\i<xs.length:=by
 unfold Yp at h
 cases e:QV xs.length i with
 |none=>rw[e]at h;cases h
 |some j=>
  rw[e]at h
  obtain⟨h1,h2,h3,h4⟩:=Ea e
  exact⟨j,h1,h,h2,h3,h4⟩
def w5(b:Expr):Prop:=∀o i,subscripted b false o i=operate [o,i] (getItem o i)
def HY(X:Cx)(r:R2):Prop:=
 ∀(value slice:Expr)(Q0q:QQz)(s:Shared)(σ:St)(H:Hp)(x y:V)(v u:Value)(Q:VK),Inv X Q0q σ H s->RelV x v->RelV y u->r x y H Q->
  subscripted slice false v u=operate [v,u] (getItem v u)->wpAny (model X.prog X.w) X.A (subscriptTail value slice v u) (EP X Q0q σ Q) X.xe s
def MtR(X:Cx)(id:String)(r:V->List V->Hp->VK->Prop):Prop:=
 ∀(Q0q:QQz)(s:Shared)(σ:St)(H:Hp)(x:V)(xs:List V)(v:Value)(us:List Value)(Q:VK),Inv X Q0q σ H s->RelV x v->Vals xs us->r x xs H Q->
  wpAny (model X.prog X.w) X.A (call (.builtin id) (v::us)) (EP X Q0q σ Q) X.xe s
variable{H:Hp}{Q0q:QQz}{its:List Value}{s:Shared}{u:Value}{x y:V}{σ:St}
section
variable{X:Cx}{a b:Expr}{ta tb:TE}{pos:Pos}
def HY.or{r r':R2}(h:HY X r)(h':HY X r'):HY X (fun x y H Q=>r x y H Q\/r' x y H Q):=by
 intro value slice Q0q s σ H x y v u Q I rx ry q hs
 rcases q with q|q
 ·exact h value slice Q0q s σ H x y v u Q I rx ry q hs
 ·exact h' value slice Q0q s σ H x y v u Q I rx ry q hs
def Tp{r:R2}(hr:HY X r)(ha:PE X a ta)(hb:PE X b tb)(hs:w5 b):PE X (.Subscript a b pos) (YX r ta tb):=by
 intro Q0q s σ H Q I h
 exact Subscript_ (Yn ha hb I h fun v u s2 x y H2 I2 rx ry q=>hr a b Q0q s2 σ H2 x y v u Q I2 rx ry q (hs _ _))
def VN(K:QQq):R2:=fun x y H Q=>∃p xs i v,x=.ref p/\y=.int i/\jm K H p xs/\Yp xs i=some v/\Q v H
def VM(K:QQq):R2:=fun x y H Q=>∃p xs i v,x=.ref p/\y=.int i/\iy K H p xs/\Yp xs i=some v/\Q v H
def JF:R2:=fun x y H Q=>∃z i c,x=.str z/\y=.int i/\z.length<=sizeLine/\Yp z.cps.toList i=some c/\Q (.str ⟨#[c]⟩) H
def DY:HY X (VN X.K):=by
 intro value slice Q0q s σ H x y v u Q I rx ry h hs
 obtain⟨p,xs,i,z,rfl,rfl,hq,he,q⟩:=h
 cases rx
 obtain⟨t,rfl⟩:=ry
 obtain⟨its,r,pl,hz⟩:=I.list hq
 obtain⟨j,h1,h2,h3,h4,h5⟩:=wZ he
 obtain⟨w,ew,rw'⟩:=r.get h2
 have hl:=r.length
 have hn:=oM
 have fin:EP X Q0q σ Q w s:=⟨z,H,I,rw',q⟩
 by_cases h0:0<=i
 ·have hj:i.toNat=j:=by
   rw[seqIndex_of h0 h5]at h1
   exact QEq h1
  exact item_listR pl.isList h0 (by omega) (by rw[hj];simpa using ew) fin hs
 ·have hj:(i+(its.toArray.size:Int)).toNat=j:=by
   rw[seqIndex_neg (by omega) h4]at h1
   rw[Qyq,<-hl]
   exact QEq h1
  exact subscriptTail_builtinR (x:=w) pl.isList.typeIs slot_list_getitem.lookup
   (wpAny_getItem_list_neg (Q:=fun r s'=>r=w/\EP X Q0q σ Q r s') pl.isList (by omega) (by rw[Qyq]<;>omega) (by omega) (by rw[hj];simpa using ew) ⟨rfl,fin⟩) hs
def K1:HY X (VM X.K):=by
 intro value slice Q0q s σ H x y v u Q I rx ry h hs
 obtain⟨p,xs,i,z,rfl,rfl,hq,he,q⟩:=h
 cases rx
 obtain⟨t,rfl⟩:=ry
 obtain⟨its,r,pl,hz⟩:=I.tuple hq
 obtain⟨j,h1,h2,h3,h4,h5⟩:=wZ he
 obtain⟨w,ew,rw'⟩:=r.get h2
 have hl:=r.length
 have hn:=oM
 have fin:EP X Q0q σ Q w s:=⟨z,H,I,rw',q⟩
 exact subscriptTail_builtinR (x:=w) pl.typeIs slot_tuple_getitem.lookup
  (getItem_tuple (j:=j) (Q:=fun r s'=>r=w/\EP X Q0q σ Q r s') pl (by omega) (by omega) (by rw[Qyq,<-hl];exact h1) (by simpa using ew) ⟨rfl,fin⟩) hs
def W9:HY X JF:=by
 intro value slice Q0q s σ H x y v u Q I rx ry h hs
 obtain⟨z,i,c,rfl,rfl,hz,he,q⟩:=h
 obtain⟨t,rfl⟩:=rx
 obtain⟨t',rfl⟩:=ry
 obtain⟨j,h1,h2,h3,h4,h5⟩:=wZ he
 have hl:z.cps.toList.length=z.length:=by simp[Str.length]
 rw[hl]at h1 h4 h5
 have hn:=oM
 exact tail_any (typeIs_str s z t) slot_str_getitem.lookup (getItem_str (c:=c) (by
  have e1:decide (i< -(2 ^63:Int))=false:=QEz (by omega)
  have e2:decide (i>=2 ^63)=false:=QEz (by omega)
  rw[e1,e2,Bool.or_false]) (by rw[h1];simpa using h2) ⟨.str ⟨#[c]⟩,H,I.tok _,⟨_,rfl⟩,q⟩) hs
def rIx(K:QQq):R2:=fun x y H Q=>VN K x y H Q\/VM K x y H Q\/JF x y H Q
def K3:HY X (rIx X.K):=DY.or (K1.or W9)
def Ao(its:List Value)(n j:Nat)(u:Value):Obj.mapSeq (·.setIfInBounds j u) {cls:=.type "list",data:=.seq its.toArray n}={cls:=.type "list",data:=.seq (its.set j u).toArray n}:=by
 simp[Obj.mapSeq]
theorem Inv.lst{Q0q:QQz}{σ:St}{H:Hp}{s:Shared}{p:Addr}{xs:List V}(I:Inv X Q0q σ H s)(h:H p=some (.lst xs)):
  ∃(its:List Value)(n:Nat),Vals xs its/\s.heap.get? p=some {cls:=.type "list",data:=.seq its.toArray n}/\xs.length<=sizeLine:=by
 obtain⟨z,its,n,r,e⟩:=I.hok p _ h
 exact⟨its,n,r,e,z⟩
def Inv.WD{p:Addr}{xs ys:List V}{its':List Value}{n n':Nat}{f:Obj->Obj}(I:Inv X Q0q σ H s)(h:H p=some (.lst xs))
  (ho:s.heap.get? p=some {cls:=.type "list",data:=.seq its.toArray n})(hf:f {cls:=.type "list",data:=.seq its.toArray n}={cls:=.type "list",data:=.seq its'.toArray n'})(r:Vals ys its')(hz:ys.length<=sizeLine)(t:Nat):
  Inv X Q0q σ (upd H p (.lst ys)) {s with heap:=s.heap.update p f,toks:=t}:=by
 have e:(s.heap.update p f).get? p=some {cls:=.type "list",data:=.seq its'.toArray n'}:=by
  rw[Heap.get?_update_self f ho (by rw[hf]<;>rfl),hf]
 refine I.write (x:=p) (e:=p) (by rw[h];trivial) (.inl rfl) (fun b u hb q=>(Heap.get?_update_other _ _ (Ne.symm hb)).trans q) ⟨_,e⟩ ?_
 exact⟨hz,its',n',r,e⟩
def S8:V->V->V->Hp->(Hp->Prop)->Prop:=fun o i v H Q=>∃p xs k j,o=.ref p/\i=.int k/\H p=some (.lst xs)/\QV xs.length k=some j/\Q (upd H p (.lst (xs.set j v)))
def set_list:Nt X S8:=by
 intro Q0q s σ H o i v ov iv u Q I ro ri rv h
 obtain⟨p,xs,k,j,rfl,rfl,hp,hj,q⟩:=h
 cases ro
 obtain⟨t,rfl⟩:=ri
 obtain⟨its,n,r,ho,hz⟩:=I.lst hp
 obtain⟨h1,h2,h3,h4⟩:=Ea hj
 have hl:=r.length
 have hn:=oM
 have I':Inv X Q0q σ (upd H p (.lst (xs.set j v))) {s with heap:=s.heap.update p (Obj.mapSeq (·.setIfInBounds j u))}:=
  I.WD hp ho (Ao its n j u) (r.set rv j) (by rw[List.length_set];exact hz) s.toks
 by_cases h0:0<=k
 ·have hk:k.toNat=j:=by
   rw[seqIndex_of h0 h4]at h1
   exact QEq h1
  exact PySem.W.ki_setAt ho h0 (by omega) (by rw[Qyq,<-hl];exact h4) (by rw[hk];exact⟨_,I',q⟩)
 ·have hk:(k+(its.toArray.size:Int)).toNat=j:=by
   rw[seqIndex_neg (by omega) h3]at h1
   rw[Qyq,<-hl]
   exact QEq h1
  exact PySem.W.ki_setBack ho (by omega) (by rw[Qyq,<-hl];exact h3) (by omega) (by rw[hk];exact⟨_,I',q⟩)
def vV(lo hi:Option Int)(n:Nat):(sliceBounds lo hi none n).1=((HT.dg n 0 lo:Nat):Int)/\(sliceBounds lo hi none n).2.1=((HT.dg n n hi:Nat):Int)/\(sliceBounds lo hi none n).2.2=1:=by
 refine⟨?_,?_,rfl⟩
 ·cases lo with
  |none=>simp[sliceBounds,HT.dg]
  |some i=>
   simp only[sliceBounds,HT.dg,Option.getD_none,show(1:Int)>0 by decide,if_true]
   by_cases h:i<0
   ·simp only[h,if_true]<;>omega
   ·simp only[h,if_false]<;>omega
 ·cases hi with
  |none=>simp[sliceBounds,HT.dg]
  |some i=>
   simp only[sliceBounds,HT.dg,Option.getD_none,show(1:Int)>0 by decide,if_true]
   by_cases h:i<0
   ·simp only[h,if_true]<;>omega
   ·simp only[h,if_false]<;>omega
def tY(its:List Value)(lo hi:Option Int):slicePick its.toArray lo hi none=((its.drop (HT.dg its.length 0 lo)).take (HT.dg its.length its.length hi-HT.dg its.length 0 lo)).toArray:=by
 obtain⟨h1,h2,h3⟩:=vV lo hi its.toArray.size
 unfold slicePick
 rw[h1,h2,h3]
 simp only[sliceRange_one,pick_run,Qyq]<;>rfl
def aa0(K:QQq):V->Option Int->Option Int->Hp->VK->Prop:=fun x lo hi H Q=>∃a xs,x=.ref a/\jm K H a xs/\∀p,H p=none->Q (.ref p) (upd H p (.lst (sV xs lo hi)))
def O5:RL X (aa0 X.K):=by
 intro Q0q s σ H x v vl vu lo hi sl Q I rx hs pl pu h
 obtain⟨a,xs,rfl,hx,q⟩:=h
 cases rx
 obtain⟨its,r,ht,hz⟩:=I.list hx
 have hlen:=r.length
 refine⟨"list",_,slot_list_getitem.lookup,ht.isList.typeIs,?_⟩
 refine wpAny_getItem_list_slice ht.isList hs pl pu .none (by simp) ?_ (by rw[Qyq]<;>omega)
 rw[tY,<-hlen]
 refine⟨.ref s.heap.objs.size,_,I.laid (t':=s.toks) (o:=.lst (sV xs lo hi)) (fun b ob q=>QWq _ q) (QVz _) ?_,rfl,q _ (I.hok.fresh (QVz _))⟩
 exact⟨Nat.le_trans (pM xs lo hi) hz,_,0,(r.drop (HT.dg xs.length 0 lo)).take (HT.dg xs.length xs.length hi-HT.dg xs.length 0 lo),Qzq _ rfl⟩
def gU:V->Bool
 |.non=>true
 |.bl _=>true
 |.int _=>true
 |.str _=>true
 |_=>false
def Mg:V->V->Bool
 |.non,.non=>true
 |.bl a,.bl b=>a==b
 |.bl a,.int b=>(if a then 1 else 0)==b
 |.int a,.bl b=>a==(if b then 1 else 0)
 |.int a,.int b=>a==b
 |.str a,.str b=>a==b
 |_,_=>false
def Yb{A:Around}{v:Value}(ry:RelV y u)(rx:RelV x v)(fy:gU y=true)(fx:gU x=true):SeqAt.EqAt A s u v (Mg y x):=by
 cases y with
 |non=>
  cases ry
  cases x with
  |non=>cases rx;exact SeqAt.EqAt.same _
  |bl b=>cases rx;exact SeqAt.EqAt.none_bool b
  |int b=>obtain⟨t,rfl⟩:=rx;exact SeqAt.EqAt.none_int b t
  |str b=>obtain⟨t,rfl⟩:=rx;exact SeqAt.EqAt.none_str b t
  |_=>exact absurd (show false=true from fx) Qjz
 |bl a=>
  cases ry
  cases x with
  |non=>cases rx;exact SeqAt.EqAt.bool_none a
  |bl b=>cases rx;exact SeqAt.EqAt.bool_bool a b
  |int b=>obtain⟨t,rfl⟩:=rx;exact SeqAt.EqAt.bool_int a b t
  |str b=>obtain⟨t,rfl⟩:=rx;exact SeqAt.EqAt.bool_str a b t
  |_=>exact absurd (show false=true from fx) Qjz
 |int a=>
  obtain⟨t',rfl⟩:=ry
  cases x with
  |non=>cases rx;exact SeqAt.EqAt.int_none a t'
  |bl b=>cases rx;exact SeqAt.EqAt.int_bool a t' b
  |int b=>obtain⟨t,rfl⟩:=rx;exact SeqAt.EqAt.int_int a t' b t
  |str b=>obtain⟨t,rfl⟩:=rx;exact SeqAt.EqAt.int_str a t' b t
  |_=>exact absurd (show false=true from fx) Qjz
 |str a=>
  obtain⟨t',rfl⟩:=ry
  cases x with
  |non=>cases rx;exact SeqAt.EqAt.str_none a t'
  |bl b=>cases rx;exact SeqAt.EqAt.str_bool a t' b
  |int b=>obtain⟨t,rfl⟩:=rx;exact SeqAt.EqAt.str_int a t' b t
  |str b=>obtain⟨t,rfl⟩:=rx;exact SeqAt.EqAt.str_str a t' b t
  |_=>exact absurd (show false=true from fx) Qjz
 |_=>exact absurd (show false=true from fy) Qjz
def xj(x:V)(u:Value):Bool:=match u with
 |.none=>Mg .non x
 |.bool b=>Mg (.bl b) x
 |.int i _=>Mg (.int i) x
 |.str z _=>Mg (.str z) x
 |_=>false
def Bo(r:RelV y u)(f:gU y=true):xj x u=Mg y x:=by
 cases y with
 |non=>cases r;rfl
 |bl b=>cases r;rfl
 |int i=>obtain⟨t,rfl⟩:=r;rfl
 |str z=>obtain⟨t,rfl⟩:=r;rfl
 |_=>exact absurd (show false=true from f) Qjz
theorem nP{x:V}:∀{xs:List V}{us:List Value},Vals xs us->xs.all gU=true->us.any (xj x)=xs.any fun y=>Mg y x
 |_,_,.nil=>fun _=>rfl
 |y::xs,u::us,.cons r t=>fun f=>by
  rw[List.all_cons,QUq]at f
  rw[List.any_cons,List.any_cons,Bo r f.1,nP t f.2]
theorem gq{A:Around}{s:Shared}{x:V}{v:Value}(rx:RelV x v)(fx:gU x=true):∀{xs:List V}{us:List Value},Vals xs us->xs.all gU=true->∀u∈us,SeqAt.EqAt A s u v (xj x u)
 |_,_,.nil=>fun _=>fun u hu=>by cases hu
 |y::xs,u::us,.cons r t=>fun f=>fun u' hu=>by
  rw[List.all_cons,QUq]at f
  rcases QCq.mp hu with rfl|hu
  ·rw[Bo r f.1];exact Yb r rx f.1 fx
  ·exact gq rx fx t f.2 u' hu
def inV(x:V)(xs:List V):Bool:=xs.any fun y=>Mg y x
def rIn(K:QQq)(neg:Bool):R2:=fun x y H Q=>∃p xs,y=.ref p/\(jm K H p xs\/iy K H p xs)/\gU x=true/\xs.all gU=true/\Q (.bl (if neg then !inV x xs else inV x xs)) H
def GR:fY X (compareOp .In) (rIn X.K false):=by
 intro Q0q s σ H x y v u Q I rx ry h
 obtain⟨p,xs,rfl,hq,fx,fs,q⟩:=h
 cases ry
 rcases hq with hq|hq
 ·obtain⟨its,r,pl,hz⟩:=I.list hq
  refine SeqAt.in_listAt (xj x) pl.isList (fun w hw=>gq rx fx r fs w (by simpa using hw)) ⟨.bl _,H,I,rfl,?_⟩
  rw[show its.toArray.any (xj x)=its.any (xj x) by simp,nP r fs]
  exact q
 ·obtain⟨its,r,pl,hz⟩:=I.tuple hq
  refine SeqAt.in_tupleAt (xj x) pl (fun w hw=>gq rx fx r fs w (by simpa using hw)) ⟨.bl _,H,I,rfl,?_⟩
  rw[show its.toArray.any (xj x)=its.any (xj x) by simp,nP r fs]
  exact q
def v7:fY X (compareOp .NotIn) (rIn X.K true):=by
 intro Q0q s σ H x y v u Q I rx ry h
 obtain⟨p,xs,rfl,hq,fx,fs,q⟩:=h
 cases ry
 rcases hq with hq|hq
 ·obtain⟨its,r,pl,hz⟩:=I.list hq
  refine SeqAt.notIn_listAt (xj x) pl.isList (fun w hw=>gq rx fx r fs w (by simpa using hw)) ⟨.bl _,H,I,rfl,?_⟩
  rw[show its.toArray.any (xj x)=its.any (xj x) by simp,nP r fs]
  exact q
 ·obtain⟨its,r,pl,hz⟩:=I.tuple hq
  refine SeqAt.notIn_tupleAt (xj x) pl (fun w hw=>gq rx fx r fs w (by simpa using hw)) ⟨.bl _,H,I,rfl,?_⟩
  rw[show its.toArray.any (xj x)=its.any (xj x) by simp,nP r fs]
  exact q
def wV:f9 X (.type "list") (fun xs H Q=>∃p ys,xs=[.ref p]/\(jm X.K H p ys\/iy X.K H p ys)/\∀l,H l=none->Q (.ref l) (upd H l (.lst ys))):=by
 intro Q0q s σ H xs us Q I r h
 obtain⟨p,ys,rfl,hq,q⟩:=h
 obtain⟨u,rfl,rx⟩:=vals1 r
 cases rx
 have fin:∀(its:List Value),Vals ys its->ys.length<=sizeLine->∀(h':Heap)(c':Nat),(∀b o',s.heap.get? b=some o'->h'.get? b=some o')->
   h'.get? s.heap.objs.size=some {cls:=.type "list",dict:=none,data:=.seq its.toArray c',slots:= #[]}->EP X Q0q σ Q (.ref s.heap.objs.size) {s with heap:=h'}:=fun its r' hz h' c' kp e=>
  ⟨.ref s.heap.objs.size,_,I.laid (t':=s.toks) kp (QVz _) (show bW X.prog X.w _ h' _ (.lst ys)from⟨hz,its,c',r',e⟩),rfl,q _ (I.hok.fresh (QVz _))⟩
 rcases hq with hq|hq
 ·obtain⟨its,r',pl,hz⟩:=I.list hq
  have hlen:=r'.length
  obtain⟨o,ho,hc,n,hd⟩:=pl.isList
  exact call_list_seq p (.inl rfl) ho hc hd (fun h' c' kp e=>fin its r' hz h' c' kp e) (by simp only[Qyq]<;>omega)
 ·obtain⟨its,r',pl,hz⟩:=I.tuple hq
  have hlen:=r'.length
  obtain⟨o,ho,hc,n,hd⟩:=pl
  exact call_list_seq p (.inr rfl) ho hc hd (fun h' c' kp e=>fin its r' hz h' c' kp e) (by simp only[Qyq]<;>omega)
def uq:f9 X (.type "tuple") (fun xs H Q=>∃p ys,xs=[.ref p]/\((jm X.K H p ys/\∀l,H l=none->Q (.ref l) (upd H l (.tup ys)))\/(iy X.K H p ys/\Q (.ref p) H))):=by
 intro Q0q s σ H xs us Q I r h
 obtain⟨p,ys,rfl,h⟩:=h
 obtain⟨u,rfl,rx⟩:=vals1 r
 cases rx
 rcases h with ⟨hq,q⟩|⟨hq,q⟩
 ·obtain⟨its,r',pl,hz⟩:=I.list hq
  have hlen:=r'.length
  refine call_tuple_list pl.isList (fun h' kp=>?_) (by simp only[Qyq]<;>omega)
  have I1:Inv X Q0q σ H {s with heap:=h'}:=I.kept (t':=s.toks) kp
  have I2:Inv X Q0q σ (upd H h'.objs.size (.tup ys)) {s with heap:=h'.push {cls:=.type "tuple",data:=.seq its.toArray}}:=
   I1.laid (t':=s.toks) (fun b o e=>QWq _ e) (QVz _) (show bW X.prog X.w _ _ _ (.tup ys)from⟨hz,its,r',TupOk.new _ _⟩)
  exact⟨.ref h'.objs.size,_,I2,rfl,q _ (I1.hok.fresh (QVz _))⟩
 ·obtain⟨its,r',pl,hz⟩:=I.tuple hq
  exact call_tuple_same pl ⟨.ref p,H,I,rfl,q⟩
def tyV(K:QQq)(T:String)(x:V)(H:Hp):Prop:=match x with
 |.str _=>T="str"
 |.int _=>T="int"
 |.ref p=>(T="list"/\∃xs,jm K H p xs)\/(T="tuple"/\∃o,K.lookup p=some o/\o.cls=.type "tuple"/\o.dict=none)\/
   (T="dict"/\((∃kvs,H p=some (.dK kvs))\/∃kvs,H p=some (.dT kvs)))\/(T="set"/\∃S n,H p=some (.set S n))
 |_=>False
theorem Vc{T:String}{v:Value}(I:Inv X Q0q σ H s)(r:RelV x v)(ty:tyV X.K T x H):
  s.TypeIs v T/\∀a,v=.ref a->∃ob,s.heap.get? a=some ob/\ob.dict=none:=by
 cases x with
 |str z=>
  obtain⟨t,rfl⟩:=r
  cases (show T="str" from ty)
  exact⟨typeIs_str s z t,fun _ e=>nomatch e⟩
 |int i=>
  obtain⟨t,rfl⟩:=r
  cases (show T="int" from ty)
  exact⟨typeIs_int s i t,fun _ e=>nomatch e⟩
 |ref p=>
  cases r
  rcases ty with ⟨rfl,xs,hq⟩|⟨rfl,o,hk,hc,hd⟩|⟨rfl,hk⟩|⟨rfl,S,n,hk⟩
  ·obtain⟨its,_,pl,_⟩:=I.list hq
   refine⟨pl.isList.typeIs,fun a e=>?_⟩
   cases e
   obtain⟨o,n,e,c,hd,_⟩:=pl
   exact⟨o,e,hd⟩
  ·refine⟨⟨o,I.Zi p o hk,hc⟩,fun a e=>?_⟩
   cases e
   exact⟨o,I.Zi _ o hk,hd⟩
  ·have z:∃o,s.heap.get? p=some o/\o.ExactDict:=by
    rcases hk with ⟨kvs,hk⟩|⟨kvs,hk⟩
    ·obtain⟨_,_,_,_,o,_,_,e,ex,_⟩:=I.hok p _ hk
     exact⟨o,e,ex⟩
    ·obtain⟨_,_,_,_,o,_,_,e,ex,_⟩:=I.hok p _ hk
     exact⟨o,e,ex⟩
   obtain⟨o,e,ex⟩:=z
   refine⟨⟨o,e,ex.1⟩,fun a e2=>?_⟩
   cases e2
   exact⟨o,e,ex.2.1⟩
  ·obtain⟨o,_,_,_,e,ex,_⟩:=I.hok p _ hk
   refine⟨⟨o,e,ex.1⟩,fun a e2=>?_⟩
   cases e2
   exact⟨o,e,ex.2.1⟩
 |_=>exact False.elim ty
def tBM(K:QQq)(T:String)(r:V->List V->Hp->VK->Prop)(to:TE)(t:TA):TE:=fun σ H Q=>to σ H fun x H1=>tyV K T x H1/\t σ H1 fun xs H2=>r x xs H2 Q
variable{o e:Expr}{es:List Expr}{to:TE}{t:TA}{name:Str}{apos cpos:Pos}{T id:String}{r:V->List V->Hp->VK->Prop}
def abe(pa:PlainAttrs T)(slot:Slot T name id)(hty:typeOf (.builtin id)=pure (.type "method_descriptor"))(hm:MtR X id r)(ho:PE X o to)(ha:PA X (e::es) t)
  (hbase:attributeBase o name X.env (eval o X.env)=eval o X.env:=by rfl)
  (hfew:((backTo cpos (starEach (e::es) X.env)).all (fun x=> !x.1)&&(backToKw cpos (keywordEach [] X.env)).all (fun x=>x.1.isSome)
   &&decide ((e::es).length+([]:List Keyword).length+(if ([]:List Keyword).isEmpty then 0 else 1)<30))=true:=by rfl)
  (hline:(apos.endLine==cpos.line)=true:=by rfl)(hs:starEach (e::es) X.env=(false,eval e X.env)::starEach es X.env:=by rfl)(hplain:(backTo cpos (starEach es X.env)).any (·.1)=false:=by rfl):
  PE X (.Call (.Attribute o name apos) (e::es) [] cpos) (tBM X.K T r to t):=by
 intro Q0q s σ H Q I h
 refine wpAny_Call_method_late hbase hfew hline rfl (cA (ho Q0q s σ H _ I h) fun v s1⟨x,H1,I1,r1,ty,q1⟩=>?_)
 obtain⟨h1,h2⟩:=Vc I1 r1 ty
 refine⟨T,id,pa,slot,hty,h1,h2,?_⟩
 have hA:=ha cpos Q0q s1 σ H1 _ I1 q1
 rw[hs]at hA⊢
 refine Calls.callWith_builtin (by show(false||(backTo cpos (starEach es X.env)).any (·.1))=false;rw[hplain]<;>rfl) (Calls.evalArgs_plain ?_)
 exact cA hA fun us s2⟨vs,H2,I2,r2,q2⟩=>hm Q0q s2 σ H2 x vs v us Q I2 r1 r2 q2
end
def MtM(X:Cx)(id:String)(r:V->List V->Hp->VK->Prop):Prop:=
 ∀(Q0q:QQz)(s:Shared)(σ:St)(H:Hp)(x:V)(xs:List V)(v:Value)(us:List Value)(Q:VK),Inv X Q0q σ H s->RelV x v->Vals xs us->r x xs H Q->
  wpAny (model X.prog X.w) X.A (call (.builtin id) (v::us)) (EP X Q0q σ Q) X.xe s
theorem Vals.one:∀{x:V}{us:List Value},Vals [x] us->∃u,us=[u]/\RelV x u
 |_,_,.cons r .nil=>⟨_,rfl,r⟩
theorem Vals.two:∀{x y:V}{us:List Value},Vals [x,y] us->∃u v,us=[u,v]/\RelV x u/\RelV y v
 |_,_,_,.cons r (.cons q .nil)=>⟨_,_,rfl,r,q⟩
theorem Vals.zero:∀{us:List Value},Vals [] us->us=[]
 |_,.nil=>rfl
theorem Vals.eraseIdx:∀{xs:List V}{us:List Value}(i:Nat),Vals xs us->Vals (xs.eraseIdx i) (us.eraseIdx i)
 |_,_,_,.nil=>.nil
 |_,_,0,.cons _ t=>t
 |_,_,i+1,.cons r t=>.cons r (Vals.eraseIdx i t)
theorem uY{α:Type}:∀(l:List α)(i:Nat),(l.eraseIdx i).length<=l.length
 |[],_=>QVz _
 |_::_,0=>Nat.le_succ _
 |_::r,i+1=>Nat.succ_le_succ (uY r i)
variable{t':Nat}
section
variable{X:Cx}{Q0q:QQz}{σ:St}{H:Hp}{s:Shared}{l b:Addr}{xs ys zs:List V}
def Inv.abx{its':List Value}{n:Nat}{f:Array Value->Array Value}(I:Inv X Q0q σ H s)(hH:H l=some (.lst xs))
  (e:s.heap.get? l=some {cls:=.type "list",data:=.seq its.toArray n})(hf:f its.toArray=its'.toArray)(hv:Vals ys its')(hz:ys.length<=sizeLine):
  Inv X Q0q σ (upd H l (.lst ys)) {s with heap:=s.heap.update l (Obj.mapSeq f),toks:=t'}:=by
 have q:=PySem.IsL.update e f
 rw[hf]at q
 refine I.write (x:=l) (e:=l) (by rw[hH];exact trivial) (.inl rfl) (fun b' u hb hu=>(Heap.get?_update_other s.heap (Obj.mapSeq f) (Ne.symm hb)).trans hu) ⟨_,q⟩ ?_
 exact⟨hz,its',_,hv,q⟩
def Inv.afs(I:Inv X Q0q σ H s)(hv:Vals ys its)(hz:ys.length<=sizeLine):
  Inv X Q0q σ (upd H s.heap.objs.size (.lst ys)) {s with heap:=s.heap.push {cls:=.type "list",data:=.seq its.toArray},toks:=t'}:=
 I.laid (fun _ _ q=>QWq _ q) (QVz _) ⟨hz,its,0,hv,Qzq _ rfl⟩
theorem Inv.fresh(I:Inv X Q0q σ H s):H s.heap.objs.size=none:=I.hok.fresh (QVz _)
def Inv.abw(I:Inv X Q0q σ H s)(hH:H l=some (.lst xs)):xs.length<=sizeLine/\∃(its:List Value)(n:Nat),Vals xs its/\xs.length=its.length/\s.heap.get? l=some {cls:=.type "list",data:=.seq its.toArray n}:=by
 obtain⟨z,its,n,r,e⟩:=I.hok l _ hH
 exact⟨z,its,n,r,r.length,e⟩
end
section
variable{X:Cx}
def P0:V->List V->Hp->VK->Prop:=fun x vs H Q=>∃l xs y,x=.ref l/\vs=[y]/\H l=some (.lst xs)/\xs.length<sizeLine/\Q .non (upd H l (.lst (xs++[y])))
def uU:MtM X "list.append" P0:=by
 intro Q0q s σ H x vs v us Q I rx rv h
 obtain⟨l,xs,y,rfl,rfl,hH,hz,q⟩:=h
 cases rx
 obtain⟨u,rfl,ru⟩:=rv.one
 obtain⟨z,its,n,r,hl,e⟩:=I.abw hH
 refine call_meets F.slot_list_append ⟨_,e,rfl⟩ F.entry_list_append (F.args_list_append_2 _ _) (PySem.list_append l its.toArray n u (by rw[Qyq];omega)) ⟨e,?_⟩
 refine⟨.non,_,I.abx (its':=its++[u]) hH e (by simp) (r.append (.cons ru .nil)) ?_,rfl,q⟩
 rw[QTq,List.length_singleton]
 omega
def VJ:V->List V->Hp->VK->Prop:=fun x vs H Q=>∃l xs i k y,x=.ref l/\vs=[.int i]/\H l=some (.lst xs)/\ -(2 ^63)<=i/\i<2 ^63/\seqIndex? i xs.length=some k/\xs[k]? =some y/\Q y (upd H l (.lst (xs.eraseIdx k)))
def Kp:MtM X "list.pop" VJ:=by
 intro Q0q s σ H x vs v us Q I rx rv h
 obtain⟨l,xs,i,k,y,rfl,rfl,hH,h1,h2,hk,hy,q⟩:=h
 cases rx
 obtain⟨u,rfl,ru⟩:=rv.one
 obtain⟨t,rfl⟩:=ru
 obtain⟨z,its,n,r,hl,e⟩:=I.abw hH
 obtain⟨w,hw,rw'⟩:=r.get hy
 refine call_meets F.slot_list_pop ⟨_,e,rfl⟩ F.entry_list_pop (F.args_list_pop_2 _ _)
  (MeetsSeq.list_pop_at l its.toArray n i t k w (fitsIndex_both h1 h2) (by rw[Qyq,<-hl];exact hk) (by rw[<-Array.getElem?_toList];exact hw) (by rw[Qyq];omega)) ⟨e,?_⟩
 refine⟨y,_,I.abx (its':=its.eraseIdx k) hH e ?_ (r.eraseIdx k) ?_,rw',q⟩
 ·show its.toArray.eraseIdxIfInBounds k=(its.eraseIdx k).toArray
  rw[List.eraseIdxIfInBounds_toArray]
 ·have:=uY xs k
  omega
end
section
variable{prog:Program}{w:World}{A:Around}{E:QZq}{s:Shared}
end
section
variable{X:Cx}
end
section
variable{κ:Type}[DecidableEq κ]
def iz(kvs:List (κ×V))(k:κ):Option V:=(kvs.find? fun kv=>decide (kv.1=k)).map (·.2)
def putK(kvs:List (κ×V))(k:κ)(v:V):List (κ×V):=
 if (kvs.any fun kv=>decide (kv.1=k))=true then kvs.map (fun kv=>if kv.1=k then(kv.1,v)else kv)else kvs++[(k,v)]
def jB{p:κ×V}{r:List (κ×V)}{k:κ}(e:p.1=k):iz (p::r) k=some p.2:=by simp[iz,List.find?_cons,e]
def jC{p:κ×V}{r:List (κ×V)}{k:κ}(e:¬p.1=k):iz (p::r) k=iz r k:=by simp[iz,List.find?_cons,e]
theorem qy(k:κ):∀kvs:List (κ×V),(kvs.any fun kv=>decide (kv.1=k))=(iz kvs k).isSome
 |[]=>rfl
 |p::r=>by
  rw[List.any_cons]
  by_cases e:p.1=k
  ·simp only[jB e,QFq e,Bool.true_or,Option.isSome_some]
  ·rw[jC e,QEz e,Bool.false_or];exact qy k r
def jL(kvs:List (κ×V))(k:κ)(v:V):(putK kvs k v).length<=kvs.length+1:=by
 unfold putK
 split
 ·rw[QAq];omega
 ·rw[QTq,QBq,List.length_nil];omega
def nQ.dU{o:Option V}{u:Option Value}(r:nQ o u):o.isSome=u.isSome:=by
 cases o with
 |none=>cases u with
  |none=>rfl
  |some _=>exact(show False from r).elim
 |some _=>cases u with
  |none=>exact(show False from r).elim
  |some _=>rfl
theorem nQ.getD{o:Option V}{u:Option Value}{d:V}{d':Value}(r:nQ o u)(rd:RelV d d'):RelV (o.getD d) (u.getD d'):=by
 cases o with
 |none=>cases u with
  |none=>exact rd
  |some _=>exact(show False from r).elim
 |some _=>cases u with
  |none=>exact(show False from r).elim
  |some _=>exact r
def KV.val{kvs:List (κ×V)}{vs:List (κ×Value)}(r:KV kvs vs)(k:κ):nQ (iz kvs k) (valueAt vs k):=by
 unfold KV at r
 induction r with
 |nil=>exact True.intro
 | @cons p q ps qs h t ih=>
  obtain⟨h1,h2⟩:=h
  by_cases e:p.1=k
  ·have e':q.1=k:=h1.symm.trans e
   have b:valueAt (q::qs) k=some q.2:=by simp[valueAt,List.find?_cons,e']
   rw[jB e,b];exact h2
  ·have e':¬q.1=k:=fun z=>e (h1.trans z)
   have b:valueAt (q::qs) k=valueAt qs k:=by simp[valueAt,List.find?_cons,e']
   rw[jC e,b];exact ih
theorem KV.any{kvs:List (κ×V)}{vs:List (κ×Value)}(r:KV kvs vs)(k:κ):(kvs.any fun kv=>decide (kv.1=k))=vs.any fun kv=>decide (kv.1=k):=by
 unfold KV at r
 induction r with
 |nil=>rfl
 |cons h t ih=>rw[List.any_cons,List.any_cons,ih,h.1]
theorem KV.repl{kvs:List (κ×V)}{vs:List (κ×Value)}(r:KV kvs vs)(k:κ)(ry:RelV y u):
  KV (kvs.map fun kv=>if kv.1=k then(kv.1,y)else kv) (vs.map fun kv=>if kv.1=k then(kv.1,u)else kv):=by
 unfold KV at r⊢
 induction r with
 |nil=>exact .nil
 | @cons p q ps qs h t ih=>
  rw[Qyz,Qyz]
  refine .cons ?_ ih
  obtain⟨h1,h2⟩:=h
  by_cases e:p.1=k
  ·rw[if_pos e,if_pos (h1.symm.trans e)];exact⟨h1,ry⟩
  ·rw[if_neg e,if_neg (fun z=>e (h1.trans z))];exact⟨h1,h2⟩
def KV.put{kvs:List (κ×V)}{vs:List (κ×Value)}(r:KV kvs vs)(k:κ)(ry:RelV y u):KV (putK kvs k y) (stored vs k u):=by
 unfold putK stored
 rw[r.any k]
 by_cases e:(vs.any fun kv=>decide (kv.1=k))=true
 ·rw[if_pos e,if_pos e];exact r.repl k ry
 ·rw[if_neg e,if_neg e];exact Paired.snoc r ⟨rfl,ry⟩
theorem KV.length{kvs:List (κ×V)}{vs:List (κ×Value)}(r:KV kvs vs):kvs.length=vs.length:=Paired.length r
end
variable{P:Program}
def rR{w:World}{k:Key}(r:RelV (kV k) u):(cg P w).is k u=true:=by
 cases k with
 |inl i=>obtain⟨t,e⟩:=(show∃t,u=Value.int i t from r);subst e;exact yx P w i t
 |inr x=>obtain⟨t,e⟩:=(show∃t,u=Value.str x t from r);subst e;exact yw P w x t
theorem u9{P:Program}{w:World}:∀{ks:List Key}{us:List Value},Vals (ks.map kV) us->ItemsAre (cg P w) ks us
 |[],_,r=>by rw[List.map_nil]at r;cases r;exact .nil
 |k::ks,_,r=>by
  rw[Qyz]at r
  cases r with
  |cons h t=>exact .cons (rR h) (u9 t)
abbrev KT(H:Hp):List (List Key×V)->List (List Key×Addr×Value)->Prop:=Paired fun p q=>p.1=q.1/\H q.2.1=some (.tup (p.1.map kV))/\RelV p.2 q.2.2
variable{kvs:List (List Key×V)}{xs:List (List Key×Addr×Value)}
def KT.val(r:KT H kvs xs)(k:List Key):nQ (iz kvs k) ((atKey xs k).map (·.2)):=by
 induction r with
 |nil=>exact True.intro
 | @cons p q ps qs h t ih=>
  obtain⟨h1,_,h2⟩:=h
  by_cases e:p.1=k
  ·have e':q.1=k:=h1.symm.trans e
   have b:atKey (q::qs) k=some q.2:=by simp[atKey,List.find?_cons,e']
   rw[jB e,b];exact h2
  ·have e':¬q.1=k:=fun z=>e (h1.trans z)
   have b:atKey (q::qs) k=atKey qs k:=by simp[atKey,List.find?_cons,e']
   rw[jC e,b];exact ih
theorem KT.repl(r:KT H kvs xs)(k:List Key)(ry:RelV y u):
  KT H (kvs.map fun kv=>if kv.1=k then(kv.1,y)else kv) (xs.map (putAt k u)):=by
 induction r with
 |nil=>exact .nil
 | @cons p q ps qs h t ih=>
  rw[Qyz,Qyz]
  refine .cons ?_ ih
  obtain⟨h1,h2,h3⟩:=h
  unfold putAt
  by_cases e:p.1=k
  ·rw[if_pos e,if_pos (h1.symm.trans e)];exact⟨h1,h2,ry⟩
  ·rw[if_neg e,if_neg (fun z=>e (h1.trans z))];exact⟨h1,h2,h3⟩
variable{b:Addr}
def KT.put(r:KT H kvs xs)(k:List Key)(hb:H b=some (.tup (k.map kV)))(ry:RelV y u):
  KT H (putK kvs k y) (storedH xs k b u):=by
 have e:(kvs.any fun kv=>decide (kv.1=k))=(atKey xs k).isSome:=by
  rw[qy,(r.val k).dU,Option.isSome_map]
 unfold putK storedH
 rw[e]
 by_cases q:(atKey xs k).isSome=true
 ·rw[if_pos q,if_pos q];exact r.repl k ry
 ·rw[if_neg q,if_neg q];exact Paired.snoc r ⟨rfl,hb,ry⟩
variable{H':Hp}
def KT.keeps(r:KT H kvs xs)(ht:∀b ys,H b=some (.tup ys)->H' b=some (.tup ys)):KT H' kvs xs:=
 Paired.Wy r fun _ _ z=>⟨z.1,ht _ _ z.2.1,z.2.2⟩
section
variable{P:Program}{w:World}{H:Hp}{h:Heap}{a:Addr}
def CN{u:HO}(ok:mG P w H h)(e:Rd H a u):bW P w H h a u:=e.ok ok
def pL{kvs:List (Key×V)}(ok:mG P w H h)(e:Rd H a (.dK kvs)):kvs.length<=sizeLine/\(a==sysModules)=false/\∃vs,KV kvs vs/\h.DictOf (cg P w) a vs:=
 show bW P w H h a (.dK kvs)from CN ok e
def Mj{kvs:List (Key×V)}(ok:mG P w H h)(e:H a=some (.dK kvs)):kvs.length<=sizeLine/\(a==sysModules)=false/\∃vs,KV kvs vs/\h.DictOf (cg P w) a vs:=pL ok (.inl e)
def oO{ks:List Key}(ok:mG P w H h)(e:H a=some (.tup (ks.map kV))):(tupleKind (cg P w)).is h ks a:=by
 obtain⟨_,its,r,o,h1,h2,_,n,h3⟩:=(show bW P w H h a (.tup (ks.map kV))from ok a _ e)
 exact⟨o,its.toArray,n,h1,h2,h3,by simpa using u9 r⟩
theorem sU(ok:mG P w H h)(e:Rd H a (.dT kvs)):kvs.length<=sizeLine/\(a==sysModules)=false/\
  ∃xs,KT H kvs xs/\h.DictOfH (tupleKind (cg P w)) a xs:=by
 obtain⟨z,y,xs,r,o,es,ep,h1,h2,h3,h4,h5⟩:=(show bW P w H h a (.dT kvs)from CN ok e)
 refine⟨z,y,xs,r,o,es,ep,h1,h2,h3,h4,fun x hx=>?_,h5⟩
 have all:∀{l:List (List Key×V)}{m:List (List Key×Addr×Value)},KT H l m->∀x∈m,(tupleKind (cg P w)).is h x.1 x.2.1:=by
  intro l m q
  induction q with
  |nil=>intro x hx;exact nomatch hx
  | @cons p q ps qs hq t ih=>
   intro x hx
   rcases QCq.mp hx with e|hx
   ·subst e
    exact oO ok (by rw[<-hq.1];exact hq.2.1)
   ·exact ih x hx
 exact all r x hx
def aci(ok:mG P w H h)(e:H a=some (.dT kvs)):kvs.length<=sizeLine/\(a==sysModules)=false/\
  ∃xs,KT H kvs xs/\h.DictOfH (tupleKind (cg P w)) a xs:=sU ok (.inl e)
end
def qd(H:Hp)(a:Addr)(y:V)(r:Option V):Prop:=
 (∃kvs k,Rd H a (.dK kvs)/\y=kV k/\r=iz kvs k)\/∃kvs k b,Rd H a (.dT kvs)/\y=.ref b/\H b=some (.tup (k.map kV))/\r=iz kvs k
def Ce(H:Hp)(a:Addr)(y v:V)(H':Hp):Prop:=
 (∃kvs k,H a=some (.dK kvs)/\y=kV k/\kvs.length<sizeLine/\H'=upd H a (.dK (putK kvs k v)))\/
 ∃kvs k b,H a=some (.dT kvs)/\y=.ref b/\H b=some (.tup (k.map kV))/\kvs.length<sizeLine/\H'=upd H a (.dT (putK kvs k v))
theorem qd.k{H:Hp}{a:Addr}{kvs:List (Key×V)}{k:Key}(e:H a=some (.dK kvs)):qd H a (kV k) (iz kvs k):=.inl ⟨kvs,k,.inl e,rfl,rfl⟩
variable{a:Addr}
def qd.t{k:List Key}(e:H a=some (.dT kvs))(eb:H b=some (.tup (k.map kV))):qd H a (.ref b) (iz kvs k):=.inr ⟨kvs,k,b,.inl e,rfl,eb,rfl⟩
theorem Ce.k{H:Hp}{a:Addr}{kvs:List (Key×V)}{k:Key}{v:V}(e:H a=some (.dK kvs))(hl:kvs.length<sizeLine):Ce H a (kV k) v (upd H a (.dK (putK kvs k v))):=.inl ⟨kvs,k,e,rfl,hl,rfl⟩
def Ce.t{k:List Key}{v:V}(e:H a=some (.dT kvs))(eb:H b=some (.tup (k.map kV)))(hl:kvs.length<sizeLine):
  Ce H a (.ref b) v (upd H a (.dT (putK kvs k v))):=.inr ⟨kvs,k,b,e,rfl,eb,hl,rfl⟩
variable{Q:QZq}
section
variable{X:Cx}{Q0q:QQz}{σ:St}{H:Hp}{s:Shared}{a:Addr}{y v:V}{u r:Value}{o:Option V}{A:Around}{E:QZq}
def Inv.big(I:Inv X Q0q σ H s):sysModules<s.heap.objs.size:=by
 have h:mainGlobals<s.heap.objs.size:=(I.mod.glob.keeps I.bk).lt
 exact Nat.lt_trans (by decide) h
def Hw(hu:A.units+1<cLine)(I:Inv X Q0q σ H s)(g:qd H a y (some v))(ry:RelV y u)(h:∀w' s',Inv X Q0q σ H s'->RelV v w'->Q w' s'):
  wpAny (model X.prog X.w) A (getItem (.ref a) u) Q E s:=by
 rcases g with ⟨kvs,k,e,ey,l⟩|⟨kvs,k,b,e,ey,eb,l⟩
 ·subst ey
  obtain⟨z,hd,vs,rel,dd⟩:=pL I.hok e
  obtain⟨w',hw,rw'⟩:=nQ.some_of (v:=v) (o:=valueAt vs k) (by rw[l];exact rel.val k)
  exact wpAny_getItem_of (rR ry) dd.mapOf hw (h w' _ (I.tok _) rw')
 ·subst ey
  cases (show u=Value.ref b from ry)
  obtain⟨z,hd,xs,rel,dd⟩:=sU I.hok e
  obtain⟨w',hw,rw'⟩:=nQ.some_of (v:=v) (o:=(atKey xs k).map (·.2)) (by rw[l];exact rel.val k)
  obtain⟨p,hp,hp2⟩:=QJz.mp hw
  refine wpAny_getItem_heap (tupleKind_room_in1 hu) (oO I.hok eb) dd hp ?_
  rw[hp2]
  exact h w' _ (I.tok _) rw'
def agg(hu:A.units+1<cLine)(I:Inv X Q0q σ H s)(g:qd H a y o)(ry:RelV y u)(h:∀s',Inv X Q0q σ H s'->Q (.bool o.isSome) s'):
  wpAny (model X.prog X.w) A (compareOp .In u (.ref a)) Q E s:=by
 rcases g with ⟨kvs,k,e,ey,l⟩|⟨kvs,k,b,e,ey,eb,l⟩
 ·subst ey
  obtain⟨z,hd,vs,rel,dd⟩:=pL I.hok e
  refine wpAny_in_of (rR ry) hd dd.mapOf ?_
  rw[<- (rel.val k).dU,<-l]
  exact h _ (I.tok _)
 ·subst ey
  cases (show u=Value.ref b from ry)
  obtain⟨z,hd,xs,rel,dd⟩:=sU I.hok e
  refine wpAny_in_heap (tupleKind_room_in1 hu) (oO I.hok eb) hd dd ?_
  have q:=(rel.val k).dU
  rw[Option.isSome_map]at q
  rw[<-q,<-l]
  exact h _ (I.tok _)
def Rj(hu:A.units+1<cLine)(I:Inv X Q0q σ H s)(g:qd H a y o)(ry:RelV y u)(h:∀s',Inv X Q0q σ H s'->Q (.bool (!o.isSome)) s'):
  wpAny (model X.prog X.w) A (compareOp .NotIn u (.ref a)) Q E s:=by
 rcases g with ⟨kvs,k,e,ey,l⟩|⟨kvs,k,b,e,ey,eb,l⟩
 ·subst ey
  obtain⟨z,hd,vs,rel,dd⟩:=pL I.hok e
  refine wpAny_notIn_of (rR ry) hd dd.mapOf ?_
  rw[<- (rel.val k).dU,<-l]
  exact h _ (I.tok _)
 ·subst ey
  cases (show u=Value.ref b from ry)
  obtain⟨z,hd,xs,rel,dd⟩:=sU I.hok e
  refine wpAny_notIn_heap (tupleKind_room_in1 hu) (oO I.hok eb) hd dd ?_
  have q:=(rel.val k).dU
  rw[Option.isSome_map]at q
  rw[<-q,<-l]
  exact h _ (I.tok _)
def nD{h':Heap}{ob:HO}(I:Inv X Q0q σ H s)(mu:Mut (H a))(hs:Heap.SameBut a s.heap h')(he:∃q,h'.get? a=some q)(new:bW X.prog X.w (upd H a ob) h' a ob):
  Inv X Q0q σ (upd H a ob) {s with heap:=h',toks:=t'}:=
 I.write (x:=a) (e:=a) mu (.inl rfl) (fun b q hb z=>(hs.2 b hb).trans z) he new
def Ml{w:World}{h':Heap}{kvs:List (Key×V)}{vs:List (Key×Value)}(z:kvs.length<=sizeLine)(hd:(a==sysModules)=false)(rel:KV kvs vs)(dd:h'.DictOf (cg P w) a vs):
  bW P w H' h' a (.dK kvs):=⟨z,hd,vs,rel,dd⟩
def Hv{Q:Unit->Shared->Prop}(hu:A.units+1<cLine)(I:Inv X Q0q σ H s)(g:Ce H a y v H')(ry:RelV y u)(rv:RelV v r)(h:∀s',Inv X Q0q σ H' s'->Q () s'):
  wpAny (model X.prog X.w) A (setItem (.ref a) u r) Q E s:=by
 rcases g with ⟨kvs,k,e,ey,l,eH⟩|⟨kvs,k,b,e,ey,eb,l,eH⟩
 ·subst ey eH
  obtain⟨z,hd,vs,rel,dd⟩:=Mj I.hok e
  have hz:vs.length<=sizeLine:=by rw[<-rel.length];exact z
  have hl:(putK kvs k v).length<=sizeLine:=by have:=jL kvs k v;omega
  refine wpAny_setItem_pairs (hsz:=hz) (rR ry) dd fun h' dd' hs=>h _ ?_
  have he:∃q,h'.get? a=some q:=let ⟨q,_,_,hq,_⟩:=dd';⟨q,hq⟩
  exact nD I (by rw[e];exact True.intro) hs he (Ml hl hd (rel.put k rv) dd')
 ·subst ey eH
  cases (show u=Value.ref b from ry)
  obtain⟨z,hd,xs,rel,dd⟩:=aci I.hok e
  have hz:xs.length<=sizeLine:=by rw[<-Paired.length rel];exact z
  have hl:(putK kvs k v).length<=sizeLine:=by have:=jL kvs k v;omega
  refine wpAny_setItem_heap (hsz:=hz) (tupleKind_room_in1 hu) (oO I.hok eb) dd fun h' dd' hs=>h _ ?_
  obtain⟨q,es,ep,hq,h2,h3,h4,_,h5⟩:=dd'
  refine nD I (by rw[e];exact True.intro) hs ⟨q,hq⟩ ⟨hl,hd,_,(rel.put k eb rv).keeps fun c ys ec=>?_,q,es,ep,hq,h2,h3,h4,h5⟩
  rw[aC (abv ec e (fun z=>nomatch z))]
  exact ec
end
section
variable{X:Cx}{Q0q:QQz}{σ:St}{H:Hp}{s:Shared}{a:Addr}{kvs:List (Key×V)}{k:Key}{u:Value}{A:Around}{E:QZq}
def ack(I:Inv X Q0q σ H s)(e:Rd H a (.dK kvs))(h:∀t s',Inv X Q0q σ H s'->Q (.int kvs.length t) s'):wpAny (model X.prog X.w) A (call (.builtin "len") [.ref a]) Q E s:=by
 obtain⟨z,hd,vs,rel,dd⟩:=pL I.hok e
 refine call_len_dict hd dd (by rw[<-rel.length];rw[sizeLine_eq]at z;omega) ?_
 rw[<-rel.length]
 exact h _ _ (I.tok _)
end
variable{X:Cx}
def zc{o:Option V}(I:Inv X Q0q σ H s)(g:qd H a y o):s.TypeIs (.ref a) "dict":=by
 rcases g with ⟨kvs,k,e,_,_⟩|⟨kvs,k,b,e,_,_,_⟩
 ·obtain⟨_,_,vs,_,dd⟩:=pL I.hok e
  exact dd.typeIs
 ·obtain⟨_,_,xs,_,dd⟩:=sU I.hok e
  exact dd.typeIs
section
variable{X:Cx}{o i e value:Expr}{pos pos' tpos:Pos}{td ty tv:TE}
end
def zb{w:World}(h:Heap)(hb:sysModules<h.objs.size):bW P w H (h.push {cls:=.type "dict",data:=.dict #[]}) h.objs.size (.dK []):=
 ⟨QIq _,beq_eq_false_iff_ne.mpr (Ne.symm (Qvz hb)),[],.nil,Heap.DictOf.new h⟩
section
variable{X:Cx}{pos:Pos}
end
def vQ:List (TE×TE)->St->Hp->(List (V×V)->Hp->Prop)->Prop
 |[],_,H,Q=>Q [] H
 |(tk,tv)::r,σ,H,Q=>tk σ H fun x H1=>tv σ H1 fun y H2=>vQ r σ H2 fun ps H3=>Q ((x,y)::ps) H3
abbrev VV:List (V×V)->List (Value×Value)->Prop:=Paired fun p q=>RelV p.1 q.1/\RelV p.2 q.2
def PPs(X:Cx)(pos:Pos)(keys:List (Option Expr))(values:List Expr)(mD:List (TE×TE)):Prop:=
 ∀(Q0q:QQz)(s:Shared)(σ:St)(H:Hp)(Q:List (V×V)->Hp->Prop),Inv X Q0q σ H s->vQ mD σ H Q->
  wpAny (model X.prog X.w) X.A (evalPairs (pairTrees keys values X.env pos)) (fun vs s'=>∃ps H',Inv X Q0q σ H' s'/\VV ps vs/\Q ps H') X.xe s
def Qg{pos:Pos}:PPs X pos [] [] []:=fun Q0q s σ H Q I h=>pairTrees_nil_walk ⟨[],H,I,.nil,h⟩
def JS{pos:Pos}{k v:Expr}{ks:List (Option Expr)}{vs:List Expr}{tk tv:TE}{mD:List (TE×TE)}(hk:PE X k tk)(hv:PE X v tv)(hr:PPs X pos ks vs mD):
  PPs X pos (some k::ks) (v::vs) ((tk,tv)::mD):=fun Q0q s σ H Q I h=>
 pairTrees_cons_walk (cA (hk Q0q s σ H _ I h) fun u s1⟨x,H1,I1,rx,q1⟩=>cA (hv Q0q s1 σ H1 _ I1 q1) fun w2 s2⟨y,H2,I2,ry,q2⟩=>
  cA (hr Q0q s2 σ H2 _ I2 q2) fun ws s3⟨ps,H3,I3,rel,q3⟩=>⟨(x,y)::ps,H3,I3,.cons ⟨rx,ry⟩ rel,q3⟩)
structure M2(X:Cx)(o:Expr)(m:Str)(apos:Pos)(e f:Expr)(cpos:Pos):Prop where
 base:attributeBase o m X.env (eval o X.env)=eval o X.env
 few:((backTo cpos (starEach [e,f] X.env)).all (fun x=> !x.1)&&(backToKw cpos (keywordEach [] X.env)).all (fun x=>x.1.isSome)
  &&decide (([e,f]:List Expr).length+([]:List Keyword).length+(if ([]:List Keyword).isEmpty then 0 else 1)<30))=true
 line:(apos.endLine==cpos.line)=true
 trees:backTo cpos (starEach [e,f] X.env)=[(false,eval e X.env),(false,eval f X.env)]
def IsD(H:Hp)(a:Addr):Prop:=(∃kvs,Rd H a (.dK kvs))\/∃kvs,Rd H a (.dT kvs)
def Xc(I:Inv X Q0q σ H s)(d:IsD H a):
  s.TypeIs (.ref a) "dict"/\(∀b,Value.ref a=.ref b->∃ob,s.heap.get? b=some ob/\ob.dict=none)/\(a==sysModules)=false:=by
 rcases d with ⟨kvs,e⟩|⟨kvs,e⟩
 ·obtain⟨_,hd,vs,_,dd⟩:=pL I.hok e
  refine⟨dd.typeIs,fun b q=>?_,hd⟩
  cases q
  obtain⟨ob,_,_,h1,h2,_⟩:=dd
  exact⟨ob,h1,h2.2.1⟩
 ·obtain⟨_,hd,xs,_,dd⟩:=sU I.hok e
  refine⟨dd.typeIs,fun b q=>?_,hd⟩
  cases q
  obtain⟨ob,_,_,h1,h2,_⟩:=dd
  exact⟨ob,h1,h2.2.1⟩
section
variable{X:Cx}{Q0q:QQz}{σ:St}{H:Hp}{s:Shared}{a:Addr}{y d:V}{u r:Value}{o:Option V}{A:Around}{E:QZq}
def Yg(hu:A.units+1<cLine)(I:Inv X Q0q σ H s)(g:qd H a y o)(ry:RelV y u)(rd:RelV d r)(h:∀w' s',Inv X Q0q σ H s'->RelV (o.getD d) w'->Q w' s'):
  wpAny (model X.prog X.w) A (call (.builtin "dict.get") [.ref a,u,r]) Q E s:=by
 rcases g with ⟨kvs,k,e,ey,l⟩|⟨kvs,k,b,e,ey,eb,l⟩
 ·subst ey
  obtain⟨z,hd,vs,rel,dd⟩:=pL I.hok e
  refine call_meetsIn PySem.F.slot_dict_get dd.typeIs PySem.F.entry_dict_get (PySem.F.args_dict_get_3 _ _ _) (meets_dict_get_default (cg X.prog X.w) a (rR ry) hd r) ⟨_,dd.mapOf,h _ _ (I.tok _) ?_⟩
  rw[l]
  exact(rel.val k).getD rd
 ·subst ey
  cases (show u=Value.ref b from ry)
  obtain⟨z,hd,xs,rel,dd⟩:=sU I.hok e
  refine call_meetsIn PySem.F.slot_dict_get dd.typeIs PySem.F.entry_dict_get (PySem.F.args_dict_get_3 _ _ _) (meetsH_dict_get_default (tupleKind (cg X.prog X.w)) a b hd r) ⟨tupleKind_room_in1 hu,k,xs,oO I.hok eb,dd,h _ _ (I.tok _) ?_⟩
  rw[l]
  exact(rel.val k).getD rd
end
def Vi(td ty tx:TE):TE:=fun σ H Q=>td σ H fun x H1=>∃a,x=.ref a/\IsD H1 a/\ty σ H1 fun y H2=>tx σ H2 fun z H3=>∃o,qd H3 a y o/\Q (o.getD z) H3
section
variable{X:Cx}{o e f:Expr}{apos cpos:Pos}{td ty tx:TE}
def J2(hu:X.A.units+1<cLine)(ho:PE X o td)(he:PE X e ty)(hf:PE X f tx)(m:M2 X o "get" apos e f cpos):PE X (.Call (.Attribute o "get" apos) [e,f] [] cpos) (Vi td ty tx):=by
 intro Q0q s σ H Q I h
 refine wpAny_Call_method m.base m.few m.line PySem.F.plainAttrs_dict PySem.F.slot_dict_get PySem.F.type_dict_get (cA (ho Q0q s σ H _ I h) fun u s1⟨x,H1,I1,rx,a,ex,d,q1⟩=>?_)
 subst ex
 obtain rfl:u=Value.ref a:=rx
 obtain⟨t1,t2,_⟩:=Xc I1 d
 refine⟨t1,t2,?_⟩
 rw[m.trees]
 refine Calls.callWith_builtin rfl (Calls.evalArgs_plain (Calls.spliced_cons (cA (he Q0q s1 σ H1 _ I1 q1) fun iv s2⟨y,H2,I2,ry,q2⟩=>
  Calls.spliced_cons (cA (hf Q0q s2 σ H2 _ I2 q2) fun fv s3⟨z,H3,I3,rz,ov,g,q3⟩=>Calls.spliced_nil ?_))))
 exact Yg hu I3 g ry rz fun w' s4 I4 rw'=>⟨_,H3,I4,rw',q3⟩
end
section
variable{X:Cx}{Q0q:QQz}{σ:St}{H:Hp}{s:Shared}{a:Addr}{kvs:List (Key×V)}{A:Around}{E:QZq}
end
section
variable{X:Cx}{Q0q:QQz}{σ:St}{H:Hp}{s:Shared}{a:Addr}{y:V}{u:Value}{A:Around}{E:QZq}
end
end L2
namespace Att
open PySem PySem.W PySem.Calls PyProof.Rows
def p7{P:Params}{h:Heap}:∀(ns:List Int)(vs:List Value),WellAll P h vs (ns.map WData.int)->IntsAre vs ns:=by
 intro ns
 induction ns with
 |nil=>
  intro vs w
  rw[List.map_nil]at w
  cases w
  exact .nil
 |cons n ns ih=>
  intro vs w
  rw[Qyz]at w
  cases w with
  |cons a b=>
   cases a
   exact .cons _ _ (ih _ b)
theorem Gh{l:OpenLaw}{n:Nat}(hn:l.most=some n){P:Params}{h:Heap}{args:List WData}{vals:List Value}
  (hpre:l.row.toRowW.claim.pre args=true)(hwl:WellAll P h vals args):
  ∃a vs ns,vals=[Value.ref a]/\args=[WData.list (ns.map WData.int)]/\h.get? a=some {cls:=.type "list",data:=.seq vs.toArray}/\IntsAre vs ns/\ns.length<=n:=by
 have hsh:WShape.hasAll [] args [.list .int]=true:=(pre_splitW hpre).1
 have hc:l.pre.holds [] {args:=args}=true:=(pre_splitW hpre).2
 obtain⟨d,r,rfl,h1,h2⟩:=hasAllW_cons hsh
 obtain rfl:=hasAllW_nil h2
 obtain⟨xs,rfl,h3⟩:=hasW_list h1
 obtain⟨ns,rfl⟩:=items_int h3
 have hlen:ns.length<=n:=by
  unfold OpenLaw.pre at hc
  have h4:(WTm.not (.lt (.lit (.int (n:Int))) (.len (.arg 0)))).holds [] {args:=[.list (ns.map .int)]}=true:=by
   have h4:=(holds_andW hc).1
   rw[hn]at h4
   exact h4
  have h5:=condW_of h4 (w_not (w_lt w_lit (w_len_list (w_arg rfl))))
  rw[QAq]at h5
  refine Nat.le_of_not_lt fun q=>?_
  have q':(n:Int)< ((ns.length:Nat):Int):=by omega
  first
   |(rw[QFq q']at h5;exact absurd h5 (by decide))
   |(simp at h5;omega)
 cases hwl with
 |cons w1 w2=>
  cases w2
  cases w1 with
  |list ho hall=>exact⟨_,_,ns,rfl,rfl,ho,p7 ns _ hall,hlen⟩
def GC(l:OpenLaw)(args:List WData):l.row.toRowW.claim.post args (.bool true) args=true:=
 postW_of (r:=l.row.toRowW) (X:=(true==true))
  (show WShape.has [] (.bool true) .bool=true by first|rfl|decide|simp[WShape.has,WShape.arms,WShape.armsAll])
  (show(WTm.eq .res (.lit (.bool true))).value [] {args:=args,res:=some (.bool true),after:=args}=some (.bool (true==true))from w_eq_bool (w_res rfl) w_lit) rfl
def zq{l:OpenLaw}{n:Nat}{q:Program}{loose:List Str}{XP:QZz->Heap->Prop}{YP:World->Heap->Prop}{d:DefRec}
  (hn:l.most=some n)(hdf:d.params.defaults=[])
  (call:∀(w:World)(s₀ s₁:Shared)(mg mb:QZz)(fa:Addr)(o:Obj)(pm cd doc:Value)(a:Addr)(vs:List Value)(ns:List Int),
   Ground q loose [] XP w s₀ mg mb s₁.heap->YP w s₁.heap->
   s₁.heap.get? fa=some o->o.data=.func (docDef d.name d.params d.body d.scope pm cd doc)->s₁.heap.CodeRec cd d.name->mg d.name=some (.ref fa)->
   s₁.heap.get? a=some {cls:=.type "list",data:=.seq vs.toArray}->IntsAre vs ns->ns.length<=n->s₁.gens= #[]->
   codeAny (model l.prog w) callerA (.call (.ref fa) ⟨[.ref a],[]⟩) (fun r s'=>r=.ok (.ret (.bool true))/\OldK s₁.heap s'.heap/\s'.os=s₁.os/\AllBare s'.gens) s₁):
  WalkO q loose XP YP l.row.toRowW d [] (fun f vs=>PySem.call f vs):=by
 intro w s₀ s₁ mg mb G Y fa o pm cd doc dV kV ho hd hcd hD hmg hg args vals as hpre hlay hrd hwl hlo
 obtain rfl:dV=.none:=Dflts.none hD hdf
 obtain rfl:kV=.none:=Dflts.noKw hD
 obtain⟨a,vs,ns,rfl,rfl,hobj,hints,hlen⟩:=Gh hn hpre hwl
 refine enter_call (codeAny_mono (call w s₀ s₁ mg mb fa o pm cd doc a vs ns G Y ho (fd_plain hd) hcd hmg hobj hints hlen hg) fun r s' hq=>?_)
 obtain⟨rfl,h2,h3,h4⟩:=hq
 exact⟨.inl ⟨.bool true,.bool true,[],rfl,fun _=>rfl,.bool true,GC l _,fun _=>⟨List.Pairwise.nil,fun _ hm=>(nomatch hm)⟩⟩,h2,h3,h4⟩
section
variable{prog:Program}{w:World}{A:Around}{E:QZq}{s:Shared}{K:Frag}
end
end Att
namespace L2
open PySem PySem.Spec PyProof.Rows
theorem ut:∀{vs:List Value}{ns:List Int},IntsAre vs ns->Vals (ns.map V.int) vs
 |_,_,.nil=>.nil
 |_,_,.cons n t h=>.cons ⟨t,rfl⟩ (ut h)
def Only(H:Hp):Prop:=∀b,H b=none\/∃o xs,H b=some (.frz o (.lst xs))
variable{fd:FuncData}{x:Str}
theorem KC{P:Program}{w:World}{K:QQq}{mg mb:QZz}{CX:H8}{k:Nat}{fa a:Addr}{sp:Sp}{s₁:Shared}{vs:List Value}{ns:List Int}
  (KX:K.In s₁.heap)(hns:s₁.heap.Ns mainGlobals mg)(hb:s₁.heap.Ns builtinsNs mb)(hbb:∀x:Str,x≠"__name__"->mb x=bootBuiltins x)(hlim:s₁.heap.NoLimit)(hg:s₁.gens= #[])
  (ha:s₁.heap.get? a=some {cls:=.type "list",data:=.seq vs.toArray})(hi:IntsAre vs ns)(hl:ns.length<=sizeLine)(hr:jz k callerA)
  (F:∀base:Heap,K.In base->base.Ns mainGlobals mg->pC P w K mg base CX k fa fd [x] sp)(hbind:∀(s:Shared)(u:Value),BindsTo s fd ⟨[u],[]⟩ [(x,u)])
  (hsp:∀H:Hp,Only H->jm K H a (ns.map V.int)->sp [.ref a] H (fun v _=>v=.bl true) fun _ _ _=>False)
  (hCX:∀H e s',CX [] H s₁ (fun _ _ _=>False) e s'->False):
  codeAny (model P w) callerA (.call (.ref fa) ⟨[.ref a],[]⟩) (fun r s'=>r=.ok (.ret (.bool true))/\OldK s₁.heap s'.heap/\s'.os=s₁.os/\AllBare s'.gens) s₁:=by
 have rv:=ut hi
 have lenV:=hi.length
 have core:∀H:Hp,Only H->jm K H a (ns.map V.int)->mG P w H s₁.heap->(∀b,H b≠none->b=a)->(H a≠none->K.lookup a=none)->
   codeAny (model P w) callerA (.call (.ref fa) ⟨[.ref a],[]⟩) (fun r s'=>r=.ok (.ret (.bool true))/\OldK s₁.heap s'.heap/\s'.os=s₁.os/\AllBare s'.gens) s₁:=by
  intro H hO hS hok hA hK
  have nM:∀{b:Addr}{o:Obj},s₁.heap.get? b=some o->H b=none->(wB s₁.heap H).get? b=some o:=fun e n=>Lh e n
  have noA:∀{b:Addr}{o:Obj}{es:Array DictEntry}{ep:Nat},s₁.heap.get? b=some o->o.data=.dict es ep->H b=none:=fun{b o es ep}e d=>by
   cases q:H b with
   |none=>rfl
   |some u=>
    have e':b=a:=hA b (by rw[q];simp)
    subst e'
    rw[ha]at e;cases e
    have d':Data.seq vs.toArray _=Data.dict es ep:=d
    cases d'
  have nsK:∀{b:Addr}{m:QZz},s₁.heap.Ns b m->(wB s₁.heap H).Ns b m:=fun{b m}⟨o,es,ep,e,d,r⟩=>⟨o,es,ep,nM e (noA e d),d,r⟩
  have hKb:K.In (wB s₁.heap H):=fun b o e=>nM (KX b o e) (by
   cases q:H b with
   |none=>rfl
   |some u=>
    have e':b=a:=hA b (by rw[q];simp)
    subst e'
    rw[hK (by rw[q];simp)]at e;cases e)
  have hM:Mod K mg (wB s₁.heap H):=⟨hKb,nsK hns,⟨mb,nsK hb,hbb⟩,let ⟨mc,h1,h2⟩:=hlim;⟨mc,nsK h1,h2⟩⟩
  have e0:Cd P w K mg (wB s₁.heap H) callerA [] s₁ H:=⟨rfl,hM,fun b o e=>QD e,Nat.le_of_eq (Hk _ _),trivial,fun b hb=>absurd (show b∈([]:List Addr)from hb) (by simp),hok,.of_eq hg⟩
  refine codeAny_mono ((F _ hKb (nsK hns)).run callerA [] s₁ H ⟨[.ref a],[]⟩ [.ref a] [.ref a] _ _ hr e0 (hbind s₁ (.ref a)) (.cons rfl .nil) (hsp H hO hS)) fun r s' h=>?_
  cases r with
  |error e=>exact(hCX H e s' h).elim
  |ok fl=>
   cases fl with
   |next=>exact False.elim h
   |brk=>exact False.elim h
   |cont=>exact False.elim h
   |ret u=>
    obtain⟨v,H',os,bare,un,hok',r',q⟩:=h
    have q':v=.bl true:=q
    subst q'
    obtain rfl:u=Value.bool true:=r'
    refine⟨rfl,OldK.of_keep fun b o e=>?_,os,bare⟩
    cases q:H b with
    |none=>exact un.keep b o e q (by intro z;exact absurd (show b∈([]:List Addr)from z) (by simp)) (by simp)
    |some u=>
     rcases hO b with z|⟨ob,xs,z⟩
     ·rw[q]at z;cases z
     ·have z2:=un.frzs b ob _ z
      obtain⟨e1,_⟩:=hok b _ z
      obtain⟨e2,_⟩:=hok' b _ z2
      rw[e]at e1;cases e1
      exact e2
 cases hk:K.lookup a with
 |some o=>
  have e:=KX a o hk
  rw[ha]at e
  cases e
  refine core (fun _=>none) (fun _=>.inl rfl) (.inr ⟨_,vs.toArray,_,hk,rfl,rfl,rfl,by rw[Qyq,lenV];exact hl,by simpa using rv⟩) (fun b u z=>by have z':(none:Option HO)=some u:=z;cases z') (fun b z=>absurd rfl z) fun z=>absurd rfl z
 |none=>
  refine core (fun b=>if b=a then some (.frz {cls:=.type "list",data:=.seq vs.toArray} (.lst (ns.map V.int)))else none) (fun b=>?_) (.inl (.inr ⟨{cls:=.type "list",data:=.seq vs.toArray},if_pos rfl⟩)) (fun b u z=>?_) (fun b z=>?_) fun _=>hk
  ·by_cases hb:b=a
   ·exact .inr ⟨_,_,if_pos hb⟩
   ·exact .inl (if_neg hb)
  ·by_cases hb:b=a
   ·have z':=(if_pos hb).symm.trans z
    cases z'
    subst hb
    exact⟨ha,by rw[QAq];exact hl,vs,_,rv,ha⟩
   ·have z':=(if_neg hb).symm.trans z
    cases z'
  ·by_cases hb:b=a
   ·exact hb
   ·exact absurd (if_neg hb) z
def Oc{l:PySem.W.OpenLaw}{n k:Nat}{q:Program}{loose:List Str}{XP:QZz->Heap->Prop}{YP:World->Heap->Prop}{d:DefRec}{K:Params->QQq}{CX:World->H8}{sp:World->Sp}
  (hn:l.most=some n)(hn2:n<=sizeLine)(hdf:d.params.defaults=[])(hr:jz k callerA)
  (hY:∀(w:World)(h:Heap),YP w h->(K w.params).In h)
  (F:∀(w:World)(mg:QZz)(fa:Addr)(h:Heap),(K w.params).In h->h.Ns mainGlobals mg->mg d.name=some (.ref fa)->
   ∃fd:FuncData,(∀(s:Shared)(u:Value),BindsTo s fd ⟨[u],[]⟩ [(x,u)])/\
    ∀base:Heap,(K w.params).In base->base.Ns mainGlobals mg->pC l.prog w (K w.params) mg base (CX w) k fa fd [x] (sp w))
  (hsp:∀(w:World)(H:Hp)(a:Addr)(ns:List Int),ns.length<=n->Only H->jm (K w.params) H a (ns.map V.int)->sp w [.ref a] H (fun v _=>v=.bl true) fun _ _ _=>False)
  (hCX:∀(w:World)(H:Hp)(s:Shared)(e:Value)(s':Shared),CX w [] H s (fun _ _ _=>False) e s'->False):
  PySem.W.WalkO q loose XP YP l.row.toRowW d [] (fun f vs=>PySem.call f vs):=by
 refine Att.zq hn hdf fun w s₀ s₁ mg mb fa o pm cd doc a vs ns G Y ho hd hcd hmg hobj hints hlen hg=>?_
 have KX:=hY w _ Y
 obtain⟨fd,hb,hF⟩:=F w mg fa _ KX G.T.g hmg
 exact KC KX G.T.g G.T.b G.T.builtins G.T.nolimit hg hobj hints (Nat.le_trans hlen hn2) hr hF hb (fun H hO hS=>hsp w H a ns hlen hO hS) fun H e s'=>hCX w H s₁ e s'
abbrev H9:H8:=fun _ _ _ _ _ _=>False
abbrev E0:XK:=fun _ _ _=>False
def abg{X:Cx}:BZ H9 X E0:=fun _ _ _ _ _ _ _ h=>h.elim
structure Yx(K:QQq)(x qual:Str)(st:Stmt)(f:Addr)(fd:FuncData):Prop where
 ex:∃(oc:Value)(od:Option Addr)(kV doc pm:Value)(an:Option Addr)(cdv ct:Value)(osl:Array (Option Value)),
  fd=PySem.W.fnOf x qual (dJ st) (dI st) (bu st) .none kV doc pm an cdv ct/\K.lookup f=some ⟨oc,od,.func fd,osl⟩/\PySem.W.codeIn K cdv qual=true
 kp:PySem.W.keepIn K (.ref f)=true
variable{f:Addr}{qual:Str}
section
variable{P:Program}{w:World}{K:QQq}{mg:QZz}{base:Heap}
def Yx.ok{st:Stmt}{N ps:List Str}{k:Nat}{sp:Sp}(F:Yx K x qual st f fd)(S:lA N ps (bu st))(len:∀vs H Q E,sp vs H Q E->vs.length=ps.length)
  (hbody:∀(cdv:Value)(A:Around)(outer:List Env)(s:Shared)(H:Hp)(vs:List V)(Q:VK)(E:XK),jz k (A.deeper (envOfC qual (bu st) s.heap.objs.size f cdv))->sp vs H Q E->
   ∃t,w6 (Bq H9 P w K mg base N qual (bu st) f cdv A outer s H E).nox (dI st) t/\t {nx:=fun _ H'=>Q .non H',rt:=Q} (start N vs) H):pC P w K mg base H9 (k+1) f fd ps sp:=by
 obtain⟨oc,od,kV,doc,pm,an,cdv,ct,osl,rfl,lk,hcd⟩:=F.ex
 refine acb lk hcd S len fun A outer s H vs Q E hr hsp=>?_
 obtain⟨t,h,q⟩:=hbody cdv A outer s H vs Q E hr hsp
 exact⟨t,h.nox,q⟩
def Yx.binds{st:Stmt}{ps:List Str}(F:Yx K x qual st f fd)
  (h:∀(kV doc pm:Value)(an:Option Addr)(cdv ct:Value)(us:List Value),us.length=ps.length->bindArgs (PySem.W.fnOf x qual (dJ st) (dI st) (bu st) .none kV doc pm an cdv ct) ⟨us,[]⟩=pure (ps.zip us)):Binds K fd ps []:=by
 obtain⟨oc,od,kV,doc,pm,an,cdv,ct,osl,rfl,lk,hcd⟩:=F.ex
 exact .all (h kV doc pm an cdv ct)
def X4{st:Stmt}{oc:Value}{od an:Option Addr}{osl:Array (Option Value)}{kV doc pm cdv ct:Value}(l:K.lookup f=some ⟨oc,od,.func (PySem.W.fnOf x qual (dJ st) (dI st) (bu st) .none kV doc pm an cdv ct),osl⟩)
  (c:PySem.W.codeIn K cdv qual=true)(k:PySem.W.keepIn K (.ref f)=true):Yx K x qual st f (PySem.W.fnOf x qual (dJ st) (dI st) (bu st) .none kV doc pm an cdv ct):=⟨⟨oc,od,kV,doc,pm,an,cdv,ct,osl,rfl,l,c⟩,k⟩
end
def Gg{n:Nat}(h:n<=1000):n<sizeLine:=Nat.lt_of_le_of_lt h (by decide)
section
variable{X:Cx}
end
def zA(H H':Hp):Prop:=∀b o,H b=some o->H' b=some o
variable{H:Hp}
def zA.trans{H1 H2:Hp}(a:zA H H1)(b:zA H1 H2):zA H H2:=fun c o h=>b c o (a c o h)
def zA.free{H':Hp}(e:zA H H'){l:Addr}(h:H' l=Option.none):H l=Option.none:=by
 cases q:H l with
 |none=>rfl
 |some o=>
  rw[e l o q]at h
  cases h
def zA.seq{K:QQq}{H':Hp}{a:Addr}{xs:List V}(e:zA H H')(h:jm K H a xs):jm K H' a xs:=by
 rcases h with (h|⟨o,h⟩)|h
 ·exact .inl (.inl (e _ _ h))
 ·exact .inl (.inr ⟨o,e _ _ h⟩)
 ·exact .inr h
end L2
end
section
namespace Mini
open PySem L2 PySem.SeqAt
def p6:Bool->Value->Bool
 |b,.bool c=>c==b
 |_,_=>false
variable{b:Bool}{v:Value}
def kW(h:p6 b v=true):v=.bool b:=by
 cases v<;>simp_all[p6]
variable{Q:Bool->Shared->Prop}{a:Addr}
section
variable{prog:Program}{w:World}{A:Around}{E:QZq}{s:Shared}
def Hl{Q:Int->Shared->Prop}(h:Q (bh b) {s with toks:=s.toks+1}):wpAny (model prog w) A (pyHash (.bool b)) Q E s:=by
 refine PySem.W.pyHash_slot (T:="bool") rfl F.slot_bool_hash entry_int_hash (args_int_hash _) (beq_builtin_none _) (.inl rfl) ?_
 cases b
 ·exact(show wpAny _ _ (mkInt 0>>=fun x=>ret x) _ _ s from QKq (wpAny_mkInt (QKz ⟨_,_,rfl,h⟩)))
 ·exact(show wpAny _ _ (mkInt 1>>=fun x=>ret x) _ _ s from QKq (wpAny_mkInt (QKz ⟨_,_,rfl,h⟩)))
def Mf{a:Bool}{u:Value}(h:p6 a u=true)(g:p6 b v=true)(q:Q (decide (a=b)) s):wpAny (model prog w) A (eqBool u v) Q E s:=by
 rw[kW h,kW g]
 refine EqAt.bool_bool a b _ _ _ _ ?_
 have e:(a==b)=decide (a=b):=by cases a<;>cases b<;>rfl
 rw[e]
 exact q
def Lb(v:Value)(a b:Bool)(h:p6 a v=true)(g:p6 b v=true):a=b:=by
 have:=kW h
 rw[kW g]at this
 cases this
 rfl
def La(k:Bool)(x:Str)(t:Tok)(v:Value)(h:p6 k (.str x t)=true):p6 k v=v.isStr x:=by cases h
def K9(k:Bool)(v:Value)(h:p6 k v=true):carriedByValue v=true:=by rw[kW h];rfl
def fK(prog:Program)(w:World):KeyKind prog w Bool:=⟨p6,bh,Lb,K9,fun h q=>by rw[kW h];exact Hl q,fun h g q=>Mf h g q,La⟩
def pB(prog:Program)(w:World)(h:Heap)(k:SK)(a:Addr):Prop:=∃b t,h.IsTuple a #[.ref b,.int k.2 t]/\IsTupleKey (fK prog w) h k.1 b
def zT(prog:Program)(w:World)(k:SK):Int:=reduceHash (Builtin.Tuple.tupleHashOf [tupleKeyHash (fK prog w) k.1,hashInt k.2])
def QX{k:SK}{Q:Int->Shared->Prop}(hu:A.units+1<cLine)(x:pB prog w s.heap k a)(h:Q (zT prog w k) {s with toks:=s.toks+(k.1.length+3)}):wpAny (model prog w) A (pyHash (.ref a)) Q E s:=by
 obtain⟨b,t,⟨o,ho,hc,n,hd⟩,kb⟩:=x
 have hu0:A.units<cLine:=by omega
 refine PySem.W.pyHash_slot (T:="tuple") ⟨o,ho,hc⟩ F.slot_tuple_hash F.entry_tuple_hash (F.args_tuple_hash_1 _) (beq_builtin_none _) (.inr hu0) ?_
 show wpAny _ A.in1 (Builtin.Tuple.tupleItemsOf (.ref a)>>=_) _ _ s
 refine QKq (wpAny_tupleItemsOf (n:=n) ho hd (QKq ?_))
 rw[<-Array.forIn_toList,List.forIn_cons]
 refine QKq (QKq (wpAny_pyHash_tuple (show A.in1.units<cLine from hu) kb ?_))
 refine QKz ?_
 show wpAny _ A.in1 (forIn [Value.int k.2 t] _ _) _ E _
 rw[List.forIn_cons]
 refine QKq (QKq (wpAny_pyHash_int (QKz ?_)))
 show wpAny _ A.in1 (forIn ([]:List Value) _ _) _ E _
 rw[List.forIn_nil]
 refine QKz (show wpAny _ A.in1 (mkInt (Builtin.Tuple.tupleHashOf [tupleKeyHash (fK prog w) k.1,hashInt k.2])>>=fun x=>ret x) _ E _ from QKq (wpAny_mkInt (QKz ⟨_,_,rfl,?_⟩)))
 unfold zT at h
 simpa[Nat.add_assoc]using h
def yL{P P':Program}{W W':World}{ks:List Bool}{vs:List Value}(x:ItemsAre (fK P W) ks vs):ItemsAre (fK P' W') ks vs:=by
 induction x with
 |nil=>exact .nil
 |cons a _ ih=>exact .cons a ih
theorem pB.inj{h:Heap}{a:Addr}{x y:SK}(g:pB prog w h x a)(f:pB prog w h y a):x=y:=by
 obtain⟨b,t,⟨o,ho,hc,n,hd⟩,kb⟩:=g
 obtain⟨b',t',⟨o',ho',hc',n',hd'⟩,kb'⟩:=f
 rw[ho]at ho'
 cases ho'
 rw[hd]at hd'
 simp only[Data.seq.injEq,Array.mk.injEq,List.cons.injEq,Value.ref.injEq,Value.int.injEq,and_true]at hd'
 obtain⟨⟨rfl,e,_⟩,_⟩:=hd'
 exact Prod.ext (kb.inj kb') e
def IsTuple.keep{h h':Heap}{d:Addr}{its:Array Value}{o:Obj}{es:Array DictEntry}{ep:Nat}(x:h.IsTuple a its)(ho:h.get? d=some o)(hd:o.data=.dict es ep)(hs:Heap.SameBut d h h'):h'.IsTuple a its:=by
 obtain⟨o',ho',hc,n,hd'⟩:=x
 have ne:a≠d:=fun z=>by
  subst z
  rw[ho]at ho'
  cases ho'
  rw[hd]at hd'
  cases hd'
 exact⟨o',(hs.2 a ne).trans ho',hc,n,hd'⟩
theorem pB.keep{h h':Heap}{k:SK}{a d:Addr}{o:Obj}{es:Array DictEntry}{ep:Nat}(x:pB prog w h k a)(ho:h.get? d=some o)(hd:o.data=.dict es ep)(hs:Heap.SameBut d h h'):pB prog w h' k a:=by
 obtain⟨b,t,g,kb⟩:=x
 exact⟨b,t,IsTuple.keep g ho hd hs,kb.keeps ho hd hs⟩
def acf{x y:SK}{b:Addr}(hu:A.units+1<cLine)(g:pB prog w s.heap x a)(f:pB prog w s.heap y b)(q:Q (decide (x=y)) s):wpAny (model prog w) A (eqBool (.ref a) (.ref b)) Q E s:=by
 by_cases c:a=b
 ·subst c
  have:=g.inj f
  subst this
  exact EqAt.same _ _ _ _ _ (by simpa using q)
 ·obtain⟨a1,t,ga,ka⟩:=g
  obtain⟨b1,u,gb,kb⟩:=f
  have e0:EqAt A.in1 s (.ref a1) (.ref b1) (decide (x.1=y.1)):=fun P W E' Q' q'=>by
   have mv:∀{ks:List Bool}{c:Addr},IsTupleKey (fK prog w) s.heap ks c->IsTupleKey (fK P W) s.heap ks c:=fun z=>let ⟨o,its,n,h1,h2,h3,h4⟩:=z;⟨o,its,n,h1,h2,h3,yL h4⟩
   exact wpAny_eqBool_tuple (show A.in1.units<cLine from hu) (mv ka) (mv kb) q'
  have rc:=RcAt.tuples (A:=A) (e:=fun j=>if j=0 then decide (x.1=y.1)else x.2==y.2) ga gb (by omega) fun j h1 h2=>by
   match j,h1,h2 with
   |0,_,_=>exact e0
   |1,_,_=>exact EqAt.int_int _ _ _ _
  refine EqAt.of_refs c rc _ _ _ _ ?_
  have:((List.range (min 2 2)).all (fun j=>if j=0 then decide (x.1=y.1)else x.2==y.2)&&2==2)=decide (x=y):=by
   obtain⟨x1,x2⟩:=x
   obtain⟨y1,y2⟩:=y
   by_cases p:x1=y1<;>by_cases r:x2=y2<;>simp[List.range,List.range.loop,p,r]
  show Q ((List.range (min 2 2)).all (fun j=>if j=0 then decide (x.1=y.1)else x.2==y.2)&&2==2) s
  rw[this]
  exact q
def uN{d:Nat}{its:Array Value}(x:s.heap.IsTuple a its)(hq:∀v∈its.toList,∀R:Bool->Shared->Prop,R true s->wpAny (model prog w) A (eqIsQuiet d v) R E s)(q:Q true s):
  wpAny (model prog w) A (eqIsQuiet (d+1) (.ref a)) Q E s:=by
 obtain⟨o,ho,hc,n,hd⟩:=x
 have hT:s.TypeIs (.ref a) "tuple":=⟨o,ho,hc⟩
 unfold eqIsQuiet
 refine QKq (wpAny_specialOf hT F.slot_tuple_eq.lookup (show wpAny _ A (isInstance (.ref a) (.type "tuple")>>=_) _ E s from QKq (wpAny_isInstance hT isSubtype_tuple_tuple ?_)))
 rw[if_neg (by decide)]
 refine QKq (wpAny_seqItems (n:=n) ho hd (QKq ?_))
 show wpAny _ A (forIn its _ _) _ E s
 rw[<-Array.forIn_toList]
 refine wpAny_forIn_list _ (fun rest r s'=>s'=s/\r=(none,())/\∀v∈rest,v∈its.toList) _ (fun v rest r s'=>?_) (fun r s'=>?_) _ _ ⟨rfl,rfl,fun v hv=>hv⟩
 ·rintro ⟨rfl,rfl,hm⟩
  exact QKq (hq v (hm v QYz) _ (QKz ⟨rfl,rfl,fun u hu=>hm u (QYq _ hu)⟩))
 ·rintro ⟨rfl,rfl,_⟩
  exact QKz q
def uM(d:Nat)(hv:carriedByValue v=true){R:Bool->Shared->Prop}(r:R true s):wpAny (model prog w) A (eqIsQuiet d v) R E s:=by
 rw[eqIsQuiet_byValue d hv]
 exact QKz r
def JK{k:SK}(x:pB prog w s.heap k a)(q:Q true s):wpAny (model prog w) A (eqIsQuiet 8 (.ref a)) Q E s:=by
 obtain⟨b,t,g,o,its,n,h1,h2,h3,h4⟩:=x
 refine uN g (fun v hv R r=>?_) q
 simp only[QCq,QAz,or_false]at hv
 rcases hv with rfl|rfl
 ·exact uN ⟨o,h1,h2,n,h3⟩ (fun v hv R r=>uM _ (h4.byValue v hv) r) r
 ·exact uM _ rfl r
noncomputable def jJ(prog:Program)(w:World):HeapKind prog w SK where
 is:=pB prog w
 hash:=zT prog w
 draws:=fun k=>k.1.length+3
 room:=fun A=>A.units+1<cLine
 inj:=fun g f=>g.inj f
 keeps:=fun x ho hd hs=>x.keep ho hd hs
 pyHash:=fun hu x q=>QX hu x q
 eqBool:=fun hu g f q=>acf hu g f q
 quiet:=fun x q=>JK x q
end
end Mini
end
section
namespace Mini
open PySem L2
abbrev sD(xs:List SV):HO:=.dS xs
def cF(K:QQq)(H:Hp)(k:SK)(a:Addr):Prop:=∃b,iy K H a [.ref b,.int k.2]/\iy K H b (k.1.map .bl)
def yF(k:SK):List SV->Option V
 |[]=>none
 |x::xs=>if x.1=k then some x.2.2 else yF k xs
def ud(k:SK)(a:Addr)(v:V)(xs:List SV):List SV:=if (yF k xs).isSome then xs.map (fun x=>if x.1=k then(x.1,x.2.1,v)else x)else xs++[(k,a,v)]
theorem qi:∀{xs:List SV}{ys:List (SK×Addr×Value)},Paired NT xs ys->ys.map (·.1)=xs.map (·.1)
 |_,_,.nil=>rfl
 |_,_,.cons h t=>by simp[qi t,h.1]
theorem yE{k:SK}:∀{xs:List SV}{ys:List (SK×Addr×Value)},Paired NT xs ys->nQ (yF k xs) ((atKey ys k).map (·.2))
 |_,_,.nil=>trivial
 |x::xs,y::ys,.cons h t=>by
  have ih:=yE (k:=k) t
  simp only[yF,atKey,List.find?_cons]
  rw[h.1]
  by_cases c:y.1=k
  ·simp only[c,if_true,decide_true,Option.map_some]
   exact h.2.2
  ·simp only[c,if_false,decide_false]
   exact ih
variable{P:Program}{Q:QZq}{v:V}
section
variable{X:Cx}{Q0q:QQz}{σ:L2.St}{H:Hp}{s:Shared}{A:Around}{E:QZq}{d a:Addr}{k:SK}{xs:List SV}
theorem yM{P:Program}{W:World}:∀{bs:List Bool}{us:List Value},Vals (bs.map V.bl) us->ItemsAre (fK P W) bs us
 |[],_,r=>by cases r;exact .nil
 |b::bs,_,r=>by
  cases r with
  |cons h t=>
   cases h
   exact .cons (by show p6 b (.bool b)=true;simp[p6]) (yM t)
def oN(I:L2.Inv X Q0q σ H s)(h:cF X.K H k a):pB X.prog X.w s.heap k a:=by
 obtain⟨b,h1,h2⟩:=h
 obtain⟨its,r,p,_⟩:=I.tuple h1
 obtain⟨its2,r2,p2,_⟩:=I.tuple h2
 obtain⟨u,v,rfl,ru,rv⟩:=Vals.two r
 cases ru
 obtain⟨t,rfl⟩:=rv
 obtain⟨o,q1,q2,n,q3⟩:=p2
 exact⟨b,t,p,o,its2.toArray,n,q1,q2,q3,yM r2⟩
def nA(I:L2.Inv X Q0q σ H s)(hd:Rd H d (sD xs))(hk:∀x∈xs,cF X.K H x.1 x.2.1):∃ys,Paired NT xs ys/\s.heap.DictOfH (jJ X.prog X.w) d ys/\(d==sysModules)=false/\xs.length<=sizeLine:=by
 obtain⟨z,y,nd,ys,o,es,ep,pr,h1,h2,h3,h4⟩:=(show bW X.prog X.w H s.heap d (.dS xs)from CN I.hok hd)
 refine⟨ys,pr,⟨o,es,ep,h1,h2,h3,h4,?_,by rw[qi pr];exact nd⟩,y,z⟩
 have go:∀{xs:List SV}{ys:List (SK×Addr×Value)},Paired NT xs ys->(∀x∈xs,cF X.K H x.1 x.2.1)->∀y∈ys,pB X.prog X.w s.heap y.1 y.2.1:=by
  intro xs ys pr
  induction pr with
  |nil=>intro _ y hy;cases hy
  | @cons x y xs ys h t ih=>
   intro hk q hq
   rcases QCq.mp hq with rfl|hq
   ·rw[<-h.1,<-h.2.1];exact oN I (hk x QYz)
   ·exact ih (fun z hz=>hk z (QYq _ hz)) q hq
 exact go pr hk
def aeB(hu:A.units+2<cLine)(I:L2.Inv X Q0q σ H s)(hd:Rd H d (sD xs))(hk:∀x∈xs,cF X.K H x.1 x.2.1)(ha:cF X.K H k a)(h:∀s',L2.Inv X Q0q σ H s'->Q (.bool (yF k xs).isSome) s'):
  wpAny (model X.prog X.w) A (compareOp .In (.ref a) (.ref d)) Q E s:=by
 obtain⟨ys,pr,dd,y,z⟩:=nA I hd hk
 refine wpAny_in_heap (knd:=jJ X.prog X.w) (show A.in1.units+1<cLine from hu) (oN I ha) y dd ?_
 have e:(atKey ys k).isSome=(yF k xs).isSome:=by rw[(yE (k:=k) pr).dU];simp
 rw[e]
 exact h _ (I.tok _)
def Ph(hu:A.units+2<cLine)(I:L2.Inv X Q0q σ H s)(hd:Rd H d (sD xs))(hk:∀x∈xs,cF X.K H x.1 x.2.1)(ha:cF X.K H k a)(h:∀s',L2.Inv X Q0q σ H s'->Q (.bool (!(yF k xs).isSome)) s'):
  wpAny (model X.prog X.w) A (compareOp .NotIn (.ref a) (.ref d)) Q E s:=by
 obtain⟨ys,pr,dd,y,z⟩:=nA I hd hk
 refine PyProof.Rows.wpAny_notIn_heap (knd:=jJ X.prog X.w) (show A.in1.units+1<cLine from hu) (oN I ha) y dd ?_
 have e:(atKey ys k).isSome=(yF k xs).isSome:=by rw[(yE (k:=k) pr).dU];simp
 rw[e]
 exact h _ (I.tok _)
def Gj(hu:A.units+2<cLine)(I:L2.Inv X Q0q σ H s)(hd:Rd H d (sD xs))(hk:∀x∈xs,cF X.K H x.1 x.2.1)(ha:cF X.K H k a)(hv:yF k xs=some v)(h:∀u s',L2.Inv X Q0q σ H s'->RelV v u->Q u s'):
  wpAny (model X.prog X.w) A (getItem (.ref d) (.ref a)) Q E s:=by
 obtain⟨ys,pr,dd,y,z⟩:=nA I hd hk
 obtain⟨u,hw,ru⟩:=nQ.some_of (v:=v) (o:=(atKey ys k).map (·.2)) (by rw[<-hv];exact yE pr)
 obtain⟨p,hp,rfl⟩:=QJz.mp hw
 exact wpAny_getItem_heap (knd:=jJ X.prog X.w) (show A.in1.units+1<cLine from hu) (oN I ha) dd hp (h _ _ (I.tok _) ru)
def yo{r:Value}(rv:RelV v r){ys:List (SK×Addr×Value)}(pr:Paired NT xs ys):Paired NT (ud k a v xs) (storedH ys k a r):=by
 have e:(atKey ys k).isSome=(yF k xs).isSome:=by rw[(yE (k:=k) pr).dU];simp
 unfold ud storedH
 rw[e]
 split
 ·rename_i z
  clear e z
  induction pr with
  |nil=>exact .nil
  | @cons x y xs ys h t ih=>
   refine .cons ?_ ih
   show NT (if x.1=k then(x.1,x.2.1,v)else x) (putAt k r y)
   unfold putAt
   by_cases c:y.1=k
   ·rw[if_pos c,if_pos (h.1.trans c)];exact⟨h.1,h.2.1,rv⟩
   ·rw[if_neg c,if_neg fun q=>c (h.1.symm.trans q)];exact h
 ·exact Paired.snoc pr ⟨rfl,rfl,rv⟩
def Qc(v:V):(ud k a v xs).length<=xs.length+1:=by
 unfold ud
 split<;>simp
def SN{w:World}{H':Hp}{h':Heap}{ys:List (SK×Addr×Value)}(z:xs.length<=sizeLine)(y:(d==sysModules)=false)(pr:Paired NT xs ys)(dd:h'.DictOfH (jJ P w) d ys):bW P w H' h' d (sD xs):=by
 obtain⟨o,es,ep,h1,h2,h3,h4,h5,h6⟩:=dd
 exact⟨z,y,by rw[<-qi pr];exact h6,ys,o,es,ep,pr,h1,h2,h3,h4⟩
def Gi{r:Value}{Q:Unit->Shared->Prop}(hu:A.units+2<cLine)(I:L2.Inv X Q0q σ H s)(hd:H d=some (sD xs))(hk:∀x∈xs,cF X.K H x.1 x.2.1)(ha:cF X.K H k a)(hl:xs.length<sizeLine)(rv:RelV v r)
  (h:∀s',L2.Inv X Q0q σ (upd H d (sD (ud k a v xs))) s'->Q () s'):wpAny (model X.prog X.w) A (setItem (.ref d) (.ref a) r) Q E s:=by
 obtain⟨ys,pr,dd,y,z⟩:=nA I (.inl hd) hk
 have hz:ys.length<=sizeLine:=by
  have:=congrArg List.length (qi pr)
  simp at this
  omega
 refine wpAny_setItem_heap (knd:=jJ X.prog X.w) (hsz:=hz) (show A.in1.units+1<cLine from hu) (oN I ha) dd fun h' dd' hs=>h _ ?_
 have he:∃q,h'.get? d=some q:=let ⟨q,_,_,hq,_⟩:=dd';⟨q,hq⟩
 have pl:=Qc (k:=k) (a:=a) (xs:=xs) v
 exact nD I (by rw[hd];exact True.intro) hs he (SN (by omega) y (yo rv pr) dd')
end
def FW{d:Addr}{x y:Value}{W:World}{A:Around}{E:QZq}{s:Shared}{Q:PUnit->Shared->Prop}(h:wpAny (model P W) A (dictSet d x y) (fun _ s'=>Q PUnit.unit s') E s):wpAny (model P W) A (storeAll d [(x,y)]) Q E s:=by
 unfold storeAll
 rw[List.forIn_cons]
 refine QKq (QKq (cA h fun _ s' q=>QKz ?_))
 show wpAny _ _ (forIn ([]:List (Value×Value)) PUnit.unit _) _ _ _
 rw[List.forIn_nil]
 exact QKz q
def aas(K:QQq)(mD:List (TE×TE)):TE:=fun σ H Q=>∀p,H p=none->vQ mD σ (upd H p (.dK [])) fun ps H2=>H2 p=some (.dK [])/\∃k a v,ps=[(.ref a,v)]/\cF K H2 k a/\Q (.ref p) (upd H2 p (sD [(k,a,v)]))
variable{h:Heap}
def bare{w:World}{a:Addr}(d:h.DictOf (cg P w) a []):h.DictOfH (jJ P w) a []:=by
 obtain⟨o,es,ep,h1,h2,h3,h4,h5,h6⟩:=d
 have e:es.toList=[]:=by
  cases q:es.toList with
  |nil=>rfl
  |cons x y=>rw[q]at h5;cases h5
 exact⟨o,es,ep,h1,h2,h3,by simp[e],fun x hx=>(nomatch hx),List.nodup_nil⟩
theorem Qn{X:Cx}{pos:Pos}{keys:List (Option Expr)}{values:List Expr}{mD:List (TE×TE)}(hu:X.A.units+2<cLine)(h:PPs X pos keys values mD)(hall:keys.all (·.isSome)=true)(hl:keys.length=values.length)(h0:keys≠[])
  (h15:keys.length<=15):PE X (.Dict keys values pos) (aas X.K mD):=by
 intro Q0q s σ H Q I q
 have hn:=I.hok.fresh (QVz s.heap.objs.size)
 have I1:=I.laid (a:=s.heap.objs.size) (o:=.dK []) (h':=s.heap.push {cls:=.type "dict",data:=.dict #[]}) (t':=s.toks) (fun _ _ q=>QWq _ q) (QVz _) (zb s.heap I.big)
 refine wpAny_Dict_any hall hl h0 h15 (cA (h Q0q _ σ _ _ I1 (q _ hn)) fun ws s2⟨ps,H2,I2,rel,e,z⟩=>?_)
 obtain⟨_,hd,vs0,r0,dd⟩:=Mj I2.hok e
 cases r0
 obtain⟨k,a,v,ep,ka,q2⟩:=z
 ·subst ep
  cases rel with
  | @cons _ b _ bs rv t=>
   cases t
   obtain⟨b1,b2⟩:=b
   obtain⟨r1,r2⟩:=rv
   cases r1
   refine FW (wpAny_dictSet_heap (knd:=jJ X.prog X.w) (hsz:=by simp) (show X.A.units+1<cLine by omega) (oN I2 ka) (bare dd) fun h' dd' hs=>?_)
   have he:∃q,h'.get? s.heap.objs.size=some q:=let ⟨q,_,_,hq,_⟩:=dd';⟨q,hq⟩
   refine⟨.ref s.heap.objs.size,_,nD I2 (by rw[e];exact True.intro) hs he (SN (by rw[sizeLine_eq];show 1<=_;decide) hd (yo r2 .nil) dd'),rfl,q2⟩
def qe(h:Heap)(d:Addr)(es:Array DictEntry)(ep:Nat):Prop:=∃o,h.get? d=some o/\o.ExactDict/\o.data=.dict es ep
section
variable{prog:Program}{w:World}{A:Around}{E:QZq}{s:Shared}{d it:Addr}{es:Array DictEntry}{i ep:Nat}
def HJ(y:(d==sysModules)=false)(B:qe s.heap d es ep)
  (q:Q (.ref s.heap.objs.size) {s with heap:=s.heap.push {cls:=.type "dict_keyiterator",data:=.fields #[.ref d,.int 0 0,.int es.size 0,.int ep 0]}}):wpAny (model prog w) A (pyIter (.ref d)) Q E s:=by
 obtain⟨o,h1,h2,h3⟩:=B
 have t:s.TypeIs (.ref d) "dict":=⟨o,h1,h2.1⟩
 refine wpAny_pyIter_slot t F.slot_dict_iter (Qzz F.slot_dict_iter t F.entry_dict_iter ?_ (F.args_dict_iter_1 _))
 unfold Builtin.«dict.__iter__» Builtin.Dict.dictSlotNone
 refine QKq (QKq (wpAny_notOrdered_dict t (QKz ?_)))
 show wpAny _ _ (Builtin.Dict.showsAll d>>=_) _ _ s;unfold Builtin.Dict.showsAll;rw[if_neg (by rw[y];decide)]
 refine QKq (QKz (QKq (wpAny_dictEntries h1 h3 (QKq (wpAny_dictEpoch h1 h3 ?_)))))
 refine QKq (Qjq (QKz ⟨_,rfl,"dict_keyiterator",_,⟨_,Qzq _ rfl,rfl⟩,F.slot_dict_keyiterator_next.lookup,q⟩))
def HN{e:DictEntry}{Q:Option Value->Shared->Prop}(st:s.heap.IsKeyIter it d i es.size ep)(B:qe s.heap d es ep)(x:es[i]? =some e)
  (q:∀h',h'.IsKeyIter it d (i+1) es.size ep->Heap.SameBut it s.heap h'->Q (some e.key) {s with heap:=h'}):wpAny (model prog w) A (pyNext (.ref it)) Q E s:=by
 obtain⟨o,g1,g2,g3⟩:=id st
 obtain⟨od,h1,h2,h3⟩:=B
 unfold pyNext
 refine QKq (wpAny_attempt (wpAny_callSpecial?_slot (name:=Str.ofString "__next__") st.typeIs F.slot_dict_keyiterator_next (Qzz F.slot_dict_keyiterator_next st.typeIs F.entry_dict_keyiterator_next ?_ (F.args_dict_keyiterator_next_1 _))))
 refine QKq (QKz (QKq (QKq ?_)))
 first|refine QKq (wpAny_typeNameOfWhole_keyiter st.typeIs (QKz ?_))|refine QKq (wpAny_typeNameOf_keyiter st.typeIs (QKz ?_))
 refine QKq (wpAny_fieldsOf g1 g3 ?_)
 simp only[show Builtin.Dict_items.ownsTuple "dict_keyiterator"=false by decide,Qxq,if_false]
 show wpAny _ _ (if (Value.ref d==Value.none)=true then _ else _) _ _ s;rw[if_neg (show¬((Value.ref d==Value.none)=true)from nofun)]
 refine QKq (QKz (QKq (wpAny_dictEntries h1 h3 ?_)))
 rw[if_neg (by simp)]
 refine QKq (QKz (QKq (wpAny_dictEpoch h1 h3 ?_)))
 rw[if_neg (by simp)]
 refine QKz ?_
 simp only[show¬((i:Int)<0) by omega,if_false,Int.toNat_natCast,x]
 refine QKq ?_
 first|refine QKq (wpAny_typeNameOfWhole_keyiter st.typeIs (QKz ?_))|refine QKq (wpAny_typeNameOf_keyiter st.typeIs (QKz ?_))
 refine QKq (wpAny_isOneOf_keyiter st.typeIs ?_)
 show wpAny _ _ (setField (.ref it) 1 (rawInt ((i:Int)+1))>>=_) _ _ s;refine QKq (wpAny_setField g1 g3 (by simp) ?_)
 have st':(s.heap.update it (Obj.mapFields (·.setIfInBounds 1 (rawInt ((i:Int)+1))))).IsKeyIter it d (i+1) es.size ep:=⟨_,Heap.get?_update_self _ g1 (Obj.isFreed_of_fields (Obj.data_mapFields g3 _)),(Obj.cls_mapFields ..).trans g2,by rw[Obj.data_mapFields g3];simp[rawInt]⟩
 refine QKq (Qqq (QKq (wpAny_isOneOf_keyiter (s:={s with heap:=s.heap.update it (Obj.mapFields (·.setIfInBounds 1 (rawInt ((i:Int)+1))))}) st'.typeIs ?_)))
 show wpAny _ _ (pure e.key) _ _ _
 exact QKz (QKz ⟨_,rfl,QKz (q _ st' (Heap.SameBut.update ..))⟩)
def M3{Q:Option Value->Shared->Prop}(hh:A.handled=none)(st:s.heap.IsKeyIter it d i es.size ep)(B:qe s.heap d es ep)(x:es.size<=i)
  (q:∀h',Heap.ExtBut it s.heap h'->Q none {s with heap:=h'}):wpAny (model prog w) A (pyNext (.ref it)) Q E s:=by
 obtain⟨o,g1,g2,g3⟩:=id st
 obtain⟨od,h1,h2,h3⟩:=B
 unfold pyNext
 refine QKq (wpAny_attempt (wpAny_callSpecial?_slot (name:=Str.ofString "__next__") st.typeIs F.slot_dict_keyiterator_next (Qzz F.slot_dict_keyiterator_next st.typeIs F.entry_dict_keyiterator_next ?_ (F.args_dict_keyiterator_next_1 _))))
 refine QKq (QKz (QKq (QKq ?_)))
 first|refine QKq (wpAny_typeNameOfWhole_keyiter st.typeIs (QKz ?_))|refine QKq (wpAny_typeNameOf_keyiter st.typeIs (QKz ?_))
 refine QKq (wpAny_fieldsOf g1 g3 ?_)
 simp only[show Builtin.Dict_items.ownsTuple "dict_keyiterator"=false by decide,Qxq,if_false]
 show wpAny _ _ (if (Value.ref d==Value.none)=true then _ else _) _ _ s;rw[if_neg (show¬((Value.ref d==Value.none)=true)from nofun)]
 refine QKq (QKz (QKq (wpAny_dictEntries h1 h3 ?_)))
 rw[if_neg (by simp)]
 refine QKq (QKz (QKq (wpAny_dictEpoch h1 h3 ?_)))
 rw[if_neg (by simp)]
 refine QKz ?_
 simp only[show¬((i:Int)<0) by omega,if_false,Int.toNat_natCast,Array.getElem?_eq_none x]
 refine QKq ?_
 first|refine QKq (wpAny_typeNameOfWhole_keyiter st.typeIs (QKz ?_))|refine QKq (wpAny_typeNameOf_keyiter st.typeIs (QKz ?_))
 show wpAny _ _ (setField (.ref it) 0 .none>>=_) _ _ s;refine QKq (wpAny_setField g1 g3 (by simp) ?_)
 show wpAny _ _ (newExc (.type "StopIteration") []>>=_) _ _ _;refine QKq ?_
 simp only[newExc,newTuple]
 refine QKq (Qjq (QKq (m:=firstArgMember _ _) (wpAny_of_eq (a:=Value.none) (by first|rfl|(simp only[firstArgMember];rfl)) ?_)) (by size_fits))
 refine Qjq ?_ (by size_fits);simp only[raiseNew]
 refine QKq (wpAny_handled ?_);rw[show A.in1.handled=none from hh]
 refine QKq (QKz (wpAny_throw ?_));refine QKq (wpAny_isInstance (T:="StopIteration") (b:=true) ⟨_,Qzq _ rfl,rfl⟩ isSubtype_stop ?_)
 exact QKz (q _ (((Heap.SameBut.update ..).extBut.push _).push _))
end
section
variable{prog:Program}{w:World}{A:Around}{E:QZq}{s:Shared}{d it:Addr}{es:Array DictEntry}{ep:Nat}
def qe.stay{h':Heap}(B:qe h d es ep)(k:∀o,h.get? d=some o->h'.get? d=some o):qe h' d es ep:=let ⟨o,e,r⟩:=B;⟨o,k _ e,r⟩
def qe.lt(B:qe h d es ep):d<h.objs.size:=let ⟨_,e,_⟩:=B;Qqz e
def qe.type(B:qe s.heap d es ep):s.TypeIs (.ref d) "dict":=let ⟨o,e,c,_⟩:=B;⟨o,e,c.1⟩
theorem BP(hh:A.handled=none)(ne:d≠it):Walks prog w A it [it,d] [it] es.size (fun i v=>∃e,es[i]? =some e/\v=e.key) (fun i h=>h.IsKeyIter it d i es.size ep/\qe h d es ep) where
 sub:=fun b hb=>QCq.mpr (.inl (QDz.mp hb))
 frame:=fun _ _ _ st k=>⟨st.1.at fun o e=>k it QYz o e,st.2.stay fun o e=>k d (QYq _ QYz) o e⟩
 item:=fun i s Q E hi st q=>HN st.1 st.2 (e:=es[i]) (Array.getElem?_eq_getElem hi) fun h' st' sb=>q _ h' s.toks ⟨es[i],Array.getElem?_eq_getElem hi,rfl⟩ ⟨st',st.2.stay fun o e=>(sb.2 d ne).trans e⟩ fun b o hb e=>(sb.2 b fun z=>hb (QDz.mpr z)).trans e
 done:=fun s Q E st q=>M3 hh st.1 st.2 (QVz _) fun h' eb=>q h' s.toks fun b o hb e=>eb b o (fun z=>hb (QDz.mpr z)) e
 self:=fun _ _ _ _ st q=>wpAny_pyIter_keyiter st.1 q
theorem MT(y:(d==sysModules)=false):PySem.W.KdlSrc prog w "dict" d d es.size (fun i v=>∃e,es[i]? =some e/\v=e.key) (fun h=>qe h d es ep) where
 type:=fun _ B=>B.type
 there:=fun _ B=>⟨B.lt,B.lt⟩
 keep:=fun _ _ B k=>B.stay fun o e=>k d (.inl rfl) o e
 notList:=by decide
 notTuple:=by decide
 hint:=fun _ _ _ _ B q=>PySem.W.kdl_hint_dict B.type q
 iter:=fun _ _ hh B=>⟨_,_,(fun _ _ q=>HJ y B q),BP hh (Qvz B.lt),⟨⟨_,Qzq _ rfl,rfl,rfl⟩,B.stay fun o e=>QWq _ e⟩⟩
end
section
variable{X:Cx}
def PK{P:Program}{w:World}:∀{xs:List SV}{ys:List (SK×Addr×Value)}{vs:List Value},Paired NT xs ys->vs=ys.map (fun y=>Value.ref y.2.1)->Vals (xs.map fun x=>V.ref x.2.1) vs:=by
 intro xs ys vs pr e
 subst e
 induction pr with
 |nil=>exact .nil
 |cons h t ih=>exact .cons (by show Value.ref _=Value.ref _;rw[h.2.1]) ih
def BJ(hc:X.calm=true):f9 X (.type "list") (fun xs H Q=>(∃p ys,xs=[.ref p]/\(jm X.K H p ys\/iy X.K H p ys)/\∀l,H l=none->Q (.ref l) (upd H l (.lst ys)))\/
  ∃a ks,xs=[.ref a]/\Rd H a (sD ks)/\∀l,H l=none->Q (.ref l) (upd H l (.lst (ks.map fun x=>.ref x.2.1)))):=by
 intro Q0q s σ H xs us Q I r h
 rcases h with h|⟨a,ks,rfl,e,q⟩
 ·exact wV Q0q s σ H xs us Q I r h
 obtain⟨u,rfl,rx⟩:=vals1 r
 cases rx
 obtain⟨z,y,nd,ys,o,es,ep,pr,h1,h2,h3,h4⟩:=(show bW X.prog X.w H s.heap a (.dS ks)from CN I.hok e)
 have le:es.size=ys.length:=by rw[<-Array.length_toList,h4,QAq]
 have lk:ks.length=ys.length:=Paired.length pr
 refine PySem.W.kdl_call (MT (es:=es) (ep:=ep) y) (I.ok.hd hc) ⟨o,h1,h2,h3⟩ (by omega) fun h' tk acc c' kp g it=>?_
 have ev:acc.toList=ys.map fun y=>Value.ref y.2.1:=by
  refine List.ext_getElem? fun i=>?_
  rw[Array.getElem?_toList,QFz]
  by_cases hi:i<acc.size
  ·obtain⟨e,e1,e2⟩:=it.2 i acc[i] (Array.getElem?_eq_getElem hi)
   rw[<-Array.getElem?_toList,h4,QFz]at e1
   obtain⟨p,p1,p2⟩:=QJz.mp e1
   rw[Array.getElem?_eq_getElem hi,p1,e2,<-p2]
   rfl
  ·have:acc.size=ys.length:=by rw[it.1,le]
   rw[Array.getElem?_eq_none (by omega),List.getElem?_eq_none (by omega)]
   rfl
 refine⟨.ref s.heap.objs.size,_,I.laid (t':=tk) kp (QVz _) (show bW X.prog X.w _ h' _ (.lst _)from⟨by rw[QAq];omega,acc.toList,c',PK (P:=X.prog) (w:=X.w) pr ev,by simpa using g⟩),rfl,q _ (I.hok.fresh (QVz _))⟩
end
end Mini
end
section
namespace Mini
open PySem
inductive D where
 |non|bl (b:Bool)|int (i:Int)|str (x:Str)
 |tup (xs:List D)|lst (xs:List D)|cH (ks:List D) (vs:List D)|fZ (ks:List D) (vs:List D)
 deriving Inhabited
inductive Ob where
 |lst (xs:List D)|dct (ks vs:List D)|sdt (ks vs:List D)
 deriving Inhabited
noncomputable def Ob.d:Ob->D
 |.lst xs=>.lst xs
 |.dct ks vs=>.cH ks vs
 |.sdt ks vs=>.fZ ks vs
inductive Sl where
 |un|val (d:D)|own (o:Ob)|bor (o:Ob)
 deriving Inhabited
abbrev Ev:=List Sl
inductive Rv where
 |val (d:D)|new (o:Ob)|ref (i:Nat)|tmp (o:Ob)
noncomputable def Rv.jy:Rv->Option D
 |.val d=>some d
 |.new o=>some o.d
 |_=>none
noncomputable def Rv.xT:Rv->Option Sl
 |.val d=>some (.val d)
 |.new o=>some (.own o)
 |_=>none
def aP:List Rv->Option (List D)
 |[]=>some []
 |r::rs=>r.jy.bind fun d=>(aP rs).map (d:: ·)
inductive Out(α:Type)where
 |ok (a:α) (σ:Ev)|exc (c:Nat) (σ:Ev)|bad
noncomputable def Out.bind{α β:Type}:Out α->(α->Ev->Out β)->Out β
 |.ok a σ,f=>f a σ
 |.exc c σ,_=>.exc c σ
 |.bad,_=>.bad
noncomputable def Out.aq{β:Type}:Out Rv->(D->Ev->Out β)->Out β
 |.ok (.val d) σ,f=>f d σ
 |.ok (.new o) σ,f=>f o.d σ
 |.ok _ _,_=>.bad
 |.exc c σ,_=>.exc c σ
 |.bad,_=>.bad
def Out.cC{β:Type}(tr:D->Option Bool)(r:Out Rv)(f:Bool->Ev->Out β):Out β:=
 r.aq fun d σ=>match tr d with|some b=>f b σ|none=>.bad
noncomputable def Out.map{α β:Type}(g:α->β):Out α->Out β
 |.ok a σ=>.ok (g a) σ
 |.exc c σ=>.exc c σ
 |.bad=>.bad
def lift{α:Type}(σ:Ev):Option α->Out α
 |some a=>.ok a σ
 |none=>.bad
inductive NZ where
 |add|sub|mul|mod|fdiv|pow
 deriving DecidableEq
inductive Cm where
 |eq|ne|lt|le|gt|ge|isin|notin|fQ|notN
 deriving DecidableEq
inductive Ty where
 |tup|lst|str|bool|int|cH
 deriving DecidableEq
inductive Bi where
 |all|any|tuple|list|sorted|int|dict|len|copy
 deriving DecidableEq
inductive Tg where
 |name (i:Nat)|tup (is:List Nat)
inductive E where
 |var (i:Nat)|con (d:D)|glob (k:Nat)
 |nil|cons (h t:E)
 |tup (es:E)|lis (es:E)
 |op (o:NZ) (a b:E)|neg (a:E)|cmp (o:Cm) (a b:E)|chain (o₁ o₂:Cm) (a b c:E)
 |and (es:E)|or (es:E)|not (a:E)|ite (c a b:E)
 |idx (a i:E)|slc (a lo hi:E)|noneE
 |call (f:Nat) (args:E)|ref (i:Nat)|tmp (e:E)|rd (e:E)
 |isi (a:E) (t:Ty)|bi (b:Bi) (a:E)
 |range1 (a:E)|zip (a b:E)
 |count (a b:E)|popAt (i:Nat) (a:E)
 |get2 (d k x:E)|dsp (es:E)
 |comp (nl:Nat) (tg:Tg) (it:E) (cond:E) (elt:E)
inductive S where
 |nil|cons (h t:S)
 |set (i:Nat) (e:E)|setT (is:List Nat) (e:E)|setIx (i:Nat) (ix e:E)
 |expr (e:E)|append (i:Nat) (e:E)
 |ret (e:E)|ite (c:E) (a b:S)
 |for_ (tg:Tg) (it:E) (b:S)|while_ (c:E) (b:S)
 |raise (c:Nat)|pass|brk|cont
abbrev AAG:E:=.con (.int 1)
abbrev AAH:E:=.con (.int 0)
abbrev AAL:S:=.cons (.ret (.con (.bl false))) .nil
abbrev AAP:E:=.con (.bl true)
abbrev AAQ:E:=.con (.int 2)
abbrev AAR:E:=.cons (.var 1) (.cons (.var 2) .nil)
abbrev AAS:E:=.cons (.var 3) .nil
abbrev AAT:E:=.cons (.var 0) .nil
abbrev AAV:E:=.cons (.con (.str "p")) (.cons (.con (.str "q")) (.cons (.con (.str "rr")) (.cons (.con (.str "go")) (.cons (.con (.str "abcdef")) .nil))))
abbrev AAX:E:=.cons (.var 5) .nil
abbrev AAZ:S:=.cons (.set 7 (.call 47 (.cons (.var 1) (.cons (.var 2) (.cons (.var 7) (.cons (.var 8) .nil)))))) .nil
abbrev AAa:E:=.lis .nil
abbrev AAb:E:=.idx (.var 0) AAH
abbrev AAc:E:=.idx (.var 0) AAG
abbrev AAd:E:=.call 32 (.cons (.var 0) (.cons (.ref 1) (.cons AAQ .nil)))
abbrev AAe:E:=.idx (.var 2) AAH
abbrev AAf:E:=.idx (.var 2) AAG
abbrev AAg:E:=.idx (.var 1) AAG
abbrev AAh:S:=.cons (.append 3 (.tup (.cons (.idx (.var 2) (.var 4)) (.cons (.tup (.cons (.con (.str "held")) (.cons (.tup (.cons (.con (.str "same")) (.cons (.idx (.var 2) (.op .sub (.var 4) AAG)) .nil))) (.cons (.idx (.var 2) (.op .mod (.op .add (.var 4) AAG) (.bi .len (.var 2)))) (.cons (.con (.bl false)) .nil))))) .nil)))) .nil
abbrev AAi:E:=.cmp .eq (.call 32 (.cons (.var 1) (.cons (.ref 2) (.cons AAQ .nil)))) AAG
abbrev AAj:E:=.cons (.con (.int 3)) .nil
abbrev AAk:S:=.cons (.append 5 (.tup (.cons (.var 6) (.cons (.tup (.cons (.idx (.lis (.cons (.con (.str "same")) (.cons (.con (.str "not")) .nil))) (.var 7)) AAS)) .nil)))) (.cons (.append 4 (.cmp .eq (.idx (.var 4) (.neg AAG)) (.cmp .eq (.var 7) AAH))) (.cons (.set 3 (.var 6)) .nil))
abbrev AAl:S:=.cons (.ret (.and (.cons (.cmp .isin (.idx (.var 2) AAQ) (.call 45 (.cons (.var 0) (.cons (.idx (.var 3) AAH) .nil)))) (.cons (.cmp .notin (.idx (.var 2) AAQ) (.call 45 (.cons (.var 0) (.cons (.idx (.var 7) AAH) .nil)))) .nil)))) .nil
abbrev AAm:E:=.cmp .ne (.call 15 (.cons (.var 1) (.cons (.idx (.var 4) (.var 0)) (.cons (.var 4) .nil)))) (.idx (.var 4) (.var 0))
abbrev AAn:E:=.cons (.var 0) (.cons AAe .nil)
abbrev AAo:S:=.set 2 (.slc (.lis (.cons (.con (.str "p")) (.cons (.con (.str "q")) (.cons (.con (.str "rr")) (.cons (.con (.str "go")) .nil))))) .noneE (.op .add AAG (.call 32 (.cons (.var 0) (.cons (.ref 1) (.cons (.con (.int 4)) .nil))))))
abbrev AAp:S:=.cons (.append 7 (.idx (.var 9) (.op .mod (.op .fdiv (.var 11) (.con (.int 13))) (.bi .len (.var 9))))) (.cons (.set 6 (.call 47 (.cons (.var 2) (.cons (.var 3) (.cons (.var 6) (.cons (.idx (.var 7) (.neg AAG)) .nil)))))) .nil)
abbrev AAq:E:=.call 49 (.cons (.var 1) (.cons (.var 2) (.cons (.var 7) (.cons AAa .nil))))
abbrev AAr:E:=.idx (.var 1) AAH
abbrev AAs:E:=.idx (.var 0) AAQ
abbrev AAt:S:=.set 11 (.op .mod (.op .mul (.op .add (.op .add (.var 5) (.op .mul (.op .mul (.con (.int 104729)) (.var 8)) (.var 8))) (.op .mul (.con (.int 7919)) (.var 8))) (.con (.int 48271))) (.con (.int 2147483647)))
abbrev AAu:E:=.cmp .ne (.call 44 (.cons AAc (.cons (.var 3) (.cons (.idx (.var 3) AAb) .nil)))) (.idx (.var 3) AAb)
abbrev AAv:S:=.cons (.ret (.con .non)) .nil
abbrev AAw:S:=.set 4 (.slc (.tup (.cons (.con (.str "a")) (.cons (.con (.str "b")) (.cons (.con (.str "come")) .nil)))) .noneE (.call 32 (.cons (.var 0) (.cons (.ref 1) (.cons (.op .add (.var 2) AAG) .nil)))))
abbrev AAx:E:=.cons AAH .nil
abbrev AAy:E:=.op .add AAG (.call 32 (.cons (.var 0) (.cons (.ref 1) AAS)))
abbrev AAz:S:=.ret (.tup (.cons (.tup (.cons (.tup (.cons (.con (.str "a")) .nil)) (.cons (.bi .tuple (.var 5)) (.cons (.bi .tuple (.var 4)) .nil)))) (.cons (.tup (.cons (.tup (.cons (.idx (.var 2) (.neg AAG)) .nil)) (.cons (.tup (.cons (.tup (.cons (.tup (.cons (.con (.str "a")) (.cons AAG .nil))) .nil)) (.cons (.tup (.cons (.tup (.cons (.idx (.var 2) (.neg AAG)) AAx)) .nil)) .nil))) .nil))) .nil)))
abbrev ABG:S:=.cons (.set 3 (.call 44 (.cons AAc AAR))) (.cons (.ret (.idx (.lis (.cons (.var 2) AAS)) (.bi .int (.cmp .eq (.idx (.var 1) AAs) (.cmp .eq (.var 3) (.idx (.var 0) (.con (.int 3)))))))) .nil)
abbrev ABH:E:=.cons (.var 1) .nil
abbrev ABI:E:=.or (.cons (.not (.call 9 (.cons AAr (.cons (.var 2) (.cons AAH (.cons (.bi .len (.var 2)) .nil)))))) (.cons (.not (.call 3 (.cons AAg (.cons AAG (.cons (.glob 8) .nil))))) .nil))
abbrev ABJ:S:=.cons (.ret (.tup (.cons (.con (.str "stuck")) AAS))) .nil
abbrev ABK:E:=.idx (.var 3) AAH
abbrev ABL:E:=.con (.non)
abbrev ABM:E:=.call 3 (.cons (.var 0) (.cons AAQ (.cons AAQ .nil)))
abbrev ABN:E:=.cons (.var 0) (.cons (.var 1) (.cons (.var 2) AAX))
abbrev ABO:E:=.or (.cons (.not (.call 3 (.cons AAb (.cons AAH (.cons (.glob 3) .nil))))) (.cons (.not (.call 3 (.cons AAc (.cons AAG (.cons (.glob 4) .nil))))) .nil))
abbrev ABP:E:=.and (.cons (.cmp .gt (.bi .len (.var 5)) (.var 3)) (.cons (.or (.cons (.cmp .gt (.bi .len (.var 5)) (.var 4)) (.cons (.cmp .eq AAd AAG) .nil))) .nil))
abbrev ABQ:E:=.cons (.bi .len (.var 1)) .nil
abbrev ABR:E:=.cons (.var 6) .nil
abbrev ABS:E:=.or (.cons (.cmp .eq (.var 5) AAa) (.cons (.cmp .notin (.idx (.var 5) (.neg AAG)) (.call 46 (.cons (.var 0) (.cons (.var 1) AAS)))) .nil))
abbrev ABT:E:=.cons (.var 2) AAS
abbrev ABU:E:=.con (.str "same")
abbrev ABV:E:=.op .add (.var 3) (.lis AAX)
abbrev ABW:S:=.cons (.set 3 (.op .add (.slc (.var 3) AAG .noneE) (.call 25 (.cons (.var 0) (.cons (.var 1) (.cons ABK (.cons (.ref 2) .nil))))))) .nil
abbrev ABX:S:=.set 7 (.tup (.cons (.idx (.var 1) AAQ) AAx))
abbrev ABY:S:=.cons (.ret (.and (.cons (.cmp .ne (.var 6) AAa) (.cons (.cmp .eq (.call 46 (.cons (.var 0) (.cons (.var 1) AAS))) AAa) .nil)))) .nil
abbrev ABZ:S:=.set 9 (.slc (.idx (.var 3) AAG) .noneE (.op .sub (.bi .len (.idx (.var 3) AAG)) (.bi .int (.cmp .ne ABK (.con (.str "stuck"))))))
abbrev ABa:E:=.cons (.con (.int 4)) .nil
abbrev ABb:E:=.cons (.cmp .notin (.var 6) (.var 3)) .nil
abbrev ABc:S:=.cons (.setIx 3 (.var 6) (.op .add (.idx (.var 3) (.idx (.var 2) (.var 4))) (.lis AAX))) (.cons (.append 2 (.var 6)) .nil)
abbrev ABd:S:=.cons (.ret (.or (.cons (.bi .all (.var 4)) (.cons (.and (.cons (.var 1) (.cons (.bi .any (.var 4)) .nil))) .nil)))) .nil
abbrev ABe:E:=.cmp .gt (.call 32 (.cons (.var 1) (.cons (.ref 2) AAj))) AAH
abbrev ABf:E:=.cons (.var 0) AAR
abbrev ABg:S:=.setT [6,7] (.call 50 (.cons (.var 0) (.cons AAH (.cons (.var 1) (.cons (.var 2) (.cons (.con (.int 60)) .nil))))))
abbrev ABh:E:=.con .non
abbrev ABi:E:=.con (.str "table")
abbrev ABj:S:=.set 7 (.call 47 (.cons (.var 0) (.cons (.var 1) (.cons (.var 3) (.cons (.idx (.var 5) (.neg AAG)) .nil)))))
abbrev ABk:S:=.set 5 (.call 31 (.cons (.var 0) (.cons (.var 1) (.cons (.op .pow (.con (.int 10)) (.con (.int 9))) .nil))))
abbrev ABl:S:=.set 5 (.call 14 (.cons (.var 0) (.cons (.idx (.call 23 (.cons (.var 0) (.cons (.var 1) ABT))) AAH) .nil)))
abbrev ABm:S:=.set 2 (.slc (.lis AAV) .noneE (.op .add (.con (.int 3)) (.call 32 (.cons (.var 0) (.cons (.ref 1) AAj)))))
abbrev ABn:E:=.or (.cons (.not (.call 3 (.cons (.var 0) (.cons (.con (.int 3)) AAj)))) (.cons (.not (.call 2 AAT)) .nil))
abbrev ABo:S:=.cons (.expr (.popAt 5 (.call 32 (.cons (.var 0) (.cons (.ref 1) (.cons (.bi .len (.var 5)) .nil)))))) .nil
abbrev ABp:E:=.cons (.var 0) (.cons (.var 2) .nil)
abbrev ABq:E:=.cons (.var 0) (.cons (.call 35 (.cons (.var 1) (.cons (.ref 2) (.cons (.var 7) (.cons AAG .nil))))) .nil)
abbrev ABr:S:=.cons (.setIx 3 (.var 6) (.op .add (.idx (.var 3) (.var 2)) (.lis AAX))) (.cons (.append 4 (.var 6)) .nil)
abbrev ABs:E:=.range1 (.call 31 (.cons (.var 0) (.cons (.op .add (.var 1) AAG) (.cons (.op .add (.var 4) AAG) .nil))))
abbrev ABt:E:=.con (.str "held")
abbrev ABu:S:=.set 6 (.call 29 (.cons (.var 0) (.cons (.var 1) (.cons (.var 2) (.cons (.var 5) (.cons ABV .nil))))))
abbrev ABv:S:=.cons (.ret (.call 51 (.cons (.var 1) (.cons (.var 2) (.cons (.var 3) (.cons (.var 7) .nil)))))) .nil
abbrev ABw:E:=.con (.str "unasked")
abbrev ABx:E:=.comp 1 (.name 0) (.var 0) AAP (.call 4 (.cons AAc (.cons AAH (.cons (.op .sub (.var 3) AAG) .nil))))
abbrev ABy:S:=.cons (.ret (.tup (.cons (.con (.str "taken")) (.cons ABV (.cons (.idx (.var 8) AAH) .nil))))) .nil
abbrev ABz:E:=.cmp .notN (.call 47 (.cons (.var 2) (.cons (.var 3) (.cons (.var 6) (.cons (.var 10) .nil))))) ABh
abbrev ACG:E:=.comp 1 (.name 0) AAg AAP (.call 19 (.cons (.var 0) (.cons (.var 4) (.cons (.bi .len AAf) .nil))))
abbrev ACH:E:=.con (.str "not")
abbrev ACI:E:=.con (.str "and")
abbrev ACJ:E:=.comp 2 (.tup [0,1]) (.zip (.var 0) (.slc (.var 0) AAG .noneE)) AAP (.cmp .lt (.var 0) (.var 1))
abbrev ACL:E:=.bi .len (.var 2)
abbrev ACM:S:=.set 4 (.call 27 (.cons (.var 0) (.cons (.var 1) (.cons ABK (.cons (.idx (.var 2) ABK) .nil)))))
abbrev ACN:E:=.and (.cons (.cmp .isin AAP (.var 4)) (.cons (.cmp .isin (.con (.bl false)) (.var 4)) .nil))
abbrev ACO:E:=.con (.str "or")
abbrev ACP:S:=.set 7 (.op .add (.call 45 (.cons (.var 0) (.cons (.idx (.var 6) AAH) .nil))) (.lis AAX))
abbrev ACQ:E:=.idx AAg AAf
abbrev ACR:S:=.set 6 (.call 47 (.cons (.var 0) (.cons (.var 1) (.cons (.idx (.var 2) (.var 4)) AAX))))
abbrev ACS:E:=.cmp .notin (.var 8) (.call 46 (.cons (.var 1) (.cons (.var 2) (.cons (.var 7) .nil))))
abbrev ACT:E:=.con (.str "both")
abbrev ACU:E:=.and (.cons (.cmp .ne (.var 6) (.var 3)) (.cons (.cmp .notin (.var 6) (.var 5)) .nil))
abbrev ACV:E:=.con (.str "a")
abbrev ACW:S:=.set 3 (.call 33 (.cons (.var 0) (.cons (.ref 1) (.cons (.var 2) (.cons AAG AAj)))))
abbrev ACX:E:=.cmp .eq (.idx (.var 5) (.var 0)) (.var 4)
abbrev ACY:E:=.zip (.call 13 AAT) (.var 1)
abbrev ACZ:E:=.cmp .isin (.var 0) (.var 4)
abbrev ACa:S:=.cons (.ret ABL) .nil
abbrev ACb:E:=.call 46 (.cons (.var 0) (.cons (.var 1) (.cons (.idx (.var 2) (.var 4)) .nil)))
abbrev ACc:E:=.and (.cons (.cmp .notin (.var 3) AAb) (.cons (.cmp .notin (.var 3) AAr) .nil))
abbrev ACd:E:=.comp 2 (.tup [0,1]) AAc AAP (.call 11 (.cons (.var 1) (.cons (.var 3) AAx)))
abbrev ACe:E:=.call 49 (.cons (.var 1) (.cons (.var 2) (.cons (.var 10) (.cons AAa .nil))))
abbrev ACf:E:=.cons (.var 0) (.cons (.call 32 (.cons (.var 1) (.cons (.ref 2) ABR))) .nil)
abbrev ACg:S:=.cons (.ret (.var 4)) .nil
abbrev ACh:S:=.cons (.ret (.tup (.cons (.var 4) (.cons (.bi .tuple (.var 6)) .nil)))) .nil
abbrev ACi:S:=.cons (.ret (.op .add (.bi .list AAb) (.comp 1 (.name 0) AAc AAP AAb))) .nil
abbrev ACj:E:=.idx (.var 2) (.call 32 (.cons (.var 0) (.cons (.ref 1) (.cons ACL .nil))))
abbrev ACk:S:=.cons (.ret (.tup (.cons (.con (.str "taken")) (.cons (.var 4) ABR)))) .nil
abbrev ACl:E:=.cmp .eq (.call 32 (.cons (.var 0) (.cons (.ref 2) (.cons AAQ .nil)))) AAG
abbrev ACm:E:=.comp 1 (.name 0) (.var 0) AAP (.cmp .eq (.count (.var 1) (.var 0)) AAG)
abbrev ACn:E:=.cons (.var 0) (.cons (.ref 2) .nil)
abbrev ACo:E:=.cons (.cmp .eq (.idx (.var 2) AAQ) (.idx (.var 5) (.neg AAG))) .nil
abbrev ACp:E:=.cmp .lt (.bi .len (.idx (.var 5) (.var 10))) (.bi .len (.var 9))
abbrev ACq:E:=.bi .len (.var 0)
abbrev ACr:S:=.cons (.ret (.tup (.cons (.var 5) (.cons (.var 7) .nil)))) .nil
abbrev ACs:S:=.set 2 (.bi .dict (.bi .list (.zip (.call 43 AAT) (.var 1))))
abbrev ACt:E:=.cmp .eq AAd AAG
abbrev ACu:E:=.not (.call 3 (.cons (.var 1) (.cons AAQ (.cons AAQ .nil))))
abbrev ACv:S:=.cons (.ret (.cmp .notin (.con (.bl false)) (.var 4))) .nil
abbrev ACw:S:=.cons (.ret (.tup (.cons ABw (.cons (.var 4) .nil)))) .nil
abbrev ACx:S:=.cons (.ret (.tup (.cons (.var 5) (.cons AAf .nil)))) .nil
abbrev ACy:E:=.con (.str "b")
abbrev ACz:E:=.call 22 (.cons (.var 1) ABT)
abbrev ADG:S:=.cons (.ret (.cmp .isin (.bi .tuple (.var 4)) AAs)) .nil
abbrev ADH:E:=.and (.cons (.not (.var 4)) (.cons (.call 28 AAR) .nil))
abbrev ADJ:E:=.bi .tuple (.var 5)
abbrev ADK:S:=.set 2 (.dsp (.cons (.call 20 AAT) (.cons AAa .nil)))
abbrev ADL:S:=.cons (.ret (.tup (.cons ABw (.cons ABV .nil)))) .nil
abbrev ADM:E:=.comp 1 (.name 0) (.var 0) AAP (.isi (.var 0) .bool)
abbrev ADN:E:=.cmp .isin AAb AAr
abbrev ADP:E:=.cmp .isin AAb AAe
abbrev ADQ:E:=.bi .list (.var 2)
abbrev ADR:E:=.cons ABU (.cons ACH .nil)
abbrev ADS:E:=.cmp .eq (.var 0) (.var 4)
abbrev ADT:S:=.set 2 (.lis (.cons (.tup (.cons AAs AAx)) .nil))
abbrev ADU:E:=.idx (.var 2) AAc
abbrev ADV:E:=.idx (.var 1) AAc
abbrev ADW:E:=.con (.int 3)
abbrev ADX:E:=.not (.call 3 (.cons (.var 0) (.cons AAH ABQ)))
abbrev ADY:E:=.call 46 (.cons (.var 2) (.cons (.var 3) ABR))
abbrev ADZ:S:=.set 6 (.tup (.cons (.idx (.var 2) AAQ) AAx))
abbrev ADa:S:=.cons (.ret (.tup (.cons (.var 7) ABR))) .nil
abbrev ADb:E:=.cmp .notN (.var 6) ABh
abbrev ADc:E:=.cmp .notN (.var 6) ABL
abbrev ADd:E:=.call 3 (.cons (.var 0) (.cons (.var 1) ABH))
abbrev ADe:S:=.setT [1,2] (.call 42 (.cons (.var 0) ABa))
abbrev ADf:E:=.comp 1 (.name 0) (.var 1) AAP (.call 5 AAT)
abbrev ADg:E:=.comp 1 (.name 0) (.var 0) AAP (.call 8 ABp)
abbrev ADh:E:=.comp 1 (.name 0) (.var 0) AAP (.call 7 ABp)
abbrev ADi:S:=.cons (.set 4 (.op .add (.var 4) AAG)) .nil
abbrev ADj:S:=.cons (.ret (.cmp .isin AAP (.var 4))) .nil
abbrev ADk:S:=.cons (.ret (.cmp .isin (.var 4) AAs)) .nil
abbrev ADl:E:=.con (.str "q")
abbrev ADm:E:=.con (.str "p")
abbrev ADn:S:=.set 3 (.dsp (.cons AAe (.cons AAa .nil)))
abbrev ADo:S:=.set 3 (.op .add (.var 3) (.call 45 AAn))
abbrev ADp:E:=.op .add AAe (.var 4)
abbrev ADq:E:=.cmp .eq (.var 4) AAQ
abbrev ADr:E:=.cmp .eq (.var 3) ABt
abbrev ADs:E:=.cmp .eq (.var 3) ABi
abbrev ADt:S:=.setT [4,5] (.slc (.var 2) .noneE AAQ)
abbrev ADu:E:=.cmp .ne (.var 4) (.con (.str "taken"))
abbrev ADv:E:=.cmp .eq (.var 4) (.con (.str "stuck"))
abbrev ADw:S:=.set 4 (.lis (.cons (.tup .nil) .nil))
abbrev ADx:S:=.expr (.call 17 (.cons (.var 0) ABH))
abbrev ADy:S:=.cons (.ret (.idx (.var 4) AAH)) .nil
abbrev ADz:S:=.cons (.ret (.bi .any (.var 4))) .nil
abbrev AEH:S:=.cons (.ret (.bi .all (.var 4))) .nil
abbrev AEI:E:=.cons (.call 7 (.cons AAs ABQ)) .nil
abbrev AEJ:S:=.set 6 (.op .add (.var 4) (.var 5))
abbrev AEM:S:=.set 5 (.slc (.tup AAV) .noneE AAy)
abbrev AEO:E:=.not (.call 3 (.cons (.var 0) ABT))
abbrev AEP:E:=.isi (.var 0) .tup
abbrev AEQ:E:=.comp 1 (.name 0) (.var 0) AAP ABM
abbrev AEU:E:=.call 43 AAT
abbrev AEV:E:=.call 21 ABf
abbrev AEW:E:=.call 14 AAn
abbrev AEX:E:=.idx ABK (.var 0)
abbrev AEZ:E:=.idx (.var 3) AAG
abbrev AEa:E:=.bi .len (.var 4)
abbrev AEb:S:=.cons (.ret (.call 16 ABf)) .nil
abbrev AEc:S:=.cons (.append 9 (.var 10)) .nil
abbrev AEd:E:=.cons (.not (.call 6 ABH)) .nil
def small(i:Int):Bool:=decide (-18446744073709551616<i/\i<18446744073709551616)
def zH(i:Int):Bool:=decide (-4611686018427387904<=i/\i<4611686018427387904)
def fits(n:Nat):Bool:=decide (n<=16777216)
def b2i(b:Bool):Int:=if b then 1 else 0
def ix?(n:Nat)(i:Int):Option Nat:=
 let j:=if i<0 then i+n else i
 if 0<=j/\j<n then some j.toNat else none
def at?(xs:List D)(i:Int):Option D:=(ix? xs.length i).bind fun k=>xs[k]?
def clip(n:Nat)(i:Int):Nat:=
 let j:=if i<0 then i+n else i
 if j<0 then 0 else if j>n then n else j.toNat
noncomputable def cut(xs:List D)(lo hi:Option Int):List D:=
 let a:=match lo with|some i=>clip xs.length i|none=>0
 let b:=match hi with|some i=>clip xs.length i|none=>xs.length
 (xs.take b).drop a
mutual
def cL:D->D->Bool
 |.non,.non=>true
 |.bl a,.bl b=>a==b
 |.bl a,.int j=>b2i a==j
 |.int i,.bl b=>i==b2i b
 |.int i,.int j=>i==j
 |.str x,.str y=>decide (x=y)
 |.tup xs,.tup ys=>jc xs ys
 |.lst xs,.lst ys=>jc xs ys
 |_,_=>false
def jc:List D->List D->Bool
 |[],[]=>true
 |x::xs,y::ys=>cL x y&&jc xs ys
 |_,_=>false
end
mutual
def dep:D->Nat
 |.tup xs=>jx xs+1
 |.lst xs=>jx xs+1
 |_=>0
def jx:List D->Nat
 |[]=>0
 |x::xs=>max (dep x) (jx xs)
end
def sOk(x:Str):Bool:=x.cps.all fun c=>decide (c<128)
mutual
def nd:D->Bool
 |.str x=>sOk x
 |.tup xs=>lB xs
 |.lst xs=>lB xs
 |.cH _ _=>false
 |.fZ _ _=>false
 |_=>true
def lB:List D->Bool
 |[]=>true
 |x::xs=>nd x&&lB xs
end
noncomputable def flat:D->Bool
 |.non=>true
 |.bl _=>true
 |.int _=>true
 |.str _=>true
 |_=>false
def oZ(a b:D):Bool:=(flat a&&flat b)||(nd a&&decide (dep a<=50)&&nd b)
def eZ(a:D)(xs:List D):Bool:=(flat a&&xs.all flat)||(nd a&&decide (dep a<=50)&&lB xs)
def aH(x:D):List D->Bool
 |[]=>false
 |y::ys=>cL y x||aH x ys
def fc(x:D):List D->Nat
 |[]=>0
 |y::ys=>(if cL y x then 1 else 0)+fc x ys
noncomputable def jw:List Bool->List Bool->Bool
 |[],[]=>false
 |[],_::_=>true
 |_::_,[]=>false
 |x::xs,y::ys=>if x=y then jw xs ys else(!x&&y)
noncomputable def bools:List D->Option (List Bool)
 |[]=>some []
 |.bl b::r=>(bools r).map (b:: ·)
 |_=>none
def m8:D->Bool
 |.tup [.tup bs,.int _]=>(bools bs).isSome
 |_=>false
noncomputable def ltD:D->D->Option Bool
 |.int i,.int j=>some (decide (i<j))
 |.tup xs,.tup ys=>(bools xs).bind fun a=>(bools ys).map fun b=>jw a b
 |.str x,.str y=>some (decide (x.cps.toList<y.cps.toList))
 |_,_=>none
noncomputable def iB:D->Option Bool
 |.non=>some false
 |.bl b=>some b
 |.int i=>some (i !=0)
 |.tup xs=>some (!xs.isEmpty)
 |.lst xs=>some (!xs.isEmpty)
 |_=>none
noncomputable def m7:Ty->D->Bool
 |.tup,.tup _=>true
 |.lst,.lst _=>true
 |.str,.str _=>true
 |.bool,.bl _=>true
 |.int,.int _=>true
 |.int,.bl _=>true
 |.cH,.cH _ _=>true
 |.cH,.fZ _ _=>true
 |_,_=>false
def cN(k:D):List D->List D->Option D
 |k'::ks,v::vs=>if cL k' k then some v else cN k ks vs
 |_,_=>none
noncomputable def keyOk:D->Bool
 |.str _=>true
 |.int _=>true
 |_=>false
def signs(x:Str):List D:=x.cps.toList.map fun c=>D.str ⟨#[c]⟩
noncomputable def items:D->Option (List D)
 |.tup xs=>some xs
 |.lst xs=>some xs
 |.str x=>if fits x.length then some (signs x)else none
 |_=>none
noncomputable def binop:NZ->D->D->Option Rv
 |.add,.int i,.int j=>some (.val (.int (i+j)))
 |.sub,.int i,.int j=>some (.val (.int (i-j)))
 |.mul,.int i,.int j=>if small i||small j then some (.val (.int (i*j)))else none
 |.mod,.int i,.int j=>if 0<j then some (.val (.int (i%j)))else none
 |.fdiv,.int i,.int j=>if 0<j/\j<1073741824 then some (.val (.int (i/j)))else none
 |.pow,.int i,.int j=>if 0<=j/\j<=64/\small i=true then some (.val (.int (i ^j.toNat)))else none
 |.add,.tup xs,.tup ys=>if fits (xs.length+ys.length)then some (.val (.tup (xs++ys)))else none
 |.add,.lst xs,.lst ys=>if fits (xs.length+ys.length)then some (.new (.lst (xs++ys)))else none
 |_,_,_=>none
def bD:D->Bool
 |.non=>true
 |_=>false
noncomputable def aK:Cm->D->D->Option Bool
 |.eq,a,b=>if oZ a b then some (cL a b)else none
 |.ne,a,b=>if oZ a b then some (!cL a b)else none
 |.lt,a,b=>ltD a b
 |.gt,.int i,.int j=>some (decide (j<i))
 |.le,.int i,.int j=>some (decide (i<=j))
 |.ge,.int i,.int j=>some (decide (j<=i))
 |.isin,a,.tup xs=>if eZ a xs then some (aH a xs)else none
 |.isin,a,.lst xs=>if eZ a xs then some (aH a xs)else none
 |.isin,a,.cH ks _=>if keyOk a then some (aH a ks)else none
 |.isin,a,.fZ ks _=>if m8 a then some (aH a ks)else none
 |.isin,.str x,.str y=>if x.length=1 then some (aH (.str x) (signs y))else none
 |.notin,a,.tup xs=>if eZ a xs then some (!aH a xs)else none
 |.notin,a,.lst xs=>if eZ a xs then some (!aH a xs)else none
 |.notin,a,.cH ks _=>if keyOk a then some (!aH a ks)else none
 |.notin,a,.fZ ks _=>if m8 a then some (!aH a ks)else none
 |.fQ,a,.non=>some (bD a)
 |.notN,a,.non=>some (!bD a)
 |_,_,_=>none
noncomputable def jq:List D->Option (List (List Bool))
 |[]=>some []
 |.tup ys::r=>match bools ys with
  |some (b::bs)=>(jq r).map ((b::bs):: ·)
  |_=>none
 |_=>none
noncomputable def Jr{α:Type}(f:Nat->Nat->Option Bool):PySem.W.KasT α->Option α
 |.ret a=>some a
 |.ask i j k=>match f i j with
  |some b=>Jr f (k b)
  |none=>none
def RB(rs:List (List Bool))(i j:Nat):Option Bool:=(rs[i]?).bind fun a=>(rs[j]?).map fun b=>jw a b
def su(xs:List D):List Nat->Option (List D)
 |[]=>some []
 |i::is=>(xs[i]?).bind fun d=>(su xs is).map (d:: ·)
def acx(xs:List D):Option (Nat->Nat->Option Bool):=match jq xs with
 |some rs=>some (RB rs)
 |none=>none
noncomputable def pG(xs:List D):Option (List D):=
 if xs.length<2 then some xs
 else if xs.length<64 then(acx xs).bind fun f=>(Jr f (PySem.W.kas_sort xs.length)).bind fun p=>if p.size=xs.length then su xs p.toList else none
 else none
def uI(k v:D):List D->List D->List D
 |k'::ks,v'::vs=>(if cL k' k then v else v')::uI k v ks vs
 |_,_=>[]
def putD(k v:D)(ks vs:List D):List D×List D:=if aH k ks then(ks,uI k v ks vs)else(ks++[k],vs++[v])
noncomputable def dictOf:List D->List D->List D->Option (List D×List D)
 |ks,vs,[]=>some (ks,vs)
 |ks,vs,.tup [k,v]::r=>if keyOk k then let p:=putD k v ks vs;dictOf p.1 p.2 r else none
 |_,_,_=>none
def aO:List D->List D->List D
 |x::xs,y::ys=>.tup [x,y]::aO xs ys
 |_,_=>[]
def bJ(lo:Int):Nat->List D
 |0=>[]
 |n+1=>.int lo::bJ (lo+1) n
noncomputable def NQ:Bi->List D->Option Rv
 |.all,xs=>(bools xs).map fun bs=>.val (.bl (bs.all id))
 |.any,xs=>(bools xs).map fun bs=>.val (.bl (bs.any id))
 |.tuple,xs=>some (.val (.tup xs))
 |.list,xs=>some (.new (.lst xs))
 |.sorted,xs=>(pG xs).map fun ys=>.new (.lst ys)
 |.dict,xs=>(dictOf [] [] xs).map fun p=>.new (.dct p.1 p.2)
 |.len,_=>none
 |.int,_=>none
 |.copy,_=>none
def E.aB:E->Option Nat
 |.var i=>some i
 |_=>none
noncomputable def qW(i:Nat)(σ:Ev):Out Rv:=
 match σ[i]? with
 |some (.val d)=>.ok (.val d) σ
 |some (.own o)=>.ok (.val o.d) (σ.set i (.val o.d))
 |_=>.bad
noncomputable def aX(i:Nat)(σ:Ev):Option D:=
 match σ[i]? with
 |some (.val d)=>some d
 |some (.own o)=>some o.d
 |some (.bor o)=>some o.d
 |_=>none
noncomputable def G8:D->Option Nat
 |.tup xs=>some xs.length
 |.lst xs=>some xs.length
 |.str x=>if fits x.length then some x.length else none
 |.cH ks _=>some ks.length
 |_=>none
noncomputable def getD(d:D)(i:D):Option D:=
 match d,i with
 |.tup xs,.int i=>at? xs i
 |.lst xs,.int i=>at? xs i
 |.cH ks vs,k=>if keyOk k then cN k ks vs else none
 |.fZ ks vs,k=>if m8 k then cN k ks vs else none
 |_,_=>none
noncomputable def dM(d:D)(lo hi:Option Int):Option Rv:=
 match d with
 |.tup xs=>some (.val (.tup (cut xs lo hi)))
 |.lst xs=>some (.new (.lst (cut xs lo hi)))
 |_=>none
noncomputable def bZ(fQ:Bool)(d:D):Option (Option Int):=
 match fQ,d with
 |true,_=>some none
 |false,.int i=>some (some i)
 |_,_=>none
def E.fQ:E->Bool
 |.noneE=>true
 |_=>false
noncomputable def bN(i:Nat)(s:Sl)(σ:Ev):Option Ev:=
 match σ[i]? with
 |some (.bor _)=>none
 |some _=>some (σ.set i s)
 |none=>none
noncomputable def dZ:List Nat->List D->Ev->Option Ev
 |[],[],σ=>some σ
 |i::is,d::ds,σ=>(bN i (.val d) σ).bind (dZ is ds)
 |_,_,_=>none
noncomputable def bw:Tg->D->Ev->Option Ev
 |.name i,d,σ=>bN i (.val d) σ
 |.tup is,.tup ds,σ=>dZ is ds σ
 |_,_,_=>none
noncomputable def cZ(i:Nat)(f:Ob->Option Ob)(σ:Ev):Option Ev:=
 match σ[i]? with
 |some (.own o)=>(f o).map fun q=>σ.set i (.own q)
 |some (.bor o)=>(f o).map fun q=>σ.set i (.bor q)
 |_=>none
def ue(f:List D->Option (List D)):Ob->Option Ob
 |.lst xs=>(f xs).map .lst
 |_=>none
noncomputable def rn(i v:D):Ob->Option Ob
 |.lst xs=>match i with
  |.int i=>(ix? xs.length i).map fun j=>.lst (xs.set j v)
  |_=>none
 |.dct ks vs=>if keyOk i&&fits (ks.length+1)then let p:=putD i v ks vs;some (.dct p.1 p.2)else none
 |.sdt ks vs=>if m8 i&&fits (ks.length+1)then let p:=putD i v ks vs;some (.sdt p.1 p.2)else none
inductive Res where
 |ok (r:Rv) (ps:List Sl)|exc (c:Nat) (ps:List Sl)|bad
structure Cf where
 fn:Nat->List Sl->Res
 gl:Nat->Option D
 turns:Nat
def jb(i:Nat):Rv->Bool
 |.ref j=>i==j
 |_=>false
def yO:Rv->Bool
 |.tmp _=>true
 |_=>false
def argv:Rv->Rv
 |.new o=>.val o.d
 |x=>x
noncomputable def enter:List Rv->Ev->Option (List Sl)
 |[],_=>some []
 |.val d::as,σ=>(enter as σ).map (.val d:: ·)
 |.new _::_,_=>none
 |.tmp o::as,σ=>if as.any yO then none else(enter as σ).map (.bor o:: ·)
 |.ref i::as,σ=>
  if as.any (jb i)then none else
  match σ[i]? with
  |some (.own o)=>(enter as σ).map (.bor o:: ·)
  |some (.bor o)=>(enter as σ).map (.bor o:: ·)
  |_=>none
noncomputable def giveBack:List Rv->List Sl->Ev->Option Ev
 |[],[],σ=>some σ
 |.ref i::as,.bor o::ps,σ=>(cZ i (fun _=>some o) σ).bind (giveBack as ps)
 |.ref _::_,_::_,_=>none
 |_::as,_::ps,σ=>giveBack as ps σ
 |_,_,_=>none
noncomputable def tB(c:Cf)(f:Nat)(as:List Rv)(σ:Ev):Out Rv:=
 match enter as σ with
 |none=>.bad
 |some ps=>
  match c.fn f ps with
  |.ok r qs=>match giveBack as qs σ with|some σ'=>.ok r σ'|none=>.bad
  |_=>.bad
noncomputable def aR(tg:Tg)(cond elt:Ev->Out Rv):List D->List D->Ev->Out (List D)
 |[],acc,σ=>.ok acc σ
 |x::xs,acc,σ=>
  match bw tg x σ with
  |none=>.bad
  |some σ₁=>(cond σ₁).cC iB fun b σ₂=>
   if b then(elt σ₂).aq fun d σ₃=>aR tg cond elt xs (acc++[d]) σ₃
   else aR tg cond elt xs acc σ₂
def dX:Option D->Bool
 |some (.lst _)=>true
 |_=>false
def yC:D->Option (List D)
 |.lst xs=>some xs
 |_=>none
noncomputable def rA(k:Nat)(y:D)(σ:Ev):Out Rv:=
 match y,aX k σ with
 |.int i,some (.lst xs)=>if !fits xs.length then .bad else match ix? xs.length i with
  |some j=>match xs[j]?,cZ k (ue fun xs=>some (xs.eraseIdx j)) σ with
   |some d,some σ'=>.ok (.val d) σ'
   |_,_=>.bad
  |none=>.bad
 |_,_=>.bad
def pI:Option D->Bool
 |some (.cH _ _)=>true
 |_=>false
noncomputable def wR(x y:D):Option Rv:=
 match x with
 |.tup xs=>if flat y&&xs.all flat then some (.val (.int (fc y xs)))else none
 |.lst xs=>if flat y&&xs.all flat then some (.val (.int (fc y xs)))else none
 |_=>none
noncomputable def pK(d k x:D):Option D:=
 match d with
 |.cH ks vs=>if keyOk k then some ((cN k ks vs).getD x)else none
 |_=>none
def Hs:List D->Option Rv
 |[k,v]=>if m8 k then some (.new (.sdt [k] [v]))else none
 |_=>none
def wJ(ds:List D):Option Rv:=if ds.length<=30&& !ds.isEmpty then Hs ds else none
noncomputable def bB:D->Option (List D)
 |.tup xs=>some xs
 |.lst xs=>some xs
 |_=>none
def Jk:D->Option (List D)
 |.fZ ks _=>some ks
 |x=>bB x
noncomputable def b1(b:Bi)(x:D):Option Rv:=
 match b with
 |.list=>(Jk x).bind (NQ .list)
 |.len=>(G8 x).map fun n=>.val (.int n)
 |.int=>match x with|.bl b=>some (.val (.int (b2i b)))|.int i=>some (.val (.int i))|_=>none
 |.sorted=>(yC x).bind (NQ .sorted)
 |.copy=>match x with|.cH ks vs=>some (.new (.dct ks vs))|_=>none
 |b=>(bB x).bind (NQ b)
mutual
def ev(c:Cf):E->Ev->Out Rv
 |.var i,σ=>qW i σ
 |.con d,σ=>.ok (.val d) σ
 |.glob k,σ=>match c.gl k with|some d=>.ok (.val d) σ|none=>.bad
 |.tup es,σ=>(evs c es σ).bind fun rs σ=>lift σ ((aP rs).bind fun ds=>if fits ds.length then some (.val (.tup ds))else none)
 |.lis es,σ=>(evs c es σ).bind fun rs σ=>lift σ ((aP rs).bind fun ds=>if fits ds.length then some (.new (.lst ds))else none)
 |.op o a b,σ=>(ev c a σ).aq fun x σ=>(ev c b σ).aq fun y σ=>lift σ (binop o x y)
 |.neg a,σ=>(ev c a σ).aq fun x σ=>lift σ (match x with|.int i=>some (.val (.int (-i)))|_=>none)
 |.cmp o a b,σ=>(ev c a σ).aq fun x σ=>match b.aB with
  |some k=>lift σ ((aX k σ).bind fun d=>(aK o x d).map fun q=>.val (.bl q))
  |none=>(ev c b σ).aq fun y σ=>lift σ ((aK o x y).map fun q=>.val (.bl q))
 |.chain o₁ o₂ a b d,σ=>(ev c a σ).aq fun x σ=>(ev c b σ).aq fun y σ=>(lift σ (aK o₁ x y)).bind fun q σ=>
   if q then(ev c d σ).aq fun z σ=>lift σ ((aK o₂ y z).map fun q=>.val (.bl q))else .ok (.val (.bl false)) σ
 |.and es,σ=>fJ c es σ
 |.or es,σ=>jR c es σ
 |.not a,σ=>(ev c a σ).cC iB fun b σ=>.ok (.val (.bl (!b))) σ
 |.ite t a b,σ=>(ev c t σ).cC iB fun q σ=>if q then ev c a σ else ev c b σ
 |.idx a i,σ=>match a.aB with
  |some k=>if (aX k σ).isNone then .bad else(ev c i σ).aq fun y σ=>lift σ ((aX k σ).bind fun d=>(getD d y).map Rv.val)
  |none=>(ev c a σ).aq fun x σ=>(ev c i σ).aq fun y σ=>lift σ ((getD x y).map Rv.val)
 |.slc a lo hi,σ=>(ev c a σ).aq fun x σ=>(ev c lo σ).aq fun l σ=>match bZ lo.fQ l with
  |none=>.bad
  |some l=>(ev c hi σ).aq fun h σ=>lift σ ((bZ hi.fQ h).bind fun h=>dM x l h)
 |.noneE,σ=>.ok (.val .non) σ
 |.call f as,σ=>(evs c as σ).bind fun as σ=>tB c f as σ
 |.ref i,σ=>match σ[i]? with
  |some (.own _)=>.ok (.ref i) σ
  |some (.bor _)=>.ok (.ref i) σ
  |_=>.bad
 |.rd e,σ=>ev c e σ
 |.tmp e,σ=>(ev c e σ).bind fun x σ=>lift σ (match x with|.new o=>some (.tmp o)|_=>none)
 |.isi a t,σ=>(ev c a σ).aq fun x σ=>.ok (.val (.bl (m7 t x))) σ
 |.bi b a,σ=>match a.aB with
  |some k=>lift σ ((aX k σ).bind fun d=>b1 b d)
  |none=>(ev c a σ).aq fun x σ=>lift σ (b1 b x)
 |.range1 a,σ=>(ev c a σ).aq fun x σ=>lift σ (match x with|.int n=>if fits n.toNat&&zH n then some (.val (.lst (bJ 0 n.toNat)))else none|_=>none)
 |.zip a b,σ=>(ev c a σ).aq fun x σ=>(ev c b σ).aq fun y σ=>lift σ ((bB x).bind fun xs=>(bB y).map fun ys=>.val (.lst (aO xs ys)))
 |.count a b,σ=>(ev c a σ).aq fun x σ=>if (bB x).isNone then .bad else(ev c b σ).aq fun y σ=>lift σ (wR x y)
 |.popAt k a,σ=>if !dX (aX k σ)then .bad else(ev c a σ).aq fun y σ=>rA k y σ
 |.get2 d k x,σ=>match d.aB with
  |some i=>if !pI (aX i σ)then .bad else(ev c k σ).aq fun k σ=>(ev c x σ).aq fun x σ=>lift σ ((aX i σ).bind fun y=>(pK y k x).map Rv.val)
  |none=>.bad
 |.dsp es,σ=>(evs c es σ).bind fun rs σ=>lift σ ((aP rs).bind wJ)
 |.comp nl tg it cond elt,σ=>(ev c it σ).aq fun x σ=>match items x with
  |some xs=>match aR tg (ev c cond) (ev c elt) xs [] (List.replicate nl .un++σ)with
   |.ok ys τ=>.ok (.new (.lst ys)) (τ.drop nl)
   |_=>.bad
  |none=>.bad
 |.nil,_=>.bad
 |.cons _ _,_=>.bad
def fJ(c:Cf):E->Ev->Out Rv
 |.cons h t,σ=>match t with
  |.nil=>ev c h σ
  |t=>(ev c h σ).aq fun x σ=>match x with|.bl true=>fJ c t σ|.bl false=>.ok (.val (.bl false)) σ|_=>.bad
 |_,_=>.bad
def jR(c:Cf):E->Ev->Out Rv
 |.cons h t,σ=>match t with
  |.nil=>ev c h σ
  |t=>(ev c h σ).aq fun x σ=>match x with|.bl true=>.ok (.val (.bl true)) σ|.bl false=>jR c t σ|_=>.bad
 |_,_=>.bad
def evs(c:Cf):E->Ev->Out (List Rv)
 |.nil,σ=>.ok [] σ
 |.cons h t,σ=>(ev c h σ).bind fun x σ=>(evs c t σ).bind fun xs σ=>.ok (argv x::xs) σ
 |_,_=>.bad
end
inductive Fl where
 |next (σ:Ev)|ret (r:Rv) (σ:Ev)|brk (σ:Ev)|cont (σ:Ev)|exc (k:Nat) (σ:Ev)|bad
noncomputable def Out.fl{α:Type}:Out α->(α->Ev->Fl)->Fl
 |.ok a σ,f=>f a σ
 |.exc k σ,_=>.exc k σ
 |.bad,_=>.bad
noncomputable def Out.mF:Out Rv->(D->Ev->Fl)->Fl
 |.ok (.val d) σ,f=>f d σ
 |.ok (.new o) σ,f=>f o.d σ
 |.ok _ _,_=>.bad
 |.exc k σ,_=>.exc k σ
 |.bad,_=>.bad
def Out.Bk(r:Out Rv)(f:Bool->Ev->Fl):Fl:=r.mF fun d σ=>match iB d with|some b=>f b σ|none=>.bad
noncomputable def n6:Rv->Ev->Fl
 |.val d,σ=>.ret (.val d) σ
 |.new o,σ=>.ret (.new o) σ
 |_,_=>.bad
def Fl.seq:Fl->(Ev->Fl)->Fl
 |.next σ,f=>f σ
 |r,_=>r
noncomputable def Fl.turn:Fl->(Ev->Fl)->Fl
 |.next σ,f=>f σ
 |.cont σ,f=>f σ
 |.brk σ,_=>.next σ
 |r,_=>r
noncomputable def aY(tg:Tg)(b:Ev->Fl):List D->Ev->Fl
 |[],σ=>.next σ
 |x::xs,σ=>match bw tg x σ with
  |none=>.bad
  |some σ₁=>(b σ₁).turn (aY tg b xs)
def bL(t:Ev->Out Rv)(b:Ev->Fl):Nat->Ev->Fl
 |0,_=>.bad
 |n+1,σ=>(t σ).Bk fun q σ=>if q then(b σ).turn (bL t b n)else .next σ
def xg:Option Ev->Fl
 |some σ=>.next σ
 |none=>.bad
noncomputable def ex(c:Cf):S->Ev->Fl
 |.nil,σ=>.next σ
 |.cons h t,σ=>(ex c h σ).seq (ex c t)
 |.pass,σ=>.next σ
 |.brk,σ=>.brk σ
 |.cont,σ=>.cont σ
 |.set i e,σ=>(ev c e σ).fl fun x σ=>xg (x.xT.bind fun s=>bN i s σ)
 |.setT is e,σ=>(ev c e σ).mF fun x σ=>xg (bw (.tup is) x σ)
 |.setIx k ix e,σ=>(ev c e σ).mF fun x σ=>if (aX k σ).isNone then .bad else(ev c ix σ).mF fun y σ=>xg (cZ k (rn y x) σ)
 |.expr e,σ=>(ev c e σ).mF fun _ σ=>.next σ
 |.append k e,σ=>if !dX (aX k σ)then .bad else(ev c e σ).mF fun x σ=>xg (cZ k (ue fun xs=>if fits (xs.length+1)then some (xs++[x])else none) σ)
 |.ret e,σ=>match e.aB with
  |some i=>match σ[i]? with
   |some (.own o)=>.ret (.new o) (σ.set i .un)
   |_=>(ev c e σ).fl n6
  |none=>(ev c e σ).fl n6
 |.ite t a b,σ=>(ev c t σ).Bk fun q σ=>if q then ex c a σ else ex c b σ
 |.for_ tg it b,σ=>(ev c it σ).mF fun x σ=>match items x with
  |some xs=>aY tg (ex c b) xs σ
  |none=>.bad
 |.while_ t b,σ=>bL (ev c t) (ex c b) c.turns σ
 |.raise k,σ=>.exc k σ
structure Fn where
 pars:Nat
 names:Nat
 body:S
noncomputable def iG(c:Cf)(f:Fn)(ps:List Sl):Res:=
 if ps.length=f.pars then
  match ex c f.body (ps++List.replicate (f.names-f.pars) .un)with
  |.next σ=>.ok (.val .non) (σ.take f.pars)
  |.ret r σ=>.ok r (σ.take f.pars)
  |.exc k σ=>.exc k (σ.take f.pars)
  |_=>.bad
 else .bad
structure Pg where
 fns:List Fn
 gl:Nat->Option D
 turns:Nat
noncomputable def Pg.fn(p:Pg):Nat->Nat->List Sl->Res
 |0,_,_=>.bad
 |n+1,f,ps=>match p.fns[f]? with
  |some g=>iG ⟨p.fn n,p.gl,p.turns⟩ g ps
  |none=>.bad
def Pg.cf(p:Pg)(n:Nat):Cf:=⟨p.fn n,p.gl,p.turns⟩
def v_0(c:Cf)(i σ):ev c (.var i) σ=qW i σ:=rfl
def v_1(c:Cf)(d σ):ev c (.con d) σ=.ok (.val d) σ:=rfl
def Z9(c:Cf)(k σ):ev c (.glob k) σ=match c.gl k with|some d=>.ok (.val d) σ|none=>.bad:=rfl
def v_3(c:Cf)(es σ):ev c (.tup es) σ=(evs c es σ).bind fun rs σ=>lift σ ((aP rs).bind fun ds=>if fits ds.length then some (.val (.tup ds))else none):=rfl
def v_4(c:Cf)(es σ):ev c (.lis es) σ=(evs c es σ).bind fun rs σ=>lift σ ((aP rs).bind fun ds=>if fits ds.length then some (.new (.lst ds))else none):=rfl
def Z8(c:Cf)(o a b σ):ev c (.op o a b) σ=(ev c a σ).aq fun x σ=>(ev c b σ).aq fun y σ=>lift σ (binop o x y):=rfl
def v_6(c:Cf)(a σ):ev c (.neg a) σ=(ev c a σ).aq fun x σ=>lift σ (match x with|.int i=>some (.val (.int (-i)))|_=>none):=rfl
theorem YM(c:Cf)(o a b σ):ev c (.cmp o a b) σ=(ev c a σ).aq fun x σ=>match b.aB with
  |some k=>lift σ ((aX k σ).bind fun d=>(aK o x d).map fun q=>.val (.bl q))
  |none=>(ev c b σ).aq fun y σ=>lift σ ((aK o x y).map fun q=>.val (.bl q)):=rfl
def Z7(c:Cf)(o₁ o₂ a b d σ):ev c (.chain o₁ o₂ a b d) σ=(ev c a σ).aq fun x σ=>(ev c b σ).aq fun y σ=>(lift σ (aK o₁ x y)).bind fun q σ=>
   if q then(ev c d σ).aq fun z σ=>lift σ ((aK o₂ y z).map fun q=>.val (.bl q))else .ok (.val (.bl false)) σ:=rfl
def Ol(c:Cf)(es σ):ev c (.and es) σ=fJ c es σ:=rfl
def vN(c:Cf)(es σ):ev c (.or es) σ=jR c es σ:=rfl
def Ip(c:Cf)(a σ):ev c (.not a) σ=(ev c a σ).cC iB fun b σ=>.ok (.val (.bl (!b))) σ:=rfl
def Io(c:Cf)(t a b σ):ev c (.ite t a b) σ=(ev c t σ).cC iB fun q σ=>if q then ev c a σ else ev c b σ:=rfl
theorem Fz(c:Cf)(a i σ):ev c (.idx a i) σ=match a.aB with
  |some k=>if (aX k σ).isNone then .bad else(ev c i σ).aq fun y σ=>lift σ ((aX k σ).bind fun d=>(getD d y).map Rv.val)
  |none=>(ev c a σ).aq fun x σ=>(ev c i σ).aq fun y σ=>lift σ ((getD x y).map Rv.val):=rfl
theorem Ow(c:Cf)(a lo hi σ):ev c (.slc a lo hi) σ=(ev c a σ).aq fun x σ=>(ev c lo σ).aq fun l σ=>match bZ lo.fQ l with
  |none=>.bad
  |some l=>(ev c hi σ).aq fun h σ=>lift σ ((bZ hi.fQ h).bind fun h=>dM x l h):=rfl
def U9(c:Cf)(σ):ev c .noneE σ=.ok (.val .non) σ:=rfl
def Ov(c:Cf)(f as σ):ev c (.call f as) σ=(evs c as σ).bind fun as σ=>tB c f as σ:=rfl
theorem Im(c:Cf)(i σ):ev c (.ref i) σ=match σ[i]? with
  |some (.own _)=>.ok (.ref i) σ
  |some (.bor _)=>.ok (.ref i) σ
  |_=>.bad:=rfl
def Il(c:Cf)(e σ):ev c (.rd e) σ=ev c e σ:=rfl
def Ou(c:Cf)(e σ):ev c (.tmp e) σ=(ev c e σ).bind fun x σ=>lift σ (match x with|.new o=>some (.tmp o)|_=>none):=rfl
def Ot(c:Cf)(a t σ):ev c (.isi a t) σ=(ev c a σ).aq fun x σ=>.ok (.val (.bl (m7 t x))) σ:=rfl
theorem nR(c:Cf)(b a σ):ev c (.bi b a) σ=match a.aB with
  |some k=>lift σ ((aX k σ).bind fun d=>b1 b d)
  |none=>(ev c a σ).aq fun x σ=>lift σ (b1 b x):=rfl
def Oq(c:Cf)(a σ):ev c (.range1 a) σ=(ev c a σ).aq fun x σ=>lift σ (match x with|.int n=>if fits n.toNat&&zH n then some (.val (.lst (bJ 0 n.toNat)))else none|_=>none):=rfl
def Ik(c:Cf)(a b σ):ev c (.zip a b) σ=(ev c a σ).aq fun x σ=>(ev c b σ).aq fun y σ=>lift σ ((bB x).bind fun xs=>(bB y).map fun ys=>.val (.lst (aO xs ys))):=rfl
def Oo(c:Cf)(a b σ):ev c (.count a b) σ=(ev c a σ).aq fun x σ=>if (bB x).isNone then .bad else(ev c b σ).aq fun y σ=>lift σ (wR x y):=rfl
def Om(c:Cf)(k a σ):ev c (.popAt k a) σ=if !dX (aX k σ)then .bad else(ev c a σ).aq fun y σ=>rA k y σ:=rfl
theorem lH(c:Cf)(nl tg it cond elt σ):ev c (.comp nl tg it cond elt) σ=(ev c it σ).aq fun x σ=>match items x with
  |some xs=>match aR tg (ev c cond) (ev c elt) xs [] (List.replicate nl .un++σ)with
   |.ok ys τ=>.ok (.new (.lst ys)) (τ.drop nl)
   |_=>.bad
  |none=>.bad:=rfl
theorem U8(c:Cf)(d k x σ):ev c (.get2 d k x) σ=match d.aB with
  |some i=>if !pI (aX i σ)then .bad else(ev c k σ).aq fun k σ=>(ev c x σ).aq fun x σ=>lift σ ((aX i σ).bind fun y=>(pK y k x).map Rv.val)
  |none=>.bad:=rfl
def aej(c:Cf)(es σ):ev c (.dsp es) σ=(evs c es σ).bind fun rs σ=>lift σ ((aP rs).bind wJ):=rfl
def x_0(c:Cf)(σ):ex c .nil σ=.next σ:=rfl
def x_1(c:Cf)(h t σ):ex c (.cons h t) σ=(ex c h σ).seq (ex c t):=rfl
def x_2(c:Cf)(σ):ex c .pass σ=.next σ:=rfl
def x_3(c:Cf)(σ):ex c .brk σ=.brk σ:=rfl
def x_4(c:Cf)(σ):ex c .cont σ=.cont σ:=rfl
def x_5(c:Cf)(i e σ):ex c (.set i e) σ=(ev c e σ).fl fun x σ=>xg (x.xT.bind fun s=>bN i s σ):=rfl
def x_6(c:Cf)(is e σ):ex c (.setT is e) σ=(ev c e σ).mF fun x σ=>xg (bw (.tup is) x σ):=rfl
def x_7(c:Cf)(k ix e σ):ex c (.setIx k ix e) σ=(ev c e σ).mF fun x σ=>if (aX k σ).isNone then .bad else(ev c ix σ).mF fun y σ=>xg (cZ k (rn y x) σ):=rfl
def x_8(c:Cf)(e σ):ex c (.expr e) σ=(ev c e σ).mF fun _ σ=>.next σ:=rfl
def x_9(c:Cf)(k e σ):ex c (.append k e) σ=if !dX (aX k σ)then .bad else(ev c e σ).mF fun x σ=>xg (cZ k (ue fun xs=>if fits (xs.length+1)then some (xs++[x])else none) σ):=rfl
theorem zK(c:Cf)(e σ):ex c (.ret e) σ=match e.aB with
  |some i=>match σ[i]? with
   |some (.own o)=>.ret (.new o) (σ.set i .un)
   |_=>(ev c e σ).fl n6
  |none=>(ev c e σ).fl n6:=rfl
def aei(c:Cf)(t a b σ):ex c (.ite t a b) σ=(ev c t σ).Bk fun q σ=>if q then ex c a σ else ex c b σ:=rfl
theorem aeh(c:Cf)(tg it b σ):ex c (.for_ tg it b) σ=(ev c it σ).mF fun x σ=>match items x with
  |some xs=>aY tg (ex c b) xs σ
  |none=>.bad:=rfl
def aeg(c:Cf)(t b σ):ex c (.while_ t b) σ=bL (ev c t) (ex c b) c.turns σ:=rfl
def aef(c:Cf)(k σ):ex c (.raise k) σ=.exc k σ:=rfl
def aiw(i j):cL (.int i) (.int j)=(i==j):=rfl
def aiv(x y):cL (.str x) (.str y)=decide (x=y):=rfl
def aiu(a b):cL (.bl a) (.bl b)=(a==b):=rfl
def ait(a j):cL (.bl a) (.int j)=(b2i a==j):=rfl
def ais(i b):cL (.int i) (.bl b)=(i==b2i b):=rfl
def air(xs ys):cL (.tup xs) (.tup ys)=jc xs ys:=rfl
def aiq(xs ys):cL (.lst xs) (.lst ys)=jc xs ys:=rfl
def aip:cL .non .non=true:=rfl
def aio(a):cL .non (.bl a)=false:=rfl
def ain(i):cL .non (.int i)=false:=rfl
def agR(x):cL .non (.str x)=false:=rfl
def agQ(a):cL (.bl a) .non=false:=rfl
def agP(a x):cL (.bl a) (.str x)=false:=rfl
def agO(i):cL (.int i) .non=false:=rfl
def agN(i x):cL (.int i) (.str x)=false:=rfl
def agM(x):cL (.str x) .non=false:=rfl
def agL(x a):cL (.str x) (.bl a)=false:=rfl
def agK(x i):cL (.str x) (.int i)=false:=rfl
def ajX(a b):aK .eq a b=if oZ a b then some (cL a b)else none:=rfl
def ajW(a b):aK .ne a b=if oZ a b then some (!cL a b)else none:=rfl
def ajV(a b):aK .lt a b=ltD a b:=rfl
end Mini
end
section
namespace Mini
open PySem L2
def Nu(K:QQq)(H:Hp)(a:Addr)(xs:List V):Prop:=
 (∃o,H a=some (.frz o (.lst xs)))\/
  ∃(o:Obj)(its:Array Value)(n:Nat),K.lookup a=some o/\o.cls=.type "list"/\o.dict=none/\o.data=.seq its n/\its.size<=sizeLine/\Vals xs its.toList
variable{H:Hp}{K:QQq}{a:Addr}
def Nu.sq{xs:List V}(h:Nu K H a xs):jm K H a xs:=by
 rcases h with ⟨o,h⟩|h
 ·exact .inl (.inr ⟨o,h⟩)
 ·exact .inr h
def cQ:Key->D
 |.inl i=>.int i
 |.inr x=>.str x
def eU(k:SK):D:=.tup [.tup (k.1.map .bl),.int k.2]
mutual
def bG(K:QQq)(H:Hp):D->V->Prop
 |.non,v=>v=.non
 |.bl b,v=>v=.bl b
 |.int i,v=>v=.int i
 |.str x,v=>v=.str x
 |.tup ds,v=>∃a vs,v=.ref a/\iy K H a vs/\au K H ds vs
 |.lst ds,v=>∃a vs,v=.ref a/\Nu K H a vs/\au K H ds vs
 |.cH ks ds,v=>∃a o kvs,v=.ref a/\H a=some (.frz o (.dK kvs))/\ks=kvs.map (fun p=>cQ p.1)/\au K H ds (kvs.map (·.2))
 |.fZ ks ds,v=>∃a o xs,v=.ref a/\H a=some (.frz o (.dS xs))/\ks=xs.map (fun x=>eU x.1)/\(∀x∈xs,cF K H x.1 x.2.1)/\au K H ds (xs.map (·.2.2))
def au(K:QQq)(H:Hp):List D->List V->Prop
 |[],vs=>vs=[]
 |d::ds,vs=>∃v r,vs=v::r/\bG K H d v/\au K H ds r
end
structure bV(H H':Hp):Prop where
 tups:∀b xs,H b=some (.tup xs)->H' b=some (.tup xs)
 frzs:∀b o u,H b=some (.frz o u)->H' b=some (.frz o u)
def bV.refl(H:Hp):bV H H:=⟨fun _ _ h=>h,fun _ _ _ h=>h⟩
variable{H1 H2:Hp}
def bV.trans(a:bV H H1)(b:bV H1 H2):bV H H2:=⟨fun c xs h=>b.tups c xs (a.tups c xs h),fun c o u h=>b.frzs c o u (a.frzs c o u h)⟩
variable{v:V}{vs:List V}
section
variable{K:QQq}{H H':Hp}{a:Addr}
def bV.Gb(p:bV H H'){xs:List V}(h:iy K H a xs):iy K H' a xs:=by
 rcases h with (h|⟨o,h⟩)|h
 ·exact .inl (.inl (p.tups _ _ h))
 ·exact .inl (.inr ⟨o,p.frzs _ _ _ h⟩)
 ·exact .inr h
def bV.X6(p:bV H H'){xs:List V}(h:Nu K H a xs):Nu K H' a xs:=by
 rcases h with ⟨o,h⟩|h
 ·exact .inl ⟨o,p.frzs _ _ _ h⟩
 ·exact .inr h
mutual
theorem bG.mono(p:bV H H'):∀{d:D}{v:V},bG K H d v->bG K H' d v
 |.non,_,h=>h
 |.bl _,_,h=>h
 |.int _,_,h=>h
 |.str _,_,h=>h
 |.tup ds,v,h=>by
  unfold bG at h⊢
  obtain⟨a,vs,e,s,l⟩:=h
  exact⟨a,vs,e,p.Gb s,au.mono p l⟩
 |.lst ds,v,h=>by
  unfold bG at h⊢
  obtain⟨a,vs,e,s,l⟩:=h
  exact⟨a,vs,e,p.X6 s,au.mono p l⟩
 |.cH ks ds,v,h=>by
  unfold bG at h⊢
  obtain⟨a,o,kvs,e,s,k,l⟩:=h
  exact⟨a,o,kvs,e,p.frzs _ _ _ s,k,au.mono p l⟩
 |.fZ ks ds,v,h=>by
  unfold bG at h⊢
  obtain⟨a,o,xs,e,s,k,ka,l⟩:=h
  exact⟨a,o,xs,e,p.frzs _ _ _ s,k,fun x hx=>let ⟨b,q1,q2⟩:=ka x hx;⟨b,p.Gb q1,p.Gb q2⟩,au.mono p l⟩
theorem au.mono(p:bV H H'):∀{ds:List D}{vs:List V},au K H ds vs->au K H' ds vs
 |[],_,h=>by unfold au at h⊢;exact h
 |d::ds,vs,h=>by
  unfold au at h⊢
  obtain⟨v,r,e,s,l⟩:=h
  exact⟨v,r,e,bG.mono p s,au.mono p l⟩
end
def au.bH:au K H [] vs↔vs=[]:=by unfold au;exact Iff.rfl
def au.aL{d:D}{ds:List D}:au K H (d::ds) vs↔ ∃v r,vs=v::r/\bG K H d v/\au K H ds r:=by
 constructor
 ·intro h;unfold au at h;exact h
 ·intro h;unfold au;exact h
def au.dj{d:D}{ds:List D}(h:bG K H d v)(t:au K H ds vs):au K H (d::ds) (v::vs):=au.aL.mpr ⟨v,vs,rfl,h,t⟩
def au.fM:au K H [] []:=au.bH.mpr rfl
theorem au.length:∀{ds:List D}{vs:List V},au K H ds vs->ds.length=vs.length
 |[],_,h=>by rw[au.bH.mp h];rfl
 |d::ds,vs,h=>by
  obtain⟨v,r,rfl,_,t⟩:=au.aL.mp h
  simp[au.length t]
theorem au.get:∀{ds:List D}{vs:List V}{i:Nat}{d:D},au K H ds vs->ds[i]? =some d->∃v,vs[i]? =some v/\bG K H d v
 |[],_,_,_,_,e=>by simp at e
 |d::ds,vs,i,d',h,e=>by
  obtain⟨v,r,rfl,hd,t⟩:=au.aL.mp h
  cases i with
  |zero=>simp at e;subst e;exact⟨v,rfl,hd⟩
  |succ i=>obtain⟨w,q,z⟩:=au.get (i:=i) t (by simpa using e);exact⟨w,by simpa using q,z⟩
theorem au.append:∀{ds es:List D}{vs ws:List V},au K H ds vs->au K H es ws->au K H (ds++es) (vs++ws)
 |[],_,_,_,h,t=>by rw[au.bH.mp h];exact t
 |d::ds,es,vs,ws,h,t=>by
  obtain⟨v,r,rfl,hd,q⟩:=au.aL.mp h
  exact au.dj hd (au.append q t)
theorem au.take:∀{ds:List D}{vs:List V}(n:Nat),au K H ds vs->au K H (ds.take n) (vs.take n)
 |_,_,0=>fun _=>au.fM
 |[],_,_+1=>fun h=>by rw[au.bH.mp h];exact au.fM
 |d::ds,vs,n+1=>fun h=>by
  obtain⟨v,r,rfl,hd,q⟩:=au.aL.mp h
  exact au.dj hd (au.take n q)
theorem au.drop:∀{ds:List D}{vs:List V}(n:Nat),au K H ds vs->au K H (ds.drop n) (vs.drop n)
 |_,_,0=>fun h=>h
 |[],_,_+1=>fun h=>by rw[au.bH.mp h];exact au.fM
 |d::ds,vs,n+1=>fun h=>by
  obtain⟨v,r,rfl,hd,q⟩:=au.aL.mp h
  exact au.drop n q
theorem au.eraseIdx:∀{ds:List D}{vs:List V}(n:Nat),au K H ds vs->au K H (ds.eraseIdx n) (vs.eraseIdx n)
 |[],_,_=>fun h=>by rw[au.bH.mp h];exact au.fM
 |d::ds,vs,0=>fun h=>by
  obtain⟨v,r,rfl,hd,q⟩:=au.aL.mp h
  exact q
 |d::ds,vs,n+1=>fun h=>by
  obtain⟨v,r,rfl,hd,q⟩:=au.aL.mp h
  exact au.dj hd (au.eraseIdx n q)
theorem au.set{d:D}{v:V}(hd:bG K H d v):∀{ds:List D}{vs:List V}(n:Nat),au K H ds vs->au K H (ds.set n d) (vs.set n v)
 |[],_,_=>fun h=>by rw[au.bH.mp h];exact au.fM
 |e::ds,vs,0=>fun h=>by
  obtain⟨w,r,rfl,he,q⟩:=au.aL.mp h
  exact au.dj hd q
 |e::ds,vs,n+1=>fun h=>by
  obtain⟨w,r,rfl,he,q⟩:=au.aL.mp h
  exact au.dj he (au.set hd n q)
end
def isOwn:Sl->Option Ob
 |.own o=>some o
 |.bor o=>some o
 |_=>none
def HX(K:QQq)(H:Hp):Ob->HO->Prop
 |.lst xs,u=>∃vs,u=.lst vs/\au K H xs vs
 |.dct ks ds,u=>∃kvs,u=.dK kvs/\ks=kvs.map (fun p=>cQ p.1)/\au K H ds (kvs.map (·.2))
 |.sdt ks ds,u=>∃xs,u=.dS xs/\ks=xs.map (fun x=>eU x.1)/\(∀x∈xs,cF K H x.1 x.2.1)/\au K H ds (xs.map (·.2.2))
theorem HX.mono{K:QQq}{H H':Hp}(p:bV H H'):∀{o:Ob}{u:HO},HX K H o u->HX K H' o u
 |.lst _,_,⟨vs,e,l⟩=>⟨vs,e,l.mono p⟩
 |.dct _ _,_,⟨kvs,e,k,l⟩=>⟨kvs,e,k,l.mono p⟩
 |.sdt _ _,_,⟨xs,e,k,ka,l⟩=>⟨xs,e,k,fun x hx=>let ⟨b,q1,q2⟩:=ka x hx;⟨b,p.Gb q1,p.Gb q2⟩,l.mono p⟩
structure N8(u:HO):Prop where
 tup:∀xs,u≠ .tup xs
 frz:∀q w,u≠ .frz q w
 tbl:∀ps,u≠ .tbl ps
 own:∀x,u≠ .own x
theorem HX.uP:∀{o:Ob}{u:HO},HX K H o u->N8 u
 |.lst _,_,⟨vs,e,_⟩=>by
  subst e
  constructor
  all_goals (intros;intro z;cases z)
 |.dct _ _,_,⟨kvs,e,_⟩=>by
  subst e
  constructor
  all_goals (intros;intro z;cases z)
 |.sdt _ _,_,⟨xs,e,_⟩=>by
  subst e
  constructor
  all_goals (intros;intro z;cases z)
def jA(K:QQq)(H:Hp)(o:Ob)(a:Addr):Prop:=∃u,H a=some u/\HX K H o u
def RM(K:QQq)(H:Hp):Sl->Option V->Prop
 |.un,_=>True
 |.val d,o=>∃v,o=some v/\bG K H d v
 |.own q,o=>∃a,o=some (.ref a)/\jA K H q a
 |.bor q,o=>∃a,o=some (.ref a)/\jA K H q a
def aN(env:Ev)(σ:St)(i:Nat)(a:Addr):Prop:=(∃s xs,env[i]? =some s/\isOwn s=some xs)/\σ[i]? =some (some (.ref a))
structure Sat(K:QQq)(env:Ev)(σ:St)(H:Hp):Prop where
 len:env.length=σ.length
 sl:∀(i:Nat)s,env[i]? =some s->RM K H s (σ[i]?).join
 ne:∀(i j:Nat)a,aN env σ i a->aN env σ j a->i=j
structure Nx(K:QQq)(env:Ev)(σ:St)(H:Hp)(env':Ev)(H':Hp):Prop where
 fH:Sat K env' σ H'
 sub:∀(i:Nat)a,aN env' σ i a->aN env σ i a
 pers:bV H H'
 keep:∀b u,H b=some u->(∀i,¬aN env σ i b)->H' b=some u
 dom:∀b,H' b=none->H b=none
 bors:∀(i:Nat)xs,env[i]? =some (.bor xs)->∃ys,env'[i]? =some (.bor ys)
section
variable{K:QQq}{env env1 env2:Ev}{σ:St}{H H1 H2:Hp}
theorem Nx.refl(h:Sat K env σ H):Nx K env σ H env H:=⟨h,fun _ _ z=>z,bV.refl H,fun _ _ z _=>z,fun _ z=>z,fun _ xs e=>⟨xs,e⟩⟩
theorem Nx.trans(a:Nx K env σ H env1 H1)(b:Nx K env1 σ H1 env2 H2):Nx K env σ H env2 H2:=
 ⟨b.fH,fun i c z=>a.sub i c (b.sub i c z),a.pers.trans b.pers,fun c vs z n=>b.keep c vs (a.keep c vs z n) fun i w=>n i (a.sub i c w),fun c z=>a.dom c (b.dom c z),fun i xs e=>let ⟨ys,e1⟩:=a.bors i xs e;b.bors i ys e1⟩
theorem Sat.own(h:Sat K env σ H){i:Nat}{a:Addr}(o:aN env σ i a):∃q,jA K H q a:=by
 obtain⟨⟨s,xs,e1,e2⟩,e3⟩:=o
 have q:=h.sl i s e1
 rw[e3]at q
 cases s with
 |un=>simp[isOwn]at e2
 |val d=>simp[isOwn]at e2
 |own ys=>obtain⟨b,e,z⟩:=q;cases e;exact⟨ys,z⟩
 |bor ys=>obtain⟨b,e,z⟩:=q;cases e;exact⟨ys,z⟩
def Sat.lO(h:Sat K env σ H)(hn:H a=none)(i:Nat):¬aN env σ i a:=fun o=>by
 obtain⟨q,u,z,_⟩:=h.own o
 rw[hn]at z;cases z
end
def gJ(K:QQq)(σ:St)(H₀ H:Hp):Rv->V->Prop
 |.val d,v=>bG K H d v
 |.new q,v=>∃a,v=.ref a/\jA K H q a/\H₀ a=none
 |.tmp q,v=>∃a,v=.ref a/\jA K H q a/\H₀ a=none
 |.ref i,v=>σ[i]? =some (some v)
abbrev Wi:=Nat->Ev->St->Hp->Prop
def tM(K:QQq)(W:Wi)(env:Ev)(r:Out Rv):TE:=fun σ H Q=>Sat K env σ H/\match r with
 |.ok x env'=>∀v H',Nx K env σ H env' H'->gJ K σ H H' x v->Q v H'
 |.exc c env'=>∀H',Nx K env σ H env' H'->W c env' σ H'
 |.bad=>False
def tD(K:QQq)(W:Wi)(env:Ev)(r:Out Rv):TE:=fun σ H Q=>Sat K env σ H/\match r with
 |.ok (.val d) env'=>∀v H',Nx K env σ H env' H'->bG K H' d v->Q v H'
 |.ok (.new q) env'=>∀v H',Nx K env σ H env' H'->bG K H' q.d v->Q v H'
 |.ok _ _=>False
 |.exc c env'=>∀H',Nx K env σ H env' H'->W c env' σ H'
 |.bad=>False
def tT(K:QQq)(W:Wi)(env:Ev)(r:Out Rv):TT:=fun σ H Q=>Sat K env σ H/\match r with
 |.ok x env'=>∃d b,x.jy=some d/\iB d=some b/\∀H',Nx K env σ H env' H'->Q b H'
 |.exc c env'=>∀H',Nx K env σ H env' H'->W c env' σ H'
 |.bad=>False
variable{X:Cx}{e:Expr}
def PE.imp{t t':TE}(h:PE X e t)(i:∀σ H Q,t' σ H Q->t σ H Q):PE X e t':=fun Q0q s σ H Q I q=>h Q0q s σ H Q I (i σ H Q q)
def PT.imp{t t':TT}(h:PT X e t)(i:∀σ H Q,t' σ H Q->t σ H Q):PT X e t':=fun Q0q s σ H Q I q=>h Q0q s σ H Q I (i σ H Q q)
def _root_.L2.bW.there{P:Program}{w:World}{h:Heap}{o:HO}(x:bW P w H h a o):∃u,h.get? a=some u:=by
 cases o with
 |lst xs=>obtain⟨_,_,_,_,e⟩:=x;exact⟨_,e⟩
 |tup xs=>obtain⟨_,_,_,p⟩:=x;obtain⟨o,e,_⟩:=p;exact⟨_,e⟩
 |dK kvs=>obtain⟨_,_,_,_,o,_,_,e,_⟩:=x;exact⟨_,e⟩
 |dT kvs=>obtain⟨_,_,_,_,o,_,_,e,_⟩:=x;exact⟨_,e⟩
 |dS xs=>obtain⟨_,_,_,_,o,_,_,_,e,_⟩:=x;exact⟨_,e⟩
 |set S n=>obtain⟨o,_,_,_,e,_⟩:=x;exact⟨_,e⟩
 |ins C dx fs=>obtain⟨_,_,_,e,_⟩:=x;exact⟨_,e⟩
 |own y=>obtain⟨_,e⟩:=x;exact⟨_,e⟩
 |xd fs=>obtain⟨_,⟨_,_,_,e,_⟩,_⟩:=x;exact⟨_,e⟩
 |rng lo hi=>obtain⟨_,_,_,e⟩:=x;exact⟨_,e⟩
 |frz ob u=>obtain⟨e,_⟩:=x;exact⟨_,e⟩
 |tbl ps=>exact⟨_,show h.get? a=some _ from x⟩
 |met f y=>exact⟨_,show h.get? a=some _ from x⟩
 |ext φ=>obtain⟨_,⟨_,e⟩,_⟩:=x;exact⟨_,e⟩
variable{Q0q:QQz}{s:Shared}{σ:St}
def Inv.freeze{u:HO}(I:Inv X Q0q σ H s)(h:H a=some u)(hu:N8 u):
  ∃o,Inv X Q0q σ (upd H a (.frz o u)) s:=by
 obtain⟨o,ho⟩:=(I.hok a _ h).there
 refine⟨o,?_⟩
 have ne:∀b w,H b=some w->w≠u->b≠a:=fun b w q n z=>by subst z;rw[h]at q;cases q;exact n rfl
 have stay:∀b w,b≠a->H b=some w->upd H a (.frz o u) b=some w:=fun b w n q=>by rw[aC n];exact q
 have hok:mG X.prog X.w (upd H a (.frz o u)) s.heap:=fun b w q=>by
  have st:∀c v,bW X.prog X.w H s.heap c v->bW X.prog X.w (upd H a (.frz o u)) s.heap c v:=fun c v z=>
   z.stay (fun c v _ q=>q) (fun e q=>stay e _ (ne e _ q (hu.own c).symm) q) fun e xs q=>stay e _ (ne e _ q (hu.tup xs).symm) q
  by_cases hb:b=a
  ·subst hb
   rw[aW]at q
   cases q
   exact⟨ho,st _ _ (I.hok b _ h)⟩
  ·rw[aC hb]at q
   exact st _ _ (I.hok b w q)
 have J:=I.step (h':=s.heap) (H':=upd H a (.frz o u)) (g':=s.gens) (t':=s.toks) (d':=s.drawn) (ch:=[]) (fun _ z=>nomatch z)
  (fun b o _ _ _ q _=>q) (fun b o _ _ _ q _=>⟨o.slots,q⟩) (fun b o _ q n=>by
   have hb:b≠a:=fun z=>by subst z;rw[h]at n;cases n
   rw[aC hb];exact n) (fun b o _ q=>⟨o,q⟩)
  (fun b xs q=>stay b _ (ne b _ q (hu.tup xs).symm) q) (fun b o w q=>stay b _ (ne b _ q (hu.frz o w).symm) q) (fun b ps q=>⟨#[],by rw[stay b _ (ne b _ q (hu.tbl ps).symm) q];simp⟩) (fun m q=>q) hok I.bare
 exact J
variable{i:Nat}
section
variable{K:QQq}{env:Ev}{σ:St}{H H1:Hp}{a:Addr}{u:HO}{o:Obj}{q:Ob}
def gO(h:H a=some u)(hu:N8 u):bV H (upd H a (.frz o u)):=by
 refine⟨fun b xs q=>?_,fun b o' w q=>?_⟩
 ·rw[aC (fun z=>by subst z;rw[h]at q;cases q;exact hu.tup xs rfl)];exact q
 ·rw[aC (fun z=>by subst z;rw[h]at q;cases q;exact hu.frz o' w rfl)];exact q
def HX.den{H':Hp}(h:HX K H' q u)(e:H' a=some (.frz o u)):bG K H' q.d (.ref a):=by
 cases q with
 |lst xs=>
  obtain⟨vs,rfl,l⟩:=h
  show bG K H' (.lst xs) (.ref a)
  unfold bG
  exact⟨a,vs,rfl,.inl ⟨o,e⟩,l⟩
 |dct ks ds=>
  obtain⟨kvs,rfl,k,l⟩:=h
  show bG K H' (.cH ks ds) (.ref a)
  unfold bG
  exact⟨a,o,kvs,rfl,e,k,l⟩
 |sdt ks ds=>
  obtain⟨xs,rfl,k,ka,l⟩:=h
  show bG K H' (.fZ ks ds) (.ref a)
  unfold bG
  exact⟨a,o,xs,rfl,e,k,ka,l⟩
def RM.keep{H':Hp}{sl:Sl}{v:Option V}(p:bV H H')(h:RM K H sl v)(k:∀b u,isOwn sl≠none->v=some (.ref b)->H b=some u->H' b=some u):RM K H' sl v:=by
 cases sl with
 |un=>trivial
 |val d=>obtain⟨v,e1,e2⟩:=h;exact⟨v,e1,e2.mono p⟩
 |own q=>
  obtain⟨b,e1,w,e2,e3⟩:=h
  exact⟨b,e1,w,k b w (by simp[isOwn]) e1 e2,e3.mono p⟩
 |bor q=>
  obtain⟨b,e1,w,e2,e3⟩:=h
  exact⟨b,e1,w,k b w (by simp[isOwn]) e1 e2,e3.mono p⟩
def v6{sl:Sl}{b:Addr}(e:env[i]? =some sl)(ho:isOwn sl≠none)(ev:(σ[i]?).join=some (.ref b)):aN env σ i b:=by
 refine⟨?_,?_⟩
 ·cases q:isOwn sl with
  |none=>exact absurd q ho
  |some o=>exact⟨sl,o,e,q⟩
 ·cases w:σ[i]? with
  |none=>rw[w]at ev;cases ev
  |some y=>rw[w]at ev;simp at ev;rw[ev]
theorem Sat.keep{H':Hp}(S:Sat K env σ H)(p:bV H H')(k:∀i b u,aN env σ i b->H b=some u->H' b=some u):Sat K env σ H':=
 ⟨S.len,fun i sl e=>(S.sl i sl e).keep p fun b u ho ev hb=>k i b u (v6 e ho ev) hb,S.ne⟩
def Sat.freeze(S:Sat K env σ H)(h:H a=some u)(hu:N8 u)(no:∀i,¬aN env σ i a):Sat K env σ (upd H a (.frz o u)):=
 S.keep (gO h hu) fun i b w ow hb=>by
  have nb:b≠a:=fun z=>by subst z;exact no i ow
  rw[aC nb];exact hb
end
variable{env:Ev}{r:Out Rv}
def JX{W:Wi}(h:PE X e (tM X.K W env r)):PE X e (tD X.K W env r):=by
 intro Q0q s σ H Q I q
 obtain⟨S,q⟩:=q
 cases r with
 |bad=>exact q.elim
 |exc c env'=>exact h Q0q s σ H Q I ⟨S,q⟩
 |ok x env'=>
  cases x with
  |val d=>exact h Q0q s σ H Q I ⟨S,q⟩
  |ref i=>exact False.elim q
  |tmp xs=>exact False.elim q
  |new xs=>
   refine cA (h Q0q s σ H (fun v H'=>Nx X.K env σ H env' H'/\gJ X.K σ H H' (.new xs) v) I ⟨S,fun v H' n k=>⟨n,k⟩⟩) fun u s1⟨v,H1,I1,r1,N,k⟩=>?_
   obtain⟨a,rfl,⟨u,ha,hl⟩,h0⟩:=k
   have hu:=hl.uP
   obtain⟨o,I2⟩:=Inv.freeze I1 ha hu
   have no:∀i,¬aN env' σ i a:=fun i z=>S.lO h0 i (N.sub i a z)
   have p:=gO (o:=o) ha hu
   refine⟨.ref a,_,I2,r1,q (.ref a) _ ⟨N.fH.freeze ha hu no,N.sub,N.pers.trans p,fun b ws z n=>?_,fun b z=>?_,N.bors⟩ ((hl.mono p).den aW)⟩
   ·rw[aC (fun w=>by subst w;rw[h0]at z;cases z)];exact N.keep b ws z n
   ·refine N.dom b ?_
    by_cases hb:b=a
    ·subst hb;rw[aW]at z;cases z
    ·rw[aC hb]at z;exact z
theorem zp:∀{bs:List D}{cs:List Bool},bools bs=some cs->bs=cs.map .bl
 |[],_,e=>by cases e;rfl
 |d::bs,cs,e=>by
  cases d with
  |bl b=>
   simp only[bools,QJz]at e
   obtain⟨r,e1,rfl⟩:=e
   simp[zp e1]
  |_=>cases e
theorem Ew{K:QQq}{H:Hp}:∀{cs:List Bool}{vs:List V},au K H (cs.map .bl) vs->vs=cs.map .bl
 |[],vs,h=>au.bH.mp h
 |c::cs,vs,h=>by
  obtain⟨v,r,rfl,h1,h2⟩:=au.aL.mp h
  cases h1
  rw[Ew h2]
  rfl
def jQ{x:D}(h:m8 x=true):∃k:SK,x=eU k:=by
 unfold m8 at h
 split at h
 ·rename_i bs j
  obtain⟨cs,e⟩:=Option.isSome_iff_exists.mp h
  exact⟨(cs,j),by rw[zp e];rfl⟩
 ·cases h
def qL{k:SK}(h:bG K H (eU k) v):∃a,v=.ref a/\cF K H k a:=by
 unfold eU bG at h
 obtain⟨a,vs,rfl,sq,l⟩:=h
 obtain⟨v1,r,rfl,h1,l⟩:=au.aL.mp l
 obtain⟨v2,r2,rfl,h2,l⟩:=au.aL.mp l
 cases au.bH.mp l
 cases h2
 unfold bG at h1
 obtain⟨b,ws,rfl,sq2,l2⟩:=h1
 rw[Ew l2]at sq2
 exact⟨a,rfl,b,sq,sq2⟩
theorem Eo:∀a b:List Bool,jc (a.map .bl) (b.map .bl)=decide (a=b)
 |[],[]=>rfl
 |[],_::_=>by simp[jc]
 |_::_,[]=>by simp[jc]
 |x::a,y::b=>by
  simp only[Qyz,jc,cL,Eo a b]
  cases x<;>cases y<;>simp
def Bm(x y:SK):cL (eU x) (eU y)=decide (x=y):=by
 obtain⟨a,i⟩:=x
 obtain⟨b,j⟩:=y
 simp only[eU,cL,jc,Eo]
 by_cases p:a=b<;>by_cases q:i=j<;>simp[p,q]
theorem Eb(k:SK):∀xs:List SV,aH (eU k) (xs.map fun x=>eU x.1)=(yF k xs).isSome
 |[]=>rfl
 |x::xs=>by
  simp only[Qyz,aH,yF,Bm,Eb k xs]
  by_cases c:x.1=k<;>simp[c]
theorem Dm{K:QQq}{H:Hp}(k:SK):∀{xs:List SV}{ds:List D}{z:D},cN (eU k) (xs.map fun x=>eU x.1) ds=some z->au K H ds (xs.map (·.2.2))->∃w,yF k xs=some w/\bG K H z w
 |[],ds,z,e,_=>by cases ds<;>cases e
 |x::xs,[],z,e,_=>by cases e
 |x::xs,d::ds,z,e,l=>by
  obtain⟨v,r,e1,h1,h2⟩:=au.aL.mp l
  cases e1
  simp only[Qyz,cN,Bm]at e
  simp only[yF]
  by_cases c:x.1=k
  ·simp only[c,decide_true,if_true]at e
   cases e
   exact⟨_,if_pos c,h1⟩
  ·simp only[c,decide_false,Qxq,if_false]at e
   rw[if_neg c]
   exact Dm k e h2
def gJ.weaken{H0:Hp}{x:Rv}(h:gJ K σ H1 H x v)(d:∀b,H1 b=none->H0 b=none):gJ K σ H0 H x v:=by
 cases x with
 |val d=>exact h
 |ref i=>exact h
 |new xs=>obtain⟨a,e,p,z⟩:=h;exact⟨a,e,p,d a z⟩
 |tmp xs=>obtain⟨a,e,p,z⟩:=h;exact⟨a,e,p,d a z⟩
variable{R:VK}{env1:Ev}
section
variable{K:QQq}{W:Wi}{env:Ev}{σ:St}{H:Hp}{Q:VK}
def Sy(S:tM K W env r σ H Q)(N:Nx K env σ H env1 H1):tM K W env1 r σ H1 Q:=by
 obtain⟨_,h⟩:=S
 refine⟨N.fH,?_⟩
 cases r with
 |bad=>exact h
 |exc c env2=>exact fun H' N'=>h H' (N.trans N')
 |ok x env2=>exact fun v H' N' z=>h v H' (N.trans N') (z.weaken N.dom)
theorem aU{f:D->Ev->Out Rv}(h:tM K W env (r.aq f) σ H Q)
  (k:∀d env1 v H1,Nx K env σ H env1 H1->bG K H1 d v->tM K W env1 (f d env1) σ H1 Q->R v H1):tD K W env r σ H R:=by
 have step:∀d env1,r.aq f=f d env1->∀v H1,Nx K env σ H env1 H1->bG K H1 d v->R v H1:=fun d env1 e v H1 N D=>by
  rw[e]at h
  exact k d env1 v H1 N D (Sy h N)
 obtain⟨S,h⟩:=h
 refine⟨S,?_⟩
 cases r with
 |bad=>exact h
 |exc c env1=>exact h
 |ok x env1=>
  cases x with
  |val d=>exact fun v H1 N D=>step d env1 rfl v H1 N D
  |new xs=>exact fun v H1 N D=>step xs.d env1 rfl v H1 N D
  |ref i=>exact h
  |tmp xs=>exact h
theorem xM{f:Bool->Ev->Out Rv}{R:Bool->Hp->Prop}(h:tM K W env (r.cC iB f) σ H Q)
  (k:∀b env1 H1,Nx K env σ H env1 H1->tM K W env1 (f b env1) σ H1 Q->R b H1):tT K W env r σ H R:=by
 have step:∀d env1 x,x.jy=some d->r=.ok x env1->∃b,iB d=some b/\∀H1,Nx K env σ H env1 H1->R b H1:=fun d env1 x ex er=>by
  subst er
  cases q:iB d with
  |none=>
   cases x with
   |val d'=>cases ex;simp only[Out.cC,Out.aq,q]at h;exact h.2.elim
   |new xs=>cases ex;simp only[Out.cC,Out.aq,q]at h;exact h.2.elim
   |ref i=>cases ex
   |tmp xs=>cases ex
  |some b=>
   refine⟨b,rfl,fun H1 N=>k b env1 H1 N (Sy ?_ N)⟩
   cases x with
   |val d'=>cases ex;simp only[Out.cC,Out.aq,q]at h;exact h
   |new xs=>cases ex;simp only[Out.cC,Out.aq,q]at h;exact h
   |ref i=>cases ex
   |tmp xs=>cases ex
 refine⟨h.1,?_⟩
 cases r with
 |bad=>exact h.2
 |exc c env1=>exact h.2
 |ok x env1=>
  cases x with
  |val d=>obtain⟨b,e,q⟩:=step d env1 _ rfl rfl;exact⟨d,b,rfl,e,q⟩
  |new xs=>obtain⟨b,e,q⟩:=step xs.d env1 _ rfl rfl;exact⟨xs.d,b,rfl,e,q⟩
  |ref i=>exact h.2.elim
  |tmp xs=>exact h.2.elim
def cI{o:Option Rv}(h:tM K W env (lift env o) σ H Q):∃z,o=some z/\Sat K env σ H/\∀v H',Nx K env σ H env H'->gJ K σ H H' z v->Q v H':=by
 obtain⟨S,h⟩:=h
 cases o with
 |none=>exact h.elim
 |some z=>exact⟨z,rfl,S,h⟩
def dY{d:D}(h:tM K W env (.ok (.val d) env) σ H Q)(e:bG K H d v):Q v H:=h.2 v H (Nx.refl h.1) e
def Nx.laid{p:Addr}{o:HO}(S:Sat K env σ H)(hp:H p=none):Nx K env σ H env (upd H p o):=by
 have ne:∀b u,H b=some u->b≠p:=fun b u q z=>by subst z;rw[hp]at q;cases q
 have pe:bV H (upd H p o):=⟨fun b xs q=>by rw[aC (ne b _ q)];exact q,fun b o' u q=>by rw[aC (ne b _ q)];exact q⟩
 refine⟨S.keep pe fun i b u _ q=>by rw[aC (ne b _ q)];exact q,fun _ _ z=>z,pe,fun b vs q _=>by rw[aC (ne b _ q)];exact q,fun b q=>?_,fun _ xs e=>⟨xs,e⟩⟩
 ·by_cases hb:b=p
  ·subst hb;exact hp
  ·rw[aC hb]at q;exact q
end
def GE(X:Cx)(W:Wi)(c:Cf)(m:E)(e:Expr):Prop:=∀env,PE X e (tM X.K W env (ev c m env))
def aD(X:Cx)(W:Wi)(c:Cf)(m:E):TE:=fun σ H Q=>∃env,tD X.K W env (ev c m env) σ H Q
def aT(X:Cx)(W:Wi)(c:Cf)(m:E):TT:=fun σ H Q=>∃env,tT X.K W env (ev c m env) σ H Q
def GT(X:Cx)(W:Wi)(c:Cf)(m:E)(e:Expr):Prop:=PT X e (aT X W c m)
variable{x:Str}
section
variable{X:Cx}{W:Wi}{c:Cf}{m m1 m2 m3:E}{e a b:Expr}{pos:Pos}
def GE.d(h:GE X W c m e):PE X e (aD X W c m):=fun Q0q s σ H Q I⟨env,q⟩=>JX (h env) Q0q s σ H Q I q
theorem bG.iB{K:QQq}{H:Hp}{x:D}{v:V}{k:Bool}(h:bG K H x v)(e:iB x=some k):Nm K v H k:=by
 cases x with
 |non=>cases h;simp[Mini.iB]at e;subst e;rfl
 |bl b=>cases h;simp[Mini.iB]at e;subst e;rfl
 |int i=>cases h;simp[Mini.iB]at e;subst e;rfl
 |str y=>simp[Mini.iB]at e
 |tup xs=>
  unfold bG at h
  obtain⟨p,vs,rfl,hq,l⟩:=h
  have e':(!xs.isEmpty)=k:=QEq e
  refine .inr (.inl ⟨vs,hq,?_⟩)
  have:=l.length
  rw[<-e']
  cases xs<;>cases vs<;>simp_all
 |lst xs=>
  unfold bG at h
  obtain⟨p,vs,rfl,hq,l⟩:=h
  have e':(!xs.isEmpty)=k:=QEq e
  refine .inl ⟨vs,hq.sq,?_⟩
  have:=l.length
  rw[<-e']
  cases xs<;>cases vs<;>simp_all
 |cH ks vs=>simp[Mini.iB]at e
 |fZ ks vs=>simp[Mini.iB]at e
def xO{Q:Bool->Hp->Prop}(h:tT K W env r σ H Q):tD K W env r σ H (fun v H'=>∃k,Nm K v H' k/\Q k H'):=by
 obtain⟨S,h⟩:=h
 refine⟨S,?_⟩
 cases r with
 |bad=>exact h
 |exc c env1=>exact h
 |ok x env1=>
  obtain⟨d,b,e1,e2,q⟩:=h
  cases x with
  |val d'=>cases e1;exact fun v H' N D=>⟨b,D.iB e2,q H' N⟩
  |new xs=>cases e1;exact fun v H' N D=>⟨b,D.iB e2,q H' N⟩
  |ref i=>cases e1
  |tmp xs=>cases e1
def GE.t(h:GE X W c m e)(he:∀whole,isTrue e X.env whole=(do let v<-whole;standAt e.pos;holding [v] (truthy v))):GT X W c m e:=
 PT.imp (JM h.d he) fun σ H Q⟨env,q⟩=>⟨env,xO q⟩
def CW:D->Const->Bool
 |.non,.none=>true
 |.bl b,.bool b'=>b==b'
 |.int i,.int j=>i==j
 |.str x,.str y=>decide (x=y)
 |_,_=>false
def XS{x:D}{k:Const}(h:CW x k=true):GE X W c (.con x) (.Constant k i pos):=by
 intro env
 cases x with
 |non=>cases k<;>first|exact PE.imp V9 (fun σ H Q q=>dY q rfl)|simp[CW]at h
 |bl y=>cases k<;>first|(simp[CW]at h;subst h;exact PE.imp abf (fun σ H Q q=>dY q rfl))|simp[CW]at h
 |int y=>cases k<;>first|(simp[CW]at h;subst h;exact PE.imp Wb (fun σ H Q q=>dY q rfl))|simp[CW]at h
 |str y=>cases k<;>first|(simp[CW]at h;subst h;exact PE.imp V8 (fun σ H Q q=>dY q rfl))|simp[CW]at h
 |tup _=>cases k<;>simp[CW]at h
 |lst _=>cases k<;>simp[CW]at h
 |cH _ _=>cases k<;>simp[CW]at h
 |fZ _ _=>cases k<;>simp[CW]at h
def bY(h:(σ[i]?).join=some v):σ[i]? =some (some v):=by
 cases w:σ[i]? with
 |none=>rw[w]at h;cases h
 |some y=>rw[w]at h;simp at h;rw[h]
def Nx.give{q:Ob}{a:Addr}{u:HO}{o:Obj}(S:Sat K env σ H)(e:env[i]? =some (.own q))(es:σ[i]? =some (some (.ref a)))
  (ha:H a=some u)(l:HX K H q u):Nx K env σ H (env.set i (.val q.d)) (upd H a (.frz o u)):=by
 have hu:=l.uP
 have p:=gO (o:=o) ha hu
 have oa:aN env σ i a:=⟨⟨_,q,e,rfl⟩,es⟩
 have hi:i<env.length:=(QCz.mp e).1
 have sub:∀j b,aN (env.set i (.val q.d)) σ j b->aN env σ j b/\j≠i:=fun j b z=>by
  obtain⟨⟨s,ys,e1,e2⟩,e3⟩:=z
  by_cases hj:i=j
  ·subst hj;rw[Qwq hi]at e1;cases e1;simp[isOwn]at e2
  ·rw[Qxz hj]at e1;exact⟨⟨⟨s,ys,e1,e2⟩,e3⟩,fun z=>hj z.symm⟩
 have ne:∀j b,aN env σ j b->j≠i->b≠a:=fun j b z hj q=>hj (S.ne j i a (q▸z) oa)
 refine⟨⟨by simpa using S.len,fun j s ej=>?_,fun j k b z w=>S.ne j k b (sub j b z).1 (sub k b w).1⟩,fun j b z=>(sub j b z).1,p,fun b ws q n=>?_,fun b q=>?_,fun j ys ej=>?_⟩
 ·by_cases hj:i=j
  ·subst hj
   rw[Qwq hi]at ej
   cases ej
   exact⟨.ref a,by rw[es];rfl,(l.mono p).den aW⟩
  ·rw[Qxz hj]at ej
   refine(S.sl j s ej).keep p fun b w ho ev hb=>?_
   rw[aC (ne j b (v6 ej ho ev) fun z=>hj z.symm)];exact hb
 ·rw[aC (fun z=>by subst z;exact n i oa)];exact q
 ·by_cases hb:b=a
  ·subst hb;rw[aW]at q;cases q
  ·rw[aC hb]at q;exact q
 ·by_cases hj:i=j
  ·subst hj;rw[e]at ej;cases ej
  ·exact⟨ys,by rw[Qxz hj];exact ej⟩
def Xw(hN:X.N[i]? =some x)(hv:Z0 X.env.scope x)(hd:(x==("__debug__":Str))=false)(hcd:(x==("__classdict__":Str))=false):GE X W c (.var i) (.Name x pos):=by
 intro env Q0q s σ H Q I q
 have B:=JW (X:=X) (pos:=pos) hN hv hd hcd
 simp only[v_0,qW]at q
 cases e:env[i]? with
 |none=>rw[e]at q;exact q.2.elim
 |some sl=>
  rw[e]at q
  cases sl with
  |un=>exact q.2.elim
  |bor xs=>exact q.2.elim
  |val d=>
   obtain⟨v,e1,e2⟩:=q.1.sl i _ e
   exact B Q0q s σ H Q I ⟨v,bY e1,dY q e2⟩
  |own xs=>
   obtain⟨a,e1,w,e2,e3⟩:=q.1.sl i _ e
   refine cA (B Q0q s σ H (fun v H'=>v=.ref a/\H'=H) I ⟨.ref a,bY e1,rfl,rfl⟩) fun u s1⟨v,H1,I1,r1,k1,k2⟩=>?_
   subst k1 k2
   obtain⟨o,I2⟩:=Inv.freeze I1 e2 e3.uP
   exact⟨.ref a,_,I2,r1,q.2 _ _ (Nx.give q.1 e (bY e1) e2 e3) ((e3.mono (gO e2 e3.uP)).den aW)⟩
end
section
variable{X:Cx}
end
def iM(K:QQq)(σ:St)(H₀ H:Hp):List Rv->List V->Prop
 |[],vs=>vs=[]
 |x::xs,vs=>∃v r,vs=v::r/\gJ K σ H₀ H x v/\iM K σ H₀ H xs r
def Sx(K:QQq)(W:Wi)(env:Ev)(r:Out (List Rv)):TA:=fun σ H Q=>Sat K env σ H/\match r with
 |.ok xs env'=>∀vs H',Nx K env σ H env' H'->iM K σ H H' xs vs->Q vs H'
 |.exc c env'=>∀H',Nx K env σ H env' H'->W c env' σ H'
 |.bad=>False
def tA(K:QQq)(W:Wi)(env:Ev)(r:Out Rv):TE:=fun σ H Q=>Sat K env σ H/\match r with
 |.ok x env'=>∀v H',Nx K env σ H env' H'->gJ K σ H H' (argv x) v->Q v H'
 |.exc c env'=>∀H',Nx K env σ H env' H'->W c env' σ H'
 |.bad=>False
def GA(X:Cx)(W:Wi)(c:Cf)(m:E)(es:List Expr):Prop:=∀env,PA X es (Sx X.K W env (evs c m env))
def gJ.on{env2:Ev}{x:Rv}(S:Sat K env σ H)(N:Nx K env σ H env1 H1)(N2:Nx K env1 σ H1 env2 H2)(h:gJ K σ H H1 x v):gJ K σ H H2 x v:=by
 have no:∀a,H a=none->∀i,¬aN env1 σ i a:=fun a h0 i z=>S.lO h0 i (N.sub i a z)
 cases x with
 |val d=>exact bG.mono N2.pers h
 |ref i=>exact h
 |new xs=>obtain⟨a,e,⟨u,p,l⟩,z⟩:=h;exact⟨a,e,⟨u,N2.keep a u p (no a z),l.mono N2.pers⟩,z⟩
 |tmp xs=>obtain⟨a,e,⟨u,p,l⟩,z⟩:=h;exact⟨a,e,⟨u,N2.keep a u p (no a z),l.mono N2.pers⟩,z⟩
variable{xs:List D}
def kI{p:Addr}(S:Sat K env σ H)(l:au K H xs vs)(hp:H p=none):gJ K σ H (upd H p (.lst vs)) (.new (.lst xs)) (.ref p):=
 ⟨p,rfl,⟨_,aW,vs,rfl,l.mono (Nx.laid (o:=.lst vs) S hp).pers⟩,hp⟩
theorem iM.weaken{K:QQq}{σ:St}{H0 H1 H:Hp}:∀{xs:List Rv}{vs:List V},iM K σ H1 H xs vs->(∀b,H1 b=none->H0 b=none)->iM K σ H0 H xs vs
 |[],_,h,_=>h
 |x::xs,vs,h,d=>by
  obtain⟨v,r,e,h1,h2⟩:=h
  exact⟨v,r,e,h1.weaken d,iM.weaken h2 d⟩
variable{Q:VK}
section
variable{X:Cx}{W:Wi}{c:Cf}{m m1 m2 m3:E}{e a b:Expr}{es:List Expr}{pos:Pos}
def PA.imp{t t':TA}(h:PA X es t)(i:∀σ H Q,t' σ H Q->t σ H Q):PA X es t':=fun p Q0q s σ H Q I q=>h p Q0q s σ H Q I (i σ H Q q)
def GE.ag(h:GE X W c m e)(env:Ev):PE X e (tA X.K W env (ev c m env)):=by
 intro Q0q s σ H Q I q
 obtain⟨S,q⟩:=q
 cases r:ev c m env with
 |bad=>rw[r]at q;exact q.elim
 |exc k env'=>rw[r]at q;exact h env Q0q s σ H Q I ⟨S,by rw[r];exact q⟩
 |ok x env'=>
  rw[r]at q
  cases x with
  |new xs=>exact JX (h env) Q0q s σ H Q I ⟨S,by rw[r];exact q⟩
  |val d=>exact h env Q0q s σ H Q I ⟨S,by rw[r];exact q⟩
  |ref i=>exact h env Q0q s σ H Q I ⟨S,by rw[r];exact q⟩
  |tmp xs=>exact h env Q0q s σ H Q I ⟨S,by rw[r];exact q⟩
def Lz:GA X W c .nil []:=fun env=>PA.imp fL fun σ H Q q=>by
 obtain⟨S,q⟩:=q
 simp only[evs]at q
 exact q [] H (Nx.refl S) rfl
def Ei(h:GE X W c m1 e)(t:GA X W c m2 es)(hs:starEach (e::es) X.env=(false,eval e X.env)::starEach es X.env):GA X W c (.cons m1 m2) (e::es):=by
 intro env
 have B:PA X (e::es) (Jd (fun σ H Q=>∃env,tA X.K W env (ev c m1 env) σ H Q) (fun σ H Q=>∃env,Sx X.K W env (evs c m2 env) σ H Q)):=
  cM (fun Q0q s σ H Q I⟨env,q⟩=>h.ag env Q0q s σ H Q I q) (fun p Q0q s σ H Q I⟨env,q⟩=>t env p Q0q s σ H Q I q) hs
 refine PA.imp B fun σ H Q q=>?_
 obtain⟨S,q⟩:=q
 refine⟨env,S,?_⟩
 simp only[evs]at q
 cases r:ev c m1 env with
 |bad=>rw[r]at q;exact q.elim
 |exc k env1=>rw[r]at q;exact q
 |ok x env1=>
  rw[r]at q
  intro v H1 N1 k1
  refine⟨env1,N1.fH,?_⟩
  simp only[Out.bind]at q
  cases r2:evs c m2 env1 with
  |bad=>rw[r2]at q;exact q.elim
  |exc k env2=>rw[r2]at q;exact fun H2 N2=>q H2 (N1.trans N2)
  |ok xs env2=>
   rw[r2]at q
   intro vs H2 N2 k2
   exact q (v::vs) H2 (N1.trans N2) ⟨v,vs,rfl,k1.on S N1 N2,k2.weaken N1.dom⟩
theorem iM.ds{K:QQq}{σ:St}{H₀ H:Hp}:∀{xs:List Rv}{vs:List V}{ds:List D},iM K σ H₀ H (xs.map argv) vs->aP xs=some ds->au K H ds vs
 |[],vs,ds,h,e=>by
  simp[aP]at e
  subst e
  cases h
  exact au.fM
 |x::xs,vs,ds,h,e=>by
  obtain⟨v,r,rfl,h1,h2⟩:=h
  cases x with
  |ref i=>simp[aP,Rv.jy]at e
  |tmp ys=>simp[aP,Rv.jy]at e
  |val d=>
   simp[aP,Rv.jy]at e
   obtain⟨ds',e1,e2⟩:=e
   subst e2
   exact au.dj h1 (iM.ds h2 e1)
  |new ys=>
   simp[aP,Rv.jy]at e
   obtain⟨ds',e1,e2⟩:=e
   subst e2
   exact au.dj h1 (iM.ds h2 e1)
def yZ:∀(m:E)(env:Ev){xs:List Rv}{env':Ev},evs c m env=.ok xs env'->xs.map argv=xs:=by
 have aa:∀x:Rv,argv (argv x)=argv x:=fun x=>by cases x<;>rfl
 intro m
 induction m with
 |nil=>intro env xs env' h;simp only[evs]at h;cases h;rfl
 |cons h t _ ih=>
  intro env xs env' q
  simp only[evs]at q
  cases r:ev c h env with
  |bad=>rw[r]at q;cases q
  |exc k e1=>rw[r]at q;cases q
  |ok x e1=>
   rw[r]at q
   simp only[Out.bind]at q
   cases r2:evs c t e1 with
   |bad=>rw[r2]at q;cases q
   |exc k e2=>rw[r2]at q;cases q
   |ok ys e2=>
    rw[r2]at q
    cases q
    rw[Qyz,aa,ih e1 r2]
 |_=>intro env xs env' h;simp only[evs]at h;cases h
def eN{n:Nat}(h:fits n=true):n<=sizeLine:=by
 rw[sizeLine_eq]
 simpa[fits]using h
theorem xJ{f:List D->Option Rv}{R:List V->Hp->Prop}
  (h:tM K W env ((evs c m env).bind fun rs σ=>lift σ ((aP rs).bind f)) σ H Q)
  (k:∀env1 H1 ds vs z,Nx K env σ H env1 H1->au K H1 ds vs->f ds=some z->(∀v H',Nx K env1 σ H1 env1 H'->gJ K σ H1 H' z v->Q v H')->R vs H1):Sx K W env (evs c m env) σ H R:=by
 obtain⟨S,q⟩:=h
 refine⟨S,?_⟩
 cases r:evs c m env with
 |bad=>rw[r]at q;exact q.elim
 |exc k env1=>rw[r]at q;exact q
 |ok xs env1=>
  rw[r]at q
  simp only[Out.bind]at q
  intro vs H1 N1 k1
  cases e:aP xs with
  |none=>rw[e]at q;exact q.elim
  |some ds=>
   rw[e]at q
   simp only[Option.bind]at q
   cases e2:f ds with
   |none=>rw[e2]at q;exact q.elim
   |some z=>
    rw[e2]at q
    have k2:=k1
    rw[<-yZ m env r]at k2
    exact k env1 H1 ds vs z N1 (iM.ds k2 e) e2 fun v H' N' w=>q v H' (N1.trans N') (w.weaken N1.dom)
def Xx{k:Nat}(h:GA X W c m es):GE X W c (.tup m) (.Tuple es k pos):=by
 intro env
 refine PE.imp (V7 (h env)) fun σ H Q q=>?_
 simp only[v_3]at q
 refine xJ q fun env1 H1 ds vs z N1 l e q=>?_
 split at e
 ·rename_i hf
  cases e
  have hl:=l.length
  refine⟨by rw[<-hl];exact eN hf,fun p hp=>q _ _ (Nx.laid N1.fH hp) ?_⟩
  show bG _ _ _ _
  unfold bG
  exact⟨p,vs,rfl,.inl (.inl aW),l.mono (Nx.laid (o:=.tup vs) N1.fH hp).pers⟩
 ·cases e
def XJ(h:GA X W c m es):GE X W c (.lis m) (.List es pos):=by
 intro env
 refine PE.imp (Wa (h env)) fun σ H Q q=>?_
 simp only[v_4]at q
 refine xJ q fun env1 H1 ds vs z N1 l e q=>?_
 split at e
 ·rename_i hf
  cases e
  have hl:=l.length
  exact⟨by rw[<-hl];exact eN hf,fun p hp=>q _ _ (Nx.laid N1.fH hp) (kI N1.fH l hp)⟩
 ·cases e
def Ut(X:Cx)(r:R2)(f:D->D->Option Rv):Prop:=
 ∀(env:Ev)(σ:St)(H:Hp)(x y:D)(z:Rv)(v u:V)(Q:VK),Sat X.K env σ H->bG X.K H x v->bG X.K H y u->f x y=some z->(∀w H',Nx X.K env σ H env H'->gJ X.K σ H H' z w->Q w H')->r v u H Q
def Ut.bin{r:R2}{f:D->D->Option Rv}(R:Ut X r f)(h:PE X e (YX r (aD X W c m1) (aD X W c m2))):
  ∀env,PE X e (tM X.K W env ((ev c m1 env).aq fun x σ=>(ev c m2 σ).aq fun y σ=>lift σ (f x y))):=fun env=>
 PE.imp h fun σ H Q q=>⟨env,aU q fun d env1 v H1 N1 D1 q1=>⟨env1,aU q1 fun d2 env2 v2 H2 N2 D2 q2=>by
  obtain⟨z,ez,S,q3⟩:=cI q2
  exact R env2 σ H2 d d2 z v v2 Q S (D1.mono N2.pers) D2 ez q3⟩⟩
def abn:NZ->Operator
 |.add=>.Add
 |.sub=>.Sub
 |.mul=>.Mult
 |.mod=>.Mod
 |.fdiv=>.FloorDiv
 |.pow=>.Pow
def Tf(K:QQq):R2:=fun x y H Q=>∃a b xs ys,x=.ref a/\y=.ref b/\iy K H a xs/\iy K H b ys/\xs.length+ys.length<=sizeLine/\
 (xs=[]->Q (.ref b) H)/\(xs≠[]->ys=[]->Q (.ref a) H)/\(xs≠[]->ys≠[]->∀p,H p=none->Q (.ref p) (upd H p (.tup (xs++ys))))
def Qz:fY X (binaryOp .Add) (Tf X.K):=by
 intro Q0q s σ H x y v u Q I rx ry h
 obtain⟨a,b,xs,ys,rfl,rfl,ha,hb,hz,q0,q1,q2⟩:=h
 by_cases hx:xs=[]
 ·cases rx
  cases ry
  obtain⟨its,r1,p1,_⟩:=I.tuple ha
  obtain⟨its2,r2,p2,_⟩:=I.tuple hb
  obtain⟨⟨cls,dd,data,sl⟩,ho,hc,n,hd⟩:=id p1
  obtain⟨⟨cls2,dd2,data2,sl2⟩,ho2,hc2,n2,hd2⟩:=id p2
  simp only at hc hd hc2 hd2
  subst hc hd hc2 hd2
  have e0:its.toArray.isEmpty=true:=by
   have:its=[]:=r1.bH.mpr hx
   rw[this];rfl
  exact concat_meets ⟨_,ho,rfl⟩ ⟨_,ho2,rfl⟩ noFill_tuple_add seq_tuple_add PySem.F.slot_tuple_add PySem.F.entry_tuple_add (PySem.F.args_tuple_add_2 _ _)
   (PyProof.Rows.tuple_addW0 a b its.toArray its2.toArray n n2 dd dd2 sl sl2 e0) ⟨ho,ho2,⟨.ref b,H,I,rfl,q0 hx⟩⟩
 ·exact Qx Q0q s σ H _ _ v u Q I rx ry ⟨a,b,xs,ys,rfl,rfl,ha,hb,hx,hz,q1 hx,q2 hx⟩
def Te(K:QQq):R2:=fun x y H Q=>∃l b xs zs,x=.ref l/\y=.ref b/\jm K H l xs/\jm K H b zs/\xs.length+zs.length<=sizeLine/\∀p,H p=none->Q (.ref p) (upd H p (.lst (xs++zs)))
def Qy:fY X (binaryOp .Add) (Te X.K):=by
 intro Q0q s σ H x y v u Q I rx ry h
 obtain⟨l,b,xs,zs,rfl,rfl,hH,hB,hz,q⟩:=h
 cases rx
 cases ry
 obtain⟨its,r1,pl,_⟩:=I.list hH
 obtain⟨its2,r2,pl2,_⟩:=I.list hB
 obtain⟨⟨cls,dd,data,sl⟩,n,ho,hc,_,hd⟩:=id pl
 obtain⟨⟨cls2,dd2,data2,sl2⟩,n2,ho2,hc2,_,hd2⟩:=id pl2
 simp only at hc hd hc2 hd2
 subst hc hd hc2 hd2
 have hl:=r1.length
 have hl2:=r2.length
 have ea:its.toArray++its2.toArray=(its++its2).toArray:=by simp
 refine concat_meets ⟨_,ho,rfl⟩ ⟨_,ho2,rfl⟩ noFill_list_add seq_list_add F.slot_list_add F.entry_list_add (F.args_list_add_2 _ _) (PyProof.Rows.list_addW l b its.toArray its2.toArray n n2 dd dd2 sl sl2 (by rw[Qyq,Qyq];omega)) ⟨ho,ho2,?_⟩
 rw[ea]
 exact⟨.ref _,_,I.afs (t':=s.toks) (r1.append r2) (by rw[QTq];omega),rfl,q _ I.fresh⟩
def Th(K:QQq):R2:=fun x y H Q=>JH (fun i j=>.int (i+j)) x y H Q\/Tf K x y H Q\/Te K x y H Q
def QB:fY X (binaryOp .Add) (Th X.K):=Ws.or (Qz.or Qy)
def cJ{ds:List D}(h:bG K H (.tup ds) v):∃a vs,v=.ref a/\iy K H a vs/\au K H ds vs:=by unfold bG at h;exact h
def dH{ds:List D}(h:bG K H (.lst ds) v):∃a vs,v=.ref a/\Nu K H a vs/\au K H ds vs:=by unfold bG at h;exact h
def eO{ds:List D}{a:Addr}(h:iy K H a vs)(l:au K H ds vs):bG K H (.tup ds) (.ref a):=by unfold bG;exact⟨a,vs,rfl,h,l⟩
def qN{i:Int}(h:small i=true): -(2 ^64)<i/\i<2 ^64:=by
 simp only[small,QUz]at h
 exact⟨by omega,by omega⟩
def PB:Ut X (Th X.K) (binop .add):=by
 intro env σ H x y z v u Q S Dx Dy e q
 cases x with
 |int i=>
  cases y with
  |int j=>cases e;exact .inl ⟨i,j,Dx,Dy,q _ H (Nx.refl S) rfl⟩
  |_=>cases e
 |tup xs=>
  cases y with
  |tup ys=>
   unfold binop at e;dsimp only at e
   split at e
   ·rename_i hf
    cases e
    obtain⟨a,vs,rfl,ha,la⟩:=cJ Dx
    obtain⟨b,ws,rfl,hb,lb⟩:=cJ Dy
    refine .inr (.inl ⟨a,b,vs,ws,rfl,rfl,ha,hb,by rw[<-la.length,<-lb.length];exact eN hf,fun e0=>?_,fun _ e0=>?_,fun _ _ p hp=>?_⟩)
    ·subst e0
     have:xs=[]:=by have:=la.length;cases xs<;>simp_all
     subst this
     exact q _ H (Nx.refl S) (eO hb lb)
    ·subst e0
     have:ys=[]:=by have:=lb.length;cases ys<;>simp_all
     subst this
     exact q _ H (Nx.refl S) (by rw[List.append_nil];exact eO ha la)
    ·have N:=Nx.laid (o:=.tup (vs++ws)) S hp
     exact q _ _ N (eO (.inl (.inl aW)) ((la.append lb).mono N.pers))
   ·cases e
  |_=>cases e
 |lst xs=>
  cases y with
  |lst ys=>
   unfold binop at e;dsimp only at e
   split at e
   ·rename_i hf
    cases e
    obtain⟨a,vs,rfl,ha,la⟩:=dH Dx
    obtain⟨b,ws,rfl,hb,lb⟩:=dH Dy
    refine .inr (.inr ⟨a,b,vs,ws,rfl,rfl,ha.sq,hb.sq,by rw[<-la.length,<-lb.length];exact eN hf,fun p hp=>?_⟩)
    have N:=Nx.laid (o:=.lst (vs++ws)) S hp
    exact q _ _ N (kI S (la.append lb) hp)
   ·cases e
  |_=>cases e
 |_=>cases y<;>cases e
def nG{o:NZ}(ho:o≠ .add)(hm:o≠ .mul){x y:D}{z:Rv}(e:binop o x y=some z):(∃i,x=.int i)/\∃j,y=.int j:=by
 cases x with
 |int i=>exact⟨⟨i,rfl⟩,by cases y with
  |int j=>exact⟨j,rfl⟩
  |_=>cases o<;>cases e⟩
 |tup _=>cases o<;>first|exact absurd rfl ho|exact absurd rfl hm|cases e
 |lst _=>cases o<;>first|exact absurd rfl ho|cases e
 |_=>cases o<;>cases e
def Pk:Ut X (JH fun i j=>.int (i-j)) (binop .sub):=by
 intro env σ H x y z v u Q S Dx Dy e q
 obtain⟨⟨i,rfl⟩,j,rfl⟩:=nG (by intro h;cases h) (by intro h;cases h) e
 cases e
 exact⟨_,_,Dx,Dy,q _ H (Nx.refl S) rfl⟩
def Tc(K:QQq):R2:=fun x y H Q=>rI RP (fun i j=>.int (i*j)) x y H Q
def Qv:fY X (binaryOp .Mult) (Tc X.K):=Wj
def Pq:Ut X (Tc X.K) (binop .mul):=by
 intro env σ H x y z v u Q S Dx Dy e q
 cases x with
 |int i=>
  cases y with
  |int j=>
   unfold binop at e;dsimp only at e
   split at e
   ·rename_i hs
    cases e
    simp only[Bool.or_eq_true]at hs
    exact⟨i,j,Dx,Dy,hs.imp qN qN,q _ H (Nx.refl S) rfl⟩
   ·cases e
  |_=>cases e
 |_=>cases y<;>cases e
def Pr:Ut X (rI (fun _ j=>0<j) fun i j=>.int (i%j)) (binop .mod):=by
 intro env σ H x y z v u Q S Dx Dy e q
 obtain⟨⟨i,rfl⟩,j,rfl⟩:=nG (by intro h;cases h) (by intro h;cases h) e
 unfold binop at e;dsimp only at e
 split at e
 ·rename_i hs
  cases e
  exact⟨i,j,Dx,Dy,hs,q _ H (Nx.refl S) rfl⟩
 ·cases e
def Jt:Ut X (rI acN fun i j=>.int (i/j)) (binop .fdiv):=by
 intro env σ H x y z v u Q S Dx Dy e q
 obtain⟨⟨i,rfl⟩,j,rfl⟩:=nG (by intro h;cases h) (by intro h;cases h) e
 unfold binop at e;dsimp only at e
 split at e
 ·rename_i hs
  cases e
  exact⟨i,j,Dx,Dy,hs,q _ H (Nx.refl S) rfl⟩
 ·cases e
def Pn:Ut X (rI acM fun i j=>.int (i ^j.toNat)) (binop .pow):=by
 intro env σ H x y z v u Q S Dx Dy e q
 obtain⟨⟨i,rfl⟩,j,rfl⟩:=nG (by intro h;cases h) (by intro h;cases h) e
 unfold binop at e;dsimp only at e
 split at e
 ·rename_i hs
  cases e
  have h1:=qN hs.2.2
  exact⟨i,j,Dx,Dy,⟨hs.1,by omega,by omega⟩,q _ H (Nx.refl S) rfl⟩
 ·cases e
def ab9{o:NZ}(ha:GE X W c m1 a)(hb:GE X W c m2 b):GE X W c (.op o m1 m2) (.BinOp a (abn o) b pos):=by
 intro env
 simp only[Z8]
 cases o with
 |add=>exact PB.bin (uO QB ha.d hb.d) env
 |sub=>exact Pk.bin (uO Wf ha.d hb.d) env
 |mul=>exact Pq.bin (uO Qv ha.d hb.d) env
 |mod=>exact Pr.bin (uO Wl ha.d hb.d) env
 |fdiv=>exact Jt.bin (uO Qw ha.d hb.d) env
 |pow=>exact Pn.bin (uO Wg ha.d hb.d) env
def XH(ha:GE X W c m1 a):GE X W c (.neg m1) (.UnaryOp .USub a pos):=by
 intro env
 refine PE.imp (abb Vb ha.d) fun σ H Q q=>?_
 simp only[v_6]at q
 refine⟨env,aU q fun d env1 v H1 N1 D1 q1=>?_⟩
 obtain⟨z,ez,S,q3⟩:=cI q1
 cases d<;>first
  |(cases ez;done)
  |(cases ez;exact⟨_,D1,q3 _ H1 (Nx.refl S) rfl⟩)
end
mutual
def py:D->PyData
 |.non=>.none
 |.bl b=>.bool b
 |.int i=>.int i
 |.str x=>.str x
 |.tup xs=>.tuple (ym xs)
 |.lst xs=>.list (ym xs)
 |.cH _ _=>.none
 |.fZ _ _=>.none
def ym:List D->List PyData
 |[]=>[]
 |x::xs=>py x::ym xs
end
mutual
theorem wI:∀a b:D,nd a=true->nd b=true->PyData.eqv (py a) (py b)=cL a b
 |.cH _ _,_=>fun h _=>by simp[nd]at h
 |.fZ _ _,_=>fun h _=>by simp[nd]at h
 |.non,.cH _ _=>fun _ h=>by simp[nd]at h
 |.non,.fZ _ _=>fun _ h=>by simp[nd]at h
 |.bl _,.cH _ _=>fun _ h=>by simp[nd]at h
 |.bl _,.fZ _ _=>fun _ h=>by simp[nd]at h
 |.int _,.cH _ _=>fun _ h=>by simp[nd]at h
 |.int _,.fZ _ _=>fun _ h=>by simp[nd]at h
 |.str _,.cH _ _=>fun _ h=>by simp[nd]at h
 |.str _,.fZ _ _=>fun _ h=>by simp[nd]at h
 |.tup _,.cH _ _=>fun _ h=>by simp[nd]at h
 |.tup _,.fZ _ _=>fun _ h=>by simp[nd]at h
 |.lst _,.cH _ _=>fun _ h=>by simp[nd]at h
 |.lst _,.fZ _ _=>fun _ h=>by simp[nd]at h
 |.tup xs,.tup ys=>fun h h'=>by simp only[py,PyData.eqv,cL];exact wH xs ys (by simpa[nd]using h) (by simpa[nd]using h')
 |.lst xs,.lst ys=>fun h h'=>by simp only[py,PyData.eqv,cL];exact wH xs ys (by simpa[nd]using h) (by simpa[nd]using h')
 |.non,.non=>fun _ _=>rfl
 |.non,.bl _=>fun _ _=>rfl
 |.non,.int _=>fun _ _=>rfl
 |.non,.str _=>fun _ _=>rfl
 |.non,.tup _=>fun _ _=>rfl
 |.non,.lst _=>fun _ _=>rfl
 |.bl _,.non=>fun _ _=>rfl
 |.bl _,.bl _=>fun _ _=>rfl
 |.bl a,.int j=>fun _ _=>rfl
 |.bl _,.str _=>fun _ _=>rfl
 |.bl _,.tup _=>fun _ _=>rfl
 |.bl _,.lst _=>fun _ _=>rfl
 |.int _,.non=>fun _ _=>rfl
 |.int i,.bl b=>fun _ _=>rfl
 |.int _,.int _=>fun _ _=>rfl
 |.int _,.str _=>fun _ _=>rfl
 |.int _,.tup _=>fun _ _=>rfl
 |.int _,.lst _=>fun _ _=>rfl
 |.str _,.non=>fun _ _=>rfl
 |.str _,.bl _=>fun _ _=>rfl
 |.str _,.int _=>fun _ _=>rfl
 |.str x,.str y=>fun _ _=>by simp only[py,PyData.eqv,cL];rw[Bool.beq_eq_decide_eq]
 |.str _,.tup _=>fun _ _=>rfl
 |.str _,.lst _=>fun _ _=>rfl
 |.tup _,.non=>fun _ _=>rfl
 |.tup _,.bl _=>fun _ _=>rfl
 |.tup _,.int _=>fun _ _=>rfl
 |.tup _,.str _=>fun _ _=>rfl
 |.tup _,.lst _=>fun _ _=>rfl
 |.lst _,.non=>fun _ _=>rfl
 |.lst _,.bl _=>fun _ _=>rfl
 |.lst _,.int _=>fun _ _=>rfl
 |.lst _,.str _=>fun _ _=>rfl
 |.lst _,.tup _=>fun _ _=>rfl
theorem wH:∀xs ys:List D,lB xs=true->lB ys=true->PyData.eqvAll (ym xs) (ym ys)=jc xs ys
 |[],[]=>fun _ _=>rfl
 |[],_::_=>fun _ _=>rfl
 |_::_,[]=>fun _ _=>rfl
 |x::xs,y::ys=>fun h h'=>by
  simp only[lB,QUq]at h h'
  simp only[ym,PyData.eqvAll,jc]
  rw[wI x y h.1 h'.1,wH xs ys h.2 h'.2]
end
def Je(h:sOk x=true):PyData.strOk x=true:=by
 unfold sOk at h
 unfold PyData.strOk
 rw[Array.all_eq_true]at h⊢
 intro i hi
 have:=h i hi
 simp only[QUz]at this⊢
 omega
mutual
theorem jf:∀a:D,nd a=true->(py a).canLay0=true
 |.non=>fun _=>rfl
 |.bl _=>fun _=>rfl
 |.int _=>fun _=>rfl
 |.str x=>fun h=>Je h
 |.tup xs=>fun h=>by simp only[py,PyData.canLay0];exact je xs (by simpa[nd]using h)
 |.lst xs=>fun h=>by simp only[py,PyData.canLay0];exact je xs (by simpa[nd]using h)
 |.cH _ _=>fun h=>by simp[nd]at h
 |.fZ _ _=>fun h=>by simp[nd]at h
theorem je:∀xs:List D,lB xs=true->PyData.canLayAll0 (ym xs)=true
 |[]=>fun _=>rfl
 |x::xs=>fun h=>by
  simp only[lB,QUq]at h
  simp only[ym,PyData.canLayAll0,QUq]
  exact⟨jf x h.1,je xs h.2⟩
end
mutual
theorem wL:∀a:D,nd a=true->(py a).depth=dep a
 |.non=>fun _=>rfl
 |.bl _=>fun _=>rfl
 |.int _=>fun _=>rfl
 |.str _=>fun _=>rfl
 |.tup xs=>fun h=>by simp only[py,PyData.depth,dep];rw[wK xs (by simpa[nd]using h)]
 |.lst xs=>fun h=>by simp only[py,PyData.depth,dep];rw[wK xs (by simpa[nd]using h)]
 |.cH _ _=>fun h=>by simp[nd]at h
 |.fZ _ _=>fun h=>by simp[nd]at h
theorem wK:∀xs:List D,lB xs=true->PyData.depthAll (ym xs)=jx xs
 |[]=>fun _=>rfl
 |x::xs=>fun h=>by
  simp only[lB,QUq]at h
  simp only[ym,PyData.depthAll,jx]
  rw[wL x h.1,wK xs h.2]
end
def cT(K:QQq)(H:Hp)(d:D)(v:V):Prop:=bG K H d v\/∃q a,d=Ob.d q/\v=.ref a/\jA K H q a
section
variable{X:Cx}{Q0q:QQz}{s:Shared}{σ:St}{H:Hp}
mutual
theorem bG.reads(I:Inv X Q0q σ H s):∀{d:D}{v:V}{u:Value},nd d=true->bG X.K H d v->RelV v u->∃as,Reads s.heap u (py d) as
 |.non,v,u,_,h,r=>by cases h;cases r;exact⟨_,.none⟩
 |.bl b,v,u,_,h,r=>by cases h;cases r;exact⟨_,.bool b⟩
 |.int i,v,u,_,h,r=>by cases h;obtain⟨t,rfl⟩:=r;exact⟨_,.int i t⟩
 |.str x,v,u,_,h,r=>by cases h;obtain⟨t,rfl⟩:=r;exact⟨_,.str x t⟩
 |.tup ds,v,u,hn,h,r=>by
  obtain⟨a,vs,rfl,hq,l⟩:=cJ h
  cases r
  obtain⟨its,rv,⟨o,e,c,n,dt⟩,_⟩:=I.tuple hq
  obtain⟨as,q⟩:=au.reads I (by simpa[nd]using hn) l rv
  exact⟨as,by rw[py];exact .tuple e c dt (by simpa using q)⟩
 |.lst ds,v,u,hn,h,r=>by
  obtain⟨a,vs,rfl,hq,l⟩:=dH h
  cases r
  obtain⟨its,rv,⟨o,n,e,c,_,dt⟩,_⟩:=I.list hq.sq
  obtain⟨as,q⟩:=au.reads I (by simpa[nd]using hn) l rv
  exact⟨a::as,by rw[py];exact .list e c dt (by simpa using q)⟩
 |.cH _ _,_,_,h,_,_=>by simp[nd]at h
theorem au.reads(I:Inv X Q0q σ H s):∀{ds:List D}{vs:List V}{us:List Value},lB ds=true->au X.K H ds vs->Vals vs us->∃as,ReadsAll s.heap us (ym ds) as
 |[],vs,us,_,h,r=>by rw[au.bH.mp h]at r;cases r;exact⟨_,.nil⟩
 |d::ds,vs,us,hn,h,r=>by
  obtain⟨v,rs,rfl,h1,h2⟩:=au.aL.mp h
  simp only[lB,QUq]at hn
  cases r with
  |cons r1 r2=>
   obtain⟨as,q1⟩:=bG.reads I hn.1 h1 r1
   obtain⟨bs,q2⟩:=au.reads I hn.2 h2 r2
   exact⟨as++bs,.cons q1 q2⟩
end
theorem cT.reads(I:Inv X Q0q σ H s){d:D}{v:V}{u:Value}(hn:nd d=true)(h:cT X.K H d v)(r:RelV v u):∃as,Reads s.heap u (py d) as:=by
 rcases h with h|⟨q,a,rfl,rfl,u',ha,hq⟩
 ·exact bG.reads I hn h r
 ·cases r
  cases q with
  |dct ks ds=>simp[Ob.d,nd]at hn
  |sdt ks ds=>simp[Ob.d,nd]at hn
  |lst ds=>
  obtain⟨vs,rfl,l⟩:=hq
  obtain⟨its,rv,⟨o,n,e,c,_,dt⟩,_⟩:=I.list (.inl (.inl ha))
  obtain⟨as,q⟩:=au.reads I (by simpa[Ob.d,nd]using hn) l rv
  exact⟨a::as,by rw[Ob.d,py];exact .list e c dt (by simpa using q)⟩
end
variable{p q:D}
section
variable{X:Cx}{W:Wi}{c:Cf}{m m1 m2 m3:E}{e a b:Expr}{pos:Pos}
theorem cT.flat{K:QQq}{H:Hp}{x:D}{v:V}(h:cT K H x v)(f:flat x=true):bG K H x v:=by
 rcases h with h|⟨q,a,rfl,_⟩
 ·exact h
 ·cases q<;>simp[Ob.d,Mini.flat]at f
def Ek{x:D}(f:flat x=true)(hs:∀y,x≠ .str y):nd x=true/\dep x=0:=by
 cases x<;>simp_all[flat,nd,dep]
def afm(K:QQq):R2:=fun x y H Q=>∃p q,cT K H p x/\cT K H q y/\oZ p q=true/\Q (.bl (cL p q)) H
def afj(K:QQq):R2:=fun x y H Q=>∃p q,cT K H p x/\cT K H q y/\oZ p q=true/\Q (.bl (!cL p q)) H
def Em{x y:V}(Dp:bG K H p x)(Dq:bG K H q y)(fp:flat p=true)(fq:flat q=true)(hs:(∃z,p=.str z)\/∃z,q=.str z):Pb x y=true/\decide (x=y)=cL p q:=by
 cases p<;>cases q<;>simp_all[flat]<;>(cases Dp;cases Dq;unfold Pb cL;simp)
def El{u:Nat}(hu:u+60<cLine)(hp:nd p=true)(hq:nd q=true)(hd:dep p<=50):u+min (py p).depth (py q).depth<cLine:=by
 rw[wL p hp,wL q hq]
 have:min (dep p) (dep q)<=dep p:=Nat.min_le_left _ _
 omega
def sS(h:oZ p q=true):(nd p=true/\nd q=true/\dep p<=50)\/(flat p=true/\flat q=true/\((∃z,p=.str z)\/∃z,q=.str z)):=by
 simp only[oZ,Bool.or_eq_true,QUq,QUz]at h
 rcases h with ⟨h1,h2⟩|⟨⟨h1,h2⟩,h3⟩
 ·by_cases hs:(∃z,p=.str z)\/∃z,q=.str z
  ·exact .inr ⟨h1,h2,hs⟩
  ·have n1:∀y,p≠ .str y:=fun y e=>hs (.inl ⟨y,e⟩)
   have n2:∀y,q≠ .str y:=fun y e=>hs (.inr ⟨y,e⟩)
   have k1:=Ek h1 n1
   have k2:=Ek h2 n2
   exact .inl ⟨k1.1,k2.1,by omega⟩
 ·exact .inl ⟨h1,h3,h2⟩
def Wr(hu:X.A.units+60<cLine):fY X (compareOp .Eq) (afm X.K):=by
 intro Q0q s σ H x y v u Q I rx ry h
 obtain⟨p,q,Dp,Dq,ok,k⟩:=h
 rcases sS ok with ⟨h1,h2,h3⟩|⟨h1,h2,h3⟩
 ·obtain⟨as,ra⟩:=Dp.reads I h1 rx
  obtain⟨bs,rb⟩:=Dq.reads I h2 ry
  exact SeqAt.compareEq_reads ra rb (jf p h1) (jf q h2) (El hu h1 h2 h3) (by rw[wI p q h1 h2];exact⟨.bl _,H,I,rfl,k⟩)
 ·obtain⟨e1,e2⟩:=Em (Dp.flat h1) (Dq.flat h2) h1 h2 h3
  exact abm Q0q s σ H x y v u Q I rx ry ⟨e1,by rw[e2];exact k⟩
def Wh(hu:X.A.units+60<cLine):fY X (compareOp .NotEq) (afj X.K):=by
 intro Q0q s σ H x y v u Q I rx ry h
 obtain⟨p,q,Dp,Dq,ok,k⟩:=h
 rcases sS ok with ⟨h1,h2,h3⟩|⟨h1,h2,h3⟩
 ·obtain⟨as,ra⟩:=Dp.reads I h1 rx
  obtain⟨bs,rb⟩:=Dq.reads I h2 ry
  exact SeqAt.compareNe_reads ra rb (jf p h1) (jf q h2) (El hu h1 h2 h3) (by rw[wI p q h1 h2];exact⟨.bl _,H,I,rfl,k⟩)
 ·obtain⟨e1,e2⟩:=Em (Dp.flat h1) (Dq.flat h2) h1 h2 h3
  exact abh Q0q s σ H x y v u Q I rx ry ⟨e1,by rw[e2];exact k⟩
theorem wA{K:QQq}{H:Hp}{p:D}{x:V}(Dp:bG K H p x)(fp:flat p=true):∀{ds:List D}{vs:List V},au K H ds vs->ds.all flat=true->vs.all gU=true/\inV x vs=aH p ds
 |[],vs,h,_=>by rw[au.bH.mp h];exact⟨rfl,rfl⟩
 |d::ds,vs,h,f=>by
  obtain⟨v,r,rfl,h1,h2⟩:=au.aL.mp h
  rw[List.all_cons,QUq]at f
  obtain⟨k1,k2⟩:=wA Dp fp h2 f.2
  have fv:gU v=true/\Mg v x=cL d p:=by
   obtain⟨f1,_⟩:=f
   cases d<;>cases p<;>simp_all[flat]<;>(cases h1;cases Dp;first|exact⟨rfl,rfl⟩|(refine⟨rfl,?_⟩;simp[Mg,cL];try (rw[Bool.beq_eq_decide_eq])))
  refine⟨by rw[List.all_cons,fv.1,k1];rfl,?_⟩
  unfold inV at k2⊢
  rw[List.any_cons,fv.2,k2]
  rfl
theorem tQ{p:D}(hp:nd p=true):∀{ds:List D},lB ds=true->((ym ds).any fun y=>PyData.eqv y (py p))=aH p ds
 |[]=>fun _=>rfl
 |d::ds=>fun h=>by
  simp only[lB,QUq]at h
  rw[ym,List.any_cons,wI d p h.1 hp,tQ hp h.2]
  rfl
def Nq(K:QQq)(H:Hp)(xs:List D)(y:V):Prop:=∃a vs,y=.ref a/\(jm K H a vs\/iy K H a vs)/\au K H xs vs
def aa6(K:QQq)(neg:Bool):R2:=fun x y H Q=>∃p xs,bG K H p x/\Nq K H xs y/\eZ p xs=true/\Q (.bl (if neg then !aH p xs else aH p xs)) H
def qj{u:Nat}(hu:u+60<cLine)(hp:nd p=true)(hd:dep p<=50):u+1+min (PyData.depthAll (ym xs)) (py p).depth<cLine:=by
 rw[wL p hp]
 have:min (PyData.depthAll (ym xs)) (dep p)<=dep p:=Nat.min_le_right _ _
 omega
theorem Nq.reads{Q0q:QQz}{s:Shared}{σ:St}{H:Hp}{xs:List D}{y:V}{u:Value}(I:Inv X Q0q σ H s)(h:Nq X.K H xs y)(hn:lB xs=true)(r:RelV y u):
  ∃as,Reads s.heap u (.list (ym xs)) as\/Reads s.heap u (.tuple (ym xs)) as:=by
 obtain⟨a,vs,rfl,hq,l⟩:=h
 cases r
 rcases hq with hq|hq
 ·obtain⟨its,rv,⟨o,n,e,c,_,dt⟩,_⟩:=I.list hq
  obtain⟨as,q⟩:=au.reads I hn l rv
  exact⟨a::as,.inl (.list e c dt (by simpa using q))⟩
 ·obtain⟨its,rv,⟨o,e,c,n,dt⟩,_⟩:=I.tuple hq
  obtain⟨as,q⟩:=au.reads I hn l rv
  exact⟨as,.inr (.tuple e c dt (by simpa using q))⟩
def Wq(hu:X.A.units+60<cLine):fY X (compareOp .In) (aa6 X.K false):=by
 intro Q0q s σ H x y v u Q I rx ry h
 obtain⟨p,xs,Dp,hS,ok,k⟩:=h
 simp only[eZ,Bool.or_eq_true,QUq,QUz]at ok
 rcases ok with ⟨h1,h2⟩|⟨⟨h1,h2⟩,h3⟩
 ·obtain⟨a,vs,rfl,hq,l⟩:=hS
  obtain⟨k1,k2⟩:=wA Dp h1 l h2
  have fx:gU x=true:=by cases p<;>simp_all[flat]<;>(cases Dp;rfl)
  exact GR Q0q s σ H x _ v u Q I rx ry ⟨a,vs,rfl,hq,fx,k1,by simpa[k2]using k⟩
 ·obtain⟨bs,rb⟩:=bG.reads I h1 Dp rx
  obtain⟨as,ra|ra⟩:=hS.reads I h3 ry
  ·exact SeqAt.in_list_reads ra rb (je xs h3) (jf p h1) (qj hu h1 h2) (by rw[tQ h1 h3];exact⟨.bl _,H,I,rfl,k⟩)
  ·exact SeqAt.in_tuple_reads ra rb (je xs h3) (jf p h1) (qj hu h1 h2) (by rw[tQ h1 h3];exact⟨.bl _,H,I,rfl,k⟩)
def GK(hu:X.A.units+60<cLine):fY X (compareOp .NotIn) (aa6 X.K true):=by
 intro Q0q s σ H x y v u Q I rx ry h
 obtain⟨p,xs,Dp,hS,ok,k⟩:=h
 simp only[eZ,Bool.or_eq_true,QUq,QUz]at ok
 rcases ok with ⟨h1,h2⟩|⟨⟨h1,h2⟩,h3⟩
 ·obtain⟨a,vs,rfl,hq,l⟩:=hS
  obtain⟨k1,k2⟩:=wA Dp h1 l h2
  have fx:gU x=true:=by cases p<;>simp_all[flat]<;>(cases Dp;rfl)
  exact v7 Q0q s σ H x _ v u Q I rx ry ⟨a,vs,rfl,hq,fx,k1,by simpa[k2]using k⟩
 ·obtain⟨bs,rb⟩:=bG.reads I h1 Dp rx
  obtain⟨as,ra|ra⟩:=hS.reads I h3 ry
  ·exact SeqAt.notIn_list_reads ra rb (je xs h3) (jf p h1) (qj hu h1 h2) (by rw[tQ h1 h3];exact⟨.bl _,H,I,rfl,k⟩)
  ·exact SeqAt.notIn_tuple_reads ra rb (je xs h3) (jf p h1) (qj hu h1 h2) (by rw[tQ h1 h3];exact⟨.bl _,H,I,rfl,k⟩)
end
structure Gives(K:QQq)(J:It)(xs:List D)(H:Hp):Prop where
 go:∀H1,bV H H1->∀(i:Nat)d,xs[i]? =some d->J.go i H1
 yld:∀H1,bV H H1->∀(i:Nat)d,xs[i]? =some d->∀x H2,J.yld i H1 x H2->bG K H2 d x/\(H2=H1\/∃p vs,H1 p=none/\H2=upd H1 p (.tup vs))
 stop:∀H1,bV H H1->∀(i:Nat),xs.length<=i->J.stop i H1
 len:xs.length<=sizeLine
def tI(K:QQq)(W:Wi)(env:Ev)(r:Out Rv):TI:=fun σ H R=>Sat K env σ H/\match r with
 |.ok x env'=>∃d xs,x.jy=some d/\items d=some xs/\∀J H',Nx K env σ H env' H'->Gives K J xs H'->R J H'
 |.exc c env'=>∀H',Nx K env σ H env' H'->W c env' σ H'
 |.bad=>False
def GI(X:Cx)(W:Wi)(c:Cf)(m:E)(tg e:Expr):Prop:=∀env,PI X tg e (tI X.K W env (ev c m env))
variable{scope:Scope}
section
variable{prog:Program}{w:World}{A:Around}{R:Result->Shared->Prop}{s:Shared}
theorem wO{elt target iter:Expr}{ifs:List Expr}{pos:Pos}{it acc:Value}{env:Env}(I:Nat->Shared->Prop)
  (turn:∀n s,I n s->wpAny (model prog w) A (pyNext it) (fun r s₁=>match r with
   |none=>R (.ok .next) s₁
   |some v=>wpAny (model prog w) A (letOwnedTupleGo target it v) (fun _ s₁'=>wpAny (model prog w) A (assign target env v) (fun _ s₂=>
     wpAny (model prog w) A (forIn ifs true fun c r=>if r=true then do let ok<-isTrue c env (eval c env);pure (ForInStep.yield ok)else pure (ForInStep.yield r)) (fun ok s₃=>
      if ok=true then wpAny (model prog w) A (eval elt env) (fun x s₄=>
       wpAny (model prog w) A (call (.builtin "list.append") [acc,x]) (fun _ s₅=>∃m,m<n/\I m s₅) (fun _ _=>False) s₄) (fun _ _=>False) s₃
      else∃m,m<n/\I m s₃) (fun _ _=>False) s₂) (fun _ _=>False) s₁') (fun _ _=>False) s₁) (fun _ _=>False) s)
  (n:Nat)(h:I n s):
  codeAny (model prog w) A (.compLoop (.ListComp elt [⟨target,iter,ifs,0⟩] scope pos) 0 it acc env) R s:=by
 refine codeAny_loop rfl I (fun n s hI=>?_) n h
 show wpAny _ A ((compTurn (.ListComp elt [⟨target,iter,ifs,0⟩] scope pos) 0 it acc env).onRaise (fun x=>do noteFrame x env;theTreesLotGoes x)) _ _ s
 refine wpAny_noted ?_
 rw[compTurn_list]
 refine QKq (wpAny_standAt (QKq (QGq (turn n s hI) (fun r s₁ h₁=>?_) fun _ _ h'=>h'.elim)))
 cases r with
 |none=>exact QKz h₁
 |some v=>
  refine QKq (QGq h₁ (fun _ s₁' h₁'=>?_) fun _ _ h'=>h'.elim)
  refine QKq (QGq h₁' (fun _ s₂ h₂=>QKq (QGq h₂ (fun ok s₃ h₃=>?_) fun _ _ h'=>h'.elim)) fun _ _ h'=>h'.elim)
  cases ok with
  |false=>exact QKz ⟨rfl,h₃⟩
  |true=>
   exact QKq (QKq (QGq h₃ (fun x s₄ h₄=>QKq (QGq h₄ (fun _ s₅ h₅=>QKz (QKz ⟨rfl,h₅⟩)) fun _ _ h'=>h'.elim)) fun _ _ h'=>h'.elim))
end
def blk(X:Cx)(scope:Scope)(cl:List (Str×Addr))(N:List Str)(fp:List Addr)(s₀:Shared)(H₀:Hp):Cx where
 prog:=X.prog
 w:=X.w
 K:=X.K
 mg:=X.mg
 base:=X.base
 A:=X.A
 N:=N
 s₀:=s₀
 H₀:=H₀
 env:=compEnvC scope cl s₀.heap.objs.size X.env
 outer:=X.stack
 stack:=X.stack
 ex:=fp
 fn:=fun _=>false
 calm:=X.calm
 pn:=[]
 xe:=fun _ _=>False
def bK(tgs N:List Str):List Str:=tgs++N.map fun x=>if tgs.contains x then(".":Str)++x else x
structure HQ(sc inner:Scope)(tgs N:List Str):Prop where
 kind:inner.kind=.function
 nd:(bK tgs N).Nodup
 loc:∀x,inner.names.lookup x=some .local->x∈tgs\/x=(".0":Str)
 locs:∀x∈inner.names,x.2=.local->inner.names.lookup x.1=some .local
 tg:∀x∈tgs,inner.names.lookup x=some .local
 nocell:∀x∈inner.names,x.2≠ .cell
 fre:∀x∈inner.names,x.2=.free->sc.names.lookup x.1=some .cell\/sc.names.lookup x.1=some .free
 dot:∀x∈N,tgs.contains x=true->inner.names.lookup ((".":Str)++x)=none
 dot0:(".0":Str)∉N
structure Ny(scope:Scope)(env:Env)(cl:List (Str×Addr)):Prop where
 eq:closureFor scope env=pure cl
 to:∀x c,cl.lookup x=some c->env.cells.lookup x=some c
 has:∀x,scope.names.lookup x=some .free->∃c,cl.lookup x=some c
theorem bM{env:Env}:∀{names:List (Str×NameKind)}{x:Str}{k:NameKind},
  (names.map fun(n,k)=>if (k==NameKind.free&&env.scope.kind== .function&&env.kindOf n==some .cell)then(n,NameKind.cell)else(n,k)).lookup x=some k->
   names.lookup x=some k\/(k=.cell/\names.lookup x=some .free)
 |[],_,_,h=>by simp at h
 |(n,k')::r,x,k,h=>by
  have ih:=@bM env r x k
  rw[Qyz]at h
  cases hx:x==n with
  |true=>
   by_cases hc:(k'==NameKind.free&&env.scope.kind== .function&&env.kindOf n==some .cell)=true
   ·simp only[hc,if_true,QHz,hx]at h
    cases h
    simp only[QUq,beq_iff_eq]at hc
    exact .inr ⟨rfl,by simp[QHz,hx,hc.1.1]⟩
   ·simp only[eq_false_of_ne_true hc,Qxq,if_false,QHz,hx]at h
    exact .inl (by simpa[QHz,hx]using h)
  |false=>
   have h':(r.map fun(n,k)=>if (k==NameKind.free&&env.scope.kind== .function&&env.kindOf n==some .cell)then(n,NameKind.cell)else(n,k)).lookup x=some k:=by
    by_cases hc:(k'==NameKind.free&&env.scope.kind== .function&&env.kindOf n==some .cell)=true
    ·simpa only[hc,if_true,QHz,hx]using h
    ·simpa only[eq_false_of_ne_true hc,Qxq,if_false,QHz,hx]using h
   rcases ih h' with q|⟨q1,q2⟩
   ·exact .inl (by simpa[QHz,hx]using q)
   ·exact .inr ⟨q1,by simpa[QHz,hx]using q2⟩
variable{tgs:List Str}
theorem MK{cl:List (Str×Addr)}{fp:List Addr}
  (I:Inv X Q0q σ H s)(sc:HQ X.env.scope scope tgs X.N)(co:Ny scope X.env cl)(hf:∀b∈fp,gK X Q0q H b)(hlt:∀b∈fp,b<s.heap.objs.size):
  (blk X scope cl (bK tgs X.N) fp s H).Ok where
 mod:=I.ok.mod
 kind:=sc.kind
 glob:=I.ok.glob
 blt:=I.ok.blt
 above:=QVz _
 inj:=fun x y c h1 h2=>I.ok.inj x y c (co.to x c h1) (co.to y c h2)
 has:=fun x h=>by
  have z:scope.names.lookup x=some .free:=by
   rcases h with h|h
   ·rcases bM (env:=X.env) h with q|⟨_,q⟩
    ·exact absurd rfl (sc.nocell (x,.cell) (PySem.mem_of_lookup q))
    ·exact q
   ·rcases bM (env:=X.env) h with q|⟨q,_⟩
    ·exact q
    ·cases q
  exact co.has x z
 cab:=fun x c h=>by cases h
 hd:=I.ok.hd
 frames:=I.ok.frames
 stk:=.inl rfl
 exf:=fun b hb=>⟨Qvz (hlt b hb),fun x c h=>(hf b hb).2.2.2.2.1 x c (co.to x c h)⟩
 bs:=I.bs
 bsz:=Nat.le_trans I.ok.bsz I.sz
 noex:=fun b o e hb=>by
  have e':X.base.get? b=some o:=e
  rcases (hf b hb).2.2.2.1 with z|z
  ·exact I.ok.noex b o e z
  ·have h2:=Qqz e'
   exact absurd (Qvq h2 (Nat.le_trans I.ok.bsz z)) (Nat.lt_irrefl _)
 exfs:=fun b hb hs=>by
  obtain⟨_,h1,h2,_⟩:=hf b hb
  rcases QCq.mp (I.zR b hs)with z|z
  ·exact h1 z
  ·exact h2 z
 lU:=I.stack
 frf:=I.Cr
theorem Ru{cl:List (Str×Addr)}{fp:List Addr}{h':Heap}{t:Nat}
  (I:Inv X Q0q σ H s)(sc:HQ X.env.scope scope tgs X.N)(co:Ny scope X.env cl)(hf:∀b∈fp,gK X Q0q H b)(hlt:∀b∈fp,b<s.heap.objs.size)
  (hn:h'.Ns s.heap.objs.size fun _=>none)(hk:∀b o,s.heap.get? b=some o->h'.get? b=some o):
  Inv (blk X scope cl (bK tgs X.N) fp s H) [] (List.replicate tgs.length none++σ) H {s with heap:=h',toks:=t}:=by
 have cellK:∀c v,s.heap.IsCell c v->h'.IsCell c v:=fun c v⟨o,e,d⟩=>⟨o,hk c o e,d⟩
 refine⟨MK I sc co hf hlt,rfl,I.bare,Un.kept hk,⟨_,hn,fun i x v e1 e2 e3=>?_⟩,fun x c e=>?_,I.hok.fresh (QVz _),fun x c e=>I.freeC x c (co.to x c e),fun p hp=>absurd (show p∈([]:QQz)from hp) (by simp),I.hok.kept hk,?_⟩
 ·--an outer name that is seen within
  have hi:tgs.length<=i:=by
   refine Nat.le_of_not_lt fun q=>?_
   rw[Qwz (by simpa using q),List.getElem?_replicate]at e2
   split at e2<;>cases e2
  rw[QIz (by simpa using hi)]at e2
  simp only[List.length_replicate]at e2
  have e1':(bK tgs X.N)[i]? =some x:=e1
  unfold bK at e1'
  rw[QIz hi,QFz]at e1'
  cases ey:X.N[i-tgs.length]? with
  |none=>rw[ey]at e1';cases e1'
  |some y=>
   rw[ey]at e1'
   have e1'':(if tgs.contains y=true then(".":Str)++y else y)=x:=QEq e1'
   have e3':(relabel scope X.env).names.lookup x=some .local\/(relabel scope X.env).names.lookup x=some .cell\/(relabel scope X.env).names.lookup x=some .free:=e3
   by_cases hy:tgs.contains y=true
   ·rw[if_pos hy]at e1''
    subst e1''
    have no:=sc.dot y (QBz ey) hy
    rcases e3' with q|q|q
    ·rcases bM (env:=X.env) q with z|⟨z,_⟩
     ·rw[no]at z;cases z
     ·cases z
    ·rcases bM (env:=X.env) q with z|⟨_,z⟩
     ·rw[no]at z;cases z
     ·rw[no]at z;cases z
    ·rcases bM (env:=X.env) q with z|⟨z,_⟩
     ·rw[no]at z;cases z
     ·cases z
   ·rw[if_neg hy]at e1''
    subst e1''
    have fr:scope.names.lookup y=some .free:=by
     rcases e3' with q|q|q
     ·rcases bM (env:=X.env) q with z|⟨z,_⟩
      ·rcases sc.loc y z with w|w
       ·exact absurd (by simpa using w) hy
       ·exact absurd (w▸QBz ey) sc.dot0
      ·cases z
     ·rcases bM (env:=X.env) q with z|⟨_,z⟩
      ·exact absurd rfl (sc.nocell (y,.cell) (PySem.mem_of_lookup z))
      ·exact z
     ·rcases bM (env:=X.env) q with z|⟨z,_⟩
      ·exact z
      ·cases z
    have ou:=sc.fre (y,.free) (PySem.mem_of_lookup fr) rfl
    obtain⟨m,hm,hl⟩:=I.loc
    obtain⟨u,r,l⟩:=hl _ y v ey e2 (.inr ou)
    obtain⟨c,hc⟩:=co.has y fr
    refine⟨u,r,.inr ⟨?_,c,hc,?_⟩⟩
    ·have z:(relabel scope X.env).names.lookup y=some .local\/(relabel scope X.env).names.lookup y=some .cell\/(relabel scope X.env).names.lookup y=some .free:=e3'
     rcases z with z|z|z
     ·rcases bM (env:=X.env) z with w|⟨w,_⟩
      ·rw[fr]at w;cases w
      ·cases w
     ·exact .inl z
     ·exact .inr z
    ·rcases l with ⟨k,_⟩|⟨_,c',hc',z⟩
     ·have k':X.env.scope.names.lookup y=some .local:=k
      rcases ou with w|w
      ·rw[k']at w;cases w
      ·rw[k']at w;cases w
     ·rw[co.to y c hc]at hc'
      cases hc'
      exact cellK c _ z
 ·obtain⟨v,z⟩:=I.cell x c (co.to x c e)
  exact⟨v,cellK c v z⟩
 ·show(List.replicate tgs.length none++σ).length=(bK tgs X.N).length
  unfold bK
  simp only[QTq,List.length_replicate,QAq,I.len]
def slots:Tg->List Nat
 |.name i=>[i]
 |.tup is=>is
structure ju(K:QQq)(tg:Tg)(env:Ev)(σ:St)(env':Ev)(σ':St)(H:Hp):Prop where
 fH:Sat K env' σ' H
 same:∀(i:Nat),i∉slots tg->env'[i]? =env[i]? /\σ'[i]? =σ[i]?
 vals:∀(i:Nat),i∈slots tg->∃d,env'[i]? =some (.val d)
 bors:∀(i:Nat)xs,env[i]? =some (.bor xs)->i∉slots tg
 len:σ'.length=σ.length
def tG(K:QQq)(tg:Tg):TG:=fun v σ H Q=>∃env d env',Sat K env σ H/\bG K H d v/\bw tg d env=some env'/\∀σ',ju K tg env σ env' σ' H->Q σ' H
def GG(X:Cx)(tg:Tg)(e:Expr):Prop:=PG X e (tG X.K tg)
section
variable{K:QQq}{tg:Tg}{env env':Ev}{σ σ':St}{H:Hp}
def ju.sub(h:ju K tg env σ env' σ' H)(o:aN env' σ' i a):aN env σ i a:=by
 obtain⟨⟨s,xs,e1,e2⟩,e3⟩:=o
 by_cases hi:i∈slots tg
 ·obtain⟨d,e⟩:=h.vals i hi
  rw[e]at e1;cases e1;cases e2
 ·obtain⟨q1,q2⟩:=h.same i hi
  exact⟨⟨s,xs,by rw[<-q1];exact e1,e2⟩,by rw[<-q2];exact e3⟩
def qR{s:Sl}(h:bN i s env=some env'):env'=env.set i s/\i<env.length/\∀xs,env[i]? ≠some (.bor xs):=by
 unfold bN at h
 cases e:env[i]? with
 |none=>rw[e]at h;cases h
 |some t=>
  rw[e]at h
  have hi:=(QCz.mp e).1
  cases t with
  |bor xs=>cases h
  |un=>cases h;exact⟨rfl,hi,fun xs q=>by cases q⟩
  |val d=>cases h;exact⟨rfl,hi,fun xs q=>by cases q⟩
  |own ys=>cases h;exact⟨rfl,hi,fun xs q=>by cases q⟩
def Sat.put{d:D}(S:Sat K env σ H)(hi:i<env.length)(hd:bG K H d v):Sat K (env.set i (.val d)) (σ.set i (some v)) H:=by
 have hi':i<σ.length:=by rw[<-S.len];exact hi
 have own:∀j a,aN (env.set i (.val d)) (σ.set i (some v)) j a->aN env σ j a:=fun j a⟨⟨s,xs,e1,e2⟩,e3⟩=>by
  by_cases hj:i=j
  ·subst hj;rw[Qwq hi]at e1;cases e1;cases e2
  ·rw[Qxz hj]at e1 e3;exact⟨⟨s,xs,e1,e2⟩,e3⟩
 refine⟨by simpa using S.len,fun j s e=>?_,fun j k a h1 h2=>S.ne j k a (own j a h1) (own k a h2)⟩
 by_cases hj:i=j
 ·subst hj
  rw[Qwq hi]at e
  cases e
  rw[Qwq hi']
  exact⟨v,rfl,hd⟩
 ·rw[Qxz hj]at e⊢
  exact S.sl j s e
def O6{d:D}(S:Sat K env σ H)(hd:bG K H d v)(h:bN i (.val d) env=some env'):ju K (.name i) env σ env' (σ.set i (some v)) H:=by
 obtain⟨rfl,hi,hb⟩:=qR h
 refine⟨S.put hi hd,fun j hj=>?_,fun j hj=>?_,fun j xs e hj=>?_,by simp⟩
 ·have:i≠j:=fun z=>hj (by simp[slots,z])
  exact⟨Qxz this,Qxz this⟩
 ·have e:j=i:=by simpa[slots]using hj
  subst e
  exact⟨d,Qwq hi⟩
 ·have e':j=i:=by simpa[slots]using hj
  subst e'
  exact hb xs e
end
section
variable{X:Cx}{pos:Pos}
def wC(hN:X.N.Nodup)(hi:X.N[i]? =some x)(hx:Loc X.env.scope x)(hf:X.fn x=true\/X.env.scope.names.lookup x=some .local):GG X (.name i) (.Name x pos):=by
 intro Q0q s σ H v u Q I r q
 obtain⟨env,d,env',S,hd,e,k⟩:=q
 exact Qk hN hi hx hf Q0q s σ H v u Q I r (k _ (O6 S hd e))
def gP(sc:Scope)(N:List Str):List Nat->List Expr->Bool
 |[],[]=>true
 |i::is,.Name x _::es=>(N[i]? ==some x)&&(sc.names.lookup x==some .local)&&gP sc N is es
 |_,_=>false
inductive tU(X:Cx):List Nat->List Expr->Prop
 |nil:tU X [] []
 |cons {i:Nat} {is:List Nat} {x:Str} {p:Pos} {es:List Expr}:X.N[i]? =some x->Loc X.env.scope x->(X.fn x=true\/X.env.scope.names.lookup x=some .local)->tU X is es->tU X (i::is) (.Name x p::es)
theorem Kc:∀{is:List Nat}{es:List Expr},gP X.env.scope X.N is es=true->tU X is es
 |[],[]=>fun _=>.nil
 |[],_::_=>fun h=>by simp[gP]at h
 |_::_,[]=>fun h=>by simp[gP]at h
 |i::is,e::es=>fun h=>by
  cases e with
  |Name x p=>
   simp only[gP,QUq,beq_iff_eq]at h
   exact .cons h.1.1 (.inl h.1.2) (.inr h.1.2) (Kc h.2)
  |_=>simp[gP]at h
theorem yS(hN:X.N.Nodup):∀(is:List Nat)(es:List Expr),tU X is es->
  PGs X es (fun vs σ H Q=>∃env ds env',Sat X.K env σ H/\au X.K H ds vs/\dZ is ds env=some env'/\∀σ',ju X.K (.tup is) env σ env' σ' H->Q σ' H)
 |[],[],_=>fun Q0q s σ H vs us Q I r⟨env,ds,env',S,l,e,k⟩=>by
  cases ds with
  |nil=>
   cases e
   refine Qj Q0q s σ H vs us Q I r ⟨au.bH.mp l,k σ ⟨S,fun i _=>⟨rfl,rfl⟩,fun i hi=>?_,fun i xs _=>?_,rfl⟩⟩
   ·simp[slots]at hi
   ·simp[slots]
  |cons d ds=>cases e
 |i::is,_,.cons (x:=x) (p:=p) (es:=es) h1 h2 h3 h4=>by
   have ih:=yS hN is es h4
   have one:GG X (.name i) (.Name x p):=wC hN h1 h2 h3
   intro Q0q s σ H vs us Q I r q
   refine JV (X:=X) one ih (by rfl) Q0q s σ H vs us Q I r ?_
   obtain⟨env,ds,env',S,l,e,k⟩:=q
   cases ds with
   |nil=>cases e
   |cons d ds=>
    obtain⟨v,vr,rfl,hd,l'⟩:=au.aL.mp l
    have e':(bN i (.val d) env).bind (dZ is ds)=some env':=e
    cases e1:bN i (.val d) env with
    |none=>rw[e1]at e';cases e'
    |some env1=>
     rw[e1]at e'
     refine⟨v,vr,rfl,env,d,env1,S,hd,e1,fun σ1 s1=>⟨env1,ds,env',s1.fH,l',e',fun σ2 s2=>k σ2 ⟨s2.fH,fun j hj=>?_,fun j hj=>?_,fun j xs q hj=>?_,s2.len.trans s1.len⟩⟩⟩
     ·have h1:j∉slots (.name i):=fun z=>hj (by simp[slots]at z⊢;exact .inl z)
      have h2:j∉slots (.tup is):=fun z=>hj (by simp[slots]at z⊢;exact .inr z)
      exact⟨(s2.same j h2).1.trans (s1.same j h1).1,(s2.same j h2).2.trans (s1.same j h1).2⟩
     ·by_cases h2:j∈slots (.tup is)
      ·exact s2.vals j h2
      ·have h1:j∈slots (.name i):=by simp[slots]at hj h2⊢;exact hj.resolve_right h2
       obtain⟨d',q⟩:=s1.vals j h1
       exact⟨d',(s2.same j h2).1.trans q⟩
     ·by_cases h1:j∈slots (.name i)
      ·exact s1.bors j xs q h1
      ·have h2:j∈slots (.tup is):=by simp[slots]at hj h1⊢;exact hj.resolve_left h1
       exact s2.bors j xs ((s1.same j h1).1.trans q) h2
def Bc{is:List Nat}{es:List Expr}{k:Nat}(hN:X.N.Nodup)(hc:X.calm=true)(h:tU X is es)(hl:(assignEach es X.env).length=is.length)(hst:(assignEach es X.env).findIdx? (·.1)=none):GG X (.tup is) (.Tuple es k pos):=by
 intro Q0q s σ H v u Q I r q
 obtain⟨env,d,env',S,hd,e,k⟩:=q
 cases d with
 |tup ds=>
  obtain⟨a,vs,rfl,hq,l⟩:=cJ hd
  refine V5 (n:=is.length) hc (yS hN is es h) hl hst Q0q s σ H _ u Q I r ⟨a,vs,rfl,hq,?_,env,ds,env',S,l,e,k⟩
  have lens:∀(is:List Nat)(ds:List D)(env env':Ev),dZ is ds env=some env'->ds.length=is.length:=by
   intro is
   induction is with
   |nil=>intro ds env env' e;cases ds with|nil=>rfl|cons _ _=>cases e
   |cons i is ih=>
    intro ds env env' e
    cases ds with
    |nil=>cases e
    |cons d ds=>
     have e':(bN i (.val d) env).bind (dZ is ds)=some env':=e
     cases e1:bN i (.val d) env with
     |none=>rw[e1]at e';cases e'
     |some env1=>rw[e1]at e';simp[ih ds env1 env' e']
  rw[<-l.length]
  exact lens is ds env env' e
 |_=>cases e
end
def W0:Wi:=fun _ _ _ _=>False
def Sat.lay(S:Sat K env σ H)(h:H2=H\/∃p vs,H p=none/\H2=upd H p (.tup vs)):Nx K env σ H env H2:=by
 rcases h with rfl|⟨p,vs,hp,rfl⟩
 ·exact Nx.refl S
 ·exact Nx.laid S hp
variable{nl:Nat}
def rC:aN (env.drop nl) (σ.drop nl) i a↔aN env σ (nl+i) a:=by
 unfold aN
 rw[List.getElem?_drop,List.getElem?_drop]
theorem Sat.drop{K:QQq}{env:Ev}{σ:St}{H:Hp}{nl:Nat}(S:Sat K env σ H):Sat K (env.drop nl) (σ.drop nl) H:=by
 refine⟨by rw[List.length_drop,List.length_drop,S.len],fun i s e=>?_,fun i j a h1 h2=>?_⟩
 ·rw[List.getElem?_drop]at e⊢
  exact S.sl _ s e
 ·have:=S.ne _ _ a (rC.mp h1) (rC.mp h2)
  omega
def iI(h:aN (List.replicate nl .un++env) (List.replicate nl none++σ) i a):∃j,i=nl+j/\aN env σ j a:=by
 obtain⟨⟨s,xs,e1,e2⟩,e3⟩:=h
 by_cases hi:i<nl
 ·rw[Qwz (by simpa using hi),List.getElem?_replicate,if_pos hi]at e1
  cases e1;cases e2
 ·refine⟨i-nl,by omega,?_⟩
  rw[QIz (by simp;omega)]at e1 e3
  simp only[List.length_replicate]at e1 e3
  exact⟨⟨s,xs,e1,e2⟩,e3⟩
def Sat.front(S:Sat K env σ H)(nl:Nat):Sat K (List.replicate nl .un++env) (List.replicate nl none++σ) H:=by
 refine⟨by simp[S.len],fun i s e=>?_,fun i j a h1 h2=>?_⟩
 ·by_cases hi:i<nl
  ·rw[Qwz (by simpa using hi),List.getElem?_replicate,if_pos hi]at e
   cases e;trivial
  ·rw[QIz (by simp;omega)]at e⊢
   simp only[List.length_replicate]at e⊢
   exact S.sl _ s e
 ·obtain⟨i',rfl,o1⟩:=iI h1
  obtain⟨j',rfl,o2⟩:=iI h2
  rw[S.ne i' j' a o1 o2]
structure zB(X:Cx)(c:Cf)(scope:Scope)(tgs:List Str)(tg:Tg)(cond elt:E)(tgE eltE:Expr)(ifs:List Expr):Prop where
 sc:HQ X.env.scope scope tgs X.N
 small:∀i∈slots tg,i<tgs.length
 tgt:∀cl fp s₀ H₀,(blk X scope cl (bK tgs X.N) fp s₀ H₀).Ok->GG (blk X scope cl (bK tgs X.N) fp s₀ H₀) tg tgE
 tests:(ifs=[]/\cond=.con (.bl true))\/∃ce,ifs=[ce]/\∀cl fp s₀ H₀,(blk X scope cl (bK tgs X.N) fp s₀ H₀).Ok->GT (blk X scope cl (bK tgs X.N) fp s₀ H₀) W0 c cond ce
 elts:∀cl fp s₀ H₀,(blk X scope cl (bK tgs X.N) fp s₀ H₀).Ok->GE (blk X scope cl (bK tgs X.N) fp s₀ H₀) W0 c elt eltE
structure LI(X:Cx)(c:Cf)(tg:Tg)(cond elt:E)(xs ys:List D)(τ env0:Ev)(σ σ0:St)(H3:Hp)(D:Addr)(nl i:Nat)(acc:List Mini.D)(vs:List V)(τ1:Ev)(σ1:St)(H1:Hp):Prop where
 le:i<=xs.length
 go:aR tg (ev c cond) (ev c elt) (xs.drop i) acc τ1=.ok ys τ
 fH:Sat X.K τ1 σ1 H1
 out:σ1.drop nl=σ
 acl:acc.length<=i
 cur:H1 D=some (.lst vs)
 den:au X.K H1 acc vs
 sub:∀k a,aN τ1 σ1 k a->aN env0 σ0 k a
 pers:bV H3 H1
 keep:∀b u,H3 b=some u->b≠D->(∀k,¬aN env0 σ0 k b)->H1 b=some u
 dom:∀b,H1 b=none->H3 b=none
 bors:∀(k:Nat)ws,env0[k]? =some (.bor ws)->∃ws',τ1[k]? =some (.bor ws')
section
variable{X:Cx}{c:Cf}{tg:Tg}{cond elt:E}{xs ys:List D}{τ env0:Ev}{σ σ0:St}{H3:Hp}{D:Addr}{nl i:Nat}{acc:List Mini.D}{vs:List V}{τ1 τ2:Ev}{σ1 σ2:St}{H1 H2:Hp}
def LI.no(L:LI X c tg cond elt xs ys τ env0 σ σ0 H3 D nl i acc vs τ1 σ1 H1)(hD:∀k,¬aN env0 σ0 k D):∀k,¬aN τ1 σ1 k D:=fun k z=>hD k (L.sub k D z)
end
structure Ch(K:QQq)(env:Ev)(σ:St)(H:Hp)(env':Ev)(σ':St)(H':Hp):Prop where
 fH:Sat K env' σ' H'
 sub:∀(i:Nat)a,aN env' σ' i a->aN env σ i a
 pers:bV H H'
 keep:∀b u,H b=some u->(∀i,¬aN env σ i b)->H' b=some u
 dom:∀b,H' b=none->H b=none
 bors:∀(i:Nat)xs,env[i]? =some (.bor xs)->∃ys,env'[i]? =some (.bor ys)
variable{tg:Tg}
section
variable{K:QQq}{env env1 env2:Ev}{σ σ1 σ2:St}{H H1 H2:Hp}
def Nx.ch(N:Nx K env σ H env1 H1):Ch K env σ H env1 σ H1:=⟨N.fH,N.sub,N.pers,N.keep,N.dom,N.bors⟩
def ju.ch(h:ju K tg env σ env1 σ1 H):Ch K env σ H env1 σ1 H:=⟨h.fH,fun _ _ z=>h.sub z,bV.refl H,fun _ _ z _=>z,fun _ z=>z,fun i xs e=>⟨xs,(h.same i (h.bors i xs e)).1.trans e⟩⟩
theorem Ch.trans(a:Ch K env σ H env1 σ1 H1)(b:Ch K env1 σ1 H1 env2 σ2 H2):Ch K env σ H env2 σ2 H2:=
 ⟨b.fH,fun i c z=>a.sub i c (b.sub i c z),a.pers.trans b.pers,fun c vs z n=>b.keep c vs (a.keep c vs z n) fun i w=>n i (a.sub i c w),fun c z=>a.dom c (b.dom c z),fun i xs e=>let ⟨ys,e1⟩:=a.bors i xs e;b.bors i ys e1⟩
end
def ju.out{σ1:St}(h:ju K tg env σ env1 σ1 H)(hs:∀i∈slots tg,i<nl):σ1.drop nl=σ.drop nl:=by
 apply List.ext_getElem?
 intro i
 rw[List.getElem?_drop,List.getElem?_drop]
 exact(h.same (nl+i) fun z=>by have:=hs _ z;omega).2
section
variable{X:Cx}{c:Cf}{tg:Tg}{cond elt:E}{xs ys:List D}{τ env0:Ev}{σ σ0:St}{H3:Hp}{D:Addr}{nl i:Nat}{acc acc':List Mini.D}{vs:List V}{τ1 τ2:Ev}{σ1 σ2:St}{H1 H2:Hp}
theorem LI.skip(L:LI X c tg cond elt xs ys τ env0 σ σ0 H3 D nl i acc vs τ1 σ1 H1)(hD:∀k,¬aN env0 σ0 k D)(C:Ch X.K τ1 σ1 H1 τ2 σ2 H2)(hi:i<xs.length)(ho:σ2.drop nl=σ)
  (go:aR tg (ev c cond) (ev c elt) (xs.drop (i+1)) acc τ2=.ok ys τ):LI X c tg cond elt xs ys τ env0 σ σ0 H3 D nl (i+1) acc vs τ2 σ2 H2 where
 le:=hi
 go:=go
 fH:=C.fH
 out:=ho
 acl:=Nat.le_succ_of_le L.acl
 cur:=C.keep D _ L.cur (L.no hD)
 den:=L.den.mono C.pers
 sub:=fun k a z=>L.sub k a (C.sub k a z)
 pers:=L.pers.trans C.pers
 keep:=fun b ws z n1 n2=>C.keep b ws (L.keep b ws z n1 n2) fun k o=>n2 k (L.sub k b o)
 dom:=fun b z=>L.dom b (C.dom b z)
 bors:=fun k ws e=>let ⟨w1,e1⟩:=L.bors k ws e;C.bors k w1 e1
def LI.push{d:Mini.D}(L:LI X c tg cond elt xs ys τ env0 σ σ0 H3 D nl i acc vs τ1 σ1 H1)(hD:∀k,¬aN env0 σ0 k D)(C:Ch X.K τ1 σ1 H1 τ2 σ2 H2)(hi:i<xs.length)(ho:σ2.drop nl=σ)
  (go:aR tg (ev c cond) (ev c elt) (xs.drop (i+1)) (acc++[d]) τ2=.ok ys τ)(hd:bG X.K H2 d v):LI X c tg cond elt xs ys τ env0 σ σ0 H3 D nl (i+1) (acc++[d]) (vs++[v]) τ2 σ2 (upd H2 D (.lst (vs++[v]))):=by
 have cur:=C.keep D _ L.cur (L.no hD)
 have ne:∀b u,H2 b=some u->(∀ws,u≠ .lst ws)->b≠D:=fun b u q n z=>by subst z;rw[cur]at q;cases q;exact n vs rfl
 have p:bV H2 (upd H2 D (.lst (vs++[v]))):=⟨fun b ws q=>by rw[aC (ne b _ q (by intro ws z;cases z))];exact q,fun b o u q=>by rw[aC (ne b _ q (by intro ws z;cases z))];exact q⟩
 have no2:∀k,¬aN τ2 σ2 k D:=fun k z=>L.no hD k (C.sub k D z)
 refine⟨hi,go,C.fH.keep p fun k b u ow hb=>?_,ho,by rw[QTq];exact Nat.succ_le_succ L.acl,aW,((L.den.mono C.pers).append (au.dj hd au.fM)).mono p,fun k a z=>L.sub k a (C.sub k a z),
  (L.pers.trans C.pers).trans p,fun b ws z n1 n2=>?_,fun b z=>L.dom b (C.dom b ?_),fun k ws e=>let ⟨w1,e1⟩:=L.bors k ws e;C.bors k w1 e1⟩
 ·have nb:b≠D:=fun z=>by subst z;exact no2 k ow
  rw[aC nb];exact hb
 ·rw[aC n1]
  exact C.keep b ws (L.keep b ws z n1 n2) fun k o=>n2 k (L.sub k b o)
 ·by_cases hb:b=D
  ·subst hb;rw[aW]at z;cases z
  ·rw[aC hb]at z;exact z
end
def vy{α:Type}{xs:List α}{d:α}(h:xs[i]? =some d):xs.drop i=d::xs.drop (i+1):=by
 obtain⟨hi,e⟩:=QCz.mp h
 rw[List.drop_eq_getElem_cons hi,e]
def vz{c:Cf}{cond elt:E}{tgE iterE eltE:Expr}{ifs:List Expr}{pos:Pos}{cl:List (Str×Addr)}
  {Q0q:QQz}{σ:St}{H:Hp}{s:Shared}{env τ:Ev}{J:It}{fp:List Addr}{it:Addr}{tn:Nat->Heap->Prop}{xs ys:List D}{RR:Value->Addr->Result->Shared->Prop}{E:QZq}
  (B:zB X c scope tgs tg cond elt tgE eltE ifs)(hc:X.calm=true)(co:Ny scope X.env cl)
  (I:Inv X Q0q σ H s)(S:Sat X.K env σ H)(T:Turn X.prog X.w X.K tgE J fp it tn)(t0:tn 0 s.heap)(hf:∀b∈fp,gK X Q0q H b)(G:Gives X.K J xs H)
  (hgo:aR tg (ev c cond) (ev c elt) xs [] (List.replicate tgs.length .un++env)=.ok ys τ)
  (hRR:∀(D C:Addr)(s':Shared)(H':Hp)(vs:List V)(m:QZz),Inv X Q0q σ H' s'->Nx X.K env σ H (τ.drop tgs.length) H'->H' D=some (.lst vs)->au X.K H' ys vs->H D=none->
   s'.heap.Ns C m->gK X Q0q H' C->RR (.ref D) C (.ok .next) s'):
  wpAny (model X.prog X.w) X.A (newList []) (fun acc s₃=>wpAny (model X.prog X.w) X.A (newFunctionEnv scope X.env.globals cl [] X.env.qual none .none (some X.env)) (fun cenv s₄=>
   codeAny (model X.prog X.w) X.A (.compStart (.ListComp eltE [⟨tgE,iterE,ifs,0⟩] scope pos) 0 (.ref it) acc {cenv with scope:=relabel scope X.env}) (RR acc cenv.locals) s₄) E s₃) E s:=by
 have hlt:∀b∈fp,b<s.heap.objs.size:=fun b hb=>by
  obtain⟨o,e,_⟩:=T.obj 0 _ t0 b hb
  exact Qqz e
 refine Qjq (wpAny_newFunctionEnv B.sc.nocell (by intro y hy;simp at hy) (fun h₁ hns₁ hsb₁=>?_) B.sc.kind)
 dsimp only at hns₁ hsb₁⊢
 generalize hDd:s.heap.objs.size=D at*
 have hDn:H D=none:=by rw[<-hDd];exact I.hok.fresh (QVz _)
 have I3:Inv X Q0q σ (upd H D (.lst [])) {s with heap:=s.heap.push {cls:=.type "list",dict:=none,data:=.seq ([]:List Value).toArray}}:=by
  have:=I.laid (a:=s.heap.objs.size) (o:=.lst []) (t':=s.toks) (h':=s.heap.push {cls:=.type "list",dict:=none,data:=.seq ([]:List Value).toArray}) (fun b o e=>QWq _ e) (QVz _) ⟨QIq _,[],0,.nil,Qzq _ rfl⟩
  rw[hDd]at this
  exact this
 obtain⟨s3,hs3⟩:∃s3:Shared,s3={s with heap:=s.heap.push {cls:=.type "list",dict:=none,data:=.seq ([]:List Value).toArray}}:=⟨_,rfl⟩
 rw[<-hs3]at I3
 have hs3h:s.heap.push {cls:=.type "list",dict:=none,data:=.seq ([]:List Value).toArray}=s3.heap:=by rw[hs3]
 rw[hs3h]at hns₁ hsb₁⊢
 have hsz:s3.heap.objs.size=D+1:=by rw[<-hs3h,Heap.size_push,hDd]
 have hk3:∀b o,s3.heap.get? b=some o->h₁.get? b=some o:=fun b o e=>hsb₁.extBut b o (Qvz (Qqz e)) (QWq _ e)
 have hk:∀b o,s.heap.get? b=some o->s3.heap.get? b=some o:=fun b o e=>by rw[<-hs3h];exact QWq _ e
 have hf3:∀b∈fp,gK X Q0q (upd H D (.lst [])) b:=fun b hb=>⟨by
  rw[aC (Qvz (hlt b hb))];exact(hf b hb).1,(hf b hb).2⟩
 have hlt3:∀b∈fp,b<s3.heap.objs.size:=fun b hb=>Qvq (hlt b hb) (by rw[hsz];exact Nat.le_succ _)
 have N3:Nx X.K env σ H env (upd H D (.lst [])):=Nx.laid S hDn
 generalize hH3:upd H D (.lst [])=H3 at I3 hf3 N3
 have hD3:H3 D=some (.lst []):=by rw[<-hH3];exact aW
 have noD:∀k,¬aN (List.replicate tgs.length .un++env) (List.replicate tgs.length none++σ) k D:=fun k z=>by
  obtain⟨j,_,o⟩:=iI z
  obtain⟨_,_,q,_⟩:=S.own o
  rw[hDn]at q;cases q
 have ok':(blk X scope cl (bK tgs X.N) fp s3 H3).Ok:=MK I3 B.sc co hf3 hlt3
 have hns':h₁.Ns s3.heap.objs.size fun _=>none:=by simpa using hns₁
 have fpk:∀{H1:Hp},(∀b∈fp,H1 b=none)->∀b∈fp,gK (blk X scope cl (bK tgs X.N) fp s3 H3) [] H1 b:=fun{H1}hn b hb=>
  ⟨hn b hb,(ok'.exf b hb).1,ok'.exfs b hb,.inl hb,fun x q e=>(ok'.exf b hb).2 x q e,fun p hp=>absurd (show p∈([]:QQz)from hp) (by simp)⟩
 have loop:∀s4:Shared,s4={s with heap:=h₁,toks:=s.toks+([]:List (Str×Value)).length}->
   codeAny (model X.prog X.w) X.A (.compLoop (.ListComp eltE [⟨tgE,iterE,ifs,0⟩] scope pos) 0 (.ref it) (.ref D) (compEnvC scope cl s3.heap.objs.size X.env)) (RR (.ref D) s3.heap.objs.size) s4:=by
  rintro s4 rfl
  have I4:Inv (blk X scope cl (bK tgs X.N) fp s3 H3) [] (List.replicate tgs.length none++σ) H3 {s with heap:=h₁,toks:=s.toks+([]:List (Str×Value)).length}:=by
   have:=Ru (t:=s.toks+([]:List (Str×Value)).length) I3 B.sc co hf3 hlt3 hns' hk3
   rw[hs3]at this⊢
   exact this
  refine wO (fun n s'=>∃i acc vs τ1 σ1 H1,n=xs.length-i/\Inv (blk X scope cl (bK tgs X.N) fp s3 H3) [] σ1 H1 s'/\tn i s'.heap/\(∀b∈fp,H1 b=none)/\
   LI X c tg cond elt xs ys τ (List.replicate tgs.length .un++env) σ (List.replicate tgs.length none++σ) H3 D tgs.length i acc vs τ1 σ1 H1) ?_ xs.length ?_
  ·rintro n s1 ⟨i,acc,vs,τ1,σ1,H1,rfl,I1,t1,f1,L⟩
   by_cases hi:i<xs.length
   ·--one more turn
    obtain⟨d,hd⟩:∃d,xs[i]? =some d:=⟨xs[i],by simp[hi]⟩
    have q0:=L.go
    rw[vy hd,aR]at q0
    cases hset:bw tg d τ1 with
    |none=>rw[hset]at q0;cases q0
    |some τ2=>
     rw[hset]at q0
     simp only at q0
     have p1:bV H H1:=N3.pers.trans L.pers
     refine cA (T.item (blk X scope cl (bK tgs X.N) fp s3 H3) rfl rfl rfl hc i [] s1 σ1 H1 _ I1 (fpk f1) t1 (G.go H1 p1 i d hd)) fun r s2⟨u,hr,h2⟩=>?_
     subst hr
     refine cA h2 fun _ s3'⟨x,H2,I2,r2,y2,t2,f2⟩=>?_
     obtain⟨Dx,lay⟩:=G.yld H1 p1 i d hd x H2 y2
     have N2:=L.fH.lay lay
     have D2:H2 D=some (.lst vs):=N2.keep D _ L.cur (L.no noD)
     have I2':=I2.pinned (fpk f2) (T.obj _ _ t2)
     refine cA (B.tgt cl fp s3 H3 ok' _ s3' σ1 H2 x u (fun σ2 H'=>H'=H2/\ju X.K tg τ1 σ1 τ2 σ2 H2) I2' r2 ⟨τ1,d,τ2,N2.fH,Dx,hset,fun σ2 st=>⟨rfl,st⟩⟩) fun _ s4'⟨σ2,H2',I3',hH,st⟩=>?_
     subst hH
     have ho:σ2.drop tgs.length=σ:=(st.out B.small).trans L.out
     have C2:Ch X.K τ1 σ1 H1 τ2 σ2 H2':=N2.ch.trans st.ch
     have again:∀{s7:Shared}{H7:Hp}{acc':List Mini.D}{vs':List V}{τ7:Ev},Inv (blk X scope cl (bK tgs X.N) fp s3 H3) ([]++oE fp s3'.heap) σ2 H7 s7->
       LI X c tg cond elt xs ys τ (List.replicate tgs.length .un++env) σ (List.replicate tgs.length none++σ) H3 D tgs.length (i+1) acc' vs' τ7 σ2 H7->
       ∃k,k<xs.length-i/\∃i acc vs τ1 σ1 H1,k=xs.length-i/\Inv (blk X scope cl (bK tgs X.N) fp s3 H3) [] σ1 H1 s7/\tn i s7.heap/\(∀b∈fp,H1 b=none)/\
        LI X c tg cond elt xs ys τ (List.replicate tgs.length .un++env) σ (List.replicate tgs.length none++σ) H3 D tgs.length i acc vs τ1 σ1 H1:=fun{s7 H7 acc' vs' τ7}I7 L7=>by
      refine⟨xs.length- (i+1),by omega,i+1,acc',vs',τ7,σ2,H7,rfl,I7.mJ,T.keep _ _ _ t2 fun b hb o e=>(I7.pin (b,o) (QVq _ (QVq _ (iW hb e)))).1,fun b hb=>?_,L7⟩
      obtain⟨o,e,_⟩:=T.obj _ _ t2 b hb
      exact(I7.pin (b,o) (QVq _ (QVq _ (iW hb e)))).2.1
     obtain⟨xc,dc,bc,τ3,e1,e2,e3,q1⟩:∃xc dc bc τ3,ev c cond τ2=.ok xc τ3/\xc.jy=some dc/\iB dc=some bc/\
       (if bc then(ev c elt τ3).aq fun d σ₃=>aR tg (ev c cond) (ev c elt) (xs.drop (i+1)) (acc++[d]) σ₃ else aR tg (ev c cond) (ev c elt) (xs.drop (i+1)) acc τ3)=.ok ys τ:=by
      cases r:ev c cond τ2 with
      |bad=>rw[r]at q0;cases q0
      |exc k τ3=>rw[r]at q0;cases q0
      |ok xc τ3=>
       rw[r]at q0
       cases xc with
       |ref k=>cases q0
       |tmp zs=>cases q0
       |val dc=>
        simp only[Out.cC,Out.aq]at q0
        cases q:iB dc with
        |none=>rw[q]at q0;cases q0
        |some bc=>rw[q]at q0;exact⟨_,dc,bc,τ3,rfl,rfl,q,q0⟩
       |new zs=>
        simp only[Out.cC,Out.aq]at q0
        cases q:iB zs.d with
        |none=>rw[q]at q0;cases q0
        |some bc=>rw[q]at q0;exact⟨_,zs.d,bc,τ3,rfl,rfl,q,q0⟩
     have after:∀(s5:Shared)(H5:Hp),Inv (blk X scope cl (bK tgs X.N) fp s3 H3) ([]++oE fp s3'.heap) σ2 H5 s5->Nx X.K τ2 σ2 H2' τ3 H5->
       (if bc=true then wpAny (model X.prog X.w) X.A (eval eltE (compEnvC scope cl s3.heap.objs.size X.env)) (fun x s₄=>
        wpAny (model X.prog X.w) X.A (call (.builtin "list.append") [.ref D,x]) (fun _ s₅=>∃m,m<xs.length-i/\∃i acc vs τ1 σ1 H1,m=xs.length-i/\Inv (blk X scope cl (bK tgs X.N) fp s3 H3) [] σ1 H1 s₅/\tn i s₅.heap/\(∀b∈fp,H1 b=none)/\
        LI X c tg cond elt xs ys τ (List.replicate tgs.length .un++env) σ (List.replicate tgs.length none++σ) H3 D tgs.length i acc vs τ1 σ1 H1) (fun _ _=>False) s₄) (fun _ _=>False) s5
       else∃m,m<xs.length-i/\∃i acc vs τ1 σ1 H1,m=xs.length-i/\Inv (blk X scope cl (bK tgs X.N) fp s3 H3) [] σ1 H1 s5/\tn i s5.heap/\(∀b∈fp,H1 b=none)/\
        LI X c tg cond elt xs ys τ (List.replicate tgs.length .un++env) σ (List.replicate tgs.length none++σ) H3 D tgs.length i acc vs τ1 σ1 H1):=fun s5 H5 I5 N5=>by
      have C5:=C2.trans N5.ch
      cases bc with
      |false=>
       rw[if_neg Qjz]at q1⊢
       exact again I5 (L.skip noD C5 hi ho q1)
      |true=>
       rw[if_pos rfl]at q1⊢
       obtain⟨xe,de,τ4,e4,e5,q2⟩:∃xe de τ4,ev c elt τ3=.ok xe τ4/\xe.jy=some de/\aR tg (ev c cond) (ev c elt) (xs.drop (i+1)) (acc++[de]) τ4=.ok ys τ:=by
        cases r:ev c elt τ3 with
        |bad=>rw[r]at q1;cases q1
        |exc k τ3=>rw[r]at q1;cases q1
        |ok xe τ4=>
         rw[r]at q1
         cases xe with
         |ref k=>cases q1
         |tmp zs=>cases q1
         |val de=>exact⟨_,de,τ4,rfl,rfl,q1⟩
         |new zs=>exact⟨_,zs.d,τ4,rfl,rfl,q1⟩
       refine cA ((B.elts cl fp s3 H3 ok').d _ s5 σ2 H5 (fun v H6=>Nx X.K τ3 σ2 H5 τ4 H6/\bG X.K H6 de v) I5 ⟨τ3,N5.fH,?_⟩) fun u s6⟨v,H6,I6,r6,N6,D6⟩=>?_
       ·rw[e4]
        cases xe with
        |ref k=>cases e5
        |tmp zs=>cases e5
        |val d'=>cases e5;exact fun v H' N Dv=>⟨N,Dv⟩
        |new zs=>cases e5;exact fun v H' N Dv=>⟨N,Dv⟩
       ·have C6:=C5.trans N6.ch
        have cur:=C6.keep D _ L.cur (L.no noD)
        have lenv:vs.length<sizeLine:=by
         have h1:=L.den.length
         have h2:=L.acl
         have h3:=G.len
         omega
        refine cA (uU (X:=blk X scope cl (bK tgs X.N) fp s3 H3) _ s6 σ2 H6 (.ref D) [v] (.ref D) [u] (fun _ H7=>H7=upd H6 D (.lst (vs++[v]))) I6 rfl (.cons r6 .nil) ⟨D,vs,v,rfl,rfl,cur,lenv,rfl⟩) fun _ s7⟨_,H7,I7,_,e7⟩=>?_
        subst e7
        exact again I7 (L.push noD C6 hi ho q2 D6)
     rcases B.tests with ⟨ei,ec⟩|⟨ce,ei,hC⟩
     ·subst ei ec
      simp only[v_0,v_1,Z9,v_3,v_4,Z8,v_6,YM,Z7,Ol,vN,Ip,Io,Fz,Ow,U9,Ov,Im,Il,Ou,Ot,nR,Oq,Ik,Oo,Om,lH]at e1
      cases e1
      cases e2
      cases e3
      exact QKz (after s4' H2' I3' (Nx.refl st.fH))
     ·subst ei
      refine wpAny_tests_one (cA (hC cl fp s3 H3 ok' _ s4' σ2 H2' (fun k H'=>k=bc/\Nx X.K τ2 σ2 H2' τ3 H') I3' ⟨τ2,st.fH,by rw[e1];exact⟨dc,bc,e2,e3,fun H' N=>⟨rfl,N⟩⟩⟩) fun k s5⟨H5,I5,hk',N5⟩=>?_)
      subst hk'
      exact after s5 H5 I5 N5
   ·--the end
    have e:i=xs.length:=Nat.le_antisymm L.le (Nat.le_of_not_lt hi)
    have q0:=L.go
    rw[e,List.drop_length,aR]at q0
    cases q0
    refine cA (T.done (blk X scope cl (bK tgs X.N) fp s3 H3) rfl rfl rfl hc i [] s1 σ1 H1 _ I1 (fpk f1) t1 (G.stop H1 (N3.pers.trans L.pers) i (by omega))) fun r s2⟨hr,I2⟩=>?_
    subst hr
    obtain⟨m,hm,_⟩:=I2.loc
    have IX:Inv X Q0q σ H1 s2:=Inv.call' I3 I2.os I2.base I2.hok I2.bare fun b hb=>⟨(hf3 b hb).2.2.2.1,(hf3 b hb).2.1,(hf3 b hb).2.2.2.2.1,(hf3 b hb).2.2.2.2.2⟩
    refine hRR D s3.heap.objs.size s2 H1 vs m IX ⟨?_,fun k a z=>?_,N3.pers.trans L.pers,fun b ws z w=>?_,fun b z=>N3.dom b (L.dom b z),fun k ws z=>?_⟩ L.cur L.den hDn hm (I3.Bj (QVz _) I2.free)
    ·have:=L.fH.drop (nl:=tgs.length)
     rw[L.out]at this
     exact this
    ·have z':aN (τ.drop tgs.length) (σ1.drop tgs.length) k a:=by rw[L.out];exact z
     obtain⟨j,ej,o⟩:=iI (L.sub _ a (rC.mp z'))
     have:k=j:=by omega
     subst this
     exact o
    ·refine L.keep b ws (N3.keep b ws z w) (fun q=>?_) fun k o=>?_
     ·subst q;rw[hDn]at z;cases z
     ·obtain⟨j,_,o'⟩:=iI o
      exact w j o'
    ·obtain⟨ws',q⟩:=L.bors (tgs.length+k) ws (by rw[QIz (by simp)];simpa using z)
     exact⟨ws',by rw[List.getElem?_drop];exact q⟩
  ·refine⟨0,[],[],_,_,H3,rfl,I4,T.keep _ _ _ t0 fun b _ o e=>hk3 b o (hk b o e),fun b hb=>(hf3 b hb).1,⟨QIq _,hgo,N3.fH.front _,by simp,QVz _,hD3,au.fM,fun _ _ z=>z,bV.refl _,fun _ _ z _ _=>z,fun _ z=>z,fun _ ws z=>⟨ws,z⟩⟩⟩
 exact codeAny_compStart_list (loop _ rfl) (T.self _ 0 _ _ _ (T.keep _ _ _ t0 fun b _ o e=>hk3 b o (hk b o e)) (loop _ rfl))
section
variable{X:Cx}{W:Wi}{c:Cf}{m m1 m2 m3:E}{e a b:Expr}{es:List Expr}{pos:Pos}
def eQ:Cm->CmpOp
 |.eq=>.Eq
 |.ne=>.NotEq
 |.lt=>.Lt
 |.le=>.LtE
 |.gt=>.Gt
 |.ge=>.GtE
 |.isin=>.In
 |.notin=>.NotIn
 |.fQ=>.Is
 |.notN=>.IsNot
def iw(X:Cx)(op:CmpOp)(f:D->D->Option Bool):Prop:=
 ∃r,fY X (compareOp op) r/\∀(H:Hp)(x y:D)(k:Bool)(v u:V)(Q:VK),bG X.K H x v->cT X.K H y u->f x y=some k->Q (.bl k) H->r v u H Q
theorem cT.int{K:QQq}{H:Hp}{i:Int}{v:V}(h:cT K H (.int i) v):v=.int i:=by
 rcases h with h|⟨o,a,q,_⟩
 ·exact h
 ·cases o<;>cases q
def z6{op:CmpOp}{g:Int->Int->Bool}{f:D->D->Option Bool}(ho:fY X (compareOp op) (JH fun i j=>.bl (g i j)))(hf:∀x y k,f x y=some k->∃i j,x=.int i/\y=.int j/\k=g i j):iw X op f:=
 ⟨_,ho,fun H x y k v u Q Dx Dy e q=>by
  obtain⟨i,j,rfl,rfl,rfl⟩:=hf x y k e
  exact⟨i,j,Dx,Dy.int,q⟩⟩
def aaX(hu:X.A.units+60<cLine):iw X .Eq (aK .eq):=⟨_,Wr hu,fun H x y k v u Q Dx Dy e q=>by
 unfold aK at e;dsimp only at e
 split at e
 ·rename_i h;cases e;exact⟨x,y,.inl Dx,Dy,h,q⟩
 ·cases e⟩
def aaR(hu:X.A.units+60<cLine):iw X .NotEq (aK .ne):=⟨_,Wh hu,fun H x y k v u Q Dx Dy e q=>by
 unfold aK at e;dsimp only at e
 split at e
 ·rename_i h;cases e;exact⟨x,y,.inl Dx,Dy,h,q⟩
 ·cases e⟩
def aaT:iw X .LtE (aK .le):=z6 abj fun x y k e=>by
 cases x<;>cases y<;>(unfold aK at e;simp at e)
 exact⟨_,_,rfl,rfl,e.symm⟩
def aaW:iw X .GtE (aK .ge):=z6 abl fun x y k e=>by
 cases x<;>cases y<;>(unfold aK at e;simp at e)
 exact⟨_,_,rfl,rfl,e.symm⟩
def cT.O9(h:cT K H (.tup xs) v):Nq K H xs v:=by
 rcases h with h|⟨o,a,q,_⟩
 ·obtain⟨a,vs,rfl,hq,l⟩:=cJ h
  exact⟨a,vs,rfl,.inr hq,l⟩
 ·cases o<;>cases q
def cT.Jl(h:cT K H (.lst xs) v):Nq K H xs v:=by
 rcases h with h|⟨o,a,q,rfl,u,ha,hq⟩
 ·obtain⟨a,vs,rfl,hq,l⟩:=dH h
  exact⟨a,vs,rfl,.inl hq.sq,l⟩
 ·cases o<;>cases q
  obtain⟨vs,rfl,l⟩:=hq
  exact⟨a,vs,rfl,.inl (.inl (.inl ha)),l⟩
theorem cT.str{K:QQq}{H:Hp}{x:Str}{v:V}(h:cT K H (.str x) v):v=.str x:=by
 rcases h with h|⟨o,a,q,_⟩
 ·exact h
 ·cases o<;>cases q
def Le(x y:Str)(h:x.length=1):(!(Builtin.Str.occurrences y x 0 y.length 1).isEmpty)=aH (.str x) (signs y):=by
 obtain⟨cps⟩:=x
 obtain⟨l⟩:=cps
 have hl:l.length=1:=h
 match l,hl with
 |[k],_=>
  have:=PySem.StrLaws.found_one y k
  rw[this]
  unfold signs
  generalize y.cps.toList=cs
  induction cs with
  |nil=>rfl
  |cons z zs ih=>
   rw[Qyz]
   show decide (k∈z::zs)=(cL (.str ⟨#[z]⟩) (.str ⟨#[k]⟩)||aH (.str ⟨#[k]⟩) (zs.map fun c=>.str ⟨#[c]⟩))
   rw[<-ih]
   have e:cL (.str ⟨#[z]⟩) (.str ⟨#[k]⟩)=decide (k=z):=by
    simp only[cL]
    by_cases q:k=z
    ·subst q;simp
    ·have q':¬z=k:=fun e=>q e.symm
     simp[q,q']
   rw[e]
   by_cases q:k=z
   ·simp[q]
   ·simp[q]
def j9{kvs:List (Key×V)}(k:Key):(iz kvs k).isSome=aH (cQ k) (kvs.map fun p=>cQ p.1):=by
 induction kvs with
 |nil=>rfl
 |cons p r ih=>
  obtain⟨k',v⟩:=p
  show _=(cL (cQ k') (cQ k)||aH (cQ k) (r.map fun p=>cQ p.1))
  rw[<-ih]
  have e:cL (cQ k') (cQ k)=decide (k'=k):=by
   cases k'<;>cases k<;>simp[cQ,cL,Bool.beq_eq_decide_eq]
  rw[e]
  by_cases q:k'=k
  ·subst q;simp[jB]
  ·simp[q,jC]
def gk{x:D}(h:keyOk x=true):∃k:Key,x=cQ k:=by
 cases x<;>simp[keyOk]at h
 ·exact⟨.inl _,rfl⟩
 ·exact⟨.inr _,rfl⟩
def lq{k:Key}(h:bG K H (cQ k) v):v=kV k:=by
 cases k<;>exact h
def JG(neg:Bool):R2:=fun x y H Q=>∃a k kvs,y=.ref a/\x=kV k/\Rd H a (.dK kvs)/\Q (.bl (if neg then !(iz kvs k).isSome else(iz kvs k).isSome)) H
def J4(hu:X.A.units+1<cLine):fY X (compareOp .In) (JG false):=by
 intro Q0q s σ H x y v u Q I rx ry h
 obtain⟨a,k,kvs,rfl,rfl,hd,q⟩:=h
 cases ry
 exact agg hu I (.inl ⟨kvs,k,hd,rfl,rfl⟩) rx fun s3 I3=>⟨.bl _,H,I3,rfl,q⟩
def yq(hu:X.A.units+1<cLine):fY X (compareOp .NotIn) (JG true):=by
 intro Q0q s σ H x y v u Q I rx ry h
 obtain⟨a,k,kvs,rfl,rfl,hd,q⟩:=h
 cases ry
 exact Rj hu I (.inl ⟨kvs,k,hd,rfl,rfl⟩) rx fun s3 I3=>⟨.bl _,H,I3,rfl,q⟩
def nC{ks ds:List D}(h:cT K H (.cH ks ds) v):∃a kvs,v=.ref a/\Rd H a (.dK kvs)/\ks=kvs.map (fun p=>cQ p.1)/\au K H ds (kvs.map (·.2)):=by
 rcases h with h|⟨o,a,q,rfl,u,ha,hq⟩
 ·unfold bG at h;obtain⟨a,o,kvs,e,r,k⟩:=h;exact⟨a,kvs,e,.inr ⟨o,r⟩,k⟩
 ·cases o<;>cases q
  obtain⟨kvs,rfl,k,l⟩:=hq
  exact⟨a,kvs,rfl,.inl ha,k,l⟩
def aa5(K:QQq)(neg:Bool):R2:=fun x y H Q=>∃a d k xs,x=.ref a/\y=.ref d/\Rd H d (.dS xs)/\(∀x∈xs,cF K H x.1 x.2.1)/\cF K H k a/\Q (.bl (if neg then !(yF k xs).isSome else(yF k xs).isSome)) H
def Wo(hu:X.A.units+2<cLine):fY X (compareOp .In) (aa5 X.K false):=by
 intro Q0q s σ H x y v u Q I rx ry h
 obtain⟨a,d,k,xs,rfl,rfl,hd,hk,ha,q⟩:=h
 cases rx
 cases ry
 exact aeB hu I hd hk ha fun s3 I3=>⟨.bl _,H,I3,rfl,q⟩
def GJ(hu:X.A.units+2<cLine):fY X (compareOp .NotIn) (aa5 X.K true):=by
 intro Q0q s σ H x y v u Q I rx ry h
 obtain⟨a,d,k,xs,rfl,rfl,hd,hk,ha,q⟩:=h
 cases rx
 cases ry
 exact Ph hu I hd hk ha fun s3 I3=>⟨.bl _,H,I3,rfl,q⟩
def wM{ks ds:List D}(h:cT K H (.fZ ks ds) v):∃a xs,v=.ref a/\Rd H a (.dS xs)/\ks=xs.map (fun x=>eU x.1)/\(∀x∈xs,cF K H x.1 x.2.1)/\au K H ds (xs.map (·.2.2)):=by
 rcases h with h|⟨o,a,q,rfl,u,ha,hq⟩
 ·unfold bG at h;obtain⟨a,o,xs,e,r,k⟩:=h;exact⟨a,xs,e,.inr ⟨o,r⟩,k⟩
 ·cases o<;>cases q
  obtain⟨xs,rfl,k⟩:=hq
  exact⟨a,xs,rfl,.inl ha,k⟩
def aaU(hu:X.A.units+60<cLine):iw X .In (aK .isin):=
 ⟨_,(Wq hu).or ((J4 (by omega)).or (GQ.or (Wo (by omega)))),fun H x y k v u Q Dx Dy e q=>by
  cases y with
  |tup xs=>
   unfold aK at e;dsimp only at e
   split at e
   ·rename_i h;cases e;exact .inl ⟨x,xs,Dx,Dy.O9,h,q⟩
   ·cases e
  |lst xs=>
   unfold aK at e;dsimp only at e
   split at e
   ·rename_i h;cases e;exact .inl ⟨x,xs,Dx,Dy.Jl,h,q⟩
   ·cases e
  |cH ks vs=>
   unfold aK at e;dsimp only at e
   split at e
   ·rename_i h
    cases e
    obtain⟨k,rfl⟩:=gk h
    obtain⟨a,kvs,rfl,ha,rfl,l⟩:=nC Dy
    exact .inr (.inl ⟨a,k,kvs,rfl,lq Dx,ha,by simpa[j9]using q⟩)
   ·cases e
  |fZ ks vs=>
   unfold aK at e;dsimp only at e
   split at e
   ·rename_i h
    cases e
    obtain⟨k,rfl⟩:=jQ h
    obtain⟨a,rfl,ka⟩:=qL Dx
    obtain⟨d,xs,rfl,hd,rfl,hk,l⟩:=wM Dy
    exact .inr (.inr (.inr ⟨a,d,k,xs,rfl,rfl,hd,hk,ka,by rw[Eb]at q;simpa using q⟩))
   ·cases e
  |str y=>
   cases x with
   |str x=>
    unfold aK at e;dsimp only at e
    split at e
    ·rename_i h;cases e;exact .inr (.inr (.inl ⟨x,y,Dx,Dy.str,by rw[Le x y h];exact q⟩))
    ·cases e
   |_=>unfold aK at e;simp at e
  |_=>unfold aK at e;simp at e⟩
def Jx(hu:X.A.units+60<cLine):iw X .NotIn (aK .notin):=
 ⟨_,(GK hu).or ((yq (by omega)).or (GJ (by omega))),fun H x y k v u Q Dx Dy e q=>by
  cases y with
  |tup xs=>
   unfold aK at e;dsimp only at e
   split at e
   ·rename_i h;cases e;exact .inl ⟨x,xs,Dx,Dy.O9,h,q⟩
   ·cases e
  |lst xs=>
   unfold aK at e;dsimp only at e
   split at e
   ·rename_i h;cases e;exact .inl ⟨x,xs,Dx,Dy.Jl,h,q⟩
   ·cases e
  |cH ks vs=>
   unfold aK at e;dsimp only at e
   split at e
   ·rename_i h
    cases e
    obtain⟨k,rfl⟩:=gk h
    obtain⟨a,kvs,rfl,ha,rfl,l⟩:=nC Dy
    exact .inr (.inl ⟨a,k,kvs,rfl,lq Dx,ha,by simpa[j9]using q⟩)
   ·cases e
  |fZ ks vs=>
   unfold aK at e;dsimp only at e
   split at e
   ·rename_i h
    cases e
    obtain⟨k,rfl⟩:=jQ h
    obtain⟨a,rfl,ka⟩:=qL Dx
    obtain⟨d,xs,rfl,hd,rfl,hk,l⟩:=wM Dy
    exact .inr (.inr ⟨a,d,k,xs,rfl,rfl,hd,hk,ka,by rw[Eb]at q;simpa using q⟩)
   ·cases e
  |_=>unfold aK at e;simp at e⟩
end
section
open PySem.SeqAt
open PySem.AutoSeq1 (wpAny_loadPart')
open PySem.MeetsSeq PySem.MeetsSeq2 PySem.MeetsSeq3
inductive BoolsAre:List Value->List Bool->Prop
 |nil:BoolsAre [] []
 |cons (b:Bool) {vs:List Value} {bs:List Bool}:BoolsAre vs bs->BoolsAre (.bool b::vs) (b::bs)
theorem BoolsAre.length{vs:List Value}{bs:List Bool}(h:BoolsAre vs bs):vs.length=bs.length:=by
 induction h with
 |nil=>rfl
 |cons b _ ih=>simp[ih]
def uX(x y:Bool)(xs ys:List Bool):jw (x::xs) (y::ys)=if x=y then jw xs ys else(!x&&y):=rfl
def Dw:jw [] []=false:=rfl
def Dz(y:Bool)(ys:List Bool):jw [] (y::ys)=true:=rfl
def DG(x:Bool)(xs:List Bool):jw (x::xs) []=false:=rfl
def uJ(A:Around)(s:Shared)(a c:Bool)(prog:Program)(w:World)(E:QZq)(Q:QZq)(h:Q (.bool (!a&&c)) s):
  wpAny (model prog w) A (richCompare .Lt (.bool a) (.bool c)) Q E s:=
 (PyProof.Rows.lt_bool (by cases a<;>cases c<;>exact h):wpAny (model prog w) A (compareOp .Lt (.bool a) (.bool c)) Q E s)
def qG(l b:Addr)(items items2:Array Value)(n n2:Nat)(dd dd2:Option Addr)(sl sl2:Array (Option Value))(ns ms:List Bool)(hi:BoolsAre items.toList ns)(hj:BoolsAre items2.toList ms):
  Meets (Builtin.«tuple.__lt__» ⟨[.ref l,.ref b],[]⟩)
   (fun _ R s=>s.heap.get? l=some {cls:=.type "tuple",dict:=dd,data:=.seq items n,slots:=sl}/\s.heap.get? b=some {cls:=.type "tuple",dict:=dd2,data:=.seq items2 n2,slots:=sl2}/\
    R (.ok (.ret (.bool (jw ns ms)))) s):=
 .of_wp fun prog w A R s h=>by
  obtain⟨hp,g,d,tk,os⟩:=s;obtain⟨hl,hb,h⟩:=h
  have f2:=AutoSeq1.sub_tuple_tuple
  have z1:items.size=ns.length:=by rw[<-hi.length];simp
  have z2:items2.size=ms.length:=by rw[<-hj.length];simp
  wp_walk using wpAny_loadPart' hl,wpAny_loadPart' hb,wpAny_forIn_list _ (fun rest b s'=>b.1=none/\s'=⟨hp,g,d,tk,os⟩/\∃(vs ws:List Value)(ns' ms':List Bool),rest=vs.zip ws/\
   BoolsAre vs ns'/\BoolsAre ws ms'/\ns'.length+items2.size=ms'.length+items.size/\R (.ok (.ret (.bool (jw ns' ms')))) ⟨hp,g,d,tk,os⟩) _
  case turn=>
   rintro ⟨y,x⟩ rest b s' ⟨hb',rfl,vs,ws,ns',ms',hz,hvi,hwi,hlen,hR⟩
   cases hvi with
   |nil=>rw[List.zip_nil_left]at hz;cases hz
   |cons a hvi'=>
    cases hwi with
    |nil=>rw[List.zip_nil_right]at hz;cases hz
    |cons c hwi'=>
     rw[List.zip_cons_cons]at hz
     injection hz with hyx hrest
     injection hyx with hy hx
     subst hy hx
     rw[uX]at hR
     simp only[QBq]at hlen
     have he:=SeqAt.EqAt.bool_bool (A:=A.in1) (s:=⟨hp,g,d,tk,os⟩) a c
     refine QKq (he prog w _ _ ?_)
     by_cases hac:a=c
     ·subst hac
      rw[if_pos rfl]at hR
      rw[beq_self_eq_true]
      wp_walk
      exact⟨rfl,rfl,_,_,_,_,hrest,hvi',hwi',by omega,hR⟩
     ·rw[if_neg hac]at hR
      rw[beq_eq_false_iff_ne.mpr hac]
      have hri:=uJ A.in1 ⟨hp,g,d,tk,os⟩ a c prog w
      wp_walk using hri
      exact⟨_,rfl,by simpa using hR⟩
  case fin=>
   rintro ⟨b1,b2⟩ s' ⟨hb',rfl,vs,ws,ns',ms',hz,hvi,hwi,hlen,hR⟩
   simp only at hb'
   subst hb'
   have hv:jw ns' ms'=decide (items.size<items2.size):=by
    cases hvi with
    |nil=>
     cases hwi with
     |nil=>
      simp only[List.length_nil]at hlen
      rw[Dw]
      exact(QEz (by omega)).symm
     |cons c hw=>
      simp only[List.length_nil,QBq]at hlen
      rw[Dz]
      exact(QFq (by omega)).symm
    |cons a hv=>
     cases hwi with
     |nil=>
      simp only[List.length_nil,QBq]at hlen
      rw[DG]
      exact(QEz (by omega)).symm
     |cons c hw=>
      rw[List.zip_cons_cons]at hz
      cases hz
   rw[hv]at hR
   wp_walk
   exact⟨_,rfl,by simpa[Builtin.Tuple.tupleCompareSizes]using hR⟩
  case h=>
   exact⟨rfl,rfl,items.toList,items2.toList,ns,ms,rfl,hi,hj,by omega,h⟩
end
theorem gm{K:QQq}{H:Hp}:∀{ds:List D}{vs:List V}{us:List Value}{bs:List Bool},bools ds=some bs->au K H ds vs->Vals vs us->BoolsAre us bs
 |[],vs,us,bs,e,l,r=>by
  cases e
  rw[au.bH.mp l]at r
  cases r
  exact .nil
 |d::ds,vs,us,bs,e,l,r=>by
  obtain⟨v,w,rfl,h1,h2⟩:=au.aL.mp l
  cases d with
  |bl b=>
   simp only[bools,QJz]at e
   obtain⟨bs',e1,rfl⟩:=e
   cases h1
   cases r with
   |cons r1 r2=>cases r1;exact .cons b (gm e1 h2 r2)
  |_=>cases e
variable{env':Ev}{o o₁ o₂:Cm}
section
variable{X:Cx}{W:Wi}{c:Cf}{m m1 m2 m3:E}{e a b:Expr}{es:List Expr}{pos:Pos}
def afk(K:QQq):R2:=fun x y H Q=>∃xs ys bs cs,bG K H (.tup xs) x/\bG K H (.tup ys) y/\bools xs=some bs/\bools ys=some cs/\Q (.bl (jw bs cs)) H
def Wm(hu:X.A.units<cLine):fY X (compareOp .Lt) (afk X.K):=by
 intro Q0q s σ H x y v u Q I rx ry h
 obtain⟨xs,ys,bs,cs,Dx,Dy,e1,e2,q⟩:=h
 obtain⟨a,vs,rfl,ha,la⟩:=cJ Dx
 obtain⟨b,ws,rfl,hb,lb⟩:=cJ Dy
 cases rx
 cases ry
 obtain⟨its,r1,p1,_⟩:=I.tuple ha
 obtain⟨its2,r2,p2,_⟩:=I.tuple hb
 obtain⟨⟨cls,dd,data,sl⟩,ho,hc,n,hd⟩:=id p1
 obtain⟨⟨cls2,dd2,data2,sl2⟩,ho2,hc2,n2,hd2⟩:=id p2
 simp only at hc hd hc2 hd2
 subst hc hd hc2 hd2
 exact richCompare_meets_room (op:=.Lt) ⟨_,ho,rfl⟩ ⟨_,ho2,rfl⟩ PySem.F.slot_tuple_lt PySem.F.entry_tuple_lt (PySem.F.args_tuple_lt_2 _ _)
  (qG a b its.toArray its2.toArray n n2 dd dd2 sl sl2 bs cs (by simpa using gm e1 la r1) (by simpa using gm e2 lb r2))
  ⟨ho,ho2,show Value.bool (jw bs cs)≠Value.notImplemented/\EP X Q0q σ Q (.bool (jw bs cs)) s from⟨(fun x=>nomatch x),⟨.bl _,H,I,rfl,q⟩⟩⟩ hu
theorem cT.tup{K:QQq}{H:Hp}{xs:List D}{v:V}(h:cT K H (.tup xs) v):bG K H (.tup xs) v:=by
 rcases h with h|⟨o,a,q,_⟩
 ·exact h
 ·cases o<;>cases q
def aaS(hu:X.A.units+60<cLine):iw X .Lt (aK .lt):=
 ⟨_,abi.or ((Wm (by omega)).or GP),fun H x y k v u Q Dx Dy e q=>by
  cases x with
  |int i=>
   cases y with
   |int j=>cases e;exact .inl ⟨i,j,Dx,Dy.int,q⟩
   |_=>cases e
  |tup xs=>
   cases y with
   |tup ys=>
    unfold aK at e;dsimp only[ltD]at e
    cases e1:bools xs with
    |none=>rw[e1]at e;cases e
    |some bs=>
     cases e2:bools ys with
     |none=>rw[e1,e2]at e;cases e
     |some cs=>
      rw[e1,e2]at e
      cases e
      exact .inr (.inl ⟨xs,ys,bs,cs,Dx,Dy.tup,e1,e2,q⟩)
   |_=>cases e
  |str i=>
   cases y with
   |str j=>
    cases e
    cases Dx
    refine .inr (.inr ⟨i,j,rfl,?_,q⟩)
    rcases Dy with h|⟨o,a,z,_⟩
    ·exact h
    ·cases o<;>cases z
   |_=>cases e
  |_=>cases y<;>cases e⟩
def aaV:iw X .Gt (aK .gt):=z6 abk fun x y k e=>by
 cases x<;>cases y<;>(unfold aK at e;simp at e)
 exact⟨_,_,rfl,rfl,e.symm⟩
def Eu{d:D}(h:bG K H d v):decide (v=.non)=bD d:=by
 cases d<;>unfold bG at h<;>first
  |(obtain⟨a,_,rfl,_⟩:=h;rfl)
  |(obtain⟨a,_,_,rfl,_⟩:=h;rfl)
  |(subst h;rfl)
def VG:iw X .Is (aK .fQ):=⟨_,Wn,fun H x y k v u Q Dx Dy e q=>by
 cases y<;>(unfold aK at e;dsimp only at e;cases e)
 rcases Dy with h|⟨o,a,z,_⟩
 ·exact⟨h,by rw[Eu Dx];exact q⟩
 ·cases o<;>cases z⟩
def PL:iw X .IsNot (aK .notN):=⟨_,Qu,fun H x y k v u Q Dx Dy e q=>by
 cases y<;>(unfold aK at e;dsimp only at e;cases e)
 rcases Dy with h|⟨o,a,z,_⟩
 ·exact⟨h,by rw[Eu Dx];exact q⟩
 ·cases o<;>cases z⟩
def n8(hu:X.A.units+60<cLine)(o:Cm):iw X (eQ o) (aK o):=by
 cases o with
 |eq=>exact aaX hu
 |ne=>exact aaR hu
 |lt=>exact aaS hu
 |le=>exact aaT
 |gt=>exact aaV
 |ge=>exact aaW
 |isin=>exact aaU hu
 |notin=>exact Jx hu
 |fQ=>exact VG
 |notN=>exact PL
def eF{k:Nat}{d:D}(S:Sat K env σ H)(h:aX k env=some d):∃v,σ[k]? =some (some v)/\cT K H d v:=by
 unfold aX at h
 cases e:env[k]? with
 |none=>rw[e]at h;cases h
 |some s=>
  rw[e]at h
  have q:=S.sl k s e
  cases s with
  |un=>cases h
  |val d'=>cases h;obtain⟨v,e1,e2⟩:=q;exact⟨v,bY e1,.inl e2⟩
  |own xs=>cases h;obtain⟨a,e1,e2⟩:=q;exact⟨.ref a,bY e1,.inr ⟨xs,a,rfl,rfl,e2⟩⟩
  |bor xs=>cases h;obtain⟨a,e1,e2⟩:=q;exact⟨.ref a,bY e1,.inr ⟨xs,a,rfl,rfl,e2⟩⟩
structure jn(X:Cx)(i:Nat)(x:Str):Prop where
 at_:X.N[i]? =some x
 vis:Z0 X.env.scope x
 nd:(x==("__debug__":Str))=false
 nc:(x==("__classdict__":Str))=false
def jn.pe(h:jn X i x):PE X (.Name x pos) (Ja i):=JW h.at_ h.vis h.nd h.nc
def jn.ge(h:jn X i x):GE X W c (.var i) (.Name x pos):=Xw h.at_ h.vis h.nd h.nc
theorem Fd(R:iw X (eQ o) (aK o))(hb:GE X W c m2 b)(hv:∀k,m2.aB=some k->∃x p,b=.Name x p/\jn X k x):
  ∃r tb,fY X (compareOp (eQ o)) r/\PE X b tb/\∀env σ H Q,tM X.K W env (ev c (.cmp o m1 m2) env) σ H Q->YX r (aD X W c m1) tb σ H Q:=by
 obtain⟨r,ho,rule⟩:=R
 cases q:m2.aB with
 |some k=>
  obtain⟨x,p,rfl,nm⟩:=hv k q
  refine⟨r,Ja k,ho,nm.pe,fun env σ H Q h=>?_⟩
  simp only[YM,q]at h
  refine⟨env,aU h fun d env1 v H1 N1 D1 h1=>?_⟩
  obtain⟨z,ez,S,q3⟩:=cI h1
  cases e1:aX k env1 with
  |none=>rw[e1]at ez;cases ez
  |some d2=>
   rw[e1]at ez
   simp only[Option.bind]at ez
   obtain⟨u,eu,D2⟩:=eF S e1
   cases e2:aK o d d2 with
   |none=>rw[e2]at ez;cases ez
   |some k2=>
    rw[e2]at ez
    cases ez
    exact⟨u,eu,rule H1 d d2 k2 v u Q D1 D2 e2 (q3 _ H1 (Nx.refl S) rfl)⟩
 |none=>
  refine⟨r,aD X W c m2,ho,hb.d,fun env σ H Q h=>?_⟩
  simp only[YM,q]at h
  refine⟨env,aU h fun d env1 v H1 N1 D1 h1=>⟨env1,aU h1 fun d2 env2 u H2 N2 D2 h2=>?_⟩⟩
  obtain⟨z,ez,S,q3⟩:=cI h2
  cases e2:aK o d d2 with
  |none=>rw[e2]at ez;cases ez
  |some k2=>
   rw[e2]at ez
   cases ez
   exact rule H2 d d2 k2 v u Q (D1.mono N2.pers) (.inl D2) e2 (q3 _ H2 (Nx.refl S) rfl)
def XX(R:iw X (eQ o) (aK o))(ha:GE X W c m1 a)(hb:GE X W c m2 b)(hv:∀k,m2.aB=some k->∃x p,b=.Name x p/\jn X k x)
  (hm:behindInMarks (eQ o) b=false):GE X W c (.cmp o m1 m2) (.Compare a [eQ o] [b] pos):=by
 intro env
 obtain⟨r,tb,ho,pb,imp⟩:=Fd (m1:=m1) R hb hv
 exact PE.imp (Qo ho ha.d pb hm) fun σ H Q h=>imp env σ H Q h
theorem xG{Q:Bool->Hp->Prop}(h:tT K W env r σ H Q)(hb:∀x env',r=.ok x env'->∃b,x=.val (.bl b)):
  tM K W env r σ H (fun v H'=>∃k,v=.bl k/\Q k H'):=by
 obtain⟨S,h⟩:=h
 refine⟨S,?_⟩
 cases r with
 |bad=>exact h
 |exc c env1=>exact h
 |ok x env1=>
  obtain⟨b,rfl⟩:=hb x env1 rfl
  obtain⟨d,k,e1,e2,q⟩:=h
  cases e1
  cases e2
  exact fun v H' N z=>⟨b,z,q H' N⟩
def kO{o:Option Bool}{x:Rv}(h:lift env (o.map fun q=>Rv.val (.bl q))=.ok x env'):∃b,x=.val (.bl b):=by
 cases o with
 |none=>cases h
 |some b=>cases h;exact⟨b,rfl⟩
def za{x:Rv}(h:ev c (.cmp o m1 m2) env=.ok x env'):∃b,x=.val (.bl b):=by
 simp only[YM]at h
 cases r:ev c m1 env with
 |bad=>rw[r]at h;cases h
 |exc k env1=>rw[r]at h;cases h
 |ok x1 env1=>
  rw[r]at h
  have go:∀d,(match m2.aB with
    |some k=>lift env1 ((aX k env1).bind fun d'=>(aK o d d').map fun q=>Rv.val (.bl q))
    |none=>(ev c m2 env1).aq fun y σ=>lift σ ((aK o d y).map fun q=>Rv.val (.bl q)))=.ok x env'->∃b,x=.val (.bl b):=fun d h=>by
   cases q:m2.aB with
   |some k=>
    simp only[q]at h
    cases e:aX k env1 with
    |none=>simp only[e,Option.bind]at h;cases h
    |some d'=>simp only[e,Option.bind]at h;exact kO h
   |none=>
    simp only[q]at h
    cases r2:ev c m2 env1 with
    |bad=>rw[r2]at h;cases h
    |exc k env2=>rw[r2]at h;cases h
    |ok x2 env2=>
     rw[r2]at h
     cases x2 with
     |val d2=>exact kO h
     |new xs=>exact kO h
     |ref i=>cases h
     |tmp xs=>cases h
  cases x1 with
  |val d=>exact go d h
  |new xs=>exact go xs.d h
  |ref i=>cases h
  |tmp xs=>cases h
def Xm(R:iw X (eQ o) (aK o))(ha:GE X W c m1 a)(hb:GE X W c m2 b)(hv:∀k,m2.aB=some k->∃x p,b=.Name x p/\jn X k x)
  (hm:behindInMarks (eQ o) b=false):GT X W c (.cmp o m1 m2) (.Compare a [eQ o] [b] pos):=by
 obtain⟨r,tb,ho,pb,imp⟩:=Fd (m1:=m1) R hb hv
 exact PT.imp (Qd ho ha.d pb hm) fun σ H Q⟨env,h⟩=>imp env σ H _ (xG h fun x env' e=>za e)
theorem vA(R1:iw X (eQ o₁) (aK o₁))(R2:iw X (eQ o₂) (aK o₂)):
  ∃r r',fY X (compareOp (eQ o₁)) r/\fY X (compareOp (eQ o₂)) r'/\∀env σ H Q,tM X.K W env (ev c (.chain o₁ o₂ m1 m2 m3) env) σ H Q->zP r r' (aD X W c m1) (aD X W c m2) (aD X W c m3) σ H Q:=by
 obtain⟨r,ho,rule⟩:=R1
 obtain⟨r',ho',rule'⟩:=R2
 refine⟨r,r',ho,ho',fun env σ H Q h=>?_⟩
 simp only[Z7]at h
 refine⟨env,aU h fun d env1 v H1 N1 D1 h1=>⟨env1,aU h1 fun d2 env2 u H2 N2 D2 h2=>?_⟩⟩
 cases e2:aK o₁ d d2 with
 |none=>rw[e2]at h2;exact h2.2.elim
 |some k=>
  rw[e2]at h2
  simp only[lift,Out.bind]at h2
  refine rule H2 d d2 k v u _ (D1.mono N2.pers) (.inl D2) e2 ⟨k,rfl,?_⟩
  cases k with
  |false=>
   rw[if_neg Qjz]at h2⊢
   exact dY h2 rfl
  |true=>
   rw[if_pos rfl]at h2⊢
   refine⟨env2,aU h2 fun d3 env3 w H3 N3 D3 h3=>?_⟩
   obtain⟨z,ez,S,q3⟩:=cI h3
   cases e3:aK o₂ d2 d3 with
   |none=>rw[e3]at ez;cases ez
   |some k2=>
    rw[e3]at ez
    cases ez
    exact rule' H3 d2 d3 k2 u w Q (D2.mono N3.pers) (.inl D3) e3 (q3 _ H3 (Nx.refl S) rfl)
def uo{x:Rv}(h:ev c (.chain o₁ o₂ m1 m2 m3) env=.ok x env'):∃b,x=.val (.bl b):=by
 have val:∀{r:Out Rv}{f:D->Ev->Out Rv},r.aq f=.ok x env'->∃d σ,f d σ=.ok x env':=fun{r f}q=>by
  cases r with
  |bad=>cases q
  |exc k e1=>cases q
  |ok y e1=>
   cases y with
   |val d=>exact⟨d,e1,q⟩
   |new xs=>exact⟨_,e1,q⟩
   |ref i=>cases q
   |tmp xs=>cases q
 simp only[Z7]at h
 obtain⟨d1,σ1,h⟩:=val h
 obtain⟨d2,σ2,h⟩:=val h
 cases e:aK o₁ d1 d2 with
 |none=>rw[e]at h;cases h
 |some k=>
  rw[e]at h
  simp only[lift,Out.bind]at h
  cases k with
  |false=>cases h;exact⟨false,rfl⟩
  |true=>
   rw[if_pos rfl]at h
   obtain⟨d3,σ3,h⟩:=val h
   exact kO h
def Ly{d:Expr}(R1:iw X (eQ o₁) (aK o₁))(R2:iw X (eQ o₂) (aK o₂))(ha:GE X W c m1 a)(hb:GE X W c m2 b)(hd:GE X W c m3 d)(hm:lastMarks [eQ o₁,eQ o₂] [b,d]=false):
  GE X W c (.chain o₁ o₂ m1 m2 m3) (.Compare a [eQ o₁,eQ o₂] [b,d] pos):=by
 obtain⟨r,r',ho,ho',imp⟩:=vA (W:=W) (c:=c) (m1:=m1) (m2:=m2) (m3:=m3) R1 R2
 exact fun env=>PE.imp (J3 ho ho' ha.d hb.d hd.d hm) fun σ H Q h=>imp env σ H Q h
def Lj{d:Expr}(R1:iw X (eQ o₁) (aK o₁))(R2:iw X (eQ o₂) (aK o₂))(ha:GE X W c m1 a)(hb:GE X W c m2 b)(hd:GE X W c m3 d)(hm:lastMarks [eQ o₁,eQ o₂] [b,d]=false):
  GT X W c (.chain o₁ o₂ m1 m2 m3) (.Compare a [eQ o₁,eQ o₂] [b,d] pos):=by
 obtain⟨r,r',ho,ho',imp⟩:=vA (W:=W) (c:=c) (m1:=m1) (m2:=m2) (m3:=m3) R1 R2
 exact PT.imp (JN ho ho' ha.d hb.d hd.d hm) fun σ H Q⟨env,h⟩=>imp env σ H _ (xG h fun x env' e=>uo e)
def aao(K:QQq)(ta:TE):TE:=fun σ H Q=>ta σ H fun x H1=>∃k,Nm K x H1 k/\Q (.bl (!k)) H1
def Ql{ta:TE}(ha:PE X a ta):PE X (.UnaryOp .Not a pos) (aao X.K ta):=by
 intro Q0q s σ H Q I h
 refine PyProof.Rows.UnaryOp_ (cA (ha Q0q s σ H _ I h) fun v s1⟨x,H1,I1,r1,k,t,q1⟩=>?_)
 exact PyProof.Rows.not_of (cA (Iz Q0q s1 σ H1 x v (fun b H'=>Q (.bl (!b)) H') I1 r1 ⟨k,t,q1⟩) fun b s2⟨H2,I2,q2⟩=>⟨.bl (!b),H2,I2,rfl,q2⟩)
def XF(ha:GE X W c m1 a):GE X W c (.not m1) (.UnaryOp .Not a pos):=fun env=>
 PE.imp (Ql ha.d) fun σ H Q q=>⟨env,xO (xM (f:=fun b σ=>.ok (.val (.bl (!b))) σ) (R:=fun k H1=>Q (.bl (!k)) H1) (by simpa only[Ip]using q) fun k env1 H1 N q1=>dY (d:=.bl (!k)) q1 rfl)⟩
def Xk(ha:GT X W c m1 a):GT X W c (.not m1) (.UnaryOp .Not a pos):=by
 refine PT.imp (V2 ha) fun σ H Q⟨env,q⟩=>⟨env,q.1,?_⟩
 have q2:=q.2
 simp only[Ip]at q2
 cases r:ev c m1 env with
 |bad=>rw[r]at q2;exact q2
 |exc k env1=>rw[r]at q2;exact q2
 |ok x env1=>
  rw[r]at q2
  have go:∀d,x.jy=some d->(match (match iB d with|some b=>Out.ok (Rv.val (.bl (!b))) env1|none=>.bad)with
    |.ok x env'=>∃d b,x.jy=some d/\iB d=some b/\∀H',Nx X.K env σ H env' H'->Q b H'
    |.exc c env'=>∀H',Nx X.K env σ H env' H'->W c env' σ H'
    |.bad=>False)->∃d b,x.jy=some d/\iB d=some b/\∀H',Nx X.K env σ H env1 H'->Q (!b) H':=fun d ed z=>by
   cases t:iB d with
   |none=>rw[t]at z;exact z.elim
   |some b=>
    rw[t]at z
    obtain⟨d',b',e1,e2,z⟩:=z
    cases e1
    cases e2
    exact⟨d,b,ed,t,z⟩
  cases x with
  |val d=>exact go d rfl q2
  |new o=>exact go o.d rfl q2
  |ref i=>exact q2.elim
  |tmp xs=>exact q2.elim
def Rb(ha:GE X W c m1 a):GE X W c (.and (.cons m1 .nil)) (.BoolOp .And [a] pos):=fun env=>by
 have:=J0 (X:=X) (op:=.And) (pos:=pos) (ha env)
 simpa only[Ol,fJ]using this
def XD(ha:GE X W c m1 a):GE X W c (.or (.cons m1 .nil)) (.BoolOp .Or [a] pos):=fun env=>by
 have:=J0 (X:=X) (op:=.Or) (pos:=pos) (ha env)
 simpa only[vN,jR]using this
end
def aM(X:Cx)(W:Wi)(c:Cf)(m:E):TE:=fun σ H Q=>∃env,tM X.K W env (ev c m env) σ H Q
def Sv{W:Wi}{Q:Bool->Hp->Prop}(h:tT K W env r σ H Q)(N:Nx K env σ H env1 H1):tT K W env1 r σ H1 Q:=by
 obtain⟨_,h⟩:=h
 refine⟨N.fH,?_⟩
 cases r with
 |bad=>exact h
 |exc c env2=>exact fun H' N'=>h H' (N.trans N')
 |ok x env2=>
  obtain⟨d,b,e1,e2,q⟩:=h
  exact⟨d,b,e1,e2,fun H' N'=>q H' (N.trans N')⟩
section
variable{X:Cx}{W:Wi}{c:Cf}{m m1 m2 m3:E}{e a b:Expr}{es rest:List Expr}{pos:Pos}
def GE.am(h:GE X W c m e):PE X e (aM X W c m):=fun Q0q s σ H Q I⟨env,q⟩=>h env Q0q s σ H Q I q
def X3(ha:GE X W c m1 a)(hb:GE X W c (.and (.cons m2 m3)) (.BoolOp .And (b::rest) pos)):GE X W c (.and (.cons m1 (.cons m2 m3))) (.BoolOp .And (a::b::rest) pos):=by
 intro env
 refine PE.imp (Wd ha.d hb.am) fun σ H Q q=>?_
 simp only[Ol,fJ]at q
 refine⟨env,aU q fun d env1 v H1 N1 D1 q1=>?_⟩
 cases d with
 |bl k=>
  refine⟨k,D1,?_⟩
  cases k with
  |true=>rw[if_pos rfl];exact⟨env1,by simpa only[Ol,fJ]using q1⟩
  |false=>rw[if_neg Qjz];exact dY q1 rfl
 |_=>exact q1.2.elim
def ab8(ha:GE X W c m1 a)(hb:GE X W c (.or (.cons m2 m3)) (.BoolOp .Or (b::rest) pos)):GE X W c (.or (.cons m1 (.cons m2 m3))) (.BoolOp .Or (a::b::rest) pos):=by
 intro env
 refine PE.imp (abd ha.d hb.am) fun σ H Q q=>?_
 simp only[vN,jR]at q
 refine⟨env,aU q fun d env1 v H1 N1 D1 q1=>?_⟩
 cases d with
 |bl k=>
  refine⟨k,D1,?_⟩
  cases k with
  |true=>rw[if_pos rfl];exact dY q1 rfl
  |false=>rw[if_neg Qjz];exact⟨env1,by simpa only[vN,jR]using q1⟩
 |_=>exact q1.2.elim
def GW(X:Cx)(W:Wi)(c:Cf)(m:E)(e:Expr):Prop:=PW X e (aT X W c m)
def PW.imp{t t':TT}(h:PW X e t)(i:∀σ H Q,t' σ H Q->t σ H Q):PW X e t':=fun wh Q0q s σ H Q I q=>h wh Q0q s σ H Q I (i σ H Q q)
def GW.t(h:GW X W c m e):GT X W c m e:=PW.pt h
theorem xH{Q R:Bool->Hp->Prop}{f:D->Ev->Out Rv}(h:tT K W env (r.aq f) σ H Q)
  (hf:∀d env1,(∀k,d≠ .bl k)->f d env1=.bad)
  (k:∀b env1 H1,Nx K env σ H env1 H1->tT K W env1 (f (.bl b) env1) σ H1 Q->R b H1):tT K W env r σ H R:=by
 have step:∀d env1 x,x.jy=some d->r=.ok x env1->∃b,iB d=some b/\∀H1,Nx K env σ H env1 H1->R b H1:=fun d env1 x ex er=>by
  subst er
  have h':tT K W env (f d env1) σ H Q:=by
   cases x with
   |val d'=>cases ex;exact h
   |new xs=>cases ex;exact h
   |ref i=>cases ex
   |tmp xs=>cases ex
  by_cases hb:∃b,d=.bl b
  ·obtain⟨b,rfl⟩:=hb
   exact⟨b,rfl,fun H1 N=>k b env1 H1 N (Sv h' N)⟩
  ·rw[hf d env1 fun b e=>hb ⟨b,e⟩]at h'
   exact h'.2.elim
 refine⟨h.1,?_⟩
 cases r with
 |bad=>exact h.2
 |exc c env1=>exact h.2
 |ok x env1=>
  cases x with
  |val d=>obtain⟨b,e,q⟩:=step d env1 _ rfl rfl;exact⟨d,b,rfl,e,q⟩
  |new xs=>obtain⟨b,e,q⟩:=step (xs.d) env1 _ rfl rfl;exact⟨xs.d,b,rfl,e,q⟩
  |ref i=>exact h.2.elim
  |tmp xs=>exact h.2.elim
def QZ(ha:GT X W c m1 a):GW X W c (.and (.cons m1 .nil)) (.BoolOp .And [a] pos):=PW.imp (Qa ha) fun σ H Q⟨env,q⟩=>⟨env,by simpa only[Ol,fJ]using q⟩
def Xj(ha:GT X W c m1 a):GW X W c (.or (.cons m1 .nil)) (.BoolOp .Or [a] pos):=PW.imp (VR ha) fun σ H Q⟨env,q⟩=>⟨env,by simpa only[vN,jR]using q⟩
def Xn(ha:GT X W c m1 a)(hb:GW X W c (.and (.cons m2 m3)) (.BoolOp .And (b::rest) pos)):GW X W c (.and (.cons m1 (.cons m2 m3))) (.BoolOp .And (a::b::rest) pos):=by
 refine PW.imp (V0 ha hb) fun σ H Q⟨env,q⟩=>⟨env,?_⟩
 simp only[Ol,fJ]at q
 refine xH q (fun d env1 hd=>?_) fun k env1 H1 N q1=>?_
 ·cases d with
  |bl k=>exact absurd rfl (hd k)
  |_=>rfl
 ·cases k with
  |true=>rw[if_pos rfl];exact⟨env1,by simpa only[Ol,fJ]using q1⟩
  |false=>
   rw[if_neg Qjz]
   obtain⟨d,k',e1,e2,q3⟩:=q1.2
   cases e1
   cases e2
   exact q3 H1 (Nx.refl q1.1)
def ab2(ha:GT X W c m1 a)(hb:GW X W c (.or (.cons m2 m3)) (.BoolOp .Or (b::rest) pos)):GW X W c (.or (.cons m1 (.cons m2 m3))) (.BoolOp .Or (a::b::rest) pos):=by
 refine PW.imp (aa8 ha hb) fun σ H Q⟨env,q⟩=>⟨env,?_⟩
 simp only[vN,jR]at q
 refine xH q (fun d env1 hd=>?_) fun k env1 H1 N q1=>?_
 ·cases d with
  |bl k=>exact absurd rfl (hd k)
  |_=>rfl
 ·cases k with
  |false=>rw[if_neg Qjz];exact⟨env1,by simpa only[vN,jR]using q1⟩
  |true=>
   rw[if_pos rfl]
   obtain⟨d,k',e1,e2,q3⟩:=q1.2
   cases e1
   cases e2
   exact q3 H1 (Nx.refl q1.1)
def XM{t:Expr}(ht:GT X W c m1 t)(ha:GE X W c m2 a)(hb:GE X W c m3 b):GE X W c (.ite m1 m2 m3) (.IfExp t a b pos):=by
 intro env
 refine PE.imp (J1 ht ha.am hb.am) fun σ H Q q=>?_
 simp only[Io]at q
 refine⟨env,xM q fun k env1 H1 N q1=>?_⟩
 cases k with
 |true=>rw[if_pos rfl]at q1⊢;exact⟨env1,q1⟩
 |false=>rw[if_neg Qjz]at q1⊢;exact⟨env1,q1⟩
def BV{i:Int}{d:D}(h:at? xs i=some d)(l:au K H xs vs):∃v,Yp vs i=some v/\bG K H d v:=by
 unfold at? at h
 cases e:ix? xs.length i with
 |none=>rw[e]at h;cases h
 |some j=>
  rw[e]at h
  obtain⟨v,q1,q2⟩:=l.get (show xs[j]? =some d from h)
  refine⟨v,?_,q2⟩
  have hl:=l.length
  unfold Yp
  have:QV vs.length i=some j:=by
   unfold ix? at e
   unfold QV
   rw[<-hl]
   by_cases h0:i<0
   ·simp only[h0,if_true]at e
    split at e
    ·rename_i hc
     cases e
     rw[if_neg (by omega),if_pos (by omega)]
    ·cases e
   ·simp only[h0,if_false]at e
    split at e
    ·rename_i hc
     cases e
     rw[if_pos (by omega),if_pos (by omega)]
    ·cases e
  rw[this]
  exact q1
theorem oK{K:QQq}{H:Hp}(k:Key):∀{kvs:List (Key×V)}{ds:List D}{d:D},cN (cQ k) (kvs.map fun p=>cQ p.1) ds=some d->au K H ds (kvs.map (·.2))->∃v,iz kvs k=some v/\bG K H d v
 |[],ds,d,h,_=>by cases h
 |(k',v)::r,ds,d,h,l=>by
  rw[Qyz]at h l
  cases ds with
  |nil=>obtain⟨⟩:=au.bH.mp l
  |cons d' ds=>
   obtain⟨w,ws,e,h1,h2⟩:=au.aL.mp l
   cases e
   have e:cL (cQ k') (cQ k)=decide (k'=k):=by
    cases k'<;>cases k<;>simp[cQ,cL,Bool.beq_eq_decide_eq]
   simp only[cN,e]at h
   by_cases q:k'=k
   ·simp only[q,decide_true,if_true]at h
    cases h
    exact⟨v,jB q,h1⟩
   ·simp only[q,decide_false,Qxq,if_false]at h
    obtain⟨u,q1,q2⟩:=oK k h h2
    exact⟨u,by rw[jC q];exact q1,q2⟩
def aa3:R2:=fun x y H Q=>∃a k kvs v,x=.ref a/\y=kV k/\Rd H a (.dK kvs)/\iz kvs k=some v/\Q v H
def Xb(hu:X.A.units+1<cLine):HY X aa3:=by
 intro value slice Q0q s σ H x y v u Q I rx ry h hs
 obtain⟨a,k,kvs,w,rfl,rfl,hd,hv,q⟩:=h
 cases rx
 have g:qd H a (kV k) (some w):=.inl ⟨kvs,k,hd,rfl,hv.symm⟩
 exact PyProof.Rows.tail_any (zc I g) PySem.F.slot_dict_getitem.lookup (Hw hu I g ry fun w' s3 I3 rw'=>⟨w,H,I3,rw',q⟩) hs
def JF(K:QQq):R2:=fun x y H Q=>∃d a k xs v,x=.ref d/\y=.ref a/\Rd H d (.dS xs)/\(∀x∈xs,cF K H x.1 x.2.1)/\cF K H k a/\yF k xs=some v/\Q v H
def abZ(hu:X.A.units+2<cLine):HY X (JF X.K):=by
 intro value slice Q0q s σ H x y v u Q I rx ry h hs
 obtain⟨d,a,k,xs,w,rfl,rfl,hd,hk,ka,hv,q⟩:=h
 cases rx
 cases ry
 obtain⟨ys,_,dd,_⟩:=nA I hd hk
 exact PyProof.Rows.tail_any dd.typeIs PySem.F.slot_dict_getitem.lookup (Gj hu I hd hk ka hv fun u s3 I3 ru=>⟨w,H,I3,ru,q⟩) hs
def aa4(K:QQq):R2:=fun x y H Q=>VN K x y H Q\/VM K x y H Q\/aa3 x y H Q\/JF K x y H Q
def K4(hu:X.A.units+2<cLine):HY X (aa4 X.K):=DY.or (K1.or ((Xb (by omega)).or (abZ hu)))
def vp{d y z:D}{u:V}(D1:cT K H d v)(D2:bG K H y u)(e:getD d y=some z)(q:∀w,bG K H z w->Q w H):aa4 K v u H Q:=by
 cases d with
 |tup xs=>
  cases y with
  |int i=>
   obtain⟨a,vs,rfl,hq,l⟩:=cJ D1.tup
   obtain⟨w,e1,e2⟩:=BV e l
   exact .inr (.inl ⟨a,vs,i,w,rfl,D2,hq,e1,q w e2⟩)
  |_=>cases e
 |lst xs=>
  cases y with
  |int i=>
   obtain⟨a,vs,rfl,hq,l⟩:=D1.Jl
   rcases hq with hq|hq
   ·obtain⟨w,e1,e2⟩:=BV e l
    exact .inl ⟨a,vs,i,w,rfl,D2,hq,e1,q w e2⟩
   ·obtain⟨w,e1,e2⟩:=BV e l
    exact .inr (.inl ⟨a,vs,i,w,rfl,D2,hq,e1,q w e2⟩)
  |_=>cases e
 |cH ks ds=>
  have e':(if keyOk y=true then cN y ks ds else none)=some z:=by cases y<;>exact e
  split at e'
  ·rename_i hk
   obtain⟨k,rfl⟩:=gk hk
   obtain⟨a,kvs,rfl,ha,rfl,l⟩:=nC D1
   obtain⟨w,e1,e2⟩:=oK k e' l
   exact .inr (.inr (.inl ⟨a,k,kvs,w,rfl,lq D2,ha,e1,q w e2⟩))
  ·cases e'
 |fZ ks ds=>
  have e':(if m8 y=true then cN y ks ds else none)=some z:=by cases y<;>exact e
  split at e'
  ·rename_i hk
   obtain⟨k,rfl⟩:=jQ hk
   obtain⟨a,rfl,ka⟩:=qL D2
   obtain⟨d,xs,rfl,hd,rfl,hks,l⟩:=wM D1
   obtain⟨w,e1,e2⟩:=Dm k e' l
   exact .inr (.inr (.inr ⟨d,a,k,xs,w,rfl,rfl,hd,hks,ka,e1,q w e2⟩))
  ·cases e'
 |_=>cases y<;>cases e
def XQ(hu:X.A.units+2<cLine)(ha:GE X W c m1 a)(hb:GE X W c m2 b)(hv:∀k,m1.aB=some k->∃x p,a=.Name x p/\jn X k x)(hs:w5 b):GE X W c (.idx m1 m2) (.Subscript a b pos):=by
 intro env
 cases q:m1.aB with
 |some k=>
  obtain⟨x,p,rfl,nm⟩:=hv k q
  refine PE.imp (Tp (K4 hu) nm.pe hb.d hs) fun σ H Q h=>?_
  simp only[Fz,q]at h
  cases e0:aX k env with
  |none=>rw[e0]at h;exact h.2.elim
  |some d0=>
   rw[e0]at h
   simp only[Option.isNone_some,Qxq,if_false]at h
   obtain⟨u,eu,_⟩:=eF h.1 e0
   refine⟨u,eu,env,aU h fun d env1 v H1 N1 D1 h1=>?_⟩
   obtain⟨z,ez,S,q3⟩:=cI h1
   cases e1:aX k env1 with
   |none=>rw[e1]at ez;cases ez
   |some d2=>
    rw[e1]at ez
    simp only[Option.bind]at ez
    obtain⟨u',eu',D2⟩:=eF S e1
    rw[eu]at eu'
    cases eu'
    cases e2:getD d2 d with
    |none=>rw[e2]at ez;cases ez
    |some w=>
     rw[e2]at ez
     cases ez
     exact vp D2 D1 e2 fun w' hw=>q3 w' H1 (Nx.refl S) hw
 |none=>
  refine PE.imp (Tp (K4 hu) ha.d hb.d hs) fun σ H Q h=>?_
  simp only[Fz,q]at h
  refine⟨env,aU h fun d env1 v H1 N1 D1 h1=>⟨env1,aU h1 fun d2 env2 u H2 N2 D2 h2=>?_⟩⟩
  obtain⟨z,ez,S,q3⟩:=cI h2
  cases e2:getD d d2 with
  |none=>rw[e2]at ez;cases ez
  |some w=>
   rw[e2]at ez
   cases ez
   exact vp (.inl (D1.mono N2.pers)) D2 e2 fun w' hw=>q3 w' H2 (Nx.refl S) hw
end
structure Nz(K:QQq)(env:Ev)(σ:St)(H:Hp)(env':Ev)(σ':St)(H':Hp):Prop where
 fH:Sat K env' σ' H'
 sub:∀(i:Nat)a,aN env' σ' i a->aN env σ i a\/H a=none
 pers:bV H H'
 keep:∀b u,H b=some u->(∀i,¬aN env σ i b)->H' b=some u
 dom:∀b,H' b=none->H b=none
 bors:∀(i:Nat)xs,env[i]? =some (.bor xs)->(∃ys,env'[i]? =some (.bor ys))/\σ'[i]? =σ[i]?
section
variable{K:QQq}{env env1 env2:Ev}{σ σ1 σ2:St}{H H1 H2:Hp}
theorem Nx.z(N:Nx K env σ H env1 H1):Nz K env σ H env1 σ H1:=⟨N.fH,fun i a z=>.inl (N.sub i a z),N.pers,N.keep,N.dom,fun i xs e=>⟨N.bors i xs e,rfl⟩⟩
theorem Nz.refl(S:Sat K env σ H):Nz K env σ H env σ H:=(Nx.refl S).z
theorem Nz.trans(a:Nz K env σ H env1 σ1 H1)(b:Nz K env1 σ1 H1 env2 σ2 H2):Nz K env σ H env2 σ2 H2 where
 fH:=b.fH
 sub:=fun i c z=>by
  rcases b.sub i c z with q|q
  ·exact a.sub i c q
  ·exact .inr (a.dom c q)
 pers:=a.pers.trans b.pers
 keep:=fun c vs z n=>b.keep c vs (a.keep c vs z n) fun i w=>by
  rcases a.sub i c w with q|q
  ·exact n i q
  ·rw[q]at z;cases z
 dom:=fun c z=>a.dom c (b.dom c z)
 bors:=fun i xs e=>by
  obtain⟨⟨ys,e1⟩,s1⟩:=a.bors i xs e
  obtain⟨q,s2⟩:=b.bors i ys e1
  exact⟨q,s2.trans s1⟩
def Nr(K:QQq)(env:Ev)(σ:St)(H H':Hp):Rv->V->Prop
 |.val d,v=>bG K H' d v
 |.new q,v=>∃a,v=.ref a/\jA K H' q a/\(H a=none\/∃(i:Nat)(ys:Ob),env[i]? =some (.own ys)/\σ[i]? =some (some (.ref a)))
 |_,_=>False
def Nr.back{r:Rv}(N:Nz K env σ H env1 σ1 H1)(h:Nr K env1 σ1 H1 H2 r v):Nr K env σ H H2 r v:=by
 cases r with
 |val d=>exact h
 |new xs=>
  obtain⟨a,e,p,z⟩:=h
  refine⟨a,e,p,?_⟩
  rcases z with z|⟨i,ys,z1,z2⟩
  ·exact .inl (N.dom a z)
  ·rcases N.sub i a ⟨⟨_,ys,z1,rfl⟩,z2⟩with ⟨⟨s,xs',q1,q2⟩,q3⟩|q
   ·cases s with
    |own w=>exact .inr ⟨i,w,q1,q3⟩
    |bor w=>
     obtain⟨⟨w',q⟩,_⟩:=N.bors i w q1
     rw[z1]at q;cases q
    |un=>cases q2
    |val d=>cases q2
   ·exact .inl q
 |ref i=>exact h.elim
 |tmp xs=>exact h.elim
end
def tS(K:QQq)(W:Wi)(env:Ev)(f:Fl):TS:=fun D σ H=>Sat K env σ H/\match f with
 |.next env'=>∀σ' H',Nz K env σ H env' σ' H'->D.nx σ' H'
 |.ret r env'=>∀v σ' H',Nz K env σ H env' σ' H'->Nr K env σ H H' r v->D.rt v H'
 |.brk env'=>∀σ' H',Nz K env σ H env' σ' H'->D.bk σ' H'
 |.cont env'=>∀σ' H',Nz K env σ H env' σ' H'->D.ct σ' H'
 |.exc c env'=>∀σ' H',Nz K env σ H env' σ' H'->W c env' σ' H'
 |.bad=>False
def GS(X:Cx)(W:Wi)(c:Cf)(m:S)(st:Stmt):Prop:=∀env,PS X st (tS X.K W env (ex c m env))
def N7(X:Cx)(W:Wi)(c:Cf)(m:S)(st:List Stmt):Prop:=∀env,w6 X st (tS X.K W env (ex c m env))
section
variable{X:Cx}{W:Wi}{c:Cf}{m m1 m2:S}{st:Stmt}{sts:List Stmt}{e:Expr}{pos:Pos}
def PS.imp{t t':TS}(h:PS X st t)(i:∀D σ H,t' D σ H->t D σ H):PS X st t':=fun Q0q s σ H D I q=>h Q0q s σ H D I (i D σ H q)
def w6.imp{t t':TS}(h:w6 X sts t)(i:∀D σ H,t' D σ H->t D σ H):w6 X sts t':=fun Q0q s σ H D I q=>h Q0q s σ H D I (i D σ H q)
def qI{σ1:St}{f:Fl}{D:Ends}(h:tS K W env f D σ H)(N:Nz K env σ H env1 σ1 H1):tS K W env1 f D σ1 H1:=by
 obtain⟨_,h⟩:=h
 refine⟨N.fH,?_⟩
 cases f with
 |next env2=>exact fun σ' H' N'=>h σ' H' (N.trans N')
 |ret r env2=>exact fun v σ' H' N' k=>h v σ' H' (N.trans N') (k.back N)
 |brk env2=>exact fun σ' H' N'=>h σ' H' (N.trans N')
 |cont env2=>exact fun σ' H' N'=>h σ' H' (N.trans N')
 |exc k env2=>exact fun σ' H' N'=>h σ' H' (N.trans N')
 |bad=>exact h
def Q0:N7 X W c .nil []:=fun env=>w6.imp Qe fun D σ H q=>by
 simp only[x_0]at q
 exact q.2 σ H (Nz.refl q.1)
def Lk(h:GS X W c m1 st)(t:N7 X W c m2 sts):N7 X W c (.cons m1 m2) (st::sts):=by
 intro env
 have B:w6 X (st::sts) (aak (fun D σ H=>∃env,tS X.K W env (ex c m1 env) D σ H) (fun D σ H=>∃env,tS X.K W env (ex c m2 env) D σ H)):=
  JP (fun Q0q s σ H D I⟨env,q⟩=>h env Q0q s σ H D I q) (fun Q0q s σ H D I⟨env,q⟩=>t env Q0q s σ H D I q)
 refine w6.imp B fun D σ H q=>?_
 simp only[x_1]at q
 refine⟨env,q.1,?_⟩
 cases r:ex c m1 env with
 |next env1=>
  rw[r]at q
  exact fun σ1 H1 N1=>⟨env1,qI q N1⟩
 |_=>rw[r]at q;exact q.2
theorem qJ{D:Ends}{f:Mini.D->Ev->Fl}(h:tS K W env (r.mF f) D σ H)
  (k:∀d env1 v H1,Nx K env σ H env1 H1->bG K H1 d v->tS K W env1 (f d env1) D σ H1->R v H1):tD K W env r σ H R:=by
 have step:∀d env1,r.mF f=f d env1->∀v H1,Nx K env σ H env1 H1->bG K H1 d v->R v H1:=fun d env1 e v H1 N Dv=>by
  rw[e]at h
  exact k d env1 v H1 N Dv (qI h N.z)
 obtain⟨S,h⟩:=h
 refine⟨S,?_⟩
 cases r with
 |bad=>exact h
 |exc c env1=>exact fun H' N=>h σ H' N.z
 |ok x env1=>
  cases x with
  |val d=>exact fun v H1 N Dv=>step d env1 rfl v H1 N Dv
  |new xs=>exact fun v H1 N Dv=>step xs.d env1 rfl v H1 N Dv
  |ref i=>exact h
  |tmp xs=>exact h
theorem Jc{D:Ends}{f:Bool->Ev->Fl}{R:Bool->Hp->Prop}(h:tS K W env (r.Bk f) D σ H)
  (k:∀b env1 H1,Nx K env σ H env1 H1->tS K W env1 (f b env1) D σ H1->R b H1):tT K W env r σ H R:=by
 have step:∀d env1 x,x.jy=some d->r=.ok x env1->∃b,iB d=some b/\∀H1,Nx K env σ H env1 H1->R b H1:=fun d env1 x ex er=>by
  subst er
  cases q:iB d with
  |none=>
   cases x with
   |val d'=>cases ex;simp only[Out.Bk,Out.mF,q]at h;exact h.2.elim
   |new xs=>cases ex;simp only[Out.Bk,Out.mF,q]at h;exact h.2.elim
   |ref i=>cases ex
   |tmp xs=>cases ex
  |some b=>
   refine⟨b,rfl,fun H1 N=>k b env1 H1 N (qI ?_ N.z)⟩
   cases x with
   |val d'=>cases ex;simp only[Out.Bk,Out.mF,q]at h;exact h
   |new xs=>cases ex;simp only[Out.Bk,Out.mF,q]at h;exact h
   |ref i=>cases ex
   |tmp xs=>cases ex
 refine⟨h.1,?_⟩
 cases r with
 |bad=>exact h.2
 |exc c env1=>exact fun H' N=>h.2 σ H' N.z
 |ok x env1=>
  cases x with
  |val d=>obtain⟨b,e,q⟩:=step d env1 _ rfl rfl;exact⟨d,b,rfl,e,q⟩
  |new xs=>obtain⟨b,e,q⟩:=step xs.d env1 _ rfl rfl;exact⟨xs.d,b,rfl,e,q⟩
  |ref i=>exact h.2.elim
  |tmp xs=>exact h.2.elim
def ab3{t:E}{te:Expr}{s1 s2:List Stmt}(ht:GT X W c t te)(h1:N7 X W c m1 s1)(h2:N7 X W c m2 s2):GS X W c (.ite t m1 m2) (.If te s1 s2 pos):=by
 intro env
 refine PS.imp (aba ht (t:=fun D σ H=>∃env,tS X.K W env (ex c m1 env) D σ H) (u:=fun D σ H=>∃env,tS X.K W env (ex c m2 env) D σ H)
  (fun Q0q s σ H D I⟨env,q⟩=>h1 env Q0q s σ H D I q) (fun Q0q s σ H D I⟨env,q⟩=>h2 env Q0q s σ H D I q)) fun D σ H q=>?_
 simp only[aei]at q
 refine⟨env,Jc q fun b env1 H1 N q1=>?_⟩
 cases b with
 |true=>rw[if_pos rfl]at q1⊢;exact⟨env1,q1⟩
 |false=>rw[if_neg Qjz]at q1⊢;exact⟨env1,q1⟩
def Q5{m:E}(h:GE X W c m e)(hs:swapsWith e none pos.line X.env=pure false):GS X W c (.expr m) (.Expr e pos):=by
 intro env
 refine PS.imp (CQ h.d hs) fun D σ H q=>?_
 simp only[x_8]at q
 exact⟨env,qJ q fun d env1 v H1 N Dv q1=>q1.2 σ H1 (Nz.refl q1.1)⟩
def Lr{k:Nat}:GS X W0 c (.raise k) st:=fun env Q0q s σ H D I q=>by
 simp only[aef]at q
 exact(q.2 σ H (Nz.refl q.1)).elim
end
section
variable{K:QQq}{env env1 env2:Ev}{σ σ1 σ2:St}{H H1 H2:Hp}
def km{j:Nat}{s:Sl}(h:aN (env.set i s) (σ.set i (some v)) j a)(hj:i≠j):aN env σ j a:=by
 obtain⟨⟨t,xs,e1,e2⟩,e3⟩:=h
 rw[Qxz hj]at e1 e3
 exact⟨⟨t,xs,e1,e2⟩,e3⟩
def mU{s:Sl}(hi:i<env.length)(hs:i<σ.length)(h:aN (env.set i s) (σ.set i (some v)) i a):isOwn s≠none/\v=.ref a:=by
 obtain⟨⟨t,xs,e1,e2⟩,e3⟩:=h
 rw[Qwq hi]at e1
 rw[Qwq hs]at e3
 cases e1
 cases e3
 exact⟨by rw[e2];simp,rfl⟩
def Sat.v4{q:Ob}(S:Sat K env σ H)(hi:i<env.length)(ha:jA K H q a)(no:∀k,¬aN env σ k a):Sat K (env.set i (.own q)) (σ.set i (some (.ref a))) H:=by
 have hs:i<σ.length:=by rw[<-S.len];exact hi
 refine⟨by simpa using S.len,fun j s e=>?_,fun j k b h1 h2=>?_⟩
 ·by_cases hj:i=j
  ·subst hj
   rw[Qwq hi]at e
   cases e
   exact⟨a,by rw[Qwq hs];rfl,ha⟩
  ·rw[Qxz hj]at e⊢
   exact S.sl j s e
 ·by_cases hj:i=j
  ·subst hj
   by_cases hk:i=k
   ·exact hk
   ·obtain⟨_,z⟩:=mU hi hs h1
    cases z
    exact absurd (km h2 hk) (no k)
  ·by_cases hk:i=k
   ·subst hk
    obtain⟨_,z⟩:=mU hi hs h2
    cases z
    exact absurd (km h1 hj) (no j)
   ·exact S.ne j k b (km h1 hj) (km h2 hk)
theorem Nz.put{i:Nat}{x:Rv}{s:Sl}{v:V}(S:Sat K env σ H)(N:Nx K env σ H env1 H1)(hx:gJ K σ H H1 x v)(hs:x.xT=some s)(h:bN i s env1=some env2):Nz K env σ H env2 (σ.set i (some v)) H1:=by
 obtain⟨rfl,hi,nb⟩:=qR h
 have hsl:i<σ.length:=by rw[<-N.fH.len];exact hi
 have bors:∀(j:Nat)xs,env[j]? =some (.bor xs)->(∃ys,(env1.set i s)[j]? =some (.bor ys))/\(σ.set i (some v))[j]? =σ[j]? :=fun j xs e=>by
  obtain⟨ys,e1⟩:=N.bors j xs e
  have hj:i≠j:=fun z=>by subst z;exact nb ys e1
  exact⟨⟨ys,by rw[Qxz hj];exact e1⟩,by rw[Qxz hj]⟩
 cases x with
 |val d=>
  cases hs
  refine⟨N.fH.put hi hx,fun j a z=>.inl ?_,N.pers,N.keep,N.dom,bors⟩
  by_cases hj:i=j
  ·subst hj
   exact absurd rfl (mU hi hsl z).1
  ·exact N.sub j a (km z hj)
 |new q=>
  cases hs
  obtain⟨a,rfl,oa,h0⟩:=hx
  refine⟨N.fH.v4 hi oa fun k z=>S.lO h0 k (N.sub k a z),fun j b z=>?_,N.pers,N.keep,N.dom,bors⟩
  by_cases hj:i=j
  ·subst hj
   obtain⟨_,z⟩:=mU hi hsl z
   cases z
   exact .inr h0
  ·exact .inl (N.sub j b (km z hj))
 |ref j=>cases hs
 |tmp q=>cases hs
end
section
variable{X:Cx}{W:Wi}{c:Cf}{m:E}{st:Stmt}{e:Expr}{pos pos':Pos}
theorem Sw{D:Ends}{f:Rv->Ev->Fl}(h:tS K W env (r.fl f) D σ H)
  (k:∀x env1 v H1,Nx K env σ H env1 H1->gJ K σ H H1 x v->tS K W env (f x env1) D σ H->R v H1):tM K W env r σ H R:=by
 obtain⟨S,h⟩:=h
 refine⟨S,?_⟩
 cases r with
 |bad=>exact h
 |exc c env1=>exact fun H' N=>h σ H' N.z
 |ok x env1=>exact fun v H1 N z=>k x env1 v H1 N z ⟨S,h⟩
def Cy{D:Ends}(q:tS K W env (ex c (.set i m) env) D σ H):tM K W env (ev c m env) σ H fun v H1=>D.nx (σ.set i (some v)) H1:=by
 simp only[x_5]at q
 refine Sw q fun x env1 v H1 N z q1=>?_
 cases e1:x.xT with
 |none=>rw[e1]at q1;exact q1.2.elim
 |some s=>
  rw[e1]at q1
  simp only[Option.bind]at q1
  cases e2:bN i s env1 with
  |none=>rw[e2]at q1;exact q1.2.elim
  |some env2=>
   rw[e2]at q1
   exact q1.2 _ _ (Nz.put q1.1 N z e1 e2)
def Lq(h:GE X W c m e)(hN:X.N.Nodup)(hi:X.N[i]? =some x)(hx:Loc X.env.scope x)(hf:X.fn x=true\/X.env.scope.names.lookup x=some .local)
  (hs:swapsWith e (some (.Name x pos')) pos.line X.env=pure false):GS X W c (.set i m) (.Assign [.Name x pos'] e pos):=fun env=>
 PS.imp (V3 hN hi hx h.am hs hf) fun D σ H q=>⟨env,Cy q⟩
def Jj{is:List Nat}{D:Ends}(q:tS K W env (ex c (.setT is m) env) D σ H):tD K W env (ev c m env) σ H fun v H1=>tG K (.tup is) v σ H1 D.nx:=by
 simp only[x_6]at q
 refine qJ q fun d env1 v H1 N Dv q1=>?_
 cases e2:bw (.tup is) d env1 with
 |none=>rw[e2]at q1;exact q1.2.elim
 |some env2=>
  rw[e2]at q1
  exact⟨env1,d,env2,q1.1,Dv,e2,fun σ' st=>q1.2 σ' H1 ⟨st.fH,fun i a z=>.inl (st.sub z),bV.refl _,fun _ _ z _=>z,fun _ z=>z,fun i xs e=>⟨⟨xs,(st.same i (st.bors i xs e)).1.trans e⟩,(st.same i (st.bors i xs e)).2⟩⟩⟩
def Q3{is:List Nat}{tg:Expr}(h:GE X W c m e)(hg:GG X (.tup is) tg)(hs:swapsWithSole [tg] e pos.line X.env=pure false)(hw:swappedStores [tg] e X.env=pure none)
  (h1:(assignEach [tg] X.env).map (·.2)=[assign tg X.env]):GS X W c (.setT is m) (.Assign [tg] e pos):=fun env=>
 PS.imp (JR h.d hg hs hw h1) fun D σ H q=>⟨env,Jj q⟩
end
theorem Bu(env:Env):∀(names:List (Str×NameKind))(cs:List (Str×Addr)),(∀x∈names,x.2=.free->∃c,env.cells.lookup x.1=some c)->(∀x c,cs.lookup x=some c->env.cells.lookup x=some c)->
  ∃cl,(do
   let s<-forIn names cs (fun(x:Str×NameKind)cs=>match x with
    |(name,kind)=>if (kind==NameKind.free)=true then do
      let a<-cellOf env name
      pure (ForInStep.yield ((name,a)::cs))
     else pure (ForInStep.yield cs))
   pure s:Sem (List (Str×Addr)))=(pure cl:Sem _)/\
   (∀x c,cl.lookup x=some c->env.cells.lookup x=some c)/\(∀x,(x,NameKind.free)∈names->∃c,cl.lookup x=some c)/\∀x c,cs.lookup x=some c->∃c,cl.lookup x=some c:=by
 intro names
 induction names with
 |nil=>intro cs h1 h2;exact⟨cs,rfl,h2,by simp,fun x c e=>⟨c,e⟩⟩
 |cons p r ih=>
  intro cs h1 h2
  obtain⟨n,k⟩:=p
  by_cases hk:k=.free
  ·subst hk
   obtain⟨c,hc⟩:=h1 (n,.free) QYz rfl
   have q2:∀x d,((n,c)::cs).lookup x=some d->env.cells.lookup x=some d:=fun x d e=>by
    rw[QHz]at e
    cases hx:x==n with
    |true=>rw[hx]at e;cases e;rw[eq_of_beq hx];exact hc
    |false=>rw[hx]at e;exact h2 x d e
   obtain⟨cl,e1,e2,e3,e4⟩:=ih ((n,c)::cs) (fun x hx=>h1 x (QYq _ hx)) q2
   have own:∃d,cl.lookup n=some d:=e4 n c (by simp[QHz])
   refine⟨cl,?_,e2,fun x hx=>?_,fun x d e=>?_⟩
   ·rw[<-e1]
    have:cellOf env n=pure c:=by unfold cellOf;rw[hc]
    simp only[List.forIn_cons]
    rw[if_pos (show(NameKind.free==NameKind.free)=true from rfl),this]
    rfl
   ·rcases QCq.mp hx with z|z
    ·cases z;exact own
    ·exact e3 x z
   ·cases hx:x==n with
    |true=>rw[eq_of_beq hx];exact own
    |false=>exact e4 x d (by rw[QHz,hx];exact e)
  ·obtain⟨cl,e1,e2,e3,e4⟩:=ih cs (fun x hx=>h1 x (QYq _ hx)) h2
   refine⟨cl,?_,e2,fun x hx=>?_,e4⟩
   ·rw[<-e1]
    simp only[List.forIn_cons]
    have hk':¬(k==NameKind.free)=true:=fun z=>hk (eq_of_beq z)
    rw[if_neg hk']
    rfl
   ·rcases QCq.mp hx with z|z
    ·cases z;exact absurd rfl hk
    ·exact e3 x z
def agi{env:Env}(h:∀x∈scope.names,x.2=.free->∃c,env.cells.lookup x.1=some c):∃cl,Ny scope env cl:=by
 obtain⟨cl,e1,e2,e3,_⟩:=Bu env scope.names [] h (by simp)
 refine⟨cl,?_,e2,fun x hx=>e3 x (PySem.mem_of_lookup hx)⟩
 have q:closureFor scope env=(forIn scope.names [] (fun(x:Str×NameKind)cs=>match x with
    |(name,kind)=>if (kind==NameKind.free)=true then do
      let a<-cellOf env name
      pure (ForInStep.yield ((name,a)::cs))
     else pure (ForInStep.yield cs)):Sem (List (Str×Addr)))>>=pure:=rfl
 rw[q,e1]
 rfl
section
variable{X:Cx}{W:Wi}{c:Cf}{scope:Scope}{tgs:List Str}{tg:Tg}{it cond elt:E}{tgE iterE eltE:Expr}{ifs:List Expr}{pos spos py:Pos}
theorem Fb{R:It->Hp->Prop}
  (q:tM K W env (ev c (.comp nl tg it cond elt) env) σ H Q)
  (k:∀J H1 env1 xs ys τ,Nx K env σ H env1 H1->Gives K J xs H1->aR tg (ev c cond) (ev c elt) xs [] (List.replicate nl Sl.un++env1)=.ok ys τ->
   (∀v H2,Nx K env σ H (τ.drop nl) H2->gJ K σ H H2 (.new (.lst ys)) v->Q v H2)->R J H1):tI K W env (ev c it env) σ H R:=by
 simp only[lH]at q
 obtain⟨S,q⟩:=q
 refine⟨S,?_⟩
 cases r:ev c it env with
 |bad=>rw[r]at q;exact q
 |exc k env1=>rw[r]at q;exact q
 |ok x env1=>
  rw[r]at q
  have go:∀d,x.jy=some d->(match (match items d with
    |some xs=>match aR tg (ev c cond) (ev c elt) xs [] (List.replicate nl Sl.un++env1)with
     |.ok ys τ=>Out.ok (Rv.new (.lst ys)) (τ.drop nl)
     |_=>.bad
    |none=>.bad)with
   |.ok x env'=>∀v H',Nx K env σ H env' H'->gJ K σ H H' x v->Q v H'
   |.exc c env'=>∀H',Nx K env σ H env' H'->W c env' σ H'
   |.bad=>False)->∃d xs,x.jy=some d/\items d=some xs/\∀J H',Nx K env σ H env1 H'->Gives K J xs H'->R J H':=fun d ed z=>by
   cases e1:items d with
   |none=>rw[e1]at z;exact z.elim
   |some xs=>
    rw[e1]at z
    simp only at z
    cases e2:aR tg (ev c cond) (ev c elt) xs [] (List.replicate nl Sl.un++env1)with
    |bad=>rw[e2]at z;exact z.elim
    |exc k τ=>rw[e2]at z;exact z.elim
    |ok ys τ=>
     rw[e2]at z
     exact⟨d,xs,ed,e1,fun J H1 N G=>k J H1 env1 xs ys τ N G e2 z⟩
  cases x with
  |val d=>exact go d rfl q
  |new o=>exact go o.d rfl q
  |ref i=>exact q.elim
  |tmp o=>exact q.elim
def Inv.letGo{C:Addr}{h':Heap}(I:Inv X Q0q σ H s)(f:gK X Q0q H C)(hs:Heap.SameBut C s.heap h'):Inv X Q0q σ H {s with heap:=h'}:=by
 exact I.turned (t':=s.toks) (fun b o hb e=>(hs.2 b hb).trans e) f.1 f.2.1 f.2.2.2.1 f.2.2.2.2.1 f.2.2.2.2.2
theorem HQ.cl{Q0q:QQz}{σ:St}{H:Hp}{s:Shared}(sc:HQ X.env.scope scope tgs X.N)(I:Inv X Q0q σ H s):∃cl,Ny scope X.env cl:=
 agi fun x hx hf=>I.ok.has x.1 (sc.fre x hx hf)
def Q9(B:zB X c scope tgs tg cond elt tgE eltE ifs)(hi:GI X W c it tgE iterE)(hc:X.calm=true)(hs:∀x,foldedSetIterable iterE X.env x=pure x):
  GE X W c (.comp tgs.length tg it cond elt) (.ListComp eltE [⟨tgE,iterE,ifs,0⟩] scope pos):=by
 intro env Q0q s σ H Q I q
 obtain⟨cl,co⟩:=B.sc.cl I
 rw[eval_ListComp]
 refine wpAny_comprehension_free (use:=none) rfl hs co.eq B.sc.kind B.sc.locs (cA (hi env Q0q s σ H _ I (Fb q (R:=fun J H1=>∃env1 xs ys τ,Nx X.K env σ H env1 H1/\Gives X.K J xs H1/\aR tg (ev c cond) (ev c elt) xs [] (List.replicate tgs.length Sl.un++env1)=.ok ys τ/\
  (∀v H2,Nx X.K env σ H (τ.drop tgs.length) H2->gJ X.K σ H H2 (.new (.lst ys)) v->Q v H2)) fun J H1 env1 xs ys τ N G e z=>⟨env1,xs,ys,τ,N,G,e,z⟩)) fun v s1 h1=>cA h1 fun itv s2 h2=>?_)
 obtain⟨ita,fp,tn,J,H1,rfl,I1,T,t0,hf,env1,xs,ys,τ,N,G,e,z⟩:=h2
 refine vz (RR:=fun acc C=>compPost (model X.prog X.w) X.A X.xe none (EP X Q0q σ Q) acc C) B hc co I1 N.fH T t0 hf G e fun D C s' H' vs m I' N' hD hl hn hC fC=>?_
 refine⟨m,hC,fun h' hs'=>⟨.ref D,H',Inv.letGo I' fC hs',rfl,z _ _ (N.trans N') ⟨D,rfl,⟨_,hD,vs,rfl,hl⟩,N.dom D hn⟩⟩⟩
def Ba(B:zB X c scope tgs tg cond elt tgE eltE ifs)(hi:GI X W c it tgE iterE)(hc:X.calm=true)(hs:∀x,foldedSetIterable iterE X.env x=pure x)
  (hN:X.N.Nodup)(hx:X.N[i]? =some x)(hl:Loc X.env.scope x)(hf:X.fn x=true\/X.env.scope.names.lookup x=some .local)
  (hsw:swapsWith (.ListComp eltE [⟨tgE,iterE,ifs,0⟩] scope pos) (some (.Name x py)) spos.line X.env=pure true):
  GS X W c (.set i (.comp tgs.length tg it cond elt)) (.Assign [.Name x py] (.ListComp eltE [⟨tgE,iterE,ifs,0⟩] scope pos) spos):=by
 intro env Q0q s σ H D I q
 have q:=Cy q
 obtain⟨cl,co⟩:=B.sc.cl I
 rw[exec_Assign_Name_used _ _ _ _ hsw]
 refine QKq (wpAny_standAt (QKq ?_))
 show wpAny _ _ (do let _<-comprehension (.ListComp eltE [⟨tgE,iterE,ifs,0⟩] scope pos) scope X.env _ (newList []) false (eval iterE X.env) (some (assign (.Name x py) X.env))) _ _ s
 refine QKq (QGq (wpAny_comprehension_free (use:=some (assign (.Name x py) X.env)) (Q:=fun _ s'=>SP X Q0q D .next s') rfl hs co.eq B.sc.kind B.sc.locs
  (cA (hi env Q0q s σ H _ I (Fb q (R:=fun J H1=>∃env1 xs ys τ,Nx X.K env σ H env1 H1/\Gives X.K J xs H1/\aR tg (ev c cond) (ev c elt) xs [] (List.replicate tgs.length Sl.un++env1)=.ok ys τ/\
  (∀v H2,Nx X.K env σ H (τ.drop tgs.length) H2->gJ X.K σ H H2 (.new (.lst ys)) v->D.nx (σ.set i (some v)) H2)) fun J H1 env1 xs ys τ N G e z=>⟨env1,xs,ys,τ,N,G,e,z⟩)) fun v s1 h1=>cA h1 fun itv s2 h2=>?_))
  (fun _ s' hq=>QKz (QKz hq)) fun _ _ e=>e)
 obtain⟨ita,fp,tn,J,H1,rfl,I1,T,t0,hf',env1,xs,ys,τ,N,G,e,z⟩:=h2
 refine vz (RR:=fun acc C=>compPost (model X.prog X.w) X.A X.xe (some (assign (.Name x py) X.env)) (fun _ s'=>SP X Q0q D .next s') acc C) B hc co I1 N.fH T t0 hf' G e fun A C s' H' vs m I' N' hD hl' hn hC fC=>?_
 show wpAny _ _ (assign (.Name x py) X.env (.ref A)) _ _ _
 refine wpAny_assign_Name (uy (v:=.ref A) I' hN hx hl rfl (fun s'' I''⟨a,ha,hor⟩=>?_) hf)
 have hCa:C≠a:=by
  rcases hor with rfl|hor
  ·exact fC.2.1
  ·exact fun z=>fC.2.2.2.2.1 x a hor z.symm
 refine⟨m,hC.sameBut ha hCa,fun h' hs'=>⟨_,H',Inv.letGo I'' fC hs',z _ _ (N.trans N') ⟨A,rfl,⟨_,hD,vs,rfl,hl'⟩,N.dom A hn⟩⟩⟩
end
section
variable{K:QQq}{H:Hp}{a:Addr}{xs:List D}{vs:List V}
theorem Ho(hq:iy K H a vs)(l:au K H xs vs)(hz:vs.length<=sizeLine):Gives K (Itt K a) xs H where
 go:=fun H1 p i d e=>by
  obtain⟨v,ev,_⟩:=l.get e
  exact⟨vs,v,p.Gb hq,ev⟩
 yld:=fun H1 p i d e x H2 y=>by
  obtain⟨rfl,y⟩:=y
  obtain⟨v,ev,dv⟩:=l.get e
  have:=y vs (p.Gb hq)
  rw[ev]at this
  cases this
  exact⟨dv.mono p,.inl rfl⟩
 stop:=fun H1 p i hi=>⟨vs,p.Gb hq,by rw[<-l.length];exact hi⟩
 len:=by rw[l.length];exact hz
theorem Hq(hq:Nu K H a vs)(l:au K H xs vs)(hz:vs.length<=sizeLine):Gives K (Itl K a) xs H where
 go:=fun H1 p i d e=>by
  obtain⟨v,ev,_⟩:=l.get e
  exact⟨vs,v,(p.X6 hq).sq,ev⟩
 yld:=fun H1 p i d e x H2 y=>by
  obtain⟨rfl,y⟩:=y
  obtain⟨v,ev,dv⟩:=l.get e
  have:=y vs (p.X6 hq).sq
  rw[ev]at this
  cases this
  exact⟨dv.mono p,.inl rfl⟩
 stop:=fun H1 p i hi=>⟨vs,(p.X6 hq).sq,by rw[<-l.length];exact hi⟩
 len:=by rw[l.length];exact hz
def Its(x:Str):It:=⟨fun i _=>i<x.cps.size,fun i H v H'=>H'=H/\∃c,x.cps[i]? =some c/\v=.str ⟨#[c]⟩,fun i _=>x.cps.size<=i⟩
def signs_get{d:D}(h:(signs x)[i]? =some d):∃c,x.cps[i]? =some c/\d=.str ⟨#[c]⟩:=by
 unfold signs at h
 rw[QFz]at h
 cases e:x.cps.toList[i]? with
 |none=>rw[e]at h;cases h
 |some c=>rw[e]at h;cases h;exact⟨c,by simpa using e,rfl⟩
def nW(x:Str):(signs x).length=x.cps.size:=by simp[signs]
theorem vo(hz:x.cps.size<=sizeLine):Gives K (Its x) (signs x) H where
 go:=fun H1 p i d e=>by
  have:=(QCz.mp e).1
  rw[nW]at this
  exact this
 yld:=fun H1 p i d e v H2 y=>by
  obtain⟨rfl,c,e1,rfl⟩:=y
  obtain⟨c',e2,rfl⟩:=signs_get e
  rw[e1]at e2
  cases e2
  exact⟨rfl,.inl rfl⟩
 stop:=fun H1 p i hi=>by rw[nW]at hi;exact hi
 len:=by rw[nW];exact hz
end
section
variable{P:Program}{w:World}{K:QQq}{tg:Expr}
theorem xu(it:Addr)(x:Str)(t:Tok)(ty:String)(W:∀A':Around,A'.handled=none->Walks P w A' it [it] [it] x.cps.size (SignAt x) (fun i h=>h.IsStrIter it ty x t i))
  (hn:["enumerate","zip","dict_itemiterator","dict_reverseitemiterator","odict_iterator","itertools.zip_longest","itertools.pairwise"].contains ty=false)
  (hself:∀(A:Around)(i:Nat)(s:Shared)(Q:QZq)(E:QZq),s.heap.IsStrIter it ty x t i->Q (.ref it) s->wpAny (model P w) A (pyIter (.ref it)) Q E s):
  Turn P w K tg (Its x) [it] it (fun i h=>h.IsStrIter it ty x t i/\i<=x.cps.size) where
 mem:=by simp
 obj:=fun i h st b hb=>by
  have e:b=it:=by simpa using hb
  subst e
  obtain⟨⟨o,e,_,d⟩,_⟩:=st
  exact⟨o,e,fun v z=>by rw[d]at z;cases z⟩
 keep:=fun i h h' st k=>⟨let ⟨o,e,r⟩:=st.1;⟨o,k it (by simp) o e,r⟩,st.2⟩
 item:=by
  intro X hP hw hK hc i Q0q s σ H E I hf st hg
  subst hP hw hK
  obtain⟨f0,f1,f2,f3,f4,f5⟩:=hf it (by simp)
  refine(W X.A (I.ok.hd hc)).item i s _ _ hg st.1 fun v h' tk hv st' kk=>?_
  obtain⟨c,t,hx,rfl⟩:=hv
  have I1:Inv X Q0q σ H {s with heap:=h',toks:=tk}:=I.turned (fun b o hb e=>kk b o (by simpa using hb) e) f0 f1 f3 f4 f5
  obtain⟨o,e,cl,d⟩:=id st'
  exact⟨_,rfl,Eg (s:={s with heap:=h',toks:=tk}) e cl d hn ⟨.str ⟨#[c]⟩,H,I1,⟨t,rfl⟩,⟨rfl,c,hx,rfl⟩,⟨st',hg⟩,fun b hb=>(hf b hb).1⟩⟩
 done:=by
  intro X hP hw hK hc i Q0q s σ H E I hf st hg
  subst hP hw hK
  obtain⟨f0,f1,f2,f3,f4,f5⟩:=hf it (by simp)
  have e:i=x.cps.size:=Nat.le_antisymm st.2 hg
  subst e
  exact(W X.A (I.ok.hd hc)).done s _ _ st.1 fun h' tk kk=>⟨rfl,I.turned (fun b o hb e=>kk b o (by simpa using hb) e) f0 f1 f3 f4 f5⟩
 self:=fun A i s Q E st h=>hself A i s Q E st.1 h
end
section
variable{K:QQq}{H:Hp}{a:Addr}
theorem Et{H:Hp}:∀cs:List Bool,au K H (cs.map .bl) (cs.map .bl)
 |[]=>au.fM
 |c::cs=>au.aL.mpr ⟨_,_,rfl,by rfl,Et cs⟩
def Ye{k:SK}(h:cF K H k a):bG K H (eU k) (.ref a):=by
 obtain⟨b,q1,q2⟩:=h
 unfold eU bG
 refine⟨a,_,rfl,q1,au.aL.mpr ⟨_,_,rfl,?_,au.aL.mpr ⟨_,_,rfl,by rfl,au.fM⟩⟩⟩
 unfold bG
 exact⟨b,_,rfl,q2,Et _⟩
end
section
variable{P:Program}{w:World}{K:QQq}{tg:Expr}
end
section
variable{X:Cx}{W:Wi}{c:Cf}{m:E}{tg e:Expr}
theorem K5{R:It->Hp->Prop}{d:D}{u:Value}(I:Inv X Q0q σ H s)(rv:RelV v u)(hd:bG X.K H d v)(hi:items d=some xs)(q:∀J,Gives X.K J xs H->R J H):
  wpAny (model X.prog X.w) X.A (pyIter u) (PIE X Q0q σ tg R) X.xe s:=by
 have fp:∀(s':Shared),s.heap.objs.size<=s'.heap.objs.size->True:=fun _ _=>trivial
 cases d with
 |tup ds=>
  cases hi
  obtain⟨a,vs,rfl,hq,l⟩:=cJ hd
  cases rv
  obtain⟨its,r,p,hz⟩:=I.tuple hq
  refine wpAny_pyIter_tuple (show s.heap.IsTuple a its.toArray from p) ?_
  refine⟨s.heap.objs.size,[s.heap.objs.size],_,_,H,rfl,I.kept (t':=s.toks) fun b o e=>QWq _ e,zL a _,⟨_,Qzq _ rfl,rfl,rfl⟩,fun b hb=>?_,q _ (Ho hq l hz)⟩
  have e:b=s.heap.objs.size:=by simpa using hb
  subst e
  exact I.Bj (QVz _) (I.hok.fresh (QVz _))
 |lst ds=>
  cases hi
  obtain⟨a,vs,rfl,hq,l⟩:=dH hd
  cases rv
  obtain⟨its,r,p,hz⟩:=I.list hq.sq
  refine wpAny_pyIter_list p.isList ?_
  refine⟨s.heap.objs.size,[s.heap.objs.size],_,_,H,rfl,I.kept (t':=s.toks) fun b o e=>QWq _ e,FN a _,⟨_,Qzq _ rfl,rfl,rfl⟩,fun b hb=>?_,q _ (Hq hq l hz)⟩
  have e:b=s.heap.objs.size:=by simpa using hb
  subst e
  exact I.Bj (QVz _) (I.hok.fresh (QVz _))
 |str x=>
  simp only[items]at hi
  split at hi
  ·rename_i hf
   cases hi
   cases hd
   obtain⟨t,rfl⟩:=rv
   have hz:x.cps.size<=sizeLine:=eN hf
   have fin:∀b∈[s.heap.objs.size],gK X Q0q H b:=fun b hb=>by
    have e:b=s.heap.objs.size:=by simpa using hb
    subst e
    exact I.Bj (QVz _) (I.hok.fresh (QVz _))
   cases ha:x.cps.all (· <128)
   ·refine wpAny_pyIter_wide ha ?_
    exact⟨s.heap.objs.size,[s.heap.objs.size],_,_,H,rfl,I.kept (t':=s.toks) fun b o e=>QWq _ e,xu _ x t "str_iterator" (fun A' hA=>Walks.strWide hA _ x t) (by decide) (fun A i s Q E st h=>wpAny_pyIter_striter_wide st h),⟨⟨_,Qzq _ rfl,rfl,rfl⟩,QIq _⟩,fin,q _ (vo hz)⟩
   ·refine wpAny_pyIter_ascii ha ?_
    exact⟨s.heap.objs.size,[s.heap.objs.size],_,_,H,rfl,I.kept (t':=s.toks) fun b o e=>QWq _ e,xu _ x t "str_ascii_iterator" (fun A' hA=>Walks.strAscii hA _ x t) (by decide) (fun A i s Q E st h=>wpAny_pyIter_striter_ascii st h),⟨⟨_,Qzq _ rfl,rfl,rfl⟩,QIq _⟩,fin,q _ (vo hz)⟩
  ·cases hi
 |_=>cases hi
def ab6(h:GE X W c m e):GI X W c m tg e:=by
 intro env Q0q s σ H R I q
 refine cA (h.d Q0q s σ H (fun v H'=>∃d xs,bG X.K H' d v/\items d=some xs/\∀J,Gives X.K J xs H'->R J H') I ⟨env,q.1,?_⟩) fun u s1⟨v,H1,I1,r1,d,xs,hd,hi,q1⟩=>K5 I1 r1 hd hi q1
 have q2:=q.2
 cases r:ev c m env with
 |bad=>rw[r]at q2;exact q2
 |exc k env1=>rw[r]at q2;exact q2
 |ok x env1=>
  rw[r]at q2
  obtain⟨d,xs,ed,ei,q3⟩:=q2
  cases x with
  |val d'=>cases ed;exact fun v H' N Dv=>⟨d,xs,Dv,ei,fun J G=>q3 J H' N G⟩
  |new o=>cases ed;exact fun v H' N Dv=>⟨o.d,xs,Dv,ei,fun J G=>q3 J H' N G⟩
  |ref i=>cases ed
  |tmp o=>cases ed
end
def tyN:Ty->String
 |.tup=>"tuple"
 |.lst=>"list"
 |.str=>"str"
 |.bool=>"bool"
 |.int=>"int"
 |.cH=>"dict"
section
variable{X:Cx}{W:Wi}{c:Cf}{m m1 m2:E}{a b e:Expr}{pos p p':Pos}
def afl(K:QQq):List V->Hp->VK->Prop:=fun xs H Q=>∃d v t,xs=[v,.ty (tyN t)]/\bG K H d v/\Q (.bl (m7 t d)) H
def MF:f9 X (.builtin "isinstance") (afl X.K):=by
 intro Q0q s σ H xs us Q I r h
 obtain⟨d,v,t,rfl,hd,q⟩:=h
 obtain⟨u,u',rfl,ru,rt⟩:=Vals.two r
 cases rt
 have fin:∀k,Q (.bl k) H->EP X Q0q σ Q (.bool k) {s with toks:=s.toks+1}:=fun k z=>⟨.bl k,H,I.tok _,rfl,z⟩
 have fin0:∀k,Q (.bl k) H->EP X Q0q σ Q (.bool k) s:=fun k z=>⟨.bl k,H,I,rfl,z⟩
 cases d with
 |non=>
  cases hd;cases ru
  cases t with
  |tup=>exact IsiPair.NoneType_tuple (fin _ q)
  |lst=>exact IsiPair.NoneType_list (fin _ q)
  |str=>exact IsiPair.NoneType_str (fin _ q)
  |bool=>exact IsiPair.NoneType_bool (fin _ q)
  |int=>exact IsiPair.NoneType_int (fin _ q)
  |cH=>exact IsiPair.NoneType_dict (fin _ q)
 |bl k=>
  cases hd;cases ru
  cases t with
  |tup=>exact IsiPair.bool_tuple (fin _ q)
  |lst=>exact IsiPair.bool_list (fin _ q)
  |str=>exact IsiPair.bool_str (fin _ q)
  |bool=>exact IsiPair.bool_bool (fin0 _ q)
  |int=>exact IsiPair.bool_int (fin0 _ q)
  |cH=>exact IsiPair.bool_dict (fin _ q)
 |int k=>
  cases hd;obtain⟨tk,rfl⟩:=ru
  cases t with
  |tup=>exact IsiPair.int_tuple (fin _ q)
  |lst=>exact IsiPair.int_list (fin _ q)
  |str=>exact IsiPair.int_str (fin _ q)
  |bool=>exact IsiPair.int_bool (fin _ q)
  |int=>exact IsiPair.int_int (fin0 _ q)
  |cH=>exact IsiPair.int_dict (fin _ q)
 |str k=>
  cases hd;obtain⟨tk,rfl⟩:=ru
  cases t with
  |tup=>exact IsiPair.str_tuple (fin _ q)
  |lst=>exact IsiPair.str_list (fin _ q)
  |str=>exact IsiPair.str_str (fin0 _ q)
  |bool=>exact IsiPair.str_bool (fin _ q)
  |int=>exact IsiPair.str_int (fin _ q)
  |cH=>exact IsiPair.str_dict (fin _ q)
 |tup ds=>
  obtain⟨a,vs,rfl,hq,_⟩:=cJ hd
  cases ru
  obtain⟨its,_,⟨o,e,cl,_⟩,_⟩:=I.tuple hq
  cases t with
  |tup=>exact IsiPair.tuple_tuple e cl (fin0 _ q)
  |lst=>exact IsiPair.tuple_list e cl (fin _ q)
  |str=>exact IsiPair.tuple_str e cl (fin _ q)
  |bool=>exact IsiPair.tuple_bool e cl (fin _ q)
  |int=>exact IsiPair.tuple_int e cl (fin _ q)
  |cH=>exact IsiPair.tuple_dict e cl (fin _ q)
 |lst ds=>
  obtain⟨a,vs,rfl,hq,_⟩:=dH hd
  cases ru
  obtain⟨its,_,⟨o,n,e,cl,_⟩,_⟩:=I.list hq.sq
  cases t with
  |tup=>exact IsiPair.list_tuple e cl (fin _ q)
  |lst=>exact IsiPair.list_list e cl (fin0 _ q)
  |str=>exact IsiPair.list_str e cl (fin _ q)
  |bool=>exact IsiPair.list_bool e cl (fin _ q)
  |int=>exact IsiPair.list_int e cl (fin _ q)
  |cH=>exact IsiPair.list_dict e cl (fin _ q)
 |cH ks ds=>
  unfold bG at hd
  obtain⟨a,o,kvs,rfl,ha,_⟩:=hd
  cases ru
  obtain⟨e,_,_,_,_,o',_,_,e',ex,_⟩:=I.hok a _ ha
  rw[e]at e'
  cases e'
  have cl:=ex.1
  cases t with
  |tup=>exact IsiPair.dict_tuple e cl (fin _ q)
  |lst=>exact IsiPair.dict_list e cl (fin _ q)
  |str=>exact IsiPair.dict_str e cl (fin _ q)
  |bool=>exact IsiPair.dict_bool e cl (fin _ q)
  |int=>exact IsiPair.dict_int e cl (fin _ q)
  |cH=>exact IsiPair.dict_dict e cl (fin0 _ q)
 |fZ ks ds=>
  unfold bG at hd
  obtain⟨a,o,kvs,rfl,ha,_⟩:=hd
  cases ru
  obtain⟨e,_,_,_,_,o',_,_,_,e',ex,_⟩:=I.hok a _ ha
  rw[e]at e'
  cases e'
  have cl:=ex.1
  cases t with
  |tup=>exact IsiPair.dict_tuple e cl (fin _ q)
  |lst=>exact IsiPair.dict_list e cl (fin _ q)
  |str=>exact IsiPair.dict_str e cl (fin _ q)
  |bool=>exact IsiPair.dict_bool e cl (fin _ q)
  |int=>exact IsiPair.dict_int e cl (fin _ q)
  |cH=>exact IsiPair.dict_dict e cl (fin0 _ q)
def XN{t:Ty}(ha:GE X W c m a)(hx:x=Str.ofString (tyN t))(hg:Gl X x)(hm:X.mg x=none)(hi:Gl X "isinstance")(hmi:X.mg "isinstance"=none)
  (hs:starEach [a,.Name x p'] X.env=(false,eval a X.env)::starEach [.Name x p'] X.env):
  GE X W c (.isi m t) (.Call (.Name "isinstance" p) [a,.Name x p'] [] pos):=by
 intro env
 have hv:bootBuiltins x=some (.type (tyN t)):=by subst hx;cases t<;>kernel_rfl
 have hn:x≠"__name__":=by subst hx;cases t<;>decide+kernel
 have hd:(x==("__debug__":Str))=false:=by subst hx;cases t<;>decide+kernel
 have N:PE X (.Name x p') (tC (.ty (tyN t))):=Qq hg hm hv rfl hn hd
 refine PE.imp (rB MF hi hmi (by kernel_rfl) (cM ha.d (cM N fL rfl) hs) (by decide+kernel) (by decide+kernel) hs rfl) fun σ H Q q=>?_
 simp only[Ot]at q
 exact⟨env,aU q fun d env1 v H1 N1 D1 q1=>⟨d,v,t,rfl,D1,dY q1 rfl⟩⟩
end
def qb(X:Cx)(r:List V->Hp->VK->Prop)(f:D->Option Rv):Prop:=
 ∀(env:Ev)(σ:St)(H:Hp)(x:D)(z:Rv)(v:V)(Q:VK),Sat X.K env σ H->cT X.K H x v->f x=some z->(∀w H',Nx X.K env σ H env H'->gJ X.K σ H H' z w->Q w H')->r [v] H Q
variable{bb:Bi}
section
variable{X:Cx}{W:Wi}{c:Cf}{m m1 m2:E}{a b e:Expr}{pos p p':Pos}
def MN{r:List V->Hp->VK->Prop}(R:qb X r (b1 bb))(hv:m.aB=none)(q:tM X.K W env (ev c (.bi bb m) env) σ H Q):aD X W c m σ H fun v H1=>r [v] H1 Q:=by
 simp only[nR,hv]at q
 refine⟨env,aU q fun d env1 v H1 N1 D1 q1=>?_⟩
 obtain⟨z,ez,S,q3⟩:=cI q1
 exact R env1 σ H1 d z v Q S (.inl D1) ez q3
def Fj{r:List V->Hp->VK->Prop}(R:qb X r (b1 bb)){k:Nat}(hv:m.aB=some k)(q:tM X.K W env (ev c (.bi bb m) env) σ H Q):Ja k σ H fun v H1=>r [v] H1 Q:=by
 simp only[nR,hv]at q
 obtain⟨z,ez,S,q3⟩:=cI q
 cases e0:aX k env with
 |none=>rw[e0]at ez;cases ez
 |some d0=>
  rw[e0]at ez
  obtain⟨u,eu,Du⟩:=eF S e0
  exact⟨u,eu,R env σ H d0 z u Q S Du ez q3⟩
theorem wF{id:String}{r:List V->Hp->VK->Prop}(C:f9 X (.builtin id) r)(R:qb X r (b1 bb))(ha:GE X W c m a)(hv:∀k,m.aB=some k->∃x p,a=.Name x p/\jn X k x)
  (hg:Gl X x)(hm:X.mg x=none)(hb:bootBuiltins x=some (.builtin id))(hn:x≠"__name__")(hd:(x==("__debug__":Str))=false)(hs:starEach [a] X.env=[(false,eval a X.env)]):
  GE X W c (.bi bb m) (.Call (.Name x p) [a] [] pos):=by
 intro env
 cases q:m.aB with
 |none=>exact PE.imp (rB C hg hm hb (cM ha.d fL hs) hn hd hs rfl) fun σ H Q h=>MN R q h
 |some k=>
  obtain⟨y,p',rfl,nm⟩:=hv k q
  exact PE.imp (rB C hg hm hb (cM nm.pe fL hs) hn hd hs rfl) fun σ H Q h=>Fj R q h
theorem Bh{id:String}{r:List V->Hp->VK->Prop}(C:f9 X (.type id) r)(R:qb X r (b1 bb))(ha:GE X W c m a)(hv:∀k,m.aB=some k->∃x p,a=.Name x p/\jn X k x)
  (hg:Gl X x)(hm:X.mg x=none)(hb:bootBuiltins x=some (.type id))(hn:x≠"__name__")(hd:(x==("__debug__":Str))=false)(hs:starEach [a] X.env=[(false,eval a X.env)]):
  GE X W c (.bi bb m) (.Call (.Name x p) [a] [] pos):=by
 intro env
 cases q:m.aB with
 |none=>exact PE.imp (oF C hg hm hb (cM ha.d fL hs) hn hd hs rfl) fun σ H Q h=>MN R q h
 |some k=>
  obtain⟨y,p',rfl,nm⟩:=hv k q
  exact PE.imp (oF C hg hm hb (cM nm.pe fL hs) hn hd hs rfl) fun σ H Q h=>Fj R q h
def cT.seq{d:D}(h:cT K H d v)(e:bB d=some xs):∃a vs,v=.ref a/\(jm K H a vs\/iy K H a vs)/\au K H xs vs:=by
 cases d with
 |tup ys=>cases e;exact h.O9
 |lst ys=>cases e;exact h.Jl
 |_=>cases e
theorem cT.cH{K:QQq}{H:Hp}{ks ds:List D}{v:V}(h:cT K H (.cH ks ds) v):∃a kvs,v=.ref a/\Rd H a (.dK kvs)/\ks=kvs.map (fun p=>cQ p.1)/\au K H ds (kvs.map (·.2)):=by
 rcases h with h|⟨o,a,q,rfl,u,ha,hq⟩
 ·unfold bG at h
  obtain⟨a,o,kvs,rfl,ha,k,l⟩:=h
  exact⟨a,kvs,rfl,.inr ⟨o,ha⟩,k,l⟩
 ·cases o<;>cases q
  obtain⟨kvs,rfl,k,l⟩:=hq
  exact⟨a,kvs,rfl,.inl ha,k,l⟩
def VL(K:QQq):List V->Hp->VK->Prop:=fun xs H Q=>(∃x n,xs=[x]/\Yv K x H n/\Q (.int n) H)\/∃a kvs,xs=[.ref a]/\Rd H a (.dK kvs)/\Q (.int kvs.length) H
def Hz:f9 X (.builtin "len") (VL X.K):=by
 intro Q0q s σ H xs us Q I r h
 rcases h with h|⟨a,kvs,rfl,e,q⟩
 ·exact Mz Q0q s σ H xs us Q I r h
 ·obtain⟨u,rfl,ru⟩:=vals1 r
  cases ru
  exact ack I e fun t s' I'=>⟨.int kvs.length,H,I',⟨t,rfl⟩,q⟩
def Pu:qb X (VL X.K) (b1 .len):=by
 intro env σ H x z v Q S Dx e q
 have go:∀(n:Nat),G8 x=some n->Yv X.K v H n->VL X.K [v] H Q:=fun n en ln=>by
  simp only[b1,en]at e
  cases e
  exact .inl ⟨v,n,rfl,ln,q _ H (Nx.refl S) rfl⟩
 cases x with
 |tup xs=>
  obtain⟨a,vs,rfl,hq,l⟩:=Dx.O9
  refine go xs.length rfl ?_
  rcases hq with hq|hq
  ·exact .inl ⟨vs,hq,l.length⟩
  ·exact .inr ⟨vs,hq,l.length⟩
 |lst xs=>
  obtain⟨a,vs,rfl,hq,l⟩:=Dx.Jl
  refine go xs.length rfl ?_
  rcases hq with hq|hq
  ·exact .inl ⟨vs,hq,l.length⟩
  ·exact .inr ⟨vs,hq,l.length⟩
 |str y=>
  have:=Dx.str
  subst this
  by_cases hf:fits y.length=true
  ·exact go y.length (by simp[G8,hf]) ⟨eN hf,rfl⟩
  ·simp[b1,G8,hf]at e
 |cH ks ds=>
  cases e
  obtain⟨a,kvs,rfl,hr,hk,l⟩:=Dx.cH
  have e2:ks.length=kvs.length:=by rw[hk,QAq]
  exact .inr ⟨a,kvs,rfl,hr,by rw[<-e2];exact q _ H (Nx.refl S) rfl⟩
 |_=>cases e
def Px:qb X (fun xs H Q=>(∃i,xs=[.int i]/\Q (.int i) H)\/∃k,xs=[.bl k]/\Q (.int (if k then 1 else 0)) H) (b1 .int):=by
 intro env σ H x z v Q S Dx e q
 cases x with
 |int i=>
  cases e
  have:=Dx.int
  subst this
  exact .inl ⟨i,rfl,q _ H (Nx.refl S) rfl⟩
 |bl k=>
  cases e
  rcases Dx with h|⟨o,a,q',_⟩
  ·cases h
   exact .inr ⟨k,rfl,q _ H (Nx.refl S) (by cases k<;>rfl)⟩
  ·cases o<;>cases q'
 |_=>cases e
def Gm:qb X (fun xs H Q=>∃p ys,xs=[.ref p]/\((jm X.K H p ys/\∀l,H l=none->Q (.ref l) (upd H l (.tup ys)))\/(iy X.K H p ys/\Q (.ref p) H))) (b1 .tuple):=by
 intro env σ H x z v Q S Dx e q
 simp only[b1]at e
 cases es:bB x with
 |none=>rw[es]at e;cases e
 |some xs=>
  rw[es]at e
  cases e
  obtain⟨a,vs,rfl,hq,l⟩:=Dx.seq es
  refine⟨a,vs,rfl,?_⟩
  rcases hq with hq|hq
  ·refine .inl ⟨hq,fun p hp=>?_⟩
   have N:=Nx.laid (o:=.tup vs) S hp
   exact q _ _ N (eO (.inl (.inl aW)) (l.mono N.pers))
  ·exact .inr ⟨hq,q _ H (Nx.refl S) (eO hq l)⟩
theorem cT.fZ{K:QQq}{H:Hp}{ks ds:List D}{v:V}(h:cT K H (.fZ ks ds) v):∃a xs,v=.ref a/\Rd H a (sD xs)/\ks=xs.map (fun x=>eU x.1)/\∀x∈xs,cF K H x.1 x.2.1:=by
 rcases h with h|⟨o,a,q,rfl,u,ha,hq⟩
 ·unfold bG at h
  obtain⟨a,o,xs,rfl,ha,k,ka,l⟩:=h
  exact⟨a,xs,rfl,.inr ⟨o,ha⟩,k,ka⟩
 ·cases o<;>cases q
  obtain⟨xs,rfl,k,ka,l⟩:=hq
  exact⟨a,xs,rfl,.inl ha,k,ka⟩
theorem Es{K:QQq}{H:Hp}:∀{xs:List SV},(∀x∈xs,cF K H x.1 x.2.1)->au K H (xs.map fun x=>eU x.1) (xs.map fun x=>.ref x.2.1)
 |[]=>fun _=>au.fM
 |x::xs=>fun h=>au.aL.mpr ⟨_,_,rfl,Ye (h x QYz),Es fun y hy=>h y (QYq _ hy)⟩
def Js:qb X (fun xs H Q=>(∃p ys,xs=[.ref p]/\(jm X.K H p ys\/iy X.K H p ys)/\∀l,H l=none->Q (.ref l) (upd H l (.lst ys)))\/∃a ks,xs=[.ref a]/\Rd H a (sD ks)/\∀l,H l=none->Q (.ref l) (upd H l (.lst (ks.map fun x=>.ref x.2.1)))) (b1 .list):=by
 intro env σ H x z v Q S Dx e q
 simp only[b1]at e
 have go:∀{xs:List D},bB x=some xs->NQ .list xs=some z->∃p ys,[v]=[V.ref p]/\(jm X.K H p ys\/iy X.K H p ys)/\∀l,H l=none->Q (.ref l) (upd H l (.lst ys)):=fun es e=>by
  cases e
  obtain⟨a,vs,rfl,hq,l⟩:=Dx.seq es
  exact⟨a,vs,rfl,hq,fun p hp=>q _ _ (Nx.laid S hp) (kI S l hp)⟩
 cases x with
 |fZ ks ds=>
  cases e
  obtain⟨a,xs,rfl,hr,rfl,ka⟩:=Dx.fZ
  exact .inr ⟨a,xs,rfl,hr,fun p hp=>q _ _ (Nx.laid S hp) (kI S (Es ka) hp)⟩
 |tup xs=>exact .inl (go rfl e)
 |lst xs=>exact .inl (go rfl e)
 |_=>cases e
def BoolsAre.get{vs:List Value}{bs:List Bool}(h:BoolsAre vs bs):∀{i:Nat}{v:Value},vs[i]? =some v->∃b,bs[i]? =some b/\v=.bool b:=by
 induction h with
 |nil=>intro i v e;simp at e
 |cons b t ih=>
  intro i v e
  cases i with
  |zero=>simp at e;subst e;exact⟨b,rfl,rfl⟩
  |succ i=>exact ih (by simpa using e)
def range_all(bs:List Bool):((List.range bs.length).all fun i=>bs.getD i false)=bs.all id:=by
 rw[Bool.eq_iff_iff]
 simp only[List.all_eq_true,List.mem_range,id]
 constructor
 ·intro h b hb
  obtain⟨i,hi,e⟩:=List.mem_iff_getElem.mp hb
  have:=h i hi
  rw[List.getD_eq_getElem?_getD,QXq hi]at this
  simpa[e]using this
 ·intro h i hi
  rw[List.getD_eq_getElem?_getD,QXq hi]
  exact h _ (List.getElem_mem hi)
def range_any(bs:List Bool):((List.range bs.length).any fun i=>bs.getD i false)=bs.any id:=by
 rw[Bool.eq_iff_iff]
 simp only[List.any_eq_true,List.mem_range,id]
 constructor
 ·rintro ⟨i,hi,h⟩
  rw[List.getD_eq_getElem?_getD,QXq hi]at h
  exact⟨bs[i],List.getElem_mem hi,by simpa using h⟩
 ·rintro ⟨b,hb,h⟩
  obtain⟨i,hi,e⟩:=List.mem_iff_getElem.mp hb
  exact⟨i,hi,by rw[List.getD_eq_getElem?_getD,QXq hi];simpa[e]using h⟩
def Y7(K:QQq)(f:List Bool->Bool):List V->Hp->VK->Prop:=fun xs H Q=>∃p vs ds bs,xs=[.ref p]/\(jm K H p vs\/iy K H p vs)/\au K H ds vs/\bools ds=some bs/\Q (.bl (f bs)) H
def pD{P:Program}{w:World}{A:Around}{its:List Value}{bs:List Bool}(hb:BoolsAre its bs):TruthOf P w A (fun i v=>its.toArray[i]? =some v) fun i=>bs.getD i false:=by
 intro i v s Q E hv h
 obtain⟨b,e,rfl⟩:=hb.get (i:=i) (v:=v) (by simpa using hv)
 have h:Q (bs.getD i false) s:=h
 rw[List.getD_eq_getElem?_getD,e]at h
 exact wpAny_truthy_bool h
def sZ{id:String}{f:List Bool->Bool}{g:Nat->(Nat->Bool)->Bool}(hc:X.calm=true)(hg:∀bs:List Bool,g bs.length (fun i=>bs.getD i false)=f bs)
  (hcall:∀{E:QZq}{s:Shared}{x:Value}{Q:QZq},
   wpAny (model X.prog X.w) X.A.in1 (pyIter x) (fun it s₂=>∃I fp wr n P St tr,it=.ref I/\Walks X.prog X.w X.A.in1 I fp wr n P St/\St 0 s₂.heap/\TruthOf X.prog X.w X.A.in1 P tr/\
    ∀h' tk,(∀b o,b∉wr->s₂.heap.get? b=some o->h'.get? b=some o)->Q (.bool (g n tr)) {s₂ with heap:=h',toks:=tk}) E s->wpAny (model X.prog X.w) X.A (call (.builtin id) [x]) Q E s):
  f9 X (.builtin id) (Y7 X.K f):=by
 intro Q0q s σ H xs us Q I r h
 obtain⟨a,vs,ds,bs,rfl,hq,l,hb,q⟩:=h
 obtain⟨u,rfl,ru⟩:=Vals.one r
 cases ru
 have hh:X.A.in1.handled=none:=I.ok.hd hc
 refine hcall ?_
 have fin:∀(its:List Value)(o:Obj),Vals vs its->∀h' tk,(∀b o',b∉[s.heap.objs.size]->(s.heap.push o).get? b=some o'->h'.get? b=some o')->EP X Q0q σ Q (.bool (g its.toArray.size fun i=>bs.getD i false)) {s with heap:=h',toks:=tk}:=fun its o rv h' tk k=>by
  have hl:its.toArray.size=bs.length:=by
   have:=(gm hb l rv).length
   simpa using this
  rw[hl,hg]
  refine⟨.bl (f bs),H,I.kept fun b o' e=>k b o' ?_ (QWq _ e),rfl,q⟩
  simp only[QDz]
  exact Qvz (Qqz e)
 rcases hq with hq|hq
 ·obtain⟨its,rv,p,hz⟩:=I.list hq
  have hlt:a≠s.heap.objs.size:=by
   obtain⟨o,n,e,_⟩:=p
   exact Qvz (Qqz e)
  refine wpAny_pyIter_list p.isList ⟨s.heap.objs.size,[s.heap.objs.size,a],[s.heap.objs.size],its.toArray.size,_,_,_,rfl,Walks.list hh _ a hlt its.toArray,⟨⟨_,Qzq _ rfl,rfl,rfl⟩,p.isList.at fun o e=>QWq _ e⟩,pD (gm hb l rv),fin its _ rv⟩
 ·obtain⟨its,rv,p,hz⟩:=I.tuple hq
  have hlt:a≠s.heap.objs.size:=by
   obtain⟨o,e,_⟩:=p
   exact Qvz (Qqz e)
  have p':s.heap.IsTuple a its.toArray:=p
  refine wpAny_pyIter_tuple p' ⟨s.heap.objs.size,[s.heap.objs.size,a],[s.heap.objs.size],its.toArray.size,_,_,_,rfl,Walks.tuple hh _ a hlt its.toArray,⟨⟨_,Qzq _ rfl,rfl,rfl⟩,p'.at fun o e=>QWq _ e⟩,pD (gm hb l rv),fin its _ rv⟩
def HF(hc:X.calm=true):f9 X (.builtin "all") (Y7 X.K (·.all id)):=sZ (g:=fun n tr=>(List.range n).all tr) hc range_all call_all_walk
def HD(hc:X.calm=true):f9 X (.builtin "any") (Y7 X.K (·.any id)):=sZ (g:=fun n tr=>(List.range n).any tr) hc range_any call_any_walk
def uD{f:List Bool->Bool}(hb:∀xs,NQ bb xs=(bools xs).map fun bs=>.val (.bl (f bs)))(h1:∀x,b1 bb x=(bB x).bind (NQ bb)):qb X (Y7 X.K f) (b1 bb):=by
 intro env σ H x z v Q S Dx e q
 rw[h1]at e
 cases es:bB x with
 |none=>rw[es]at e;cases e
 |some xs=>
  rw[es]at e
  simp only[Option.bind,hb]at e
  cases eb:bools xs with
  |none=>rw[eb]at e;cases e
  |some bs=>
   rw[eb]at e
   cases e
   obtain⟨a,vs,rfl,hq,l⟩:=Dx.seq es
   exact⟨a,vs,xs,bs,rfl,hq,l,eb,q _ H (Nx.refl S) rfl⟩
def Pz:qb X (Y7 X.K (·.all id)) (b1 .all):=uD (fun _=>rfl) fun _=>rfl
def Py:qb X (Y7 X.K (·.any id)) (b1 .any):=uD (fun _=>rfl) fun _=>rfl
end
end Mini
end
section
namespace HT
open PySem PySem.Spec PyProof.Rows
section
variable{prog:Program}{w:World}{A:Around}{E:QZq}{s:Shared}
def lD{t sl:Addr}{items:Array Value}{vl vu:Value}{lo hi:Option Int}{Q:QZq}(ht:IsTup s.heap t items)(hs:s.heap.IsSliceOf sl vl vu .none)(pl:IsPart vl lo)(pu:IsPart vu hi)
  (hw:dg items.size 0 lo=0/\dg items.size items.size hi=items.size)(h:Q (.ref t) s):wpAny (model prog w) A (getItem (.ref t) (.ref sl)) Q E s:=by
 obtain⟨os,hos,hcs,hds⟩:=id hs
 have hTs:s.TypeIs (.ref sl) "slice":=⟨os,hos,hcs⟩
 unfold getItem
 try with_reducible refine Qqq ?_
 first|refine QKq (QKz ?_)|skip
 refine QKq (wpAny_sequenceKey ht.typeIs (by decide) ?_)
 refine QKq (wpAny_callSpecial?_slot (name:=Str.ofString "__getitem__") ht.typeIs PyProof.Rows.slot_tuple_getitem
  (Qzz PyProof.Rows.slot_tuple_getitem ht.typeIs entry_tuple_getitem ?_ (args_tuple_getitem _ _)))
 show wpAny _ _ (Builtin.Tuple.tupleItemsOf (.ref t)>>=_) _ _ s
 refine QKq (tupleItemsOf_ ht ?_)
 refine QKq (wpAny_typeOf hTs ?_)
 rw[if_pos (by decide)]
 refine QKq (iD hs pl pu ?_)
 have hno:((((dg items.size 0 lo:Nat):Int)==0&&(1:Int)==1&&(dg items.size items.size hi-dg items.size 0 lo)==items.size)=true):=by
  rw[hw.1,hw.2];simp
 show wpAny _ _ (if (((dg items.size 0 lo:Nat):Int)==0&&(1:Int)==1&&(dg items.size items.size hi-dg items.size 0 lo)==items.size)=true then _ else _) _ _ s
 rw[if_pos hno]
 refine QKq ?_
 unfold Builtin.Tuple.tupleIsExact
 refine QKq (wpAny_typeOf ht.typeIs (QKz ?_))
 rw[if_pos (by decide)]
 exact QKq (wpAny_rule (QKz ⟨_,rfl,QKz h⟩))
end
end HT
namespace Mini
open PySem L2
variable{H:Hp}{K:QQq}{env:Ev}{v:V}{vs:List V}{x:Str}{σ:St}
section
variable{X:Cx}{W:Wi}{c:Cf}{m m1 m2 m3:E}{a b e:Expr}{pos p p2:Pos}
def S6(K:QQq):V->Option Int->Option Int->Hp->VK->Prop:=fun x lo hi H Q=>∃a xs,x=.ref a/\iy K H a xs/\
 (HT.dg xs.length 0 lo=0/\HT.dg xs.length xs.length hi=xs.length)/\Q (.ref a) H
def O3:RL X (S6 X.K):=by
 intro Q0q s σ H x v vl vu lo hi sl Q I rx hs pl pu h
 obtain⟨a,xs,rfl,hx,hw,q⟩:=h
 cases rx
 obtain⟨its,r,ht,hz⟩:=I.tuple hx
 have hlen:its.toArray.size=xs.length:=by rw[Qyq];exact r.length.symm
 exact⟨"tuple",_,PyProof.Rows.slot_tuple_getitem.lookup,ht.typeIs,HT.lD ht hs pl pu (by rw[hlen];exact hw) ⟨.ref a,H,I,rfl,q⟩⟩
def aa1(K:QQq):V->Option Int->Option Int->Hp->VK->Prop:=fun x lo hi H Q=>aaZ K x lo hi H Q\/S6 K x lo hi H Q\/aa0 K x lo hi H Q
def Vv:RL X (aa1 X.K):=Vu.or (O3.or O5)
def qp(n:Nat)(i:Int)(d:Nat):clip n i=HT.dg n d (some i):=by
 unfold clip HT.dg
 dsimp only
 by_cases h:i<0
 ·rw[if_pos h,if_pos h]
  split
  ·omega
  ·split<;>omega
 ·rw[if_neg h,if_neg h,if_neg h]
  split<;>omega
def Yh{α:Type}(xs:List α)(a b:Nat):(xs.take b).drop a=(xs.drop a).take (b-a):=by
 rw[List.drop_take]
def wN{ds:List D}(l:au K H ds vs)(lo hi:Option Int):au K H (cut ds lo hi) (sV vs lo hi):=by
 have hl:=l.length
 unfold cut sV
 dsimp only
 rw[Yh]
 cases lo with
 |none=>
  cases hi with
  |none=>rw[HT.mL,HT.mL,<-hl];exact(l.drop _).take _
  |some j=>rw[HT.mL,<-hl,<-qp];exact(l.drop _).take _
 |some i=>
  cases hi with
  |none=>rw[HT.mL,<-hl,<-qp];exact(l.drop _).take _
  |some j=>rw[<-hl,<-qp,<-qp];exact(l.drop _).take _
def Hx{lo hi:Option Int}(h:HT.dg vs.length 0 lo=0/\HT.dg vs.length vs.length hi=vs.length):sV vs lo hi=vs:=by
 unfold sV
 rw[h.1,h.2]
 simp
def zU{d:D}{z:Rv}{lo hi:Option Int}{Q:VK}(S:Sat K env σ H)(D1:bG K H d v)(e:dM d lo hi=some z)(q:∀w H',Nx K env σ H env H'->gJ K σ H H' z w->Q w H'):aa1 K v lo hi H Q:=by
 cases d with
 |tup xs=>
  cases e
  obtain⟨a,vs,rfl,hq,l⟩:=cJ D1
  by_cases hw:HT.dg vs.length 0 lo=0/\HT.dg vs.length vs.length hi=vs.length
  ·refine .inr (.inl ⟨a,vs,rfl,hq,hw,q _ H (Nx.refl S) ?_⟩)
   have:=wN l lo hi
   rw[Hx hw]at this
   exact eO hq this
  ·refine .inl ⟨a,vs,rfl,hq,hw,fun p hp=>?_⟩
   have N:=Nx.laid (o:=.tup (sV vs lo hi)) S hp
   exact q _ _ N (eO (.inl (.inl aW)) ((wN l lo hi).mono N.pers))
 |lst xs=>
  cases e
  obtain⟨a,vs,rfl,hq,l⟩:=dH D1
  exact .inr (.inr ⟨a,vs,rfl,hq.sq,fun p hp=>q _ _ (Nx.laid S hp) (kI S (wN l lo hi) hp)⟩)
 |_=>cases e
def GO(X:Cx)(W:Wi)(c:Cf)(m:E)(eo:Option Expr):Prop:=(m=.noneE/\eo=Option.none)\/∃e,eo=Option.some e/\m.fQ=false/\GE X W c m e
def tPt(X:Cx)(W:Wi)(c:Cf)(m:E):TO:=fun σ H Q=>∃env,tD X.K W env (ev c m env) σ H fun v H1=>∀d,bG X.K H1 d v->∃o,bZ m.fQ d=some o/\Q o H1
def GO.po{eo:Option Expr}(h:GO X W c m eo):PO X eo (tPt X W c m):=by
 rcases h with ⟨rfl,rfl⟩|⟨e,rfl,hn,h⟩
 ·intro Q0q s σ H Q I q
  obtain⟨env,q⟩:=q
  simp only[v_0,v_1,Z9,v_3,v_4,Z8,v_6,YM,Z7,Ol,vN,Ip,Io,Fz,Ow,U9,Ov,Im,Il,Ou,Ot,nR,Oq,Ik,Oo,Om,lH]at q
  obtain⟨o,e,z⟩:=q.2 .non H (Nx.refl q.1) rfl .non rfl
  cases e
  exact Qi Q0q s σ H Q I z
 ·intro Q0q s σ H Q I q
  obtain⟨env,q⟩:=q
  refine Qh h.d Q0q s σ H Q I ⟨env,q.1,?_⟩
  have q2:=q.2
  have go:∀d v H',bG X.K H' d v->(∀d,bG X.K H' d v->∃o,bZ m.fQ d=some o/\Q o H')->∃i,v=.int i/\Q (some i) H':=fun d v H' Dv z=>by
   obtain⟨o,e,z⟩:=z d Dv
   rw[hn]at e
   cases d with
   |int i=>cases e;exact⟨i,Dv,z⟩
   |_=>cases e
  cases r:ev c m env with
  |bad=>rw[r]at q2;exact q2
  |exc k env1=>rw[r]at q2;exact q2
  |ok x env1=>
   rw[r]at q2
   cases x with
   |val d=>exact fun v H' N Dv=>go d v H' Dv (q2 v H' N Dv)
   |new o=>exact fun v H' N Dv=>go o.d v H' Dv (q2 v H' N Dv)
   |ref i=>exact q2
   |tmp o=>exact q2
def yp{fQ:Bool}{d d':D}{o:Option Int}(h:bG K H d v)(e:bZ fQ d=some o)(h':bG K H d' v):bZ fQ d'=some o:=by
 cases fQ with
 |true=>exact e
 |false=>
  cases d with
  |int i=>
   have hv:v=.int i:=h
   subst hv
   cases d' with
   |int j=>cases (show V.int i=V.int j from h');exact e
   |non=>cases (show V.int i=V.non from h')
   |bl b=>cases (show V.int i=V.bl b from h')
   |str x=>cases (show V.int i=V.str x from h')
   |tup ds=>obtain⟨a,vs,z,_⟩:=cJ h';cases z
   |lst ds=>obtain⟨a,vs,z,_⟩:=dH h';cases z
   |cH ks ds=>unfold bG at h';obtain⟨a,o,kvs,z,_⟩:=h';cases z
   |fZ ks ds=>unfold bG at h';obtain⟨a,o,xs,z,_⟩:=h';cases z
  |_=>cases e
def Xz{lo hi:Option Expr}(ha:GE X W c m1 a)(hl:GO X W c m2 lo)(hh:GO X W c m3 hi):GE X W c (.slc m1 m2 m3) (.Subscript a (.Slice lo hi none p2) pos):=by
 intro env
 refine PE.imp (JZ Vv ha.d hl.po hh.po) fun σ H Q q=>?_
 simp only[Ow]at q
 refine⟨env,aU q fun d env1 v H1 N1 D1 q1=>⟨env1,aU q1 fun dl env2 vl H2 N2 D2 q2 dl' D2'=>?_⟩⟩
 cases el:bZ m2.fQ dl with
 |none=>rw[el]at q2;exact q2.2.elim
 |some l=>
  rw[el]at q2
  refine⟨l,yp D2 el D2',env2,aU q2 fun dh env3 vh H3 N3 D3 q3 dh' D3'=>?_⟩
  obtain⟨z,ez,S,q4⟩:=cI q3
  cases eh:bZ m3.fQ dh with
  |none=>rw[eh]at ez;cases ez
  |some h=>
   rw[eh]at ez
   exact⟨h,yp D3 eh D3',zU S (D1.mono (N2.trans N3).pers) ez q4⟩
def acL(X:Cx)(x:Str)(d:D):Prop:=∃v u,X.mg x=some u/\RelV v u/\∀H,bG X.K H d v
def Q6{k:Nat}{d:D}(hk:c.gl k=some d)(h:acL X x d)(hg:Gl X x)(hd:(x==("__debug__":Str))=false):GE X W c (.glob k) (.Name x pos):=by
 obtain⟨v,u,hm,r,hD⟩:=h
 intro env
 refine PE.imp (Qm hg hm r hd) fun σ H Q q=>?_
 simp only[Z9,hk]at q
 exact dY q (hD H)
end
def iH{a:Addr}{u u':HO}(h:H a=some u)(hu:N8 u):bV H (upd H a u'):=by
 refine⟨fun b xs q=>?_,fun b o' w q=>?_⟩
 ·rw[aC (fun z=>by subst z;rw[h]at q;cases q;exact hu.tup xs rfl)];exact q
 ·rw[aC (fun z=>by subst z;rw[h]at q;cases q;exact hu.frz o' w rfl)];exact q
variable{env':Ev}
def qD{k:Nat}{f:Ob->Option Ob}(h:cZ k f env=some env'):∃o o',f o=some o'/\((env[k]? =some (.own o)/\env'=env.set k (.own o'))\/(env[k]? =some (.bor o)/\env'=env.set k (.bor o'))):=by
 unfold cZ at h
 cases e:env[k]? with
 |none=>rw[e]at h;cases h
 |some s=>
  rw[e]at h
  cases s with
  |un=>cases h
  |val d=>cases h
  |own o=>
   cases e2:f o with
   |none=>simp only[e2]at h;cases h
   |some o'=>simp only[e2]at h;cases h;exact⟨o,o',e2,.inl ⟨rfl,rfl⟩⟩
  |bor o=>
   cases e2:f o with
   |none=>simp only[e2]at h;cases h
   |some o'=>simp only[e2]at h;cases h;exact⟨o,o',e2,.inr ⟨rfl,rfl⟩⟩
variable{o':Ob}
def Nx.turn{k:Nat}{sl sl':Sl}{o:Ob}{a:Addr}{u u':HO}(S:Sat K env σ H)(hs:(sl=.own o/\sl'=.own o')\/(sl=.bor o/\sl'=.bor o'))(e:env[k]? =some sl)(es:σ[k]? =some (some (.ref a)))
  (ha:H a=some u)(hu:N8 u)(hd:HX K H o' u'):Nx K env σ H (env.set k sl') (upd H a u'):=by
 have p:=iH (u':=u') ha hu
 have ow:isOwn sl=some o/\isOwn sl'=some o':=by rcases hs with ⟨rfl,rfl⟩|⟨rfl,rfl⟩<;>exact⟨rfl,rfl⟩
 have oa:aN env σ k a:=⟨⟨_,o,e,ow.1⟩,es⟩
 have hi:k<env.length:=(QCz.mp e).1
 have sub:∀j b,aN (env.set k sl') σ j b->aN env σ j b:=fun j b z=>by
  obtain⟨⟨s,ys,e1,e2⟩,e3⟩:=z
  by_cases hj:k=j
  ·subst hj;exact⟨⟨sl,o,e,ow.1⟩,e3⟩
  ·rw[Qxz hj]at e1;exact⟨⟨s,ys,e1,e2⟩,e3⟩
 refine⟨⟨by simpa using S.len,fun j s ej=>?_,fun j l b z w=>S.ne j l b (sub j b z) (sub l b w)⟩,sub,p,fun b w q n=>?_,fun b q=>?_,fun j ys ej=>?_⟩
 ·by_cases hj:k=j
  ·subst hj
   rw[Qwq hi]at ej
   cases ej
   have at_:jA K (upd H a u') o' a:=⟨u',aW,hd.mono p⟩
   rcases hs with ⟨_,rfl⟩|⟨_,rfl⟩
   ·exact⟨a,by rw[es];rfl,at_⟩
   ·exact⟨a,by rw[es];rfl,at_⟩
  ·rw[Qxz hj]at ej
   refine(S.sl j s ej).keep p fun b w ho ev hb=>?_
   have nb:b≠a:=fun z=>by
    subst z
    exact hj (S.ne k j b oa (v6 ej ho ev))
   rw[aC nb];exact hb
 ·rw[aC (fun z=>by subst z;exact n k oa)];exact q
 ·by_cases hb:b=a
  ·subst hb;rw[aW]at q;cases q
  ·rw[aC hb]at q;exact q
 ·by_cases hj:k=j
  ·subst hj
   rw[e]at ej
   cases ej
   rcases hs with ⟨z,_⟩|⟨_,rfl⟩
   ·cases z
   ·exact⟨o',by rw[Qwq hi]⟩
  ·exact⟨ys,by rw[Qxz hj];exact ej⟩
def Cp{k:Nat}{f:Ob->Option Ob}(S:Sat K env σ H)(h:cZ k f env=some env'):
  ∃o o' a u,f o=some o'/\σ[k]? =some (some (.ref a))/\H a=some u/\HX K H o u/\aX k env=some o.d/\∀u',HX K H o' u'->Nx K env σ H env' (upd H a u'):=by
 obtain⟨o,o',ef,hh⟩:=qD h
 rcases hh with ⟨e,rfl⟩|⟨e,rfl⟩
 ·obtain⟨a,e1,u,e2,e3⟩:=S.sl k _ e
  exact⟨o,o',a,u,ef,bY e1,e2,e3,by unfold aX;rw[e],fun u' hd=>Nx.turn S (.inl ⟨rfl,rfl⟩) e (bY e1) e2 e3.uP hd⟩
 ·obtain⟨a,e1,u,e2,e3⟩:=S.sl k _ e
  exact⟨o,o',a,u,ef,bY e1,e2,e3,by unfold aX;rw[e],fun u' hd=>Nx.turn S (.inr ⟨rfl,rfl⟩) e (bY e1) e2 e3.uP hd⟩
def J6{f:List D->Option (List D)}{o:Ob}(h:ue f o=some o'):∃xs ys,o=.lst xs/\f xs=some ys/\o'=.lst ys:=by
 cases o with
 |lst xs=>
  simp only[ue]at h
  cases e:f xs with
  |none=>rw[e]at h;cases h
  |some ys=>rw[e]at h;cases h;exact⟨xs,ys,rfl,e,rfl⟩
 |dct ks vs=>cases h
 |sdt ks vs=>cases h
def xx{k:Nat}{f:List D->Option (List D)}(S:Sat K env σ H)(h:cZ k (ue f) env=some env'):
  ∃xs ys a vs,f xs=some ys/\σ[k]? =some (some (.ref a))/\H a=some (.lst vs)/\au K H xs vs/\aX k env=some (.lst xs)/\∀ws,au K H ys ws->Nx K env σ H env' (upd H a (.lst ws)):=by
 obtain⟨o,o',a,u,ef,es,ha,hd,lk,N⟩:=Cp S h
 obtain⟨xs,ys,rfl,e,rfl⟩:=J6 ef
 obtain⟨vs,rfl,l⟩:=hd
 exact⟨xs,ys,a,vs,e,es,ha,l,lk,fun ws hw=>N _ ⟨ws,rfl,hw⟩⟩
theorem cT.lst{K:QQq}{H:Hp}{xs:List D}{v:V}(h:cT K H (.lst xs) v):∃a vs,v=.ref a/\jm K H a vs/\au K H xs vs:=by
 rcases h with h|⟨o,a,q,rfl,u,ha,hq⟩
 ·obtain⟨a,vs,rfl,hq,l⟩:=dH h
  exact⟨a,vs,rfl,hq.sq,l⟩
 ·cases o<;>cases q
  obtain⟨vs,rfl,l⟩:=hq
  exact⟨a,vs,rfl,.inl (.inl ha),l⟩
structure Ca(X:Cx)(o:Expr)(name:Str)(apos:Pos)(e:Expr)(cpos:Pos):Prop where
 base:attributeBase o name X.env (eval o X.env)=eval o X.env
 line:(apos.endLine==cpos.line)=true
 star:starEach [e] X.env=[(false,eval e X.env)]
variable{i:Int}{j:Nat}
section
variable{X:Cx}{W:Wi}{c:Cf}{m m1 m2 m3:E}{o a b e:Expr}{pos p p2 apos cpos:Pos}{name:Str}
def Ca.few(h:Ca X o name apos e cpos):((backTo cpos (starEach [e] X.env)).all (fun x=> !x.1)&&(backToKw cpos (keywordEach [] X.env)).all (fun x=>x.1.isSome)
   &&decide ([e].length+([]:List Keyword).length+(if ([]:List Keyword).isEmpty then 0 else 1)<30))=true:=by
 rw[h.star];rfl
def Tj{id:String}{r:V->List V->Hp->VK->Prop}{to:TE}{te:TE}(M:Ca X o name apos e cpos)(slot:Slot "list" name id)(hty:typeOf (.builtin id)=pure (.type "method_descriptor"))(hm:MtR X id r)(ho:PE X o to)(he:PE X e te):
  PE X (.Call (.Attribute o name apos) [e] [] cpos) (tBM X.K "list" r to (Jd te aap)):=
 abe PySem.F.plainAttrs_list slot hty hm ho (cM he fL M.star) M.base M.few M.line M.star rfl
def countV{p:D}{x:V}(Dp:bG K H p x)(fp:flat p=true):∀{ds:List D}{vs:List V}{us:List Value},au K H ds vs->Vals vs us->ds.all flat=true->vs.all gU=true/\us.countP (xj x)=fc p ds:=by
 intro ds
 induction ds with
 |nil=>intro vs us l r _;rw[au.bH.mp l]at r⊢;cases r;exact⟨rfl,rfl⟩
 |cons d ds ih=>
  intro vs us l r f
  obtain⟨v,vs',rfl,hd,l'⟩:=au.aL.mp l
  rw[List.all_cons,QUq]at f
  cases r with
  |cons r1 r2=>
   obtain⟨i1,i2⟩:=ih l' r2 f.2
   obtain⟨j1,j2⟩:=wA Dp fp (au.dj hd au.fM) (by simp[f.1])
   simp only[List.all_cons,List.all_nil,Bool.and_true]at j1
   have j3:Mg v x=cL d p:=by simpa[inV,aH]using j2
   refine⟨by rw[List.all_cons,j1,i1];rfl,?_⟩
   rw[List.countP_cons,i2,Bo r1 j1,j3,fc]
   split<;>omega
def PX(K:QQq):V->List V->Hp->VK->Prop:=fun x ys H Q=>∃a vs ds d y,x=.ref a/\ys=[y]/\(jm K H a vs\/iy K H a vs)/\au K H ds vs/\bG K H d y/\flat d=true/\ds.all flat=true/\Q (.int (fc d ds)) H
def LK{d:D}(h:bG K H d v)(f:flat d=true):gU v=true:=by
 cases d with
 |non=>cases h;rfl
 |bl b=>cases h;rfl
 |int i=>cases h;rfl
 |str x=>cases h;rfl
 |_=>cases f
def G3:MtR X "list.count" (fun x ys H Q=>(∃a vs,x=.ref a/\jm X.K H a vs)/\PX X.K x ys H Q):=by
 intro Q0q s σ H x ys v us Q I rx ry h
 obtain⟨⟨a,vs,rfl,hq⟩,a',vs',ds,d,y,e1,rfl,hq',l,hd,f1,f2,q⟩:=h
 cases e1
 cases rx
 obtain⟨u,rfl,ru⟩:=Vals.one ry
 have hv:vs'=vs:=by
  rcases hq' with z|z
  ·exact I.yG z hq
  ·obtain⟨_,_,⟨o,e,c,_⟩,_⟩:=I.tuple z
   obtain⟨_,_,⟨o',_,e',c',_⟩,_⟩:=I.list hq
   rw[e]at e';cases e';rw[c]at c';injection c' with z;exact absurd z (by decide)
 subst hv
 obtain⟨its,r,pl,hz⟩:=I.list hq
 obtain⟨⟨cls,dd,data,sl⟩,n,ho,hc,hdd,hdt⟩:=id pl
 simp only at hc hdt
 subst hc hdt
 obtain⟨g1,g2⟩:=countV hd f1 l r f2
 refine call_meets PySem.F.slot_list_count ⟨_,ho,rfl⟩ PySem.F.entry_list_count (PySem.F.args_list_count_2 _ _) (SeqAt.list_countAt a its.toArray n dd sl u (xj y)) ⟨ho,fun w hw=>gq ru (LK hd f1) r g1 w (by simpa using hw),?_⟩
 refine⟨.int (fc d ds),H,I.tok _,⟨s.toks,?_⟩,q⟩
 rw[show its.toArray.toList=its from rfl,g2]
def GZ:MtR X "tuple.count" (fun x ys H Q=>(∃a vs,x=.ref a/\iy X.K H a vs)/\PX X.K x ys H Q):=by
 intro Q0q s σ H x ys v us Q I rx ry h
 obtain⟨⟨a,vs,rfl,hq⟩,a',vs',ds,d,y,e1,rfl,hq',l,hd,f1,f2,q⟩:=h
 cases e1
 cases rx
 obtain⟨u,rfl,ru⟩:=Vals.one ry
 have hv:vs'=vs:=by
  rcases hq' with z|z
  ·obtain⟨_,_,⟨o,e,c,_⟩,_⟩:=I.tuple hq
   obtain⟨_,_,⟨o',_,e',c',_⟩,_⟩:=I.list z
   rw[e]at e';cases e';rw[c]at c';injection c' with z;exact absurd z (by decide)
  ·exact I.uw z hq
 subst hv
 obtain⟨its,r,pl,hz⟩:=I.tuple hq
 obtain⟨⟨cls,dd,data,sl⟩,ho,hc,n,hdt⟩:=id pl
 simp only at hc hdt
 subst hc hdt
 obtain⟨g1,g2⟩:=countV hd f1 l r f2
 refine call_meets PySem.F.slot_tuple_count ⟨_,ho,rfl⟩ PySem.F.entry_tuple_count (PySem.F.args_tuple_count_2 _ _) (SeqAt.tuple_countAt a its.toArray n dd sl u (xj y)) ⟨ho,fun w hw=>gq ru (LK hd f1) r g1 w (by simpa using hw),?_⟩
 refine⟨.int (fc d ds),H,I.tok _,⟨s.toks,?_⟩,q⟩
 rw[show its.toArray.toList=its from rfl,g2]
def aet(K:QQq)(to te:TE):TE:=fun σ H Q=>to σ H fun x H1=>∃a vs,x=.ref a/\((jm K H1 a vs/\te σ H1 fun y H2=>(∃a vs,x=.ref a/\jm K H2 a vs)/\PX K x [y] H2 Q)\/(iy K H1 a vs/\te σ H1 fun y H2=>(∃a vs,x=.ref a/\iy K H2 a vs)/\PX K x [y] H2 Q))
def Wc{to te:TE}(M:Ca X o "count" apos e cpos)(ho:PE X o to)(he:PE X e te):PE X (.Call (.Attribute o "count" apos) [e] [] cpos) (aet X.K to te):=by
 intro Q0q s σ H Q I h
 refine wpAny_Call_method_late M.base M.few M.line rfl (cA (ho Q0q s σ H _ I h) fun v s1⟨x,H1,I1,r1,a,vs,ex,q1⟩=>?_)
 subst ex
 cases r1
 have arg:∀{id:String}{r:V->List V->Hp->VK->Prop},MtR X id r->(te σ H1 fun y H2=>r (.ref a) [y] H2 Q)->wpAny (model X.prog X.w) X.A (callWith cpos (.builtin id) [.ref a] (backTo cpos (starEach [e] X.env)) (backToKw cpos (keywordEach [] X.env))) (EP X Q0q σ Q) X.xe s1:=fun{id r}hm z=>by
  have hA:=cM (X:=X) he fL M.star cpos Q0q s1 σ H1 (fun vs H2=>r (.ref a) vs H2 Q) I1 z
  rw[M.star]at hA⊢
  exact Calls.callWith_builtin rfl (Calls.evalArgs_plain (cA hA fun us s2⟨vs,H2,I2,r2,q2⟩=>hm Q0q s2 σ H2 (.ref a) vs (.ref a) us Q I2 rfl r2 q2))
 rcases q1 with ⟨hq,z⟩|⟨hq,z⟩
 ·obtain⟨its,r,pl,hz⟩:=I1.list hq
  refine⟨"list","list.count",PySem.F.plainAttrs_list,PySem.F.slot_list_count,PySem.F.type_list_count,pl.isList.typeIs,fun b eb=>?_,arg G3 z⟩
  cases eb
  obtain⟨o,n,e,c,hd,_⟩:=pl
  exact⟨o,e,hd⟩
 ·obtain⟨its,r,⟨o,eo,ec,hd,n,dt⟩,hz⟩:=I1.zN hq
  refine⟨"tuple","tuple.count",PySem.F.plainAttrs_tuple,PySem.F.slot_tuple_count,PySem.F.type_tuple_count,⟨o,eo,ec⟩,fun b eb=>?_,arg GZ z⟩
  cases eb
  exact⟨o,eo,hd⟩
def Lx(M:Ca X o "count" apos e cpos)(ho:GE X W c m1 o)(he:GE X W c m2 e):GE X W c (.count m1 m2) (.Call (.Attribute o "count" apos) [e] [] cpos):=by
 intro env
 refine PE.imp (Wc M ho.d he.d) fun σ H Q q=>?_
 simp only[Oo]at q
 refine⟨env,aU q fun d env1 v H1 N1 D1 q1=>?_⟩
 cases d with
 |tup xs=>
  simp only[bB,Option.isNone_some,Qxq,if_false]at q1
  obtain⟨a,vs,rfl,hq,l⟩:=cJ D1
  refine⟨a,vs,rfl,.inr ⟨hq,env1,aU q1 fun d2 env2 y H2 N2 D2 q2=>?_⟩⟩
  obtain⟨z,ez,S,q3⟩:=cI q2
  simp only[wR]at ez
  split at ez
  ·rename_i hf
   cases ez
   rw[QUq]at hf
   exact⟨⟨a,vs,rfl,N2.pers.Gb hq⟩,a,vs,xs,d2,y,rfl,rfl,.inr (N2.pers.Gb hq),l.mono N2.pers,D2,hf.1,hf.2,q3 _ H2 (Nx.refl S) rfl⟩
  ·cases ez
 |lst xs=>
  simp only[bB,Option.isNone_some,Qxq,if_false]at q1
  obtain⟨a,vs,rfl,hq,l⟩:=dH D1
  refine⟨a,vs,rfl,.inl ⟨hq.sq,env1,aU q1 fun d2 env2 y H2 N2 D2 q2=>?_⟩⟩
  obtain⟨z,ez,S,q3⟩:=cI q2
  simp only[wR]at ez
  split at ez
  ·rename_i hf
   cases ez
   rw[QUq]at hf
   exact⟨⟨a,vs,rfl,(N2.pers.X6 hq).sq⟩,a,vs,xs,d2,y,rfl,rfl,.inl (N2.pers.X6 hq).sq,l.mono N2.pers,D2,hf.1,hf.2,q3 _ H2 (Nx.refl S) rfl⟩
  ·cases ez
 |_=>exact q1.2.elim
def K3{n:Nat}(h:ix? n i=some j)(hn:n<=sizeLine): -(2 ^63)<=i/\i<2 ^63/\seqIndex? i n=some j/\j<n:=by
 have hl:sizeLine=16777216:=sizeLine_eq
 unfold ix? at h
 by_cases h0:i<0
 ·simp only[h0,if_true]at h
  by_cases hj:0<=i+(n:Int)/\i+(n:Int)<n
  ·rw[if_pos hj]at h
   have e:(i+(n:Int)).toNat=j:=QEq h
   exact⟨by omega,by omega,by rw[seqIndex_neg (by omega) (by omega),e],by omega⟩
  ·rw[if_neg hj]at h;cases h
 ·simp only[h0,if_false]at h
  by_cases hj:0<=i/\i< (n:Int)
  ·rw[if_pos hj]at h
   have e:i.toNat=j:=QEq h
   exact⟨by omega,by omega,by rw[seqIndex_of (by omega) (by omega),e],by omega⟩
  ·rw[if_neg hj]at h;cases h
def rT{d:Option D}(h:dX d=true):∃xs,d=some (.lst xs):=by
 cases d with
 |none=>cases h
 |some d=>cases d with
  |lst xs=>exact⟨xs,rfl⟩
  |_=>cases h
def WT(k k':Key):cL (cQ k') (cQ k)=decide (k'=k):=by
 cases k'<;>cases k<;>simp[cQ,cL,Bool.beq_eq_decide_eq]
def Lw{k:Nat}(M:Ca X (.Name x p) "pop" apos e cpos)(nm:jn X k x)(he:GE X W c m e):GE X W c (.popAt k m) (.Call (.Attribute (.Name x p) "pop" apos) [e] [] cpos):=by
 intro env Q0q s σ H Q I q
 refine PE.imp (Tj M PySem.F.slot_list_pop PySem.F.type_list_pop Kp nm.pe he.d) (t':=fun σ' H' Q'=>σ'=σ/\H'=H/\Q'=Q) (fun σ' H' Q'⟨e1,e2,e3⟩=>?_) Q0q s σ H Q I ⟨rfl,rfl,rfl⟩
 subst e1 e2 e3
 simp only[Om]at q
 cases hl:dX (aX k env)with
 |false=>rw[hl]at q;exact q.2.elim
 |true=>
  rw[hl]at q
  simp only[Bool.not_true,Qxq,if_false]at q
  obtain⟨xs0,e0⟩:=rT hl
  obtain⟨u,eu,Du⟩:=eF q.1 e0
  obtain⟨a0,vs0,rfl,hq0,l0⟩:=Du.lst
  refine⟨.ref a0,eu,.inl ⟨rfl,vs0,hq0⟩,env,aU q fun d env1 y H1 N1 D1 q1=>?_⟩
  unfold rA at q1
  cases d with
  |int i=>
   cases e1:aX k env1 with
   |none=>rw[e1]at q1;exact q1.2.elim
   |some d1=>
    rw[e1]at q1
    cases d1 with
    |lst xs=>
     simp only at q1
     cases hz:fits xs.length with
     |false=>rw[hz]at q1;exact q1.2.elim
     |true=>
     rw[hz]at q1
     simp only[Bool.not_true,Qxq,if_false]at q1
     cases e2:ix? xs.length i with
     |none=>rw[e2]at q1;exact q1.2.elim
     |some j=>
      rw[e2]at q1
      simp only at q1
      cases e3:xs[j]? with
      |none=>rw[e3]at q1;exact q1.2.elim
      |some dd=>
       cases e4:cZ k (ue fun xs=>some (xs.eraseIdx j)) env1 with
       |none=>rw[e3,e4]at q1;exact q1.2.elim
       |some env2=>
        rw[e3,e4]at q1
        obtain⟨zs,ys,a,vs,ef,es,ha,l,lk,N⟩:=xx q1.1 e4
        rw[e1]at lk
        cases lk
        cases ef
        rw[eu]at es
        cases es
        have D1':y=.int i:=D1
        subst D1'
        obtain⟨w,ew,dw⟩:=l.get e3
        obtain⟨b1,b2,b3,b4⟩:=K3 e2 (eN hz)
        refine⟨a0,vs,i,j,w,rfl,rfl,ha,b1,b2,by rw[<-l.length];exact b3,ew,?_⟩
        exact q1.2 w _ (N _ (l.eraseIdx j)) (dw.mono (N _ (l.eraseIdx j)).pers)
    |_=>exact q1.2.elim
  |_=>exact q1.2.elim
def Hn{k:Nat}(M:Ca X (.Name x p) "append" apos e cpos)(nm:jn X k x)(he:GE X W c m e):GS X W c (.append k m) (.Expr (.Call (.Attribute (.Name x p) "append" apos) [e] [] cpos) pos):=by
 intro env
 refine PS.imp (CQ (Tj M PySem.F.slot_list_append PySem.F.type_list_append uU nm.pe he.d) rfl) fun D σ H q=>?_
 simp only[x_9]at q
 cases hl:dX (aX k env)with
 |false=>rw[hl]at q;exact q.2.elim
 |true=>
  rw[hl]at q
  simp only[Bool.not_true,Qxq,if_false]at q
  obtain⟨xs0,e0⟩:=rT hl
  obtain⟨u,eu,Du⟩:=eF q.1 e0
  obtain⟨a0,vs0,rfl,hq0,l0⟩:=Du.lst
  refine⟨.ref a0,eu,.inl ⟨rfl,vs0,hq0⟩,env,qJ q fun d env1 y H1 N1 D1 q1=>?_⟩
  cases e4:cZ k (ue fun xs=>if fits (xs.length+1)then some (xs++[d])else none) env1 with
  |none=>rw[e4]at q1;exact q1.2.elim
  |some env2=>
   rw[e4]at q1
   obtain⟨zs,ys,a,vs,ef,es,ha,l,lk,N⟩:=xx q1.1 e4
   rw[eu]at es
   cases es
   split at ef
   ·rename_i hf
    cases ef
    have l2:=l.append (au.dj D1 au.fM)
    have:=eN hf
    refine⟨a0,vs,y,rfl,rfl,ha,by rw[<-l.length];omega,q1.2 _ _ (N _ l2).z⟩
   ·cases ef
def S9:V->V->V->Hp->(Hp->Prop)->Prop:=fun o i v H Q=>∃a H',o=.ref a/\Ce H a i v H'/\Q H'
def O7(hu:X.A.units+1<cLine):Nt X S9:=by
 intro Q0q s σ H o i v ov iv u Q I ro ri rv h
 obtain⟨a,H',rfl,g,q⟩:=h
 cases ro
 exact Hv hu I g ri rv fun s4 I4=>⟨H',I4,q⟩
def S7(K:QQq):V->V->V->Hp->(Hp->Prop)->Prop:=fun o i v H Q=>∃d a k xs,o=.ref d/\i=.ref a/\H d=some (.dS xs)/\(∀x∈xs,cF K H x.1 x.2.1)/\cF K H k a/\xs.length<sizeLine/\Q (upd H d (.dS (ud k a v xs)))
def Vw(hu:X.A.units+2<cLine):Nt X (S7 X.K):=by
 intro Q0q s σ H o i v ov iv u Q I ro ri rv h
 obtain⟨d,a,k,xs,rfl,rfl,hd,hk,ka,hl,q⟩:=h
 cases ro
 cases ri
 exact Gi hu I hd hk ka hl rv fun s4 I4=>⟨_,I4,q⟩
def aa2(K:QQq):V->V->V->Hp->(Hp->Prop)->Prop:=fun o i v H Q=>S8 o i v H Q\/S9 o i v H Q\/S7 K o i v H Q
def O8(hu:X.A.units+2<cLine):Nt X (aa2 X.K):=by
 intro Q0q s σ H o i v ov iv u Q I ro ri rv h
 rcases h with h|h|h
 ·exact set_list Q0q s σ H o i v ov iv u Q I ro ri rv h
 ·exact O7 (by omega) Q0q s σ H o i v ov iv u Q I ro ri rv h
 ·exact Vw hu Q0q s σ H o i v ov iv u Q I ro ri rv h
def Xa{n:Nat}(h:ix? n i=some j):QV n i=some j:=by
 unfold ix? at h
 unfold QV
 by_cases h0:i<0
 ·simp only[h0,if_true]at h
  rw[if_neg (by omega)]
  by_cases hj:0<=i+(n:Int)/\i+(n:Int)<n
  ·rw[if_pos hj]at h;rw[if_pos (by omega)];exact h
  ·rw[if_neg hj]at h;cases h
 ·simp only[h0,if_false]at h
  rw[if_pos (by omega)]
  by_cases hj:0<=i/\i< (n:Int)
  ·rw[if_pos hj]at h;rw[if_pos hj.2];exact h
  ·rw[if_neg hj]at h;cases h
theorem xU{K:QQq}{H:Hp}{k:Key}{d:D}{v:V}(hv:bG K H d v):∀{kvs:List (Key×V)}{ds:List D},au K H ds (kvs.map (·.2))->
  au K H (uI (cQ k) d (kvs.map fun p=>cQ p.1) ds) ((kvs.map fun kv=>if kv.1=k then(kv.1,v)else kv).map (·.2))
 |[],ds,l=>by
  rw[List.map_nil]at l
  have:ds=[]:=by have:=l.length;cases ds<;>simp_all
  subst this
  exact au.fM
 |(k',u)::r,ds,l=>by
  rw[Qyz]at l
  cases ds with
  |nil=>have:=l.length;simp at this
  |cons x ds=>
   obtain⟨w,ws,e,h1,h2⟩:=au.aL.mp l
   cases e
   have ih:=xU (k:=k) hv h2
   simp only[Qyz,uI,WT]
   by_cases q:k'=k
   ·simp only[q,decide_true,if_true]
    exact au.dj hv ih
   ·simp only[q,decide_false,Qxq,if_false]
    exact au.dj h1 ih
theorem uH{k:Key}{v:V}:∀(kvs:List (Key×V)),(kvs.map fun kv=>if kv.1=k then(kv.1,v)else kv).map (fun p=>cQ p.1)=kvs.map fun p=>cQ p.1
 |[]=>rfl
 |(k',u)::r=>by
  simp only[Qyz,uH r]
  split<;>rfl
def CP{k:Key}{d:D}(hv:bG K H d v){kvs:List (Key×V)}{ds:List D}(l:au K H ds (kvs.map (·.2))):
  (putD (cQ k) d (kvs.map fun p=>cQ p.1) ds).1=(putK kvs k v).map (fun p=>cQ p.1)/\au K H (putD (cQ k) d (kvs.map fun p=>cQ p.1) ds).2 ((putK kvs k v).map (·.2)):=by
 unfold putD putK
 rw[<-j9,<-qy]
 split
 ·rename_i h
  exact⟨(uH kvs).symm,xU hv l⟩
 ·refine⟨by simp,?_⟩
  rw[List.map_append]
  exact l.append (au.dj hv au.fM)
theorem SX{K:QQq}{H:Hp}{k:SK}{d:D}{v:V}(hv:bG K H d v):∀{xs:List SV}{ds:List D},au K H ds (xs.map (·.2.2))->
  au K H (uI (eU k) d (xs.map fun x=>eU x.1) ds) ((xs.map fun x=>if x.1=k then(x.1,x.2.1,v)else x).map (·.2.2))
 |[],ds,l=>by
  have:ds=[]:=by have:=l.length;cases ds<;>simp_all
  subst this
  exact au.fM
 |x::r,ds,l=>by
  rw[Qyz]at l
  cases ds with
  |nil=>have:=l.length;simp at this
  |cons z ds=>
   obtain⟨w,ws,e,h1,h2⟩:=au.aL.mp l
   cases e
   have ih:=SX (k:=k) hv h2
   simp only[Qyz,uI,Bm]
   by_cases q:x.1=k
   ·simp only[q,decide_true,if_true]
    exact au.dj hv ih
   ·simp only[q,decide_false,Qxq,if_false]
    exact au.dj h1 ih
theorem qT{k:SK}{v:V}:∀xs:List SV,(xs.map fun x=>if x.1=k then(x.1,x.2.1,v)else x).map (fun x=>eU x.1)=xs.map fun x=>eU x.1
 |[]=>rfl
 |x::r=>by
  simp only[Qyz,qT r]
  split<;>rfl
def V1{k:SK}{a:Addr}{d:D}(hv:bG K H d v)(ka:cF K H k a){xs:List SV}{ds:List D}(hk:∀x∈xs,cF K H x.1 x.2.1)(l:au K H ds (xs.map (·.2.2))):
  (putD (eU k) d (xs.map fun x=>eU x.1) ds).1=(ud k a v xs).map (fun x=>eU x.1)/\(∀x∈ud k a v xs,cF K H x.1 x.2.1)/\au K H (putD (eU k) d (xs.map fun x=>eU x.1) ds).2 ((ud k a v xs).map (·.2.2)):=by
 unfold putD ud
 rw[Eb]
 split
 ·refine⟨(qT xs).symm,fun x hx=>?_,SX hv l⟩
  obtain⟨y,hy,rfl⟩:=QDq.mp hx
  split
  ·exact hk y hy
  ·exact hk y hy
 ·refine⟨by simp,fun x hx=>?_,?_⟩
  ·rcases QXz.mp hx with z|z
   ·exact hk x z
   ·rw[QDz.mp z];exact ka
  ·rw[List.map_append]
   exact l.append (au.dj hv au.fM)
theorem Lp{k:Nat}{ix:E}{ixe:Expr}{tp:Pos}(nm:jn X k x)(he:GE X W c m e)(hi:GE X W c ix ixe)
  (ha:∀v,assign (.Subscript (.Name x p) ixe tp) X.env v=(do
   let ov<-holding [v] (eval (.Name x p) X.env)
   let iv<-holding [v,ov] (eval ixe X.env)
   standAt tp
   holding [v,ov,iv] (setItem ov iv v)
   release [v,ov,iv] []))
  (hs:swapsWithSole [.Subscript (.Name x p) ixe tp] e pos.line X.env=pure false)(hw:swappedStores [.Subscript (.Name x p) ixe tp] e X.env=pure none)(hu:X.A.units+2<cLine)
  (h1:(assignEach [.Subscript (.Name x p) ixe tp] X.env).map (·.2)=[assign (.Subscript (.Name x p) ixe tp) X.env]):
  GS X W c (.setIx k ix m) (.Assign [.Subscript (.Name x p) ixe tp] e pos):=by
 intro env
 refine PS.imp (JR he.d (V6 nm.pe hi.d (O8 hu) ha) hs hw h1) fun D σ H q=>?_
 simp only[x_7]at q
 refine⟨env,qJ q fun d env1 v H1 N1 D1 q1=>?_⟩
 cases e0:aX k env1 with
 |none=>rw[e0]at q1;exact q1.2.elim
 |some d0=>
  rw[e0]at q1
  simp only[Option.isNone_some,Qxq,if_false]at q1
  obtain⟨u,eu,Du⟩:=eF q1.1 e0
  refine⟨u,eu,env1,qJ q1 fun d2 env2 y H2 N2 D2 q2=>?_⟩
  cases e4:cZ k (rn d2 d) env2 with
  |none=>rw[e4]at q2;exact q2.2.elim
  |some env3=>
   rw[e4]at q2
   obtain⟨o,o',a,w,ef,es,hA,hd,lk,N⟩:=Cp q2.1 e4
   rw[eu]at es
   cases es
   cases o with
   |lst xs=>
    obtain⟨vs,rfl,l⟩:=hd
    cases d2 with
    |int i=>
     simp only[rn]at ef
     cases e5:ix? xs.length i with
     |none=>rw[e5]at ef;cases ef
     |some j=>
      rw[e5]at ef
      cases ef
      have D2':y=.int i:=D2
      subst D2'
      exact .inl ⟨a,vs,i,j,rfl,rfl,hA,by rw[<-l.length];exact Xa e5,q2.2 _ _ (N _ ⟨_,rfl,l.set (D1.mono N2.pers) j⟩).z⟩
    |_=>cases ef
   |dct ks ds=>
    obtain⟨kvs,rfl,rfl,l⟩:=hd
    simp only[rn]at ef
    split at ef
    ·rename_i hk
     rw[QUq]at hk
     cases ef
     obtain⟨kk,rfl⟩:=gk hk.1
     have ek:=lq D2
     subst ek
     obtain⟨g1,g2⟩:=CP (k:=kk) (D1.mono N2.pers) l
     have hf:=eN hk.2
     rw[QAq]at hf
     exact .inr (.inl ⟨a,_,rfl,Ce.k hA (by omega),q2.2 _ _ (N _ ⟨_,rfl,g1,g2⟩).z⟩)
    ·cases ef
   |sdt ks ds=>
    obtain⟨xs,rfl,rfl,hks,l⟩:=hd
    simp only[rn]at ef
    split at ef
    ·rename_i hk
     rw[QUq]at hk
     cases ef
     obtain⟨kk,rfl⟩:=jQ hk.1
     obtain⟨b,rfl,kb⟩:=qL D2
     obtain⟨g1,g2,g3⟩:=V1 (D1.mono N2.pers) kb hks l
     have hf:=eN hk.2
     rw[QAq]at hf
     exact .inr (.inr ⟨a,b,kk,xs,rfl,rfl,hA,hks,kb,by omega,q2.2 _ _ (N _ ⟨_,rfl,g1,g2,g3⟩).z⟩)
    ·cases ef
end
section
variable{X:Cx}{W:Wi}{c:Cf}{m m1 m2 m3:E}{o a b e:Expr}{pos p p2 apos cpos:Pos}{name:Str}
def Xo(he:GE X W c m e)(hv:∀k,m.aB=some k->∃x p,e=.Name x p/\jn X k x):GS X W c (.ret m) (.Return (some e) pos):=by
 intro env
 have plain:∀D σ H,tS X.K W env ((ev c m env).fl n6) D σ H->aam (aM X W c m) D σ H:=fun D σ H q=>by
  refine⟨env,Sw q fun x env1 v H1 N z q1=>?_⟩
  cases x with
  |val d=>exact q1.2 v σ H1 N.z z
  |new o=>
   obtain⟨a,e1,e2,e3⟩:=z
   exact q1.2 v σ H1 N.z ⟨a,e1,e2,.inl e3⟩
  |ref i=>exact q1.2.elim
  |tmp o=>exact q1.2.elim
 cases q0:m.aB with
 |none=>exact PS.imp (oA he.am) fun D σ H q=>plain D σ H (by simpa only[zK,q0]using q)
 |some k=>
  cases e0:env[k]? with
  |none=>exact PS.imp (oA he.am) fun D σ H q=>plain D σ H (by simpa only[zK,q0,e0]using q)
  |some sl=>
   cases sl with
   |un=>exact PS.imp (oA he.am) fun D σ H q=>plain D σ H (by simpa only[zK,q0,e0]using q)
   |val d=>exact PS.imp (oA he.am) fun D σ H q=>plain D σ H (by simpa only[zK,q0,e0]using q)
   |bor o=>exact PS.imp (oA he.am) fun D σ H q=>plain D σ H (by simpa only[zK,q0,e0]using q)
   |own o=>
    obtain⟨x,p,rfl,nm⟩:=hv k q0
    refine PS.imp (oA nm.pe) fun D σ H q=>?_
    simp only[zK,q0,e0]at q
    obtain⟨a,e1,e2⟩:=q.1.sl k _ e0
    have es:=bY e1
    have hi:k<env.length:=(QCz.mp e0).1
    have sub:∀j b,aN (env.set k .un) σ j b->aN env σ j b:=fun j b z=>by
     obtain⟨⟨s,ys,z1,z2⟩,z3⟩:=z
     by_cases hj:k=j
     ·subst hj;rw[Qwq hi]at z1;cases z1;cases z2
     ·rw[Qxz hj]at z1;exact⟨⟨s,ys,z1,z2⟩,z3⟩
    refine⟨.ref a,es,q.2 (.ref a) σ H ⟨⟨by simpa using q.1.len,fun j s ej=>?_,fun j l b z w=>q.1.ne j l b (sub j b z) (sub l b w)⟩,fun j b z=>.inl (sub j b z),bV.refl H,fun _ _ z _=>z,fun _ z=>z,fun j ys ej=>?_⟩ ⟨a,rfl,e2,.inr ⟨k,o,e0,es⟩⟩⟩
    ·by_cases hj:k=j
     ·subst hj;rw[Qwq hi]at ej;cases ej;trivial
     ·rw[Qxz hj]at ej;exact q.1.sl j s ej
    ·have hj:k≠j:=fun z=>by subst z;rw[e0]at ej;cases ej
     exact⟨⟨ys,by rw[Qxz hj];exact ej⟩,rfl⟩
def Q4:GS X W c (.ret ABh) (.Return none pos):=fun env=>PS.imp Qf fun D σ H q=>by
 simp only[zK,E.aB,v_0,v_1,Z9,v_3,v_4,Z8,v_6,YM,Z7,Ol,vN,Ip,Io,Fz,Ow,U9,Ov,Im,Il,Ou,Ot,nR,Oq,Ik,Oo,Om,lH,Out.fl,n6]at q
 exact q.2 .non σ H (Nz.refl q.1) rfl
theorem lL(lo:Int):∀(n i:Nat)(d:D),(bJ lo n)[i]? =some d->d=.int (lo+i)/\i<n
 |0,i=>fun d h=>by simp[bJ]at h
 |n+1,0=>fun d h=>by simp[bJ]at h;exact⟨by rw[<-h];simp,by omega⟩
 |n+1,i+1=>fun d h=>by
  rw[bJ,List.getElem?_cons_succ]at h
  obtain⟨e,l⟩:=lL (lo+1) n i d h
  refine⟨by rw[e];congr 1;push_cast;omega,by omega⟩
theorem lK(lo:Int):∀n,(bJ lo n).length=n
 |0=>rfl
 |n+1=>by rw[bJ,QBq,lK]
theorem yU{lo:Int}{n:Nat}(hz:n<=sizeLine):Gives K (Itr lo n) (bJ lo n) H where
 go:=fun H1 p i d e=>(lL lo n i d e).2
 yld:=fun H1 p i d e x H2 y=>by
  obtain⟨rfl,rfl⟩:=y
  rw[(lL lo n i d e).1]
  exact⟨rfl,.inl rfl⟩
 stop:=fun H1 p i hi=>by rw[lK]at hi;exact hi
 len:=by rw[lK];exact hz
def Ks(h:zH i=true): -(2 ^62)<=i/\i<2 ^62:=by
 simp only[zH,QUz]at h
 omega
def Hr{tg:Expr}(ha:GE X W c m a)(hg:Gl X "range")(hm:X.mg "range"=none)(hs:starEach [a] X.env=[(false,eval a X.env)]):GI X W c (.range1 m) tg (.Call (.Name "range" p) [a] [] pos):=by
 intro env Q0q s σ H R I q
 refine GD hg hm (cM ha.d fL hs) hs Q0q s σ H R I ⟨env,q.1,?_⟩
 have q2:=q.2
 simp only[Oq]at q2
 have go:∀d env1 v H',Nx X.K env σ H env1 H'->bG X.K H' d v->(match (lift env1 (match d with|.int n=>if fits n.toNat&&zH n then some (Rv.val (.lst (bJ 0 n.toNat)))else none|_=>none))with
   |.ok x env'=>∃d xs,x.jy=some d/\items d=some xs/\∀J H',Nx X.K env σ H env' H'->Gives X.K J xs H'->R J H'
   |.exc c env'=>∀H',Nx X.K env σ H env' H'->W c env' σ H'
   |.bad=>False)->∃j:Int,[v]=[.int j]/\ -(2 ^62)<=j/\j<2 ^62/\R (Itr 0 j.toNat) H':=fun d env1 v H' N Dv z=>by
  cases d with
  |int n=>
   simp only at z
   by_cases hf:(fits n.toNat&&zH n)=true
   ·rw[if_pos hf]at z
    rw[QUq]at hf
    obtain⟨d',xs,e1,e2,z⟩:=z
    cases e1
    cases e2
    have hv:v=.int n:=Dv
    subst hv
    exact⟨n,rfl,(Ks hf.2).1,(Ks hf.2).2,z _ H' N (yU (eN hf.1))⟩
   ·rw[if_neg hf]at z;exact z.elim
  |_=>exact z.elim
 cases r:ev c m env with
 |bad=>rw[r]at q2;exact q2
 |exc k env1=>rw[r]at q2;exact q2
 |ok x env1=>
  rw[r]at q2
  cases x with
  |val d=>exact fun v H' N Dv=>go d env1 v H' N Dv q2
  |new o=>exact fun v H' N Dv=>go o.d env1 v H' N Dv q2
  |ref i=>exact q2
  |tmp o=>exact q2
theorem ju.z{K:QQq}{tg:Tg}{env env':Ev}{σ σ':St}{H:Hp}(st:ju K tg env σ env' σ' H):Nz K env σ H env' σ' H:=
 ⟨st.fH,fun i a z=>.inl (st.sub z),bV.refl _,fun _ _ z _=>z,fun _ z=>z,fun i xs e=>⟨⟨xs,(st.same i (st.bors i xs e)).1.trans e⟩,(st.same i (st.bors i xs e)).2⟩⟩
theorem Cq{f:Fl}{g:Ev->Fl}{D:Ends}{N:St->Hp->Prop}(q:tS K W env (f.turn g) D σ H)
  (k:∀env2 σ2 H2,Nz K env σ H env2 σ2 H2->tS K W env2 (g env2) D σ2 H2->N σ2 H2):tS K W env f {D with nx:=N,ct:=N,bk:=D.nx} σ H:=by
 refine⟨q.1,?_⟩
 cases f with
 |next env2=>exact fun σ2 H2 N2=>k env2 σ2 H2 N2 (qI q N2)
 |cont env2=>exact fun σ2 H2 N2=>k env2 σ2 H2 N2 (qI q N2)
 |brk env2=>exact q.2
 |ret r env2=>exact q.2
 |exc j env2=>exact q.2
 |bad=>exact q.2
theorem Xp{tg:Tg}{tgE iterE:Expr}{it:E}{b:S}{body:List Stmt}(hp:PassesOwn (model X.prog X.w) X.A X.env X.xe)(hc:X.calm=true)(hi:GI X W c it tgE iterE)(hg:GG X tg tgE)(hb:N7 X W c b body)
  (hs:∀x,foldedSetIterable iterE X.env x=pure x):GS X W c (.for_ tg it b) (.For tgE iterE body [] pos):=by
 intro env Q0q s σ H D I q
 have P:=V4 (pos:=pos) hp hc (wi:=fun σ' H' R=>σ'=σ/\H'=H/\tI X.K W env (ev c it env) σ H R) (fun Q0q s σ' H' R I'⟨e1,e2,z⟩=>by subst e1 e2;exact hi env Q0q s _ _ R I' z) hg (tb:=fun D σ H=>∃env,tS X.K W env (ex c b env) D σ H) (fun Q0q s σ H D I⟨env,z⟩=>hb env Q0q s σ H D I z) hs
 refine P Q0q s σ H D I ⟨rfl,rfl,?_⟩
 simp only[aeh]at q
 have tur:∀env1 xs J H1,Nx X.K env σ H env1 H1->Gives X.K J xs H1->tS X.K W env1 (aY tg (ex c b) xs env1) D σ H1->∃W':Nat->Nat->St->Hp->Prop,(∃m,W' 0 m σ H1)/\∀i m σ H,W' i m σ H->
   (J.stop i H/\D.nx σ H)\/(J.go i H/\∃N:St->Hp->Prop,(∀σ' H',N σ' H'->∃m',m'<m/\W' (i+1) m' σ' H')/\∀x H',J.yld i H x H'->tG X.K tg x σ H' fun σ2 H2=>∃env,tS X.K W env (ex c b env) {D with nx:=N,ct:=N,bk:=D.nx} σ2 H2):=fun env1 xs J H1 N1 G z=>by
  refine⟨fun i m σ' H'=>i<=xs.length/\m=xs.length-i/\bV H1 H'/\∃env',tS X.K W env' (aY tg (ex c b) (xs.drop i) env') D σ' H',⟨xs.length,QIq _,by simp,bV.refl _,env1,z⟩,?_⟩
  rintro i m σ' H' ⟨hi,rfl,pe,env',z⟩
  by_cases hl:i<xs.length
  ·obtain⟨d,hd⟩:∃d,xs[i]? =some d:=⟨xs[i],by simp[hl]⟩
   rw[vy hd,aY]at z
   cases e:bw tg d env' with
   |none=>rw[e]at z;exact z.2.elim
   |some env2=>
    rw[e]at z
    simp only at z
    refine .inr ⟨G.go H' pe i d hd,fun σ2 H2=>bV H1 H2/\∃env3,tS X.K W env3 (aY tg (ex c b) (xs.drop (i+1)) env3) D σ2 H2,fun σ2 H2⟨p2,w⟩=>⟨xs.length- (i+1),by omega,hl,rfl,p2,w⟩,fun x H2 y=>?_⟩
    obtain⟨Dx,lay⟩:=G.yld H' pe i d hd x H2 y
    have N2:=z.1.lay lay
    refine⟨env',d,env2,N2.fH,Dx,e,fun σ2 st=>⟨env2,Cq (qI z (N2.z.trans st.z)) fun env3 σ3 H3 N3 w=>⟨(pe.trans N2.pers).trans N3.pers,env3,w⟩⟩⟩
  ·have e:i=xs.length:=by omega
   subst e
   rw[List.drop_length,aY]at z
   exact .inl ⟨G.stop H' pe _ (QVz _),z.2 σ' H' (Nz.refl z.1)⟩
 refine⟨q.1,?_⟩
 have go:∀(x:Rv)env1 d,x.jy=some d->(match (match items d with|some xs=>aY tg (ex c b) xs env1|none=>Fl.bad)with
   |.next env'=>∀σ' H',Nz X.K env σ H env' σ' H'->D.nx σ' H'
   |.ret r env'=>∀v σ' H',Nz X.K env σ H env' σ' H'->Nr X.K env σ H H' r v->D.rt v H'
   |.brk env'=>∀σ' H',Nz X.K env σ H env' σ' H'->D.bk σ' H'
   |.cont env'=>∀σ' H',Nz X.K env σ H env' σ' H'->D.ct σ' H'
   |.exc c env'=>∀σ' H',Nz X.K env σ H env' σ' H'->W c env' σ' H'
   |.bad=>False)->∃d xs,x.jy=some d/\items d=some xs/\∀J H',Nx X.K env σ H env1 H'->Gives X.K J xs H'->∃W':Nat->Nat->St->Hp->Prop,(∃m,W' 0 m σ H')/\∀i m σ H,W' i m σ H->
   (J.stop i H/\D.nx σ H)\/(J.go i H/\∃N:St->Hp->Prop,(∀σ' H',N σ' H'->∃m',m'<m/\W' (i+1) m' σ' H')/\∀x H',J.yld i H x H'->tG X.K tg x σ H' fun σ2 H2=>∃env,tS X.K W env (ex c b env) {D with nx:=N,ct:=N,bk:=D.nx} σ2 H2):=fun x env1 d ed z=>by
  cases e1:items d with
  |none=>rw[e1]at z;exact z.elim
  |some xs=>
   rw[e1]at z
   exact⟨d,xs,ed,e1,fun J H1 N G=>tur env1 xs J H1 N G (qI (env:=env) (σ:=σ) (H:=H) ⟨q.1,z⟩ N.z)⟩
 have q2:=q.2
 cases r:ev c it env with
 |bad=>rw[r]at q2;exact q2
 |exc k env1=>rw[r]at q2;exact fun H' N=>q2 σ H' N.z
 |ok x env1=>
  rw[r]at q2
  cases x with
  |val d=>exact go _ env1 d rfl q2
  |new o=>exact go _ env1 o.d rfl q2
  |ref i=>exact q2.elim
  |tmp o=>exact q2.elim
def Ln{t:E}{te:Expr}{b:S}{body:List Stmt}(hp:PassesOwn (model X.prog X.w) X.A X.env X.xe)(ht:GT X W c t te)(hb:N7 X W c b body):GS X W c (.while_ t b) (.While te body [] pos):=by
 intro env
 refine PS.imp (JQ hp ht (tb:=fun D σ H=>∃env,tS X.K W env (ex c b env) D σ H) (fun Q0q s σ H D I⟨env,z⟩=>hb env Q0q s σ H D I z)) fun D σ H q=>?_
 simp only[aeg]at q
 refine⟨fun n σ' H'=>∃env',tS X.K W env' (bL (ev c t) (ex c b) n env') D σ' H',⟨c.turns,env,q⟩,?_⟩
 rintro n σ1 H1 ⟨env1,q1⟩
 cases n with
 |zero=>exact q1.2.elim
 |succ n=>
  rw[bL]at q1
  refine⟨env1,Jc q1 fun k env2 H2 N2 q2=>?_⟩
  cases k with
  |true=>
   rw[if_pos rfl]at q2⊢
   refine⟨fun σ' H'=>∃env',tS X.K W env' (bL (ev c t) (ex c b) n env') D σ' H',fun σ' H' w=>⟨n,Nat.lt_succ_self n,w⟩,env2,Cq q2 fun env3 σ3 H3 N3 w=>⟨env3,w⟩⟩
  |false=>
   rw[if_neg Qjz]at q2⊢
   exact q2.2 σ1 H2 (Nz.refl q2.1)
end
structure Cz(K:QQq)(ps:List Sl)(vs:List V)(H:Hp)(qs:List Sl)(H':Hp):Prop where
 bor:∀(i:Nat)o,ps[i]? =some (.bor o)->∃o' a,qs[i]? =some (.bor o')/\vs[i]? =some (.ref a)/\jA K H' o' a
 pers:bV H H'
 keep:∀b u,H b=some u->(∀i,¬aN ps (vs.map some) i b)->H' b=some u
 dom:∀b,H' b=none->H b=none
def agt(K:QQq)(H H':Hp):Rv->V->Prop
 |.val d,v=>bG K H' d v
 |.new q,v=>∃a,v=.ref a/\jA K H' q a/\H a=none
 |_,_=>False
def noOwn(ps:List Sl):Prop:=∀(i:Nat)o,ps[i]? ≠some (.own o)
def tX(K:QQq)(n:Nat)(f:List Sl->Res):Sp:=fun vs H Q _=>∃ps,vs.length=n/\Sat K ps (vs.map some) H/\noOwn ps/\match f ps with
 |.ok r qs=>∀v H',Cz K ps vs H qs H'->agt K H H' r v->Q v H'
 |.exc _ qs=>∀H',Cz K ps vs H qs H'->False
 |.bad=>False
variable{ps:List Sl}
def v5{i k:Nat}{b:Addr}(hl:ps.length=vs.length):aN (ps++List.replicate k .un) (vs.map some++List.replicate k none) i b↔aN ps (vs.map some) i b:=by
 constructor
 ·rintro ⟨⟨s,o,e1,e2⟩,e3⟩
  by_cases hi:i<ps.length
  ·rw[Qwz hi]at e1
   rw[Qwz (by simpa[<-hl]using hi)]at e3
   exact⟨⟨s,o,e1,e2⟩,e3⟩
  ·rw[QIz (by omega),List.getElem?_replicate]at e1
   split at e1
   ·cases e1;cases e2
   ·cases e1
 ·rintro ⟨⟨s,o,e1,e2⟩,e3⟩
  have hi:i<ps.length:=(QCz.mp e1).1
  exact⟨⟨s,o,by rw[Qwz hi];exact e1,e2⟩,by rw[Qwz (by simpa[<-hl]using hi)];exact e3⟩
def Sat.pad(S:Sat K ps (vs.map some) H)(k:Nat):Sat K (ps++List.replicate k .un) (vs.map some++List.replicate k none) H:=by
 have hl:ps.length=vs.length:=by simpa using S.len
 refine⟨by simp[hl],fun i s e=>?_,fun i j a h1 h2=>S.ne i j a ((v5 hl).mp h1) ((v5 hl).mp h2)⟩
 by_cases hi:i<ps.length
 ·rw[Qwz hi]at e
  rw[Qwz (by simpa[<-hl]using hi)]
  exact S.sl i s e
 ·rw[QIz (by omega),List.getElem?_replicate]at e
  split at e
  ·cases e;trivial
  ·cases e
def Nz.cz{H':Hp}{k n:Nat}{σ':St}(S:Sat K ps (vs.map some) H)(hn:vs.length=n)(N:Nz K (ps++List.replicate k .un) (vs.map some++List.replicate k none) H env' σ' H'):Cz K ps vs H (env'.take n) H':=by
 have hl:ps.length=vs.length:=by simpa using S.len
 refine⟨fun i o e=>?_,N.pers,fun b u hb no=>N.keep b u hb fun i z=>no i ((v5 hl).mp z),N.dom⟩
 have hi:i<ps.length:=(QCz.mp e).1
 obtain⟨⟨o',e1⟩,e2⟩:=N.bors i o (by rw[Qwz hi];exact e)
 obtain⟨a,z1,z2⟩:=N.fH.sl i _ e1
 rw[e2,Qwz (by simpa[<-hl]using hi),QFz]at z1
 refine⟨o',a,by rw[List.getElem?_take_of_lt (by omega)];exact e1,?_,z2⟩
 cases q:vs[i]? with
 |none=>rw[q]at z1;cases z1
 |some v=>rw[q]at z1;simp at z1;rw[z1]
section
variable{P:Program}{w:World}{K:QQq}{mg:QZz}{base:Heap}
theorem Rc{qual:Str}{st:Stmt}{f:Addr}{fd:FuncData}{N ps:List Str}{k:Nat}{c:Cf}{g:Fn}(F:Yx K x qual st f fd)(S:lA N ps (bu st))(hp:g.pars=ps.length)(hn:g.names=N.length)
  (hb:∀(cdv:Value)(A:Around)(outer:List Env)(s:Shared)(H:Hp)(E:XK),jz k (A.deeper (PyProof.Rows.envOfC qual (bu st) s.heap.objs.size f cdv))->N7 (Bq H9 P w K mg base N qual (bu st) f cdv A outer s H E).nox W0 c g.body (dI st)):
  pC P w K mg base H9 (k+1) f fd ps (tX K ps.length (iG c g)):=by
 refine F.ok S (fun vs H Q E h=>?_) (fun cdv A outer s H vs Q E hr h=>?_)
 ·obtain⟨_,h,_⟩:=h
  exact h
 ·obtain⟨sl,hl,S0,no,q⟩:=h
  refine⟨_,hb cdv A outer s H E hr (sl++List.replicate (g.names-g.pars) .un),?_⟩
  have hlen:sl.length=vs.length:=by simpa using S0.len
  have hst:L2.start N vs=vs.map some++List.replicate (g.names-g.pars) none:=by
   unfold L2.start
   rw[hn,hp,hl]
  have e0:iG c g sl=match ex c g.body (sl++List.replicate (g.names-g.pars) .un)with
    |.next σ=>.ok (.val .non) (σ.take g.pars)
    |.ret r σ=>.ok r (σ.take g.pars)
    |.exc k σ=>.exc k (σ.take g.pars)
    |_=>.bad:=by
   unfold iG
   rw[if_pos (by rw[hp,<-hl,hlen])]<;>cases ex c g.body (sl++List.replicate (g.names-g.pars) .un)<;>rfl
  rw[e0]at q
  rw[hst]
  refine⟨S0.pad _,?_⟩
  have hg:vs.length=g.pars:=by rw[hl,hp]
  cases r:ex c g.body (sl++List.replicate (g.names-g.pars) .un)with
  |next env'=>rw[r]at q;exact fun σ' H' N=>q .non H' (N.cz S0 hg) rfl
  |ret rv env'=>
   rw[r]at q
   refine fun v σ' H' N z=>q v H' (N.cz S0 hg) ?_
   cases rv with
   |val d=>exact z
   |new o=>
    obtain⟨a,e1,e2,e3⟩:=z
    refine⟨a,e1,e2,?_⟩
    rcases e3 with e3|⟨i,ys,e3,_⟩
    ·exact e3
    ·by_cases hi:i<sl.length
     ·rw[Qwz hi]at e3
      exact absurd e3 (no i ys)
     ·rw[QIz (by omega),List.getElem?_replicate]at e3
      split at e3<;>cases e3
   |ref i=>exact z.elim
   |tmp o=>exact z.elim
  |brk env'=>rw[r]at q;exact q.elim
  |cont env'=>rw[r]at q;exact q.elim
  |exc j env'=>rw[r]at q;exact fun σ' H' N=>q H' (N.cz S0 hg)
  |bad=>rw[r]at q;exact q.elim
end
inductive En(K:QQq)(env:Ev)(σ:St)(H0 H:Hp):List Rv->List Sl->List V->Prop
 |nil:En K env σ H0 H [] [] []
 |val {d:D} {v:V} {rs:List Rv} {ps:List Sl} {vs:List V}:bG K H d v->En K env σ H0 H rs ps vs->En K env σ H0 H (.val d::rs) (.val d::ps) (v::vs)
 |tmp {o:Ob} {a:Addr} {rs:List Rv} {ps:List Sl} {vs:List V}:jA K H o a->H0 a=none->(∀q,Rv.tmp q∉rs)->En K env σ H0 H rs ps vs->En K env σ H0 H (.tmp o::rs) (.bor o::ps) (.ref a::vs)
 |ref {o:Ob} {j:Nat} {a:Addr} {s:Sl} {rs:List Rv} {ps:List Sl} {vs:List V}:env[j]? =some s->isOwn s=some o->σ[j]? =some (some (.ref a))->jA K H o a->Rv.ref j∉rs->En K env σ H0 H rs ps vs->En K env σ H0 H (.ref j::rs) (.bor o::ps) (.ref a::vs)
variable{rs:List Rv}
section
variable{K:QQq}{env env1 env2:Ev}{σ:St}{H0 H H2:Hp}
theorem jT(S:Sat K env σ H):∀{rs:List Rv}{ps:List Sl}{vs:List V},enter rs env=some ps->iM K σ H0 H rs vs->En K env σ H0 H rs ps vs
 |[],ps,vs,h,r=>by
  cases h
  have:vs=[]:=r
  subst this
  exact .nil
 |x::rs,ps,vs,h,r=>by
  obtain⟨v,vr,rfl,h1,h2⟩:=r
  cases x with
  |val d=>
   simp only[enter]at h
   cases e:enter rs env with
   |none=>rw[e]at h;cases h
   |some ps'=>rw[e]at h;cases h;exact .val h1 (jT S e h2)
  |new o=>cases h
  |tmp o=>
   simp only[enter]at h
   split at h
   ·cases h
   ·rename_i hn
    cases e:enter rs env with
    |none=>rw[e]at h;cases h
    |some ps'=>
     rw[e]at h
     cases h
     obtain⟨a,rfl,oa,ha⟩:=h1
     refine .tmp oa ha (fun q hq=>hn ?_) (jT S e h2)
     exact List.any_eq_true.mpr ⟨_,hq,rfl⟩
  |ref j=>
   simp only[enter]at h
   split at h
   ·cases h
   ·rename_i hn
    have nr:Rv.ref j∉rs:=fun hq=>hn (List.any_eq_true.mpr ⟨_,hq,by simp[jb]⟩)
    cases e1:env[j]? with
    |none=>rw[e1]at h;cases h
    |some s=>
     rw[e1]at h
     have h1':σ[j]? =some (some v):=h1
     cases s with
     |un=>cases h
     |val d=>cases h
     |own o=>
      cases e:enter rs env with
      |none=>simp only[e]at h;cases h
      |some ps'=>
       simp only[e]at h
       cases h
       obtain⟨a,z1,z2⟩:=S.sl j _ e1
       rw[h1']at z1
       cases z1
       exact .ref e1 rfl h1' z2 nr (jT S e h2)
     |bor o=>
      cases e:enter rs env with
      |none=>simp only[e]at h;cases h
      |some ps'=>
       simp only[e]at h
       cases h
       obtain⟨a,z1,z2⟩:=S.sl j _ e1
       rw[h1']at z1
       cases z1
       exact .ref e1 rfl h1' z2 nr (jT S e h2)
def En.len(h:En K env σ H0 H rs ps vs):ps.length=vs.length/\rs.length=vs.length:=by
 induction h with
 |nil=>exact⟨rfl,rfl⟩
 |val _ _ ih=>simp[ih.1,ih.2]
 |tmp _ _ _ _ ih=>simp[ih.1,ih.2]
 |ref _ _ _ _ _ _ ih=>simp[ih.1,ih.2]
theorem En.noOwn{rs:List Rv}{ps:List Sl}{vs:List V}(h:En K env σ H0 H rs ps vs):noOwn ps:=by
 induction h with
 |nil=>intro i o e;simp at e
 |val _ _ ih=>intro i o e;cases i with
  |zero=>simp at e
  |succ i=>exact ih i o (by simpa using e)
 |tmp _ _ _ _ ih=>intro i o e;cases i with
  |zero=>simp at e
  |succ i=>exact ih i o (by simpa using e)
 |ref _ _ _ _ _ _ ih=>intro i o e;cases i with
  |zero=>simp at e
  |succ i=>exact ih i o (by simpa using e)
def En.lent(h:En K env σ H0 H rs ps vs):∀{i:Nat}{a:Addr},aN ps (vs.map some) i a->(∃o,rs[i]? =some (.tmp o)/\H0 a=none)\/∃j,rs[i]? =some (.ref j)/\aN env σ j a:=by
 induction h with
 |nil=>rintro i a ⟨⟨s,o,e,_⟩,_⟩;simp at e
 |val _ _ ih=>
  rintro i a ⟨⟨s,o,e1,e2⟩,e3⟩
  cases i with
  |zero=>simp at e1;subst e1;cases e2
  |succ i=>simpa using ih ⟨⟨s,o,by simpa using e1,e2⟩,by simpa using e3⟩
 | @tmp o b rs ps vs oa h0 _ _ ih=>
  rintro i a ⟨⟨s,o',e1,e2⟩,e3⟩
  cases i with
  |zero=>
   simp at e3
   subst e3
   exact .inl ⟨o,rfl,h0⟩
  |succ i=>simpa using ih ⟨⟨s,o',by simpa using e1,e2⟩,by simpa using e3⟩
 | @ref o j b s rs ps vs e1 e2 e3 oa nr _ ih=>
  rintro i a ⟨⟨s',o',z1,z2⟩,z3⟩
  cases i with
  |zero=>
   simp at z3
   subst z3
   exact .inr ⟨j,rfl,⟨⟨s,o,e1,e2⟩,e3⟩⟩
  |succ i=>simpa using ih ⟨⟨s',o',by simpa using z1,z2⟩,by simpa using z3⟩
def En.fH{env0:Ev}(S0:Sat K env0 σ H0)(S:Sat K env σ H)(sub:∀(i:Nat)a,aN env σ i a->aN env0 σ i a)(h:En K env σ H0 H rs ps vs):Sat K ps (vs.map some) H:=by
 refine⟨by simpa using h.len.1,?_,?_⟩
 ·clear S0 sub
  induction h with
  |nil=>intro i s e;simp at e
  |val hd _ ih=>
   intro i s e
   cases i with
   |zero=>simp at e;subst e;exact⟨_,rfl,hd⟩
   |succ i=>simpa using ih i s (by simpa using e)
  |tmp oa _ _ _ ih=>
   intro i s e
   cases i with
   |zero=>simp at e;subst e;exact⟨_,rfl,oa⟩
   |succ i=>simpa using ih i s (by simpa using e)
  |ref _ _ _ oa _ _ ih=>
   intro i s e
   cases i with
   |zero=>simp at e;subst e;exact⟨_,rfl,oa⟩
   |succ i=>simpa using ih i s (by simpa using e)
 ·--no two slots have one address
  have fresh:∀a,H0 a=none->∀j,¬aN env σ j a:=fun a ha j z=>S0.lO ha j (sub j a z)
  induction h with
  |nil=>rintro i j a ⟨⟨s,o,e,_⟩,_⟩;simp at e
  |val hd t ih=>
   rintro i j a ⟨⟨s,o,e1,e2⟩,e3⟩ ⟨⟨s',o',e1',e2'⟩,e3'⟩
   cases i with
   |zero=>simp at e1;subst e1;cases e2
   |succ i=>cases j with
    |zero=>simp at e1';subst e1';cases e2'
    |succ j=>rw[ih i j a ⟨⟨s,o,by simpa using e1,e2⟩,by simpa using e3⟩ ⟨⟨s',o',by simpa using e1',e2'⟩,by simpa using e3'⟩]
  | @tmp o b rs ps vs oa h0 nt t ih=>
   have clash:∀i,¬aN ps (vs.map some) i b:=fun i z=>by
    rcases t.lent z with ⟨q,e,_⟩|⟨q,_,ow⟩
    ·exact nt q (QBz e)
    ·exact fresh b h0 q ow
   rintro i j a ⟨⟨s,o,e1,e2⟩,e3⟩ ⟨⟨s',o',e1',e2'⟩,e3'⟩
   cases i with
   |zero=>
    simp at e3
    subst e3
    cases j with
    |zero=>rfl
    |succ j=>exact absurd ⟨⟨s',o',by simpa using e1',e2'⟩,by simpa using e3'⟩ (clash j)
   |succ i=>cases j with
    |zero=>
     simp at e3'
     subst e3'
     exact absurd ⟨⟨s,o,by simpa using e1,e2⟩,by simpa using e3⟩ (clash i)
    |succ j=>rw[ih i j a ⟨⟨s,o,by simpa using e1,e2⟩,by simpa using e3⟩ ⟨⟨s',o',by simpa using e1',e2'⟩,by simpa using e3'⟩]
  | @ref o k b s0 rs ps vs z1 z2 z3 oa nr t ih=>
   have ok:aN env σ k b:=⟨⟨s0,o,z1,z2⟩,z3⟩
   have clash:∀i,¬aN ps (vs.map some) i b:=fun i z=>by
    rcases t.lent z with ⟨q,e,h0⟩|⟨q,e,ow⟩
    ·exact fresh b h0 k ok
    ·have:=S.ne k q b ok ow
     subst this
     exact nr (QBz e)
   rintro i j a ⟨⟨s,o,e1,e2⟩,e3⟩ ⟨⟨s',o',e1',e2'⟩,e3'⟩
   cases i with
   |zero=>
    simp at e3
    subst e3
    cases j with
    |zero=>rfl
    |succ j=>exact absurd ⟨⟨s',o',by simpa using e1',e2'⟩,by simpa using e3'⟩ (clash j)
   |succ i=>cases j with
    |zero=>
     simp at e3'
     subst e3'
     exact absurd ⟨⟨s,o,by simpa using e1,e2⟩,by simpa using e3⟩ (clash i)
    |succ j=>rw[ih i j a ⟨⟨s,o,by simpa using e1,e2⟩,by simpa using e3⟩ ⟨⟨s',o',by simpa using e1',e2'⟩,by simpa using e3'⟩]
end
def Sl.Ds(o':Ob):Sl->Option Sl
 |.own _=>some (.own o')
 |.bor _=>some (.bor o')
 |_=>none
def Iu(h:cZ j (fun _=>some o') env=some env'):∃s s',env[j]? =some s/\s.Ds o'=some s'/\env'=env.set j s':=by
 obtain⟨o,q,e,hh⟩:=qD h
 cases e
 rcases hh with ⟨e,rfl⟩|⟨e,rfl⟩
 ·exact⟨_,_,e,rfl,rfl⟩
 ·exact⟨_,_,e,rfl,rfl⟩
theorem oW:∀{rs:List Rv}{qs:List Sl}{env env2:Ev},giveBack rs qs env=some env2->env2.length=env.length/\∀j:Nat,
  ((∀i:Nat,rs[i]? ≠some (Rv.ref j))/\env2[j]? =env[j]?)\/∃(i:Nat)(o':Ob)(s s':Sl),rs[i]? =some (.ref j)/\qs[i]? =some (.bor o')/\env[j]? =some s/\s.Ds o'=some s'/\env2[j]? =some s'
 |[],[],env,env2,h=>by
  cases h
  exact⟨rfl,fun j=>.inl ⟨fun i=>by simp,rfl⟩⟩
 |[],_::_,env,env2,h=>by cases h
 |x::rs,[],env,env2,h=>by cases x<;>cases h
 |x::rs,q::qs,env,env2,h=>by
  have skip:giveBack rs qs env=some env2->(∀j,x≠ .ref j)->env2.length=env.length/\∀j:Nat,
    ((∀i:Nat,(x::rs)[i]? ≠some (Rv.ref j))/\env2[j]? =env[j]?)\/∃(i:Nat)(o':Ob)(s s':Sl),(x::rs)[i]? =some (.ref j)/\(q::qs)[i]? =some (.bor o')/\env[j]? =some s/\s.Ds o'=some s'/\env2[j]? =some s':=fun h nx=>by
   obtain⟨l,g⟩:=oW h
   refine⟨l,fun j=>?_⟩
   rcases g j with ⟨g1,g2⟩|⟨i,o',s,s',g1,g2,g3⟩
   ·refine .inl ⟨fun i e=>?_,g2⟩
    cases i with
    |zero=>simp at e;exact nx j e
    |succ i=>exact g1 i (by simpa using e)
   ·exact .inr ⟨i+1,o',s,s',by simpa using g1,by simpa using g2,g3⟩
  cases x with
  |val d=>exact skip h fun j z=>by cases z
  |new o=>exact skip h fun j z=>by cases z
  |tmp o=>exact skip h fun j z=>by cases z
  |ref k=>
   cases q with
   |bor o=>
    change Option.bind (cZ k (fun _=>some o) env) (giveBack rs qs)=some env2 at h
    cases e:cZ k (fun _=>some o) env with
    |none=>rw[e]at h;cases h
    |some env1=>
     rw[e]at h
     obtain⟨s0,s1,z1,z2,rfl⟩:=Iu e
     have hk:k<env.length:=(QCz.mp z1).1
     obtain⟨l,g⟩:=oW h
     refine⟨by simpa using l,fun j=>?_⟩
     rcases g j with ⟨g1,g2⟩|⟨i,o',s,s',g1,g2,g3,g4,g5⟩
     ·by_cases hj:k=j
      ·subst hj
       rw[Qwq hk]at g2
       exact .inr ⟨0,o,s0,s1,rfl,rfl,z1,z2,g2⟩
      ·rw[Qxz hj]at g2
       refine .inl ⟨fun i e=>?_,g2⟩
       cases i with
       |zero=>simp at e;exact hj e
       |succ i=>exact g1 i (by simpa using e)
     ·by_cases hj:k=j
      ·subst hj
       rw[Qwq hk]at g3
       cases g3
       refine .inr ⟨i+1,o',s0,s',by simpa using g1,by simpa using g2,z1,?_,g5⟩
       cases s0 with
       |own q=>cases z2;exact g4
       |bor q=>cases z2;exact g4
       |un=>cases z2
       |val d=>cases z2
      ·rw[Qxz hj]at g3
       exact .inr ⟨i+1,o',s,s',by simpa using g1,by simpa using g2,g3,g4,g5⟩
   |un=>cases h
   |val d=>cases h
   |own o=>cases h
def Kz{s s':Sl}(h:s.Ds o'=some s'):(∃o,isOwn s=some o)/\isOwn s'=some o':=by
 cases s with
 |own q=>cases h;exact⟨⟨q,rfl⟩,rfl⟩
 |bor q=>cases h;exact⟨⟨q,rfl⟩,rfl⟩
 |un=>cases h
 |val d=>cases h
section
variable{K:QQq}{env0 env env2:Ev}{σ:St}{H0 H H2:Hp}{rs:List Rv}{ps qs:List Sl}{vs:List V}
def En.VD(h:En K env σ H0 H rs ps vs):∀{i j:Nat},rs[i]? =some (.ref j)->∃o a,ps[i]? =some (.bor o)/\vs[i]? =some (.ref a)/\σ[j]? =some (some (.ref a)):=by
 induction h with
 |nil=>intro i j e;simp at e
 |val _ _ ih=>intro i j e;cases i with
  |zero=>simp at e
  |succ i=>simpa using ih (by simpa using e)
 |tmp _ _ _ _ ih=>intro i j e;cases i with
  |zero=>simp at e
  |succ i=>simpa using ih (by simpa using e)
 | @ref o k a s rs ps vs e1 e2 e3 oa nr t ih=>
  intro i j e
  cases i with
  |zero=>simp at e;subst e;exact⟨o,a,rfl,rfl,e3⟩
  |succ i=>simpa using ih (by simpa using e)
def Rt(S0:Sat K env0 σ H0)(N:Nx K env0 σ H0 env H)(E:En K env σ H0 H rs ps vs)(C:Cz K ps vs H qs H2)(g:giveBack rs qs env=some env2):Nx K env0 σ H0 env2 H2:=by
 have S:=N.fH
 have sub:=N.sub
 obtain⟨gl,gs⟩:=oW g
 have fresh:∀a,H0 a=none->∀j,¬aN env σ j a:=fun a ha j z=>S0.lO ha j (sub j a z)
 have own2:∀j b,aN env2 σ j b->aN env σ j b:=fun j b z=>by
  obtain⟨⟨s,o,e1,e2⟩,e3⟩:=z
  rcases gs j with ⟨_,g2⟩|⟨i,o',s0,s1,_,_,g3,g4,g5⟩
  ·rw[g2]at e1;exact⟨⟨s,o,e1,e2⟩,e3⟩
  ·obtain⟨⟨q,hq⟩,_⟩:=Kz g4
   exact⟨⟨s0,q,g3,hq⟩,e3⟩
 have notLent:∀j b,aN env σ j b->(∀i:Nat,rs[i]? ≠some (Rv.ref j))->∀i,¬aN ps (vs.map some) i b:=fun j b ow nr i z=>by
  rcases E.lent z with ⟨q,_,h0⟩|⟨k,e,ow'⟩
  ·exact fresh b h0 j ow
  ·have:=S.ne j k b ow ow'
   subst this
   exact nr i e
 refine⟨⟨by rw[gl];exact S.len,fun j s e=>?_,fun j k b z w=>S.ne j k b (own2 j b z) (own2 k b w)⟩,fun j b z=>sub j b (own2 j b z),N.pers.trans C.pers,fun b u hb no=>C.keep b u (N.keep b u hb no) fun i z=>?_,fun b z=>N.dom b (C.dom b z),fun j xs e=>?_⟩
 ·rcases gs j with ⟨g1,g2⟩|⟨i,o',s0,s1,g1,g2,g3,g4,g5⟩
  ·rw[g2]at e
   refine(S.sl j s e).keep C.pers fun b u ho ev hb=>?_
   exact C.keep b u hb (notLent j b (v6 e ho ev) g1)
  ·rw[g5]at e
   cases e
   obtain⟨o,a,p1,p2,p3⟩:=E.VD g1
   obtain⟨o'',a',c1,c2,c3⟩:=C.bor i o p1
   rw[g2]at c1
   cases c1
   rw[p2]at c2
   cases c2
   cases s0 with
   |own q=>cases g4;exact⟨a,by rw[p3];rfl,c3⟩
   |bor q=>cases g4;exact⟨a,by rw[p3];rfl,c3⟩
   |un=>cases g4
   |val d=>cases g4
 ·rcases E.lent z with ⟨q,_,h0⟩|⟨k,e,ow⟩
  ·rw[h0]at hb;cases hb
  ·exact no k (sub k b ow)
 ·obtain⟨xs,e⟩:=N.bors j xs e
  rcases gs j with ⟨g1,g2⟩|⟨i,o',s0,s1,g1,g2,g3,g4,g5⟩
  ·exact⟨xs,by rw[g2];exact e⟩
  ·rw[e]at g3
   cases g3
   cases g4
   exact⟨o',g5⟩
end
section
variable{X:Cx}{W:Wi}{c:Cf}{m:E}{e:Expr}{es:List Expr}{pos p:Pos}{CX:H8}{k:Nat}{f:Addr}{fd:FuncData}{ps:List Str}{x:Str}{g:Nat}
theorem Ra(F:pC X.prog X.w X.K X.mg X.base H9 k f fd ps (tX X.K ps.length (c.fn g)))(hr:jz k X.A)(hg:Gl X x)(hm:X.mg x=some (.ref f))(hk:PySem.W.keepIn X.K (.ref f)=true)(hb:Binds X.K fd ps [])
  (hd:(x==("__debug__":Str))=false)(ha:GA X W c m (e::es))(he:starEach (e::es) X.env=(false,eval e X.env)::starEach es X.env)(hpl:(backTo pos (starEach es X.env)).any (·.1)=false)(hn:∀sl,c.fn g sl=.bad\/sl.length=ps.length):
  GE X W c (.call g m) (.Call (.Name x p) (e::es) [] pos):=by
 intro env Q0q s σ H Q I q
 refine Qp F hr hg hm hk hb .nil abg (t:=fun σ' H' R=>σ'=σ/\H'=H/\Sx X.K W env (evs c m env) σ H R) (fun p Q0q s σ' H' R I'⟨e1,e2,z⟩=>by subst e1 e2;exact ha env p Q0q s _ _ R I' z) hd he hpl Q0q s σ H Q I ⟨rfl,rfl,?_⟩
 simp only[Ov]at q
 obtain⟨S,q⟩:=q
 refine⟨S,?_⟩
 cases r:evs c m env with
 |bad=>rw[r]at q;exact q
 |exc j env1=>rw[r]at q;exact q
 |ok rs env1=>
  rw[r]at q
  simp only[Out.bind,tB]at q
  intro vs H1 N rv
  rw[List.append_nil]
  cases e1:enter rs env1 with
  |none=>rw[e1]at q;exact q.elim
  |some sl=>
   rw[e1]at q
   simp only at q
   have E:=jT N.fH e1 rv
   refine⟨sl,?_,E.fH S N.fH N.sub,E.noOwn,?_⟩
   ·rcases hn sl with z|z
    ·rw[z]at q;exact q.elim
    ·rw[<-E.len.1,z]
   ·cases e2:c.fn g sl with
    |bad=>rw[e2]at q;exact q.elim
    |ok rv qs=>
     rw[e2]at q
     simp only at q
     intro v H2 C z
     cases e3:giveBack rs qs env1 with
     |none=>rw[e3]at q;exact q.elim
     |some env2=>
      rw[e3]at q
      refine q v H2 (Rt S N E C e3) ?_
      cases rv with
      |val d=>exact z
      |new o=>obtain⟨a,z1,z2,z3⟩:=z;exact⟨a,z1,z2,N.dom a z3⟩
      |ref i=>exact z.elim
      |tmp o=>exact z.elim
    |exc j qs=>rw[e2]at q;exact q.elim
end
def Gk(c:Cf)(g:Fn)(sl:List Sl):iG c g sl=.bad\/sl.length=g.pars:=by
 unfold iG
 split
 ·exact .inr (by assumption)
 ·exact .inl rfl
end Mini
end
section
namespace Mini
open PySem L2 PyProof.Rows
def pP(b:Bool)(h:Heap)(it l:Addr)(k:Nat):Prop:=match b with|true=>h.IsListIter it l k|false=>h.IsTupleIter it l k
def xm(b:Bool)(h:Heap)(l:Addr)(xs:Array Value):Prop:=match b with|true=>h.IsList l xs|false=>h.IsTuple l xs
variable{b:Bool}{h h':Heap}{it l:Addr}
def pP.at{k:Nat}(x:pP b h it l k)(e:∀o,h.get? it=some o->h'.get? it=some o):pP b h' it l k:=by
 cases b<;>exact Exists.elim x fun o⟨h1,h2⟩=>⟨o,e o h1,h2⟩
variable{xs:Array Value}
def xm.at(x:xm b h l xs)(e:∀o,h.get? l=some o->h'.get? l=some o):xm b h' l xs:=by
 cases b<;>exact Exists.elim x fun o⟨h1,h2⟩=>⟨o,e o h1,h2⟩
def pP.obj{k:Nat}(x:pP b h it l k):∃o,h.get? it=some o/\∀v,o.data≠ .cell v:=by
 cases b<;>exact Exists.elim x fun o⟨h1,_,h2⟩=>⟨o,h1,fun v z=>by rw[h2]at z;cases z⟩
def pP.lt{k:Nat}(x:pP b h it l k):it<h.objs.size:=let ⟨_,e,_⟩:=x.obj;Qqz e
variable{Q:QZq}{i:Nat}{x:Value}
section
variable{prog:Program}{w:World}{A:Around}{E:QZq}{s:Shared}
def mV{items}(hit:s.heap.IsTupleIter it l i)
  (hl:s.heap.IsTuple l items)(hx:items[i]? =some x)
  (hQ:∀h',h'.IsTupleIter it l (i+1)->Heap.SameBut it s.heap h'->Q x {s with heap:=h'}):
  wpAny (model prog w) A (Builtin.SmallTypes.nextOf (.ref it)) Q E s:=by
 obtain⟨o,ho,hc,hd⟩:=id hit
 obtain⟨ol,hol,_,nl,hdl⟩:=hl
 unfold Builtin.SmallTypes.nextOf
 refine QKq (wpAny_callSpecial?_slot (name:=Str.ofString "__next__") hit.typeIs PySem.F.slot_tuple_iterator_next
  (Qzz PySem.F.slot_tuple_iterator_next hit.typeIs PySem.F.entry_tuple_iterator_next ?_ (PySem.F.args_tuple_iterator_next_1 _)))
 show wpAny _ _ (field (.ref it) 0>>=_) _ _ s
 refine QKq (QGz ho hd (x:=.ref l) rfl ?_)
 show wpAny _ _ (if (Value.ref l==Value.none)=true then _ else _) _ _ s
 rw[if_neg (show¬((Value.ref l==Value.none)=true)from Qjz)]
 show wpAny _ _ (field (.ref it) 1>>=_) _ _ s
 refine QKq (QGz ho hd (x:=.int i 0) rfl ?_)
 show wpAny _ _ (seqItems? (.ref l)>>=_) _ _ s
 refine QKq (wpAny_seqItems hol hdl ?_)
 simp only[Int.toNat_natCast,hx]
 refine QKq (wpAny_setField ho hd (by simp) (QKz ⟨x,rfl,QKz (hQ _ ?_ (Heap.SameBut.update ..))⟩))
 exact⟨_,Heap.get?_update_self _ ho (Obj.isFreed_of_fields (Obj.data_mapFields hd _)),(Obj.cls_mapFields ..).trans hc,by
  rw[Obj.data_mapFields hd];simp[rawInt]⟩
def oH{items}(hh:A.handled=none)
  (hit:s.heap.IsTupleIter it l i)(hl:s.heap.IsTuple l items)(hx:items[i]? =none)
  (hE:∀h' e,Heap.ExtBut it s.heap h'->(∃o,h'.get? e=some o/\o.cls=.type "StopIteration")->E (.ref e) {s with heap:=h'}):
  wpAny (model prog w) A (Builtin.SmallTypes.nextOf (.ref it)) Q E s:=by
 obtain⟨o,ho,hc,hd⟩:=id hit
 obtain⟨ol,hol,_,nl,hdl⟩:=hl
 unfold Builtin.SmallTypes.nextOf
 refine QKq (wpAny_callSpecial?_slot (name:=Str.ofString "__next__") hit.typeIs PySem.F.slot_tuple_iterator_next
  (Qzz PySem.F.slot_tuple_iterator_next hit.typeIs PySem.F.entry_tuple_iterator_next ?_ (PySem.F.args_tuple_iterator_next_1 _)))
 show wpAny _ _ (field (.ref it) 0>>=_) _ _ s
 refine QKq (QGz ho hd (x:=.ref l) rfl ?_)
 show wpAny _ _ (if (Value.ref l==Value.none)=true then _ else _) _ _ s
 rw[if_neg (show¬((Value.ref l==Value.none)=true)from Qjz)]
 show wpAny _ _ (field (.ref it) 1>>=_) _ _ s
 refine QKq (QGz ho hd (x:=.int i 0) rfl ?_)
 show wpAny _ _ (seqItems? (.ref l)>>=_) _ _ s
 refine QKq (wpAny_seqItems hol hdl ?_)
 simp only[Int.toNat_natCast,hx]
 refine QKq (wpAny_rule (QKq (wpAny_setField ho hd (by simp) ?_)))
 show wpAny _ _ (newExc (.type "StopIteration") []>>=_) _ _ _
 refine QKq ?_
 simp only[newExc,newTuple]
 refine QKq (Qjq ?_ (by size_fits))
 refine QKq (m:=firstArgMember _ _) (wpAny_of_eq (a:=Value.none) (by first|rfl|(simp only[firstArgMember];rfl)) ?_)
 refine Qjq ?_ (by size_fits)
 simp only[raiseNew]
 refine QKq (wpAny_handled ?_)
 first|rw[show A.in1.handled=none from hh]|rw[hh]
 refine QKq (QKz (wpAny_throw (hE _ _ (((Heap.SameBut.update ..).extBut.push _).push _) ⟨_,Qzq _ rfl,rfl⟩)))
theorem eY{items}(hit:pP b s.heap it l i)
  (hl:xm b s.heap l items)(hx:items[i]? =some x)(hQ:∀h',pP b h' it l (i+1)->Heap.SameBut it s.heap h'->Q x {s with heap:=h'}):
  wpAny (model prog w) A (Builtin.SmallTypes.nextOf (.ref it)) Q E s:=by
 cases b with
 |true=>exact wpAny_nextOf_list_item hit hl hx hQ
 |false=>exact mV hit hl hx hQ
theorem kE{items}(hh:A.handled=none)
  (hit:pP b s.heap it l i)(hl:xm b s.heap l items)(hx:items[i]? =none)
  (hE:∀h' e,Heap.ExtBut it s.heap h'->(∃o,h'.get? e=some o/\o.cls=.type "StopIteration")->E (.ref e) {s with heap:=h'}):
  wpAny (model prog w) A (Builtin.SmallTypes.nextOf (.ref it)) Q E s:=by
 cases b with
 |true=>exact wpAny_nextOf_list_end hh hit hl hx hE
 |false=>exact oH hh hit hl hx hE
end
def iu(h:Heap)(z TI TO:Addr)(f0 f1:Value):Prop:=
 h.get? z=some {cls:=.type "zip",dict:=none,data:=.fields #[f0,f1,.bool false,.ref TI,.ref TO],slots:= #[]}
def F0(f0:Value):Prop:=f0=.none\/∃T:Nat,f0=rawInt T
variable{a f0 f1:Value}{b2:Bool}{i1 i2 l1 l2:Addr}{k1 k2:Nat}{ys:Array Value}
section
variable{prog:Program}{w:World}{A:Around}{E:QZq}{s:Shared}
def mH{M:Model}{a:Addr}{Q:Option Obj->Shared->Prop}(h:Q (s.heap.get? a) s):wpAny M A (loadIfAlive a) Q E s:=fun Γ p hΓ=>by
 show Sem.wp M Γ (.loadIfAlive a .pure) _ _ p s
 rw[Sem.wp_loadIfAlive]
 exact(QKz (M:=M) (A:=A) (E:=E) h) Γ p hΓ
theorem xr{z TI TO:Addr}{Q:Bool->Shared->Prop}(hz:iu s.heap z TI TO f0 f1)(h0:F0 f0)(hQ1:Q true s)
  (hQ2:∀h' g1,iu h' z TI TO f0 g1->Heap.SameBut z s.heap h'->Q false {s with heap:=h'}):wpAny (model prog w) A (Builtin.SmallTypes.ownedTupleIsFree (.ref z)) Q E s:=by
 unfold Builtin.SmallTypes.ownedTupleIsFree
 rcases h0 with rfl|⟨T,rfl⟩
 ·exact QKq (QGz hz rfl (x:=.none) rfl (QKz hQ1))
 ·refine QKq (QGz hz rfl (x:=rawInt T) rfl ?_)
  show wpAny _ _ (loadIfAlive ((T:Int).toNat)>>=_) _ _ s
  refine QKq (mH ?_)
  cases hT:s.heap.get? ((T:Int).toNat)with
  |none=>exact QKz hQ1
  |some o=>
   show wpAny _ _ (field (.ref z) 1>>=_) _ _ s
   refine QKq (QGz hz rfl (x:=f1) rfl ?_)
   by_cases hf:(f1 != .bool true)=true
   ·rw[if_pos hf]
    refine QKq (wpAny_setField_rec hz (by simp) fun h' hz' hs'=>QKz (hQ2 h' (.bool true) hz' hs'))
   ·rw[if_neg hf]
    exact QKz (hQ2 s.heap f1 hz (Heap.SameBut.refl ..))
structure Nk(z TI TO i1 i2:Addr)(b1 b2:Bool)(l1 l2:Addr)(k1 k2:Nat)(T:Addr)(x y:Value)(h h':Heap):Prop where
 zr:∃f0 f1,iu h' z TI TO f0 f1/\F0 f0
 ti:IsPair h' TI (.ref i1) (.ref i2)
 to:∃a b,IsPair h' TO a b
 it1:pP b1 h' i1 l1 k1
 it2:pP b2 h' i2 l2 k2
 new:IsPair h' T x y
 size:h'.objs.size=T+1
 keep:∀c o,c≠z->c≠TO->c≠i1->c≠i2->h.get? c=some o->h'.get? c=some o
def Fx{z TI TO:Addr}{b1:Bool}{y b:Value}(D:ZipApart z TI TO i1 i2 l1 l2)
  (hz:iu s.heap z TI TO f0 f1)(h0:F0 f0)(hTI:IsPair s.heap TI (.ref i1) (.ref i2))(hTO:IsPair s.heap TO a b)
  (h1:pP b1 s.heap i1 l1 k1)(h2:pP b2 s.heap i2 l2 k2)(hl1:xm b1 s.heap l1 xs)(hl2:xm b2 s.heap l2 ys)(hx:xs[k1]? =some x)(hy:ys[k2]? =some y)
  (hQ:∀h',Nk z TI TO i1 i2 b1 b2 l1 l2 (k1+1) (k2+1) s.heap.objs.size x y s.heap h'->Q (.ref s.heap.objs.size) {s with heap:=h'}):
  wpAny (model prog w) A (Builtin.«zip.__next__» ⟨[.ref z],[]⟩) (fun fin s'=>∃v,fin=.done (.ret v)/\Q v s') E s:=by
 show wpAny _ _ (field (.ref z) 2>>=_) _ _ _
 refine QKq (QGz hz rfl (x:=.bool false) rfl ?_)
 show wpAny _ _ (field (.ref z) 3>>=_) _ _ _
 refine QKq (QGz hz rfl (x:=.ref TI) rfl ?_)
 refine QKq (wpAny_seqItems hTI rfl ?_)
 show wpAny _ _ (Builtin.SmallTypes.ownedTupleIsFree (.ref z)>>=_) _ _ _
 refine QKq (xr hz h0 ?_ ?_)
 ·--the tuple of its own is used again
  simp only[if_true]
  refine QKq (wpAny_rule ?_)
  refine QKq (QGz hz rfl (x:=.ref TO) rfl ?_)
  refine QKq (wpAny_setField_rec hz (by simp) fun h₁ hz₁ hs₁=>?_)
  replace hz₁:iu h₁ z TI TO .ellipsis f1:=hz₁
  refine QKq ?_
  simp only[List.zipIdx_cons,List.zipIdx_nil,List.forIn_cons,List.forIn_nil]
  refine QKq (QKq (wpAny_onRaise ?_))
  show wpAny _ _ (Builtin.SmallTypes.nextOf (.ref i1)>>=_) _ _ _
  refine QKq (eY (h1.at fun o e=>hs₁.extBut _ _ D.i1z e) (hl1.at fun o e=>hs₁.extBut _ _ D.l1z e) hx fun h₂ h1₂ hs₂=>QKz ?_)
  have hTO₂:IsPair h₂ TO a b:=hs₂.extBut _ _ D.TOi1 (hs₁.extBut _ _ D.TOz hTO)
  refine QKq (wpAny_seqItems hTO₂ rfl ?_)
  refine QKq (wpAny_updateSeq_pair hTO₂ fun h₃ hTO₃ hs₃=>?_)
  replace hTO₃:IsPair h₃ TO x b:=hTO₃
  refine QKq (wpAny_letGo (QKz ?_))
  refine QKq (QKq (wpAny_onRaise ?_))
  show wpAny _ _ (Builtin.SmallTypes.nextOf (.ref i2)>>=_) _ _ _
  refine QKq (eY (h2.at fun o e=>hs₃.extBut _ _ D.TOi2.symm (hs₂.extBut _ _ D.i12.symm (hs₁.extBut _ _ D.i2z e)))
   (hl2.at fun o e=>hs₃.extBut _ _ D.l2TO (hs₂.extBut _ _ D.l2i1 (hs₁.extBut _ _ D.l2z e))) hy fun h₄ h2₄ hs₄=>QKz ?_)
  have hTO₄:IsPair h₄ TO x b:=hs₄.extBut _ _ D.TOi2 hTO₃
  refine QKq (wpAny_seqItems hTO₄ rfl ?_)
  refine QKq (wpAny_updateSeq_pair hTO₄ fun h₅ hTO₅ hs₅=>?_)
  replace hTO₅:IsPair h₅ TO x y:=hTO₅
  refine QKq (wpAny_letGo (QKz (QKz ?_)))
  refine QKq (wpAny_seqItems hTO₅ rfl ?_)
  refine QKq (wpAny_newTuple ?_)
  have hsz:h₅.objs.size=s.heap.objs.size:=by rw[hs₅.1,hs₄.1,hs₃.1,hs₂.1,hs₁.1]
  have hz₅:iu h₅ z TI TO .ellipsis f1:=hs₅.extBut _ _ D.TOz.symm (hs₄.extBut _ _ D.i2z.symm (hs₃.extBut _ _ D.TOz.symm (hs₂.extBut _ _ D.i1z.symm hz₁)))
  have hk₅:∀c o,c≠z->c≠TO->c≠i1->c≠i2->s.heap.get? c=some o->h₅.get? c=some o:=fun c o c1 c2 c3 c4 e=>
   hs₅.extBut _ _ c2 (hs₄.extBut _ _ c4 (hs₃.extBut _ _ c2 (hs₂.extBut _ _ c3 (hs₁.extBut _ _ c1 e))))
  have h1₅:pP b1 h₅ i1 l1 (k1+1):=h1₂.at fun o e=>hs₅.extBut _ _ D.TOi1.symm (hs₄.extBut _ _ D.i12 (hs₃.extBut _ _ D.TOi1.symm e))
  have h2₅:pP b2 h₅ i2 l2 (k2+1):=h2₄.at fun o e=>hs₅.extBut _ _ D.TOi2.symm e
  have hzlt:z<h₅.objs.size:=Qqz hz₅
  show wpAny _ _ (Builtin.SmallTypes.ownedTupleHandOut (.ref z) (.ref h₅.objs.size)>>=_) _ _ _
  refine QKq ?_
  unfold Builtin.SmallTypes.ownedTupleHandOut
  have hz₆:iu (h₅.push {cls:=.type "tuple",data:=.seq #[x,y]}) z TI TO .ellipsis f1:=QWq _ hz₅
  refine QKq (wpAny_setField_rec hz₆ (by simp) fun h₇ hz₇ hs₇=>?_)
  replace hz₇:iu h₇ z TI TO (rawInt h₅.objs.size) f1:=hz₇
  refine wpAny_setField_rec hz₇ (by simp) fun h₈ hz₈ hs₈=>?_
  replace hz₈:iu h₈ z TI TO (rawInt h₅.objs.size) (.bool false):=hz₈
  have up:∀c o,c≠z->h₅.get? c=some o->h₈.get? c=some o:=fun c o c1 e=>hs₈.extBut _ _ c1 (hs₇.extBut _ _ c1 (QWq _ e))
  have hT₈:IsPair h₈ h₅.objs.size x y:=hs₈.extBut _ _ (Nat.ne_of_gt hzlt) (hs₇.extBut _ _ (Nat.ne_of_gt hzlt) (Qzq _ rfl))
  have hz8:h₈.objs.size=h₅.objs.size+1:=by rw[hs₈.1,hs₇.1,Heap.size_push]
  rw[hsz]at hz₈ hT₈ hz8
  refine QKz ⟨_,rfl,?_⟩
  show Q (.ref h₅.objs.size) _
  rw[hsz]
  have hTI₅:IsPair h₅ TI (.ref i1) (.ref i2):=hk₅ _ _ D.TIz D.TITO D.TIi1 D.TIi2 hTI
  exact hQ h₈ ⟨⟨_,_,hz₈,.inr ⟨_,rfl⟩⟩,up _ _ D.TIz hTI₅,⟨_,_,up _ _ D.TOz hTO₅⟩,h1₅.at fun o e=>up _ o D.i1z e,h2₅.at fun o e=>up _ o D.i2z e,hT₈,hz8,fun c o c1 c2 c3 c4 e=>up c o c1 (hk₅ c o c1 c2 c3 c4 e)⟩
 ·--it was kept:a new one
  intro h₁ g1 hz₁ hs₁
  simp only[Qxq,if_false]
  refine QKq ?_
  show wpAny _ _ (forIn #[Value.ref i1,Value.ref i2] _ _) _ _ _
  rw[<-Array.forIn_toList]
  simp only[List.forIn_cons,List.forIn_nil]
  refine QKq (QKq (Qqq ?_))
  show wpAny _ _ (Builtin.SmallTypes.nextOf (.ref i1)>>=_) _ _ _
  refine QKq (eY (h1.at fun o e=>hs₁.extBut _ _ D.i1z e) (hl1.at fun o e=>hs₁.extBut _ _ D.l1z e) hx fun h₂ h1₂ hs₂=>QKz ?_)
  refine QKz ?_
  refine QKq (QKq (Qqq ?_))
  show wpAny _ _ (Builtin.SmallTypes.nextOf (.ref i2)>>=_) _ _ _
  refine QKq (eY (h2.at fun o e=>hs₂.extBut _ _ D.i12.symm (hs₁.extBut _ _ D.i2z e))
   (hl2.at fun o e=>hs₂.extBut _ _ D.l2i1 (hs₁.extBut _ _ D.l2z e)) hy fun h₄ h2₄ hs₄=>QKz ?_)
  refine QKz (QKz ?_)
  have hsz:h₄.objs.size=s.heap.objs.size:=by rw[hs₄.1,hs₂.1,hs₁.1]
  have hk:∀c o,c≠z->c≠i1->c≠i2->s.heap.get? c=some o->h₄.get? c=some o:=fun c o c1 c3 c4 e=>hs₄.extBut _ _ c4 (hs₂.extBut _ _ c3 (hs₁.extBut _ _ c1 e))
  refine QKq (wpAny_newTuple (QKz ⟨_,rfl,?_⟩) (by show 2<=sizeLine;rw[sizeLine_eq];decide))
  show Q (.ref h₄.objs.size) {s with heap:=h₄.push {cls:=.type "tuple",data:=.seq #[x,y]}}
  have T:Nk z TI TO i1 i2 b1 b2 l1 l2 (k1+1) (k2+1) s.heap.objs.size x y s.heap (h₄.push {cls:=.type "tuple",data:=.seq #[x,y]}):=by
   refine⟨⟨f0,g1,QWq _ (hs₄.extBut _ _ D.i2z.symm (hs₂.extBut _ _ D.i1z.symm hz₁)),h0⟩,QWq _ (hk _ _ D.TIz D.TIi1 D.TIi2 hTI),⟨a,b,QWq _ (hk _ _ D.TOz D.TOi1 D.TOi2 hTO)⟩,
    h1₂.at fun o e=>QWq _ (hs₄.extBut _ _ D.i12 e),h2₄.at fun o e=>QWq _ e,?_,by rw[Heap.size_push,hsz],fun c o c1 c2 c3 c4 e=>QWq _ (hk c o c1 c3 c4 e)⟩
   rw[<-hsz]
   exact Qzq _ rfl
  rw[hsz]
  exact hQ _ T
theorem Ib{z TI TO:Addr}{b1:Bool}{b:Value}{Q:Fin->Shared->Prop}(hh:A.handled=none)(D:ZipApart z TI TO i1 i2 l1 l2)
  (hz:iu s.heap z TI TO f0 f1)(h0:F0 f0)(hTI:IsPair s.heap TI (.ref i1) (.ref i2))(hTO:IsPair s.heap TO a b)
  (h1:pP b1 s.heap i1 l1 k1)(h2:pP b2 s.heap i2 l2 k2)(hl1:xm b1 s.heap l1 xs)(hl2:xm b2 s.heap l2 ys)(hend:xs[k1]? =none\/ys[k2]? =none)
  (hE:∀h' e,(∀c o,c≠z->c≠TO->c≠i1->c≠i2->s.heap.get? c=some o->h'.get? c=some o)->(∃o,h'.get? e=some o/\o.cls=.type "StopIteration")->E (.ref e) {s with heap:=h'}):
  wpAny (model prog w) A (Builtin.«zip.__next__» ⟨[.ref z],[]⟩) Q E s:=by
 show wpAny _ _ (field (.ref z) 2>>=_) _ _ _
 refine QKq (QGz hz rfl (x:=.bool false) rfl ?_)
 show wpAny _ _ (field (.ref z) 3>>=_) _ _ _
 refine QKq (QGz hz rfl (x:=.ref TI) rfl ?_)
 refine QKq (wpAny_seqItems hTI rfl ?_)
 show wpAny _ _ (Builtin.SmallTypes.ownedTupleIsFree (.ref z)>>=_) _ _ _
 refine QKq (xr hz h0 ?_ ?_)
 ·simp only[if_true]
  refine QKq (wpAny_rule ?_)
  refine QKq (QGz hz rfl (x:=.ref TO) rfl ?_)
  refine QKq (wpAny_setField_rec hz (by simp) fun h₁ hz₁ hs₁=>?_)
  replace hz₁:iu h₁ z TI TO .ellipsis f1:=hz₁
  refine QKq ?_
  simp only[List.zipIdx_cons,List.zipIdx_nil,List.forIn_cons,List.forIn_nil]
  refine QKq (QKq (wpAny_onRaise ?_))
  show wpAny _ _ (Builtin.SmallTypes.nextOf (.ref i1)>>=_) _ _ _
  cases hx:xs[k1]? with
  |none=>
   refine QKq (kE hh (h1.at fun o e=>hs₁.extBut _ _ D.i1z e) (hl1.at fun o e=>hs₁.extBut _ _ D.l1z e) hx fun h₂ e hs₂ he=>?_)
   obtain⟨oe,hoe,hce⟩:=he
   have hz₂:iu h₂ z TI TO .ellipsis f1:=hs₂ _ _ D.i1z.symm hz₁
   have hez:e≠z:=fun x=>by subst x;unfold iu at hz₂;rw[hz₂]at hoe;cases hoe;simp at hce
   refine wpAny_setField_rec hz₂ (by simp) fun h₃ _ hs₃=>hE h₃ e (fun c o c1 _ c3 _ x=>hs₃.extBut _ _ c1 (hs₂ _ _ c3 (hs₁.extBut _ _ c1 x))) ⟨oe,hs₃.extBut _ _ hez hoe,hce⟩
  |some x=>
   have hy:ys[k2]? =none:=by
    rcases hend with h|h
    ·rw[hx]at h;cases h
    ·exact h
   refine QKq (eY (h1.at fun o e=>hs₁.extBut _ _ D.i1z e) (hl1.at fun o e=>hs₁.extBut _ _ D.l1z e) hx fun h₂ h1₂ hs₂=>QKz ?_)
   have hTO₂:IsPair h₂ TO a b:=hs₂.extBut _ _ D.TOi1 (hs₁.extBut _ _ D.TOz hTO)
   refine QKq (wpAny_seqItems hTO₂ rfl ?_)
   refine QKq (wpAny_updateSeq_pair hTO₂ fun h₃ hTO₃ hs₃=>?_)
   refine QKq (wpAny_letGo (QKz ?_))
   refine QKq (QKq (wpAny_onRaise ?_))
   show wpAny _ _ (Builtin.SmallTypes.nextOf (.ref i2)>>=_) _ _ _
   refine QKq (kE hh (h2.at fun o e=>hs₃.extBut _ _ D.TOi2.symm (hs₂.extBut _ _ D.i12.symm (hs₁.extBut _ _ D.i2z e)))
    (hl2.at fun o e=>hs₃.extBut _ _ D.l2TO (hs₂.extBut _ _ D.l2i1 (hs₁.extBut _ _ D.l2z e))) hy fun h₄ e hs₄ he=>?_)
   obtain⟨oe,hoe,hce⟩:=he
   have hz₄:iu h₄ z TI TO .ellipsis f1:=hs₄ _ _ D.i2z.symm (hs₃.extBut _ _ D.TOz.symm (hs₂.extBut _ _ D.i1z.symm hz₁))
   have hez:e≠z:=fun x=>by subst x;unfold iu at hz₄;rw[hz₄]at hoe;cases hoe;simp at hce
   refine wpAny_setField_rec hz₄ (by simp) fun h₅ _ hs₅=>hE h₅ e (fun c o c1 c2 c3 c4 x=>hs₅.extBut _ _ c1 (hs₄ _ _ c4 (hs₃.extBut _ _ c2 (hs₂.extBut _ _ c3 (hs₁.extBut _ _ c1 x))))) ⟨oe,hs₅.extBut _ _ hez hoe,hce⟩
 ·intro h₁ g1 hz₁ hs₁
  simp only[Qxq,if_false]
  refine QKq ?_
  show wpAny _ _ (forIn #[Value.ref i1,Value.ref i2] _ _) _ _ _
  rw[<-Array.forIn_toList]
  simp only[List.forIn_cons,List.forIn_nil]
  refine QKq (QKq (Qqq ?_))
  show wpAny _ _ (Builtin.SmallTypes.nextOf (.ref i1)>>=_) _ _ _
  cases hx:xs[k1]? with
  |none=>
   exact QKq (kE hh (h1.at fun o e=>hs₁.extBut _ _ D.i1z e) (hl1.at fun o e=>hs₁.extBut _ _ D.l1z e) hx fun h₂ e hs₂ he=>hE h₂ e (fun c o c1 _ c3 _ x=>hs₂ _ _ c3 (hs₁.extBut _ _ c1 x)) he)
  |some x=>
   have hy:ys[k2]? =none:=by
    rcases hend with h|h
    ·rw[hx]at h;cases h
    ·exact h
   refine QKq (eY (h1.at fun o e=>hs₁.extBut _ _ D.i1z e) (hl1.at fun o e=>hs₁.extBut _ _ D.l1z e) hx fun h₂ h1₂ hs₂=>QKz ?_)
   refine QKz ?_
   refine QKq (QKq (Qqq ?_))
   show wpAny _ _ (Builtin.SmallTypes.nextOf (.ref i2)>>=_) _ _ _
   exact QKq (kE hh (h2.at fun o e=>hs₂.extBut _ _ D.i12.symm (hs₁.extBut _ _ D.i2z e))
    (hl2.at fun o e=>hs₂.extBut _ _ D.l2i1 (hs₁.extBut _ _ D.l2z e)) hy fun h₄ e hs₄ he=>hE h₄ e (fun c o c1 _ c3 c4 x=>hs₄ _ _ c4 (hs₂.extBut _ _ c3 (hs₁.extBut _ _ c1 x))) he)
def pY{z TI TO:Addr}{b1:Bool}{y b:Value}{Q:Option Value->Shared->Prop}(D:ZipApart z TI TO i1 i2 l1 l2)
  (hz:iu s.heap z TI TO f0 f1)(h0:F0 f0)(hTI:IsPair s.heap TI (.ref i1) (.ref i2))(hTO:IsPair s.heap TO a b)
  (h1:pP b1 s.heap i1 l1 k1)(h2:pP b2 s.heap i2 l2 k2)(hl1:xm b1 s.heap l1 xs)(hl2:xm b2 s.heap l2 ys)(hx:xs[k1]? =some x)(hy:ys[k2]? =some y)
  (hQ:∀h',Nk z TI TO i1 i2 b1 b2 l1 l2 (k1+1) (k2+1) s.heap.objs.size x y s.heap h'->Q (some (.ref s.heap.objs.size)) {s with heap:=h'}):
  wpAny (model prog w) A (pyNext (.ref z)) Q E s:=by
 have hT:s.TypeIs (.ref z) "zip":=⟨_,hz,rfl⟩
 unfold pyNext
 exact QKq (wpAny_attempt (wpAny_callSpecial?_slot (name:=Str.ofString "__next__") hT PySem.F.slot_zip_next
  (Qzz PySem.F.slot_zip_next hT PySem.F.entry_zip_next
   (Fx D hz h0 hTI hTO h1 h2 hl1 hl2 hx hy fun h' T=>QKz (hQ h' T)) (PySem.F.args_zip_next_1 _))))
def rm{z TI TO:Addr}{b1:Bool}{b:Value}{Q:Option Value->Shared->Prop}(hh:A.handled=none)(D:ZipApart z TI TO i1 i2 l1 l2)
  (hz:iu s.heap z TI TO f0 f1)(h0:F0 f0)(hTI:IsPair s.heap TI (.ref i1) (.ref i2))(hTO:IsPair s.heap TO a b)
  (h1:pP b1 s.heap i1 l1 k1)(h2:pP b2 s.heap i2 l2 k2)(hl1:xm b1 s.heap l1 xs)(hl2:xm b2 s.heap l2 ys)(hend:xs[k1]? =none\/ys[k2]? =none)
  (hQ:∀h',(∀c o,c≠z->c≠TO->c≠i1->c≠i2->s.heap.get? c=some o->h'.get? c=some o)->Q none {s with heap:=h'}):wpAny (model prog w) A (pyNext (.ref z)) Q E s:=by
 have hT:s.TypeIs (.ref z) "zip":=⟨_,hz,rfl⟩
 unfold pyNext
 refine QKq (wpAny_attempt (wpAny_callSpecial?_slot (name:=Str.ofString "__next__") hT PySem.F.slot_zip_next
  (Qzz PySem.F.slot_zip_next hT PySem.F.entry_zip_next (Ib hh D hz h0 hTI hTO h1 h2 hl1 hl2 hend fun h' e hk he=>?_) (PySem.F.args_zip_next_1 _))))
 obtain⟨o,ho,hc⟩:=he
 refine QKq (wpAny_isInstance (T:="StopIteration") (b:=true) ⟨o,ho,hc⟩ isSubtype_stop ?_)
 exact QKz (hQ _ hk)
end
section
variable{prog:Program}{w:World}{A:Around}{E:QZq}{s:Shared}
theorem G7{tg:Expr}{z TI TO T:Addr}{Q:Unit->Shared->Prop}(hz:iu s.heap z TI TO f0 f1)(h0:F0 f0)
  (hQ:∀h' g0,iu h' z TI TO g0 f1->F0 g0->Heap.SameBut z s.heap h'->Q () {s with heap:=h'}):wpAny (model prog w) A (letOwnedTupleGo tg (.ref z) (.ref T)) Q E s:=by
 have same:Q () s:=hQ s.heap f0 hz h0 (Heap.SameBut.refl ..)
 have go:wpAny (model prog w) A (do
   let o<-load z
   match o.cls,o.data with
   |.type n,.fields vs=>
    if ["enumerate","zip","dict_itemiterator","dict_reverseitemiterator","odict_iterator","itertools.zip_longest","itertools.pairwise"].contains n&&vs[0]? ==some (rawInt T)then
     rule "for.unpacks-the-owned-tuple"
     updateField z 0 .none
   |_,_=>pure ()) Q E s:=by
  refine QKq (wpAny_load hz ?_)
  show wpAny _ _ (if (["enumerate","zip","dict_itemiterator","dict_reverseitemiterator","odict_iterator","itertools.zip_longest","itertools.pairwise"].contains "zip"&&
   (#[f0,f1,.bool false,.ref TI,.ref TO]:Array Value)[0]? ==some (rawInt T))=true then _ else _) Q E s
  split
  ·refine QKq (wpAny_rule ?_)
   show wpAny _ _ (setField (.ref z) 0 .none) Q E s
   exact wpAny_setField_rec hz (by simp) fun h' hz' hs'=>hQ h' .none hz' (.inl rfl) hs'
  ·exact QKz same
 unfold letOwnedTupleGo
 cases tg<;>first
  |exact QKz same
  |exact go
def iT{z TI TO:Addr}(hz:iu s.heap z TI TO f0 f1)(h:Q (.ref z) s):wpAny (model prog w) A (pyIter (.ref z)) Q E s:=by
 have hT:s.TypeIs (.ref z) "zip":=⟨_,hz,rfl⟩
 refine wpAny_pyIter_slot hT PySem.F.slot_zip_iter (Qzz PySem.F.slot_zip_iter hT PySem.F.entry_zip_iter ?_ (PySem.F.args_zip_iter_1 _))
 show wpAny _ _ (ret (.ref z)) _ _ s
 exact QKz ⟨_,rfl,"zip",_,hT,PySem.F.slot_zip_next.lookup,h⟩
end
def itN(b:Bool):String:=if b then "list_iterator" else "tuple_iterator"
abbrev zH1(b1:Bool)(h:Heap)(l1:Addr):Heap:=h.push {cls:=.type (itN b1),data:=.fields #[.ref l1,.int 0 0]}
abbrev zH2(b1 b2:Bool)(h:Heap)(l1 l2:Addr):Heap:=(zH1 b1 h l1).push {cls:=.type (itN b2),data:=.fields #[.ref l2,.int 0 0]}
abbrev zH3(b1 b2:Bool)(h:Heap)(l1 l2:Addr):Heap:=(zH2 b1 b2 h l1 l2).push {cls:=.type "tuple",data:=.seq #[.ref h.objs.size,.ref (zH1 b1 h l1).objs.size]}
abbrev zH4(b1 b2:Bool)(h:Heap)(l1 l2:Addr):Heap:=(zH3 b1 b2 h l1 l2).push {cls:=.type "tuple",data:=.seq #[.none,.none]}
abbrev Oa(b1 b2:Bool)(h:Heap)(l1 l2:Addr):Heap:=(zH4 b1 b2 h l1 l2).push {cls:=.type "zip",data:=.fields #[.none,.bool false,.bool false,.ref (zH2 b1 b2 h l1 l2).objs.size,.ref (zH3 b1 b2 h l1 l2).objs.size]}
def Ia(b1 b2:Bool)(l1 l2:Addr)(xs ys:Array Value):
  Meets (Builtin.«zip.__new__» ⟨[.type "zip",.ref l1,.ref l2],[]⟩) (fun _ R s=>xm b1 s.heap l1 xs/\xm b2 s.heap l2 ys/\
   R (.ok (.ret (.ref (zH4 b1 b2 s.heap l1 l2).objs.size))) {s with heap:=Oa b1 b2 s.heap l1 l2}):=
 .of_wp fun prog w A R s h=>by
  obtain⟨hp,g,d,tk,os⟩:=s;obtain⟨hl1,hl2,h⟩:=h
  have hsub:=sub_zip
  cases b1<;>cases b2
  ·have hL1:Heap.IsTuple (Shared.heap ⟨hp,g,d,tk,os⟩) l1 xs:=hl1
   have hL2:Heap.IsTuple (Shared.heap ⟨hp.push {cls:=.type "tuple_iterator",data:=.fields #[.ref l1,.int 0 0]},g,d,tk,os⟩) l2 ys:=hl2.at (b:=false) fun o e=>QWq _ e
   wp_walk using wpAny_pyIter_tuple hL1,wpAny_pyIter_tuple hL2
   exact⟨_,rfl,h⟩
  ·have hL1:Heap.IsTuple (Shared.heap ⟨hp,g,d,tk,os⟩) l1 xs:=hl1
   have hL2:Heap.IsList (Shared.heap ⟨hp.push {cls:=.type "tuple_iterator",data:=.fields #[.ref l1,.int 0 0]},g,d,tk,os⟩) l2 ys:=hl2.at (b:=true) fun o e=>QWq _ e
   wp_walk using wpAny_pyIter_tuple hL1,wpAny_pyIter_list hL2
   exact⟨_,rfl,h⟩
  ·have hL1:Heap.IsList (Shared.heap ⟨hp,g,d,tk,os⟩) l1 xs:=hl1
   have hL2:Heap.IsTuple (Shared.heap ⟨hp.push {cls:=.type "list_iterator",data:=.fields #[.ref l1,.int 0 0]},g,d,tk,os⟩) l2 ys:=hl2.at (b:=false) fun o e=>QWq _ e
   wp_walk using wpAny_pyIter_list hL1,wpAny_pyIter_tuple hL2
   exact⟨_,rfl,h⟩
  ·have hL1:Heap.IsList (Shared.heap ⟨hp,g,d,tk,os⟩) l1 xs:=hl1
   have hL2:Heap.IsList (Shared.heap ⟨hp.push {cls:=.type "list_iterator",data:=.fields #[.ref l1,.int 0 0]},g,d,tk,os⟩) l2 ys:=hl2.at (b:=true) fun o e=>QWq _ e
   wp_walk using wpAny_pyIter_list hL1,wpAny_pyIter_list hL2
   exact⟨_,rfl,h⟩
structure zy(z TI TO i1 i2:Addr)(b1 b2:Bool)(l1 l2:Addr)(k:Nat)(h:Heap):Prop where
 zr:∃f0 f1,iu h z TI TO f0 f1/\F0 f0
 ti:IsPair h TI (.ref i1) (.ref i2)
 to:∃a b,IsPair h TO a b
 it1:pP b1 h i1 l1 k
 it2:pP b2 h i2 l2 k
section
variable{prog:Program}{w:World}{A:Around}{E:QZq}{s:Shared}
def vB{b1:Bool}(hl1:xm b1 s.heap l1 xs)(hl2:xm b2 s.heap l2 ys)
  (h:∀h',zy (s.heap.objs.size+4) (s.heap.objs.size+2) (s.heap.objs.size+3) s.heap.objs.size (s.heap.objs.size+1) b1 b2 l1 l2 0 h'->h'.objs.size=s.heap.objs.size+5->
   (∀c o,s.heap.get? c=some o->h'.get? c=some o)->Q (.ref (s.heap.objs.size+4)) {s with heap:=h'}):
  wpAny (model prog w) A (call (.type "zip") [.ref l1,.ref l2]) Q E s:=by
 refine callType_new PySem.F.called_zip (by decide) (PySem.F.typeCall_zip_2 _ _) (PySem.F.newCall_zip_2 _ _) (fun obj=>PySem.F.args_object_init_3 obj _ _) PySem.F.entry_zip_new
  (Ia b1 b2 l1 l2 xs ys) ⟨hl1,hl2,?_⟩
 have z1:(zH1 b1 s.heap l1).objs.size=s.heap.objs.size+1:=Heap.size_push ..
 have z2:(zH2 b1 b2 s.heap l1 l2).objs.size=s.heap.objs.size+2:=by rw[Heap.size_push,z1]
 have z3:(zH3 b1 b2 s.heap l1 l2).objs.size=s.heap.objs.size+3:=by rw[Heap.size_push,z2]
 have z4:(zH4 b1 b2 s.heap l1 l2).objs.size=s.heap.objs.size+4:=by rw[Heap.size_push,z3]
 have z5:(Oa b1 b2 s.heap l1 l2).objs.size=s.heap.objs.size+5:=by rw[Heap.size_push,z4]
 have g5:(Oa b1 b2 s.heap l1 l2).get? (zH4 b1 b2 s.heap l1 l2).objs.size=some _:=Qzq _ rfl
 have g4:(Oa b1 b2 s.heap l1 l2).get? (zH3 b1 b2 s.heap l1 l2).objs.size=some _:=QWq _ (Qzq _ rfl)
 have g3:(Oa b1 b2 s.heap l1 l2).get? (zH2 b1 b2 s.heap l1 l2).objs.size=some _:=QWq _ (QWq _ (Qzq _ rfl))
 have g2:(Oa b1 b2 s.heap l1 l2).get? (zH1 b1 s.heap l1).objs.size=some _:=QWq _ (QWq _ (QWq _ (Qzq _ rfl)))
 have g1:(Oa b1 b2 s.heap l1 l2).get? s.heap.objs.size=some _:=QWq _ (QWq _ (QWq _ (QWq _ (Qzq _ rfl))))
 show _/\_
 rw[z2,z3,z4]at g5
 rw[z1,z2]at g3
 rw[z3]at g4
 rw[z1]at g2
 rw[z4]
 have i1:pP b1 (Oa b1 b2 s.heap l1 l2) s.heap.objs.size l1 0:=by cases b1<;>exact⟨_,g1,rfl,rfl⟩
 have i2:pP b2 (Oa b1 b2 s.heap l1 l2) (s.heap.objs.size+1) l2 0:=by cases b2<;>exact⟨_,g2,rfl,rfl⟩
 exact⟨⟨_,g5,rfl⟩,h _ ⟨⟨_,_,g5,.inl rfl⟩,g3,⟨_,_,g4⟩,i1,i2⟩ z5 fun c o x=>
  QWq _ (QWq _ (QWq _ (QWq _ (QWq _ x))))⟩
end
def ur{n:Addr}(h1:l1<n)(h2:l2<n):ZipApart (n+4) (n+2) (n+3) n (n+1) l1 l2:=zipApart_new h1 h2
variable{H:Hp}{Q0q:QQz}{X:Cx}{s:Shared}{σ:L2.St}
def Inv.Ox{t':Nat}{ch:List Addr}(I:Inv X Q0q σ H s)(k:∀b o,b∉ch->s.heap.get? b=some o->h'.get? b=some o)(hf:∀b∈ch,gK X Q0q H b):
  Inv X Q0q σ H {s with heap:=h',toks:=t'}:=by
 have nit:∀b u,H b=some u->b∉ch:=fun b u e z=>by rw[(hf b z).1]at e;cases e
 have nL:X.env.locals∉ch:=fun z=>(hf _ z).2.1 rfl
 refine I.step (g':=s.gens) (d':=s.drawn) (ch:=ch) (fun b hb=>⟨(hf b hb).2.2.2.1,(hf b hb).2.1,(hf b hb).2.2.2.2.1,(hf b hb).2.2.2.2.2⟩) (fun b o _ _ hc e _=>k b o hc e) (fun b o _ _ hc e _=>⟨o.slots,k b o hc e⟩) (fun _ _ _ _ n=>n)
  (fun b o hc e=>⟨o,k b o hc e⟩) (fun _ _ e=>e) (fun _ _ _ e=>e) (fun b ps e=>⟨#[],by rw[e];simp⟩) (fun m hm=>?_) (fun b u e=>?_) I.bare
 ·obtain⟨o,es,ep,ho,r⟩:=hm
  exact⟨o,es,ep,k _ o nL ho,r⟩
 ·refine(I.hok b u e).stay (fun c v hc q=>k c v ?_ q) (fun _ q=>q) fun _ _ q=>q
  rcases hc with z|z
  ·rw[z];exact nit b u e
  ·exact nit c _ z
def Inv.FJ{t':Nat}{ch:List Addr}{a:Addr}{u:HO}(I:Inv X Q0q σ H s)(k:∀b o,b∉ch->s.heap.get? b=some o->h'.get? b=some o)(hf:∀b∈ch,gK X Q0q H b)
  (ha:s.heap.objs.size<=a)(new:bW X.prog X.w (upd H a u) h' a u):Inv X Q0q σ (upd H a u) {s with heap:=h',toks:=t'}:=by
 have hn:H a=none:=I.hok.fresh ha
 have nit:∀b u,H b=some u->b∉ch:=fun b u e z=>by rw[(hf b z).1]at e;cases e
 have nL:X.env.locals∉ch:=fun z=>(hf _ z).2.1 rfl
 have ne:∀b w,H b=some w->b≠a:=fun b w e z=>by subst z;rw[hn]at e;cases e
 refine I.step (g':=s.gens) (d':=s.drawn) (ch:=ch) (fun b hb=>⟨(hf b hb).2.2.2.1,(hf b hb).2.1,(hf b hb).2.2.2.2.1,(hf b hb).2.2.2.2.2⟩) (fun b o _ _ hc e _=>k b o hc e) (fun b o _ _ hc e _=>⟨o.slots,k b o hc e⟩)
  (fun b o _ e n=>by rw[aC (Qvz (Qvq (Qqz e) ha))];exact n)
  (fun b o hc e=>⟨o,k b o hc e⟩) (fun b xs e=>by rw[aC (ne b _ e)];exact e) (fun b o w e=>by rw[aC (ne b _ e)];exact e) (fun b ps e=>⟨#[],by rw[aC (ne b _ e),e];simp⟩) (fun m hm=>?_) (fun b w e=>?_) I.bare
 ·obtain⟨o,es,ep,ho,r⟩:=hm
  exact⟨o,es,ep,k _ o nL ho,r⟩
 ·by_cases hb:b=a
  ·subst hb
   rw[aW]at e
   cases e
   exact new
  ·rw[aC hb]at e
   refine(I.hok b w e).stay (fun c v hc q=>k c v ?_ q) (fun c q=>by rw[aC (ne c _ q)];exact q) fun c xs q=>by rw[aC (ne c _ q)];exact q
   rcases hc with z|z
   ·rw[z];exact nit b w e
   ·exact nit c _ z
def Np(K:QQq)(b:Bool)(H:Hp)(l:Addr)(vs:List V):Prop:=match b with|true=>Nu K H l vs|false=>iy K H l vs
variable{vs:List V}
def bV.vU{K:QQq}{H':Hp}(p:bV H H')(h:Np K b H l vs):Np K b H' l vs:=by
 cases b with
 |true=>exact p.X6 h
 |false=>exact p.Gb h
def Inv.vU(I:Inv X Q0q σ H s)(h:Np X.K b H l vs):∃its:List Value,Vals vs its/\xm b s.heap l its.toArray/\vs.length<=sizeLine/\l<s.heap.objs.size:=by
 cases b with
 |true=>
  obtain⟨its,r,p,z⟩:=I.list (Nu.sq h)
  obtain⟨o,e,_⟩:=p.isList
  exact⟨its,r,p.isList,z,Qqz e⟩
 |false=>
  obtain⟨its,r,p,z⟩:=I.tuple h
  obtain⟨o,e,_⟩:=id p
  exact⟨its,r,p,z,Qqz e⟩
def Itz(K:QQq)(b1 b2:Bool)(l1 l2:Addr)(vs ws:List V):It:=
 ⟨fun i H=>Np K b1 H l1 vs/\Np K b2 H l2 ws/\∃v u,vs[i]? =some v/\ws[i]? =some u,
  fun i H x H'=>∃p v u,H p=none/\x=.ref p/\vs[i]? =some v/\ws[i]? =some u/\H'=upd H p (.tup [v,u]),
  fun i H=>Np K b1 H l1 vs/\Np K b2 H l2 ws/\(vs.length<=i\/ws.length<=i)⟩
theorem jE{P:Program}{w:World}{K:QQq}{tg:Expr}{z TI TO:Addr}{b1:Bool}{ws:List V}(D:ZipApart z TI TO i1 i2 l1 l2):
  Turn P w K tg (Itz K b1 b2 l1 l2 vs ws) [z,TI,TO,i1,i2] z (fun i h=>zy z TI TO i1 i2 b1 b2 l1 l2 i h) where
 mem:=by simp
 obj:=fun i h st b hb=>by
  obtain⟨f0,f1,zr,_⟩:=st.zr
  obtain⟨x,y,to⟩:=st.to
  simp only[QCq,QAz,or_false]at hb
  rcases hb with rfl|rfl|rfl|rfl|rfl
  ·exact⟨_,zr,fun v z=>by cases z⟩
  ·exact⟨_,st.ti,fun v z=>by cases z⟩
  ·exact⟨_,to,fun v z=>by cases z⟩
  ·exact st.it1.obj
  ·exact st.it2.obj
 keep:=fun i h h' st k=>by
  obtain⟨f0,f1,zr,hf⟩:=st.zr
  obtain⟨x,y,to⟩:=st.to
  exact⟨⟨f0,f1,k z (by simp) _ zr,hf⟩,k TI (by simp) _ st.ti,⟨x,y,k TO (by simp) _ to⟩,st.it1.at fun o e=>k i1 (by simp) o e,st.it2.at fun o e=>k i2 (by simp) o e⟩
 item:=by
  intro X hP hw hK hc i Q0q s σ H E I hf st hg
  subst hP hw hK
  obtain⟨hq1,hq2,v,u,ev,eu⟩:=hg
  obtain⟨its,r1,p1,_,_⟩:=Inv.vU I hq1
  obtain⟨its2,r2,p2,_,_⟩:=Inv.vU I hq2
  obtain⟨x,ex,rx⟩:=r1.get ev
  obtain⟨y,ey,ry⟩:=r2.get eu
  obtain⟨f0,f1,zr,h0⟩:=st.zr
  obtain⟨a,b,to⟩:=st.to
  refine pY D zr h0 st.ti to st.it1 st.it2 p1 p2 (x:=x) (y:=y) (by simpa using ex) (by simpa using ey) fun h' T=>?_
  obtain⟨g0,g1,zr',h0'⟩:=T.zr
  refine⟨_,rfl,G7 (s:={s with heap:=h'}) zr' h0' fun h'' q0 zr'' hq0 sb=>?_⟩
  have f1':∀b∈[z,TO,i1,i2],gK X Q0q H b:=fun b hb=>hf b (by
   simp only[QCq,QAz,or_false]at hb⊢
   rcases hb with h|h|h|h<;>simp[h])
  have kk:∀b o,b∉[z,TO,i1,i2]->s.heap.get? b=some o->h''.get? b=some o:=fun b o hb e=>by
   simp only[QCq,QAz,or_false,not_or]at hb
   exact sb.extBut _ _ hb.1 (T.keep b o hb.1 hb.2.1 hb.2.2.1 hb.2.2.2 e)
  have new'':IsPair h'' s.heap.objs.size x y:=sb.extBut _ _ (by
   obtain⟨q,e,_⟩:∃q,s.heap.get? z=some q/\True:=⟨_,zr,trivial⟩
   exact Nat.ne_of_gt (Qqz e)) T.new
  have nz:∀b∈[z,TO,i1,i2],b<s.heap.objs.size:=fun b hb=>by
   simp only[QCq,QAz,or_false]at hb
   rcases hb with rfl|rfl|rfl|rfl
   ·exact Qqz zr
   ·exact Qqz to
   ·exact st.it1.lt
   ·exact st.it2.lt
  have I1:Inv X Q0q σ (upd H s.heap.objs.size (.tup [v,u])) {s with heap:=h''}:=by
   refine Inv.FJ (t':=s.toks) I kk f1' (QVz _) ⟨by show 2<=sizeLine;rw[sizeLine_eq];decide,[x,y],.cons rx (.cons ry .nil),_,new'',rfl,rfl,_,rfl⟩
  refine⟨.ref s.heap.objs.size,upd H s.heap.objs.size (.tup [v,u]),I1,rfl,⟨_,v,u,I.hok.fresh (QVz _),rfl,ev,eu,rfl⟩,?_,fun b hb=>?_⟩
  ·have up:∀c o,c≠z->h'.get? c=some o->h''.get? c=some o:=fun c o hcz e=>sb.extBut _ _ hcz e
   obtain⟨a',b',to'⟩:=T.to
   exact⟨⟨q0,g1,zr'',hq0⟩,up _ _ D.TIz T.ti,⟨a',b',up _ _ D.TOz to'⟩,T.it1.at fun o e=>up _ o D.i1z e,T.it2.at fun o e=>up _ o D.i2z e⟩
  ·have lt:b<s.heap.objs.size:=by
    simp only[QCq,QAz,or_false]at hb
    rcases hb with rfl|rfl|rfl|rfl|rfl
    ·exact Qqz zr
    ·exact Qqz st.ti
    ·exact Qqz to
    ·exact st.it1.lt
    ·exact st.it2.lt
   rw[aC (Qvz lt)]
   exact(hf b hb).1
 done:=by
  intro X hP hw hK hc i Q0q s σ H E I hf st hg
  subst hP hw hK
  obtain⟨hq1,hq2,hend⟩:=hg
  obtain⟨its,r1,p1,_,_⟩:=Inv.vU I hq1
  obtain⟨its2,r2,p2,_,_⟩:=Inv.vU I hq2
  have l1:=r1.length
  have l2:=r2.length
  obtain⟨f0,f1,zr,h0⟩:=st.zr
  obtain⟨a,b,to⟩:=st.to
  refine rm (I.ok.hd hc) D zr h0 st.ti to st.it1 st.it2 p1 p2 ?_ fun h' kk=>⟨rfl,?_⟩
  ·rcases hend with h|h
   ·exact .inl (by simp;omega)
   ·exact .inr (by simp;omega)
  ·refine Inv.Ox (t':=s.toks) (ch:=[z,TO,i1,i2]) I (fun b o hb e=>?_) fun b hb=>hf b (by
    simp only[QCq,QAz,or_false]at hb⊢
    rcases hb with h|h|h|h<;>simp[h])
   simp only[QCq,QAz,or_false,not_or]at hb
   exact kk b o hb.1 hb.2.1 hb.2.2.1 hb.2.2.2 e
 self:=fun A i s Q E st h=>by
  obtain⟨f0,f1,zr,h0⟩:=st.zr
  exact iT zr h
end Mini
end
section
namespace Mini
open PySem L2
theorem qu:∀{xs ys:List D}{i:Nat}{d:D},(aO xs ys)[i]? =some d->∃x y,xs[i]? =some x/\ys[i]? =some y/\d=.tup [x,y]
 |[],_,i,d,h=>by simp[aO]at h
 |_::_,[],i,d,h=>by simp[aO]at h
 |x::xs,y::ys,0,d,h=>by simp[aO]at h;exact⟨x,y,rfl,rfl,h.symm⟩
 |x::xs,y::ys,i+1,d,h=>by
  rw[aO,List.getElem?_cons_succ]at h
  simpa using qu h
theorem qt:∀(xs ys:List D),(aO xs ys).length=min xs.length ys.length
 |[],ys=>by simp[aO]
 |_::_,[]=>by simp[aO]
 |x::xs,y::ys=>by rw[aO,QBq,qt xs ys,QBq,QBq];omega
theorem vm{K:QQq}{H:Hp}{b1 b2:Bool}{l1 l2:Addr}{vs ws:List V}{xs ys:List D}(h1:Np K b1 H l1 vs)(h2:Np K b2 H l2 ws)(d1:au K H xs vs)(d2:au K H ys ws)(hz:vs.length<=sizeLine):
  Gives K (Itz K b1 b2 l1 l2 vs ws) (aO xs ys) H where
 go:=fun H1 p i d e=>by
  obtain⟨x,y,ex,ey,_⟩:=qu e
  obtain⟨v,ev,_⟩:=d1.get ex
  obtain⟨u,eu,_⟩:=d2.get ey
  exact⟨p.vU h1,p.vU h2,v,u,ev,eu⟩
 yld:=fun H1 p i d e x H2 y=>by
  obtain⟨a,v,u,hn,rfl,ev,eu,rfl⟩:=y
  obtain⟨dx,dy,ex,ey,rfl⟩:=qu e
  obtain⟨v',ev',dv⟩:=d1.get ex
  obtain⟨u',eu',du⟩:=d2.get ey
  rw[ev]at ev'
  rw[eu]at eu'
  cases ev'
  cases eu'
  have pp:bV H1 (upd H1 a (.tup [v,u])):=by
   refine⟨fun b xs q=>?_,fun b o w q=>?_⟩
   ·rw[aC (fun z=>by subst z;rw[hn]at q;cases q)];exact q
   ·rw[aC (fun z=>by subst z;rw[hn]at q;cases q)];exact q
  exact⟨eO (.inl (.inl aW)) (au.dj ((dv.mono p).mono pp) (au.dj ((du.mono p).mono pp) au.fM)),.inr ⟨a,_,hn,rfl⟩⟩
 stop:=fun H1 p i hi=>by
  rw[qt]at hi
  have:=d1.length
  have:=d2.length
  exact⟨p.vU h1,p.vU h2,by omega⟩
 len:=by rw[qt];have:=d1.length;omega
def bG.vU{K:QQq}{H:Hp}{d:D}{xs:List D}{v:V}(h:bG K H d v)(e:bB d=some xs):∃b l vs,v=.ref l/\Np K b H l vs/\au K H xs vs:=by
 cases d with
 |tup ys=>cases e;obtain⟨a,vs,rfl,hq,l⟩:=cJ h;exact⟨false,a,vs,rfl,hq,l⟩
 |lst ys=>cases e;obtain⟨a,vs,rfl,hq,l⟩:=dH h;exact⟨true,a,vs,rfl,hq,l⟩
 |_=>cases e
section
variable{K:QQq}{W:Wi}{env:Ev}{σ:St}{H:Hp}{R:It->Hp->Prop}
def aar{env1:Ev}{H1:Hp}{r:Out Rv}(h:tI K W env r σ H R)(N:Nx K env σ H env1 H1):tI K W env1 r σ H1 R:=by
 obtain⟨_,h⟩:=h
 refine⟨N.fH,?_⟩
 cases r with
 |bad=>exact h
 |exc c env2=>exact fun H' N'=>h H' (N.trans N')
 |ok x env2=>
  obtain⟨d,xs,e1,e2,z⟩:=h
  exact⟨d,xs,e1,e2,fun J H' N' G=>z J H' (N.trans N') G⟩
theorem xN{r:Out Rv}{f:D->Ev->Out Rv}{R':VK}(h:tI K W env (r.aq f) σ H R)
  (k:∀d env1 v H1,Nx K env σ H env1 H1->bG K H1 d v->tI K W env1 (f d env1) σ H1 R->R' v H1):tD K W env r σ H R':=by
 have step:∀d env1,r.aq f=f d env1->∀v H1,Nx K env σ H env1 H1->bG K H1 d v->R' v H1:=fun d env1 e v H1 N D=>by
  rw[e]at h
  exact k d env1 v H1 N D (aar h N)
 obtain⟨S,h⟩:=h
 refine⟨S,?_⟩
 cases r with
 |bad=>exact h
 |exc c env1=>exact h
 |ok x env1=>
  cases x with
  |val d=>exact fun v H1 N D=>step d env1 rfl v H1 N D
  |new xs=>exact fun v H1 N D=>step xs.d env1 rfl v H1 N D
  |ref i=>exact h
  |tmp xs=>exact h
end
section
variable{X:Cx}{W:Wi}{c:Cf}{m1 m2:E}{a b tg:Expr}{pos p:Pos}
theorem Xu(ha:GE X W c m1 a)(hb:GE X W c m2 b)(hg:Gl X "zip")(hm:X.mg "zip"=none)(hs:starEach [a,b] X.env=[(false,eval a X.env),(false,eval b X.env)])(hs2:starEach [b] X.env=[(false,eval b X.env)]):
  GI X W c (.zip m1 m2) tg (.Call (.Name "zip" p) [a,b] [] pos):=by
 intro env Q0q s σ H R I q
 simp only[Ik]at q
 let RR:List V->Hp->Prop:=fun vs H'=>∃env2 d1 d2 xs ys v1 v2,vs=[v1,v2]/\bG X.K H' d1 v1/\bG X.K H' d2 v2/\bB d1=some xs/\bB d2=some ys/\Sat X.K env2 σ H'/\∀J H2,Nx X.K env2 σ H' env2 H2->Gives X.K J (aO xs ys) H2->R J H2
 have go:aD X W c m1 σ H fun v1 H1=>aD X W c m2 σ H1 fun v2 H2=>RR [v1,v2] H2:=by
  refine⟨env,xN q fun d1 env1 v1 H1 N1 D1 q1=>⟨env1,xN q1 fun d2 env2 v2 H2 N2 D2 q2=>?_⟩⟩
  cases e1:bB d1 with
  |none=>rw[e1]at q2;exact q2.2.elim
  |some xs=>
   cases e2:bB d2 with
   |none=>rw[e1,e2]at q2;exact q2.2.elim
   |some ys=>
    rw[e1,e2]at q2
    obtain⟨S,d,zs,z1,z2,z3⟩:=q2
    cases z1
    cases z2
    exact⟨env2,d1,d2,xs,ys,v1,v2,rfl,D1.mono N2.pers,D2,e1,e2,S,z3⟩
 refine wpAny_Call_Name_kw (jO I hg hm PyProof.Rows.boot_zip ?_ (by decide) (by decide))
 refine PyProof.Rows.callWith_type1 (cA (cM ha.d (cM hb.d fL hs2) (by rw[hs,hs2]) pos Q0q s σ H RR I go) fun us s1⟨vs,H1,I1,r1,q1⟩=>?_) (by rw[hs,hs2]) (by rw[hs2];rfl)
 obtain⟨env2,d1,d2,xs,ys,v1,v2,rfl,D1,D2,e1,e2,S2,q3⟩:=q1
 obtain⟨b1,l1,vs,rfl,h1,dl1⟩:=D1.vU e1
 obtain⟨b2,l2,ws,rfl,h2,dl2⟩:=D2.vU e2
 obtain⟨u1,u2,rfl,ru1,ru2⟩:=Vals.two r1
 cases ru1
 cases ru2
 obtain⟨its,rr1,p1,z1,lt1⟩:=Inv.vU I1 h1
 obtain⟨its2,rr2,p2,z2,lt2⟩:=Inv.vU I1 h2
 refine vB p1 p2 fun h' st sz kk=>?_
 obtain⟨f0,f1,zr,h0⟩:=st.zr
 refine iT zr ?_
 refine⟨s1.heap.objs.size+4,[s1.heap.objs.size+4,s1.heap.objs.size+2,s1.heap.objs.size+3,s1.heap.objs.size,s1.heap.objs.size+1],_,_,H1,rfl,I1.kept (t':=s1.toks) kk,jE (vs:=vs) (ws:=ws) (ur lt1 lt2),st,fun b hb=>?_,q3 _ H1 (Nx.refl S2) (vm h1 h2 dl1 dl2 z1)⟩
 have hb':s1.heap.objs.size<=b:=by
  simp only[QCq,QAz,or_false]at hb
  rcases hb with rfl|rfl|rfl|rfl|rfl<;>omega
 exact I1.Bj hb' (I1.hok.fresh hb')
end
end Mini
end
section
namespace Mini
open PySem
variable{A:Around}{Q:Option Value->Shared->Prop}{a:Addr}{prog:Program}{s:Shared}{sl:Array (Option Value)}{xs:Array Value}
def rP{w:World}{E:QZq}{k:Nat}
  (hx:s.heap.get? a=some {cls:=.type "list",dict:=none,data:=.seq xs k,slots:=sl})(hA:A.handled=none)
  (h:∀h' tk,(∀b o,s.heap.get? b=some o->h'.get? b=some o)->Q none {s with heap:=h',toks:=tk}):
  wpAny (model prog w) A (getAttr? (.ref a) "keys") Q E s:=by
 obtain⟨hp,g,d,tk,os⟩:=s
 have hT:∀tk',(⟨hp,g,d,tk',os⟩:Shared).TypeIs (.ref a) "list":=fun _=>⟨_,hx,rfl⟩
 have f1:=sub_AttributeError
 have f3:=F.slot_list_getattribute.lookup
 have f4:=F.slot_list_getattribute.bind (.ref a)
 have f5:=am_list_getattr_none
 have hmiss:typeLookup (.type "list") "keys"=pure none:=am_miss_of_fast (by kernel_rfl)
 unfold getAttr? getAttrBy? getAttrBy
 repeat (any_goals (first|assumption|exact hT _|((with_reducible show wpAny _ _ (call (Value.builtin "list.__getattribute__") _ _) _ _ _);refine call_meets F.slot_list_getattribute (hT _) am_entry_list_getattribute (F.args_list_getattribute_2 _ _) (meets_getattribute_miss_list a xs k sl "keys" _ hmiss (by decide+kernel) (by size_fits)) ⟨hx,hA,fun h' tk' e hx'=>?_⟩)|wp_step))
 obtain⟨t',u',he⟩:=hx'.there
 show wpAny _ _ (getattributeRaised _ _ _ _ _ _ _) _ _ _
 unfold getattributeRaised
 repeat (any_goals (first|assumption|wp_step))
 all_goals exact h _ _ hx'.keeps
def pZ{w:World}{E:QZq}{k:Nat}
  (hx:s.heap.get? a=some {cls:=.type "tuple",dict:=none,data:=.seq xs k,slots:=sl})(hA:A.handled=none)
  (h:∀h' tk,(∀b o,s.heap.get? b=some o->h'.get? b=some o)->Q none {s with heap:=h',toks:=tk}):
  wpAny (model prog w) A (getAttr? (.ref a) "keys") Q E s:=by
 obtain⟨hp,g,d,tk,os⟩:=s
 have hT:∀tk',(⟨hp,g,d,tk',os⟩:Shared).TypeIs (.ref a) "tuple":=fun _=>⟨_,hx,rfl⟩
 have f1:=sub_AttributeError
 have f3:=F.slot_tuple_getattribute.lookup
 have f4:=F.slot_tuple_getattribute.bind (.ref a)
 have f5:=am_tuple_getattr_none
 have hmiss:typeLookup (.type "tuple") "keys"=pure none:=am_miss_of_fast (by kernel_rfl)
 unfold getAttr? getAttrBy? getAttrBy
 repeat (any_goals (first|assumption|exact hT _|((with_reducible show wpAny _ _ (call (Value.builtin "tuple.__getattribute__") _ _) _ _ _);refine call_meets F.slot_tuple_getattribute (hT _) am_entry_tuple_getattribute (F.args_tuple_getattribute_2 _ _) (meets_getattribute_miss_tuple a xs k sl "keys" _ hmiss (by decide+kernel) (by size_fits)) ⟨hx,hA,fun h' tk' e hx'=>?_⟩)|wp_step))
 obtain⟨t',u',he⟩:=hx'.there
 show wpAny _ _ (getattributeRaised _ _ _ _ _ _ _) _ _ _
 unfold getattributeRaised
 repeat (any_goals (first|assumption|wp_step))
 all_goals exact h _ _ hx'.keeps
def lE:typeLookup (.type "zip") "__getattr__"=pure none:=by rw[typeLookup_type,builtinLookup_eq_fast];kernel_rfl
def cG:Slot "zip" "__getattribute__" "zip.__getattribute__":=
 .of (owner:="zip") (n:="__getattribute__") (by rw[typeLookup_type,builtinLookup_eq_fast];kernel_rfl) (by decide+kernel) (by decide+kernel) (by decide+kernel)
  (by first|exact .inl (by decide+kernel)|exact .inr (by decide+kernel)) (by rw[isSubtype_type];kernel_rfl)
def gH:entryFor table "zip.__getattribute__"=some Builtin.«object.__getattribute__»:=
 entryFor_alias (id':="object.__getattribute__") (by kernel_rfl) (by decide+kernel) (by decide+kernel) (by kernel_rfl)
def ir(a b:Value):argsOk "zip.__getattribute__" ⟨[a,b],[]⟩:=by
 unfold argsOk;kernel_rfl
def gf(a:Addr)(xs:Array Value)(sl:Array (Option Value))(name:Str)(u:Tok)(hmiss:typeLookup (.type "zip") name=pure none)(hname:(["__module__","__name__","__qualname__","__doc__","__annotations__"]:List Str).contains name=false)(hsz:name.length+100<=sizeLine:=by size_fits):
  Meets (Builtin.«object.__getattribute__» ⟨[.ref a,.str name u],[]⟩) (fun A R s=>s.heap.get? a=some {cls:=.type "zip",dict:=none,data:=.fields xs,slots:=sl}/\raisesAttr (.ref a) name A R s):=
 Meets.of_wp fun prog w A R s hs=>by
  obtain⟨hp,g,d,tk,os⟩:=s
  obtain⟨hx,hs⟩:=hs
  have hT:(⟨hp,g,d,tk,os⟩:Shared).TypeIs (.ref a) "zip":=⟨_,hx,rfl⟩
  unfold Builtin.«object.__getattribute__»
  repeat (any_goals (first|assumption|wp_step))
  simp only[hname,Qxq,if_false]
  repeat (any_goals (first|assumption|wp_step))
  exact wpAny_raiseAttrError hs.1 hs.2 (attrMsg_fits (by decide+kernel) hsz)
def um{w:World}{E:QZq}
  (hx:s.heap.get? a=some {cls:=.type "zip",dict:=none,data:=.fields xs,slots:=sl})(hA:A.handled=none)
  (h:∀h' tk,(∀b o,s.heap.get? b=some o->h'.get? b=some o)->Q none {s with heap:=h',toks:=tk}):
  wpAny (model prog w) A (getAttr? (.ref a) "keys") Q E s:=by
 obtain⟨hp,g,d,tk,os⟩:=s
 have hT:∀tk',(⟨hp,g,d,tk',os⟩:Shared).TypeIs (.ref a) "zip":=fun _=>⟨_,hx,rfl⟩
 have f1:=sub_AttributeError
 have f3:=cG.lookup
 have f4:=cG.bind (.ref a)
 have f5:=lE
 have hmiss:typeLookup (.type "zip") "keys"=pure none:=am_miss_of_fast (by kernel_rfl)
 unfold getAttr? getAttrBy? getAttrBy
 repeat (any_goals (first|assumption|exact hT _|((with_reducible show wpAny _ _ (call (Value.builtin "zip.__getattribute__") _ _) _ _ _);refine call_meets cG (hT _) gH (ir _ _) (gf a xs sl "keys" _ hmiss (by decide+kernel) (by size_fits)) ⟨hx,hA,fun h' tk' e hx'=>?_⟩)|wp_step))
 obtain⟨t',u',he⟩:=hx'.there
 show wpAny _ _ (getattributeRaised _ _ _ _ _ _ _) _ _ _
 unfold getattributeRaised
 repeat (any_goals (first|assumption|wp_step))
 all_goals exact h _ _ hx'.keeps
end Mini
end
section
namespace Mini
open PySem L2
variable{H:Hp}{env:Ev}{σ:St}
def Nx.chg{K:QQq}{H0:Hp}{d:Addr}{u u':HO}(N:Nx K env σ H0 env H)(S:Sat K env σ H0)(h0:H0 d=none)(h:H d=some u)(hu:N8 u):Nx K env σ H0 env (upd H d u'):=by
 have p:=iH (u':=u') h hu
 refine⟨N.fH.keep p fun i b w ow hb=>?_,N.sub,N.pers.trans p,fun b w q n=>?_,fun b q=>?_,N.bors⟩
 ·rw[aC (fun z=>by subst z;exact S.lO h0 i (N.sub i b ow))];exact hb
 ·rw[aC (fun z=>by subst z;rw[h0]at q;cases q)];exact N.keep b w q n
 ·refine N.dom b ?_
  by_cases hb:b=d
  ·subst hb;rw[aW]at q;cases q
  ·rw[aC hb]at q;exact q
def Mx{kvs:List (Key×V)}:N8 (.dK kvs):=by
 constructor
 all_goals (intros;intro z;cases z)
variable{vs:List V}
def Ff:N8 (.lst vs):=by
 constructor
 all_goals (intros;intro z;cases z)
def Cx.under(X:Cx)(A:Around):Cx:={X with A:=A}
theorem Inv.under{X:Cx}{A:Around}{Q0q:QQz}{σ:St}{H:Hp}{s:Shared}(I:Inv X Q0q σ H s)(h1:A.handled=X.A.handled)(h2:A.frames=X.A.frames):Inv (Cx.under X A) Q0q σ H s:=
 ⟨⟨I.ok.mod,I.ok.kind,I.ok.glob,I.ok.blt,I.ok.above,I.ok.inj,I.ok.has,I.ok.cab,fun hc=>h1.trans (I.ok.hd hc),h2.trans I.ok.frames,I.ok.stk,I.ok.exf,I.ok.bs,I.ok.bsz,I.ok.noex,I.ok.exfs,I.ok.lU,I.ok.frf⟩,
  I.os,I.bare,I.base,I.loc,I.cell,I.free,I.freeC,I.pin,I.hok,I.len⟩
variable{Q0q:QQz}{X:Cx}{s:Shared}
def Inv.back{A:Around}(I:Inv (Cx.under X A) Q0q σ H s)(h1:X.A.handled=A.handled)(h2:X.A.frames=A.frames):Inv X Q0q σ H s:=
 Inv.under (X:=Cx.under X A) (A:=X.A) I h1 h2
def Ef{M:Model}{A:Around}{β:Type}{x:Str}{p:Pos}{it u:Value}{m:Sem β}{Q:β->Shared->Prop}{E:QZq}
  (h:wpAny M A (letOwnedTupleGo (.Name x p) it u) (fun _ s=>wpAny M A m Q E s) E s):wpAny M A m Q E s:=by
 have:=QKq (f:=fun _=>m) h
 exact this
def jr:entryFor table "dict.update.loop"=some Builtin.«dict.update.loop»:=entryFor_of_tree (by kernel_rfl)
def dG:plainId "dict.update.loop"=true:=by decide+kernel
def zf{ks vs r:List D}{d:D}{p:List D×List D}(h:dictOf ks vs (d::r)=some p):∃k v,d=.tup [k,v]/\keyOk k=true/\dictOf (putD k v ks vs).1 (putD k v ks vs).2 r=some p:=by
 unfold dictOf at h
 split at h
 ·rename_i e;cases e
 ·rename_i k v r' e
  cases e
  split at h
  ·rename_i hk
   exact⟨k,v,rfl,hk,h⟩
  ·cases h
 ·cases h
variable{xs:List D}
def Ep{i:Nat}(h:i<xs.length):∃d,xs[i]? =some d/\xs.drop i=d::xs.drop (i+1):=⟨xs[i],QXq h,List.drop_eq_getElem_cons h⟩
section
variable{X:Cx}{A:Around}{Q0q:QQz}{σ τ:St}{env:Ev}{R:Result->Shared->Prop}{J:It}{fp:List Addr}{it d:Addr}{tn:Nat->Heap->Prop}{x:Str}{p:Pos}{xs ks' vs':List D}{H0 H1:Hp}
theorem Ht(hA:X.A=A.in1)(hc:X.calm=true)(T:Turn X.prog X.w X.K (.Name x p) J fp it tn)(G:Gives X.K J xs H1)(S:Sat X.K env τ H0)(h0:H0 d=none)
  (fin:∀s H,Inv X Q0q σ H s->Nx X.K env τ H0 env H->jA X.K H (.dct ks' vs') d->R (.ok (.ret .none)) s):
  ∀(n i:Nat)(s:Shared)(H:Hp)(kvs:List (Key×V))(vs:List D),xs.length-i=n->Inv X Q0q σ H s->(∀b∈fp,gK X Q0q H b)->tn i s.heap->bV H1 H->Nx X.K env τ H0 env H->H d=some (.dK kvs)->
   au X.K H vs (kvs.map (·.2))->dictOf (kvs.map fun q=>cQ q.1) vs (xs.drop i)=some (ks',vs')->kvs.length<=i->i<=xs.length->
   codeAny (model X.prog X.w) A (.builtin "dict.update.loop" ⟨[.ref d,.ref it,rawInt ((i:Nat):Int),.none],[]⟩) R s:=by
 intro n
 induction n with
 |zero=>
  intro i s H kvs vs hn I hf st P N hd dl ho hk hi
  refine codeAny_builtin jr ?_
  rw[Around.under_plainId dG _,<-hA]
  show wpAny _ X.A (pyNext (.ref it)>>=_) _ _ s
  refine QKq (QGq (T.done X rfl rfl rfl hc i Q0q s σ H _ I hf st (G.stop H P i (by omega))) (fun r s1 h=>?_) fun _ _ h=>h)
  obtain⟨rfl,I1⟩:=h
  rw[List.drop_eq_nil_of_le (by omega)]at ho
  cases ho
  show wpAny _ X.A (Builtin.Dict.addKeywords d []>>=_) _ _ s1
  exact QKq (QKz (QKz (fin s1 H I1 N ⟨_,hd,kvs,rfl,rfl,dl⟩)))
 |succ n ih=>
  intro i s H kvs vs hn I hf st P N hd dl ho hk hi
  have hlt:i<xs.length:=by omega
  obtain⟨dd,ed,edr⟩:=Ep hlt
  rw[edr]at ho
  obtain⟨k,v,rfl,hkk,ho'⟩:=zf ho
  refine codeAny_builtin jr ?_
  rw[Around.under_plainId dG _,<-hA]
  show wpAny _ X.A (pyNext (.ref it)>>=_) _ _ s
  refine QKq (QGq (T.item X rfl rfl rfl hc i Q0q s σ H _ I hf st (G.go H P i _ ed)) (fun r s1 h=>?_) fun _ _ h=>h)
  obtain⟨u,rfl,h⟩:=h
  refine Ef (QGq h (fun _ s2 h2=>?_) fun _ _ h=>h)
  obtain⟨y,H',I',ry,yl,st',nf⟩:=h2
  obtain⟨Dy,hH⟩:=G.yld H P i _ ed y H' yl
  obtain⟨a,ws,rfl,hq,l⟩:=cJ Dy
  cases ry
  obtain⟨vk,r1,rfl,Dk,l⟩:=au.aL.mp l
  obtain⟨vv,r2,rfl,Dv,l⟩:=au.aL.mp l
  have:=au.bH.mp l
  subst this
  obtain⟨kk,rfl⟩:=gk hkk
  have ek:=lq Dk
  subst ek
  obtain⟨its,rr,pt,_⟩:=I'.tuple hq
  obtain⟨uk,uv,rfl,rk,rv⟩:=Vals.two rr
  obtain⟨o,eo,ec,nn,edt⟩:=pt
  have N':Nx X.K env τ H0 env H'/\bV H H'/\H' d=some (.dK kvs):=by
   rcases hH with rfl|⟨q,ws,hq0,rfl⟩
   ·exact⟨N,bV.refl _,hd⟩
   ·have NL:=Nx.laid (o:=.tup ws) N.fH hq0
    exact⟨N.trans NL,NL.pers,by rw[aC (fun z=>by subst z;rw[hq0]at hd;cases hd)];exact hd⟩
  obtain⟨N',PP,hd'⟩:=N'
  show wpAny _ X.A (holding [.ref a] _>>=_) _ _ s2
  refine QKq (Qqq ?_)
  refine QKq (wpAny_tryCatch ?_)
  unfold Builtin.Dict.pairItems
  have hty:s2.TypeIs (.ref a) "tuple":=⟨o,eo,ec⟩
  refine QKq (wpAny_typeOf hty ?_)
  rw[if_pos (by decide)]
  refine QKq (wpAny_seqItems eo edt (QKz ?_))
  show wpAny _ X.A (holding [uk,uv] (dictSet d uk uv)) _ _ s2
  refine Qqq ?_
  obtain⟨z,hds,vvs,rel,dd⟩:=Mj I'.hok hd'
  have hz:vvs.length<=sizeLine:=by rw[<-rel.length];exact z
  have hG:=G.len
  have hl:(putK kvs kk vv).length<=i+1:=by have:=jL kvs kk vv;omega
  refine wpAny_dictSet_pairs (hsz:=hz) (rR rk) dd fun h' dd' hs=>?_
  have he:∃q,h'.get? d=some q:=let ⟨q,_,_,hq,_⟩:=dd';⟨q,hq⟩
  have I2:Inv X Q0q σ (upd H' d (.dK (putK kvs kk vv))) {s2 with heap:=h',toks:=s2.toks+1}:=nD I' (by rw[hd'];exact True.intro) hs he (Ml (by omega) hds (rel.put kk rv) dd')
  have N2:=Nx.chg (u':=.dK (putK kvs kk vv)) N' S h0 hd' Mx
  have p2:=iH (u':=.dK (putK kvs kk vv)) hd' Mx
  obtain⟨g1,g2⟩:=CP (k:=kk) Dv (dl.mono PP)
  refine QKz ⟨plainId_quiet dG _,?_⟩
  refine ih (i+1) _ _ (putK kvs kk vv) _ (by omega) I2 (fun b hb=>?_) (T.keep _ _ _ st' fun b hb o e=>?_) ((P.trans PP).trans p2) N2 aW (g2.mono p2) ?_ hl (by omega)
  ·have nb:b≠d:=fun e=>by subst e;rw[nf b hb]at hd';cases hd'
   exact⟨by rw[aC nb];exact nf b hb,(hf b hb).2⟩
  ·have nb:b≠d:=fun e=>by subst e;rw[nf b hb]at hd';cases hd'
   exact(hs.2 b nb).trans e
  ·rw[<-g1];exact ho'
end
section
variable{X:Cx}{Q0q:QQz}{σ τ:St}{env:Ev}{H:Hp}{s:Shared}{o:Addr}{ob:Obj}{T:String}{x:Str}{p:Pos}{xs:List D}{pr:List D×List D}{Q:QZq}{E:QZq}
def tu(hc:X.calm=true)(I:Inv X Q0q σ H s)(S:Sat X.K env τ H)(ho:s.heap.get? o=some ob)(hcl:ob.cls=.type T)(hT:(T !="dict")=true)(hd:dictOf [] [] xs=some pr)
  (hkey:∀(s1:Shared)(E:QZq)(Q:Option Value->Shared->Prop),s1.heap.get? o=some ob->(∀h' tk,(∀b u,s1.heap.get? b=some u->h'.get? b=some u)->Q none {s1 with heap:=h',toks:=tk})->
   wpAny (model X.prog X.w) X.A.in1.in1 (getAttr? (.ref o) "keys") Q E s1)
  (hit:∀(s1:Shared)(u:HO)(E:QZq)(Q:QZq),Inv (Cx.under X X.A.in1.in1) Q0q σ (upd H s.heap.objs.size u) s1->Nx X.K env τ H env (upd H s.heap.objs.size u)->(∀b u,s.heap.get? b=some u->s1.heap.get? b=some u)->
   (∀s2 it fp tn J,Inv (Cx.under X X.A.in1.in1) Q0q σ (upd H s.heap.objs.size u) s2->Turn X.prog X.w X.K (.Name x p) J fp it tn->tn 0 s2.heap->(∀b∈fp,gK X Q0q (upd H s.heap.objs.size u) b)->Gives X.K J xs (upd H s.heap.objs.size u)->Q (.ref it) s2)->
   wpAny (model X.prog X.w) X.A.in1.in1 (pyIter (.ref o)) Q E s1)
  (h:∀a s' H',Inv X Q0q σ H' s'->Nx X.K env τ H env H'->jA X.K H' (.dct pr.1 pr.2) a->H a=none->Q (.ref a) s'):
  wpAny (model X.prog X.w) X.A (call (.type "dict") [.ref o]) Q E s:=by
 refine callType_codes (Q₁:=fun obj s₁=>obj=.ref s.heap.objs.size/\s₁={s with heap:=s.heap.push {cls:=.type "dict",data:=.dict #[]}}) PySem.F.kt_called_dict (PySem.F.kt_typeCall_dict_1 _) PySem.F.entry_dict_init (kt_code_dict_new _ ⟨rfl,rfl⟩) ?_
 rintro obj s₁ ⟨rfl,rfl⟩
 have hnew:(s.heap.push {cls:=.type "dict",data:=.dict #[]}).DictOf (cg X.prog X.w) s.heap.objs.size []:=Heap.DictOf.new s.heap
 have k1:∀b u,s.heap.get? b=some u->(s.heap.push {cls:=.type "dict",data:=.dict #[]}).get? b=some u:=fun _ _ q=>QWq _ q
 have hfr:H s.heap.objs.size=none:=I.hok.fresh (QVz _)
 have I1:=I.laid (a:=s.heap.objs.size) (o:=.dK []) (h':=s.heap.push {cls:=.type "dict",data:=.dict #[]}) (t':=s.toks) k1 (QVz _) (zb s.heap I.big)
 have N1:=Nx.laid (o:=.dK []) S hfr
 refine⟨hnew.typeIs,PySem.F.args_dict_init_2 _ _,?_⟩
 unfold Builtin.«dict.__init__»
 refine QKq ?_
 unfold Builtin.Dict.selfAndRest
 refine QKq (wpAny_notOrdered_dict hnew.typeIs ?_)
 show wpAny _ _ (pure (s.heap.objs.size,[Value.ref o])) _ _ _
 refine QKz ?_
 show wpAny _ _ (Builtin.Dict.updateFrom "dict.__init__" s.heap.objs.size (.ref o) [] .none) _ _ _
 unfold Builtin.Dict.updateFrom
 have hty:(⟨s.heap.push {cls:=.type "dict",data:=.dict #[]},s.gens,s.drawn,s.toks,s.os⟩:Shared).TypeIs (.ref o) T:=⟨ob,k1 o ob ho,hcl⟩
 refine QKq (wpAny_typeOf hty ?_)
 have ht:((Value.type T) !=(Value.type "dict"))=true:=by
  have:T≠"dict":=by simpa using hT
  simpa using this
 rw[if_pos ht]
 refine QKq (hkey _ _ _ (k1 o ob ho) fun h2 tk k2=>?_)
 simp only[Option.isNone_none,if_true]
 refine QKq (wpAny_rule ?_)
 have I2:Inv X Q0q σ _ {s with heap:=h2,toks:=tk}:=I1.kept (t':=tk) k2
 refine QKq (hit _ _ _ _ (Inv.under I2 rfl rfl) N1 (fun b u q=>k2 b u (k1 b u q)) fun s3 it fp tn J I3 Tn st hf G=>?_)
 refine QKq (QKz (QKz ⟨plainId_quiet dG _,?_⟩))
 refine Ht (X:=Cx.under X X.A.in1.in1) (A:=X.A.in1) rfl hc Tn G S hfr (fun s4 H4 I4 N4 O4=>?_) xs.length 0 s3 _ [] [] rfl I3 hf st (bV.refl _) N1 aW au.fM hd (QVz _) (QIq _)
 exact⟨rfl,h _ s4 H4 (Inv.back I4 rfl rfl) N4 O4 hfr⟩
end
def zJ:typeLookup (.type "zip") "__len__"=pure none:=by rw[typeLookup_type,builtinLookup_eq_fast];kernel_rfl
def xn:typeLookup (.type "zip") "__length_hint__"=pure none:=by rw[typeLookup_type,builtinLookup_eq_fast];kernel_rfl
section
variable{X:Cx}{A:Around}{Q0q:QQz}{σ τ:St}{env:Ev}{R:Result->Shared->Prop}{J:It}{fp:List Addr}{it d:Addr}{tn:Nat->Heap->Prop}{x:Str}{p:Pos}{xs:List D}{H0 H1:Hp}
def Inv.aa9{y:V}{u:Value}{Q:Unit->Shared->Prop}{E:QZq}{A:Around}(I:Inv X Q0q σ H s)(hd:H d=some (.lst vs))(ry:RelV y u)(hz:vs.length<sizeLine)
  (h:∀h',(∀b o,b≠d->s.heap.get? b=some o->h'.get? b=some o)->Inv X Q0q σ (upd H d (.lst (vs++[y]))) {s with heap:=h'}->Q () {s with heap:=h'}):
  wpAny (model X.prog X.w) A (updateSeq d (·.push u)) Q E s:=by
 obtain⟨z,its,n,r,e⟩:=(show bW X.prog X.w H s.heap d (.lst vs)from I.hok d _ hd)
 have hl:=r.length
 refine wpAny_updateSeq e rfl ?_ (by show its.toArray.size<=_;rw[Qyq];omega) (by show(its.toArray.push u).size<=_;rw[Array.size_push,Qyq];omega)
 have es:=Heap.get?_update_self (Obj.mapSeq (·.push u)) e rfl
 have oth:∀b o,b≠d->s.heap.get? b=some o->(s.heap.update d (Obj.mapSeq (·.push u))).get? b=some o:=fun b o hb q=>(Heap.get?_update_other _ _ (Ne.symm hb)).trans q
 refine h _ oth (I.write (t':=s.toks) (x:=d) (e:=d) (o:=.lst (vs++[y])) (by rw[hd];exact True.intro) (.inl rfl) (fun b q hb z=>oth b q hb z) ⟨_,es⟩ ?_)
 have ea:(its++[u]).toArray=its.toArray.push u:=by simp
 exact⟨by simp;omega,its++[u],_,Vals.append r (.cons ry .nil),by rw[ea];exact es⟩
theorem G6(hA:X.A=A.in1)(hc:X.calm=true)(T:Turn X.prog X.w X.K (.Name x p) J fp it tn)(G:Gives X.K J xs H1)(S:Sat X.K env τ H0)(h0:H0 d=none)
  (fin:∀s H,Inv X Q0q σ H s->Nx X.K env τ H0 env H->jA X.K H (.lst xs) d->R (.ok (.ret .none)) s):
  ∀(n i:Nat)(s:Shared)(H:Hp)(vs:List V),xs.length-i=n->Inv X Q0q σ H s->(∀b∈fp,gK X Q0q H b)->tn i s.heap->bV H1 H->Nx X.K env τ H0 env H->H d=some (.lst vs)->
   au X.K H (xs.take i) vs->i<=xs.length->
   codeAny (model X.prog X.w) A (.builtin "list.extend.loop" ⟨[.ref d,.ref it,.none],[]⟩) R s:=by
 intro n
 induction n with
 |zero=>
  intro i s H vs hn I hf st P N hd dl hi
  refine codeAny_builtin PySem.F.entry_extend_loop ?_
  rw[Around.under_plainId PySem.F.plain_extend_loop _,<-hA]
  show wpAny _ X.A (pyNext (.ref it)>>=_) _ _ s
  refine QKq (QGq (T.done X rfl rfl rfl hc i Q0q s σ H _ I hf st (G.stop H P i (by omega))) (fun r s1 h=>?_) fun _ _ h=>h)
  obtain⟨rfl,I1⟩:=h
  rw[List.take_of_length_le (by omega)]at dl
  exact QKz (fin s1 H I1 N ⟨_,hd,vs,rfl,dl⟩)
 |succ n ih=>
  intro i s H vs hn I hf st P N hd dl hi
  have hlt:i<xs.length:=by omega
  obtain⟨dd,ed,edr⟩:=Ep hlt
  refine codeAny_builtin PySem.F.entry_extend_loop ?_
  rw[Around.under_plainId PySem.F.plain_extend_loop _,<-hA]
  show wpAny _ X.A (pyNext (.ref it)>>=_) _ _ s
  refine QKq (QGq (T.item X rfl rfl rfl hc i Q0q s σ H _ I hf st (G.go H P i _ ed)) (fun r s1 h=>?_) fun _ _ h=>h)
  obtain⟨u,rfl,h⟩:=h
  refine Ef (QGq h (fun _ s2 h2=>?_) fun _ _ h=>h)
  obtain⟨y,H',I',ry,yl,st',nf⟩:=h2
  obtain⟨Dy,hH⟩:=G.yld H P i _ ed y H' yl
  have N':Nx X.K env τ H0 env H'/\bV H H'/\H' d=some (.lst vs):=by
   rcases hH with rfl|⟨q,ws,hq0,rfl⟩
   ·exact⟨N,bV.refl _,hd⟩
   ·have NL:=Nx.laid (o:=.tup ws) N.fH hq0
    exact⟨N.trans NL,NL.pers,by rw[aC (fun z=>by subst z;rw[hq0]at hd;cases hd)];exact hd⟩
  obtain⟨N',PP,hd'⟩:=N'
  have hG:=G.len
  have lv:=dl.length
  rw[List.length_take]at lv
  show wpAny _ X.A (updateSeq d (·.push u)>>=_) _ _ s2
  refine QKq (Inv.aa9 I' hd' ry (by omega) fun h' oth I2=>?_)
  have N2:=Nx.chg (u':=.lst (vs++[y])) N' S h0 hd' Ff
  have p2:=iH (u':=.lst (vs++[y])) hd' Ff
  refine QKz ⟨plainId_quiet PySem.F.plain_extend_loop _,?_⟩
  refine ih (i+1) _ _ (vs++[y]) (by omega) I2 (fun b hb=>?_) (T.keep _ _ _ st' fun b hb o e=>?_) ((P.trans PP).trans p2) N2 aW ?_ (by omega)
  ·have nb:b≠d:=fun e=>by subst e;rw[nf b hb]at hd';cases hd'
   exact⟨by rw[aC nb];exact nf b hb,(hf b hb).2⟩
  ·have nb:b≠d:=fun e=>by subst e;rw[nf b hb]at hd';cases hd'
   exact oth b o nb e
  ·have:xs.take (i+1)=xs.take i++[dd]:=by rw[List.take_add_one,ed];rfl
   rw[this]
   exact((dl.mono PP).append (au.dj Dy au.fM)).mono p2
end
section
variable{X:Cx}{Q0q:QQz}{σ τ:St}{env:Ev}{H:Hp}{s:Shared}{o:Addr}{ob:Obj}{x:Str}{p:Pos}{xs:List D}{Q:QZq}{E:QZq}
def BK(hc:X.calm=true)(I:Inv X Q0q σ H s)(S:Sat X.K env τ H)(ho:s.heap.get? o=some ob)(hcl:ob.cls=.type "zip")
  (hself:∀(s1:Shared)(E:QZq)(Q:QZq),(∀b u,s.heap.get? b=some u->s1.heap.get? b=some u)->Q (.ref o) s1->wpAny (model X.prog X.w) X.A.in1.in1 (pyIter (.ref o)) Q E s1)
  (hit:∀(s1:Shared)(u:HO),Nx X.K env τ H env (upd H s.heap.objs.size u)->(∀b u,s.heap.get? b=some u->s1.heap.get? b=some u)->
   ∃fp tn J,Turn X.prog X.w X.K (.Name x p) J fp o tn/\tn 0 s1.heap/\(∀b∈fp,gK X Q0q (upd H s.heap.objs.size u) b)/\Gives X.K J xs (upd H s.heap.objs.size u))
  (h:∀a s' H',Inv X Q0q σ H' s'->Nx X.K env τ H env H'->jA X.K H' (.lst xs) a->H a=none->Q (.ref a) s'):
  wpAny (model X.prog X.w) X.A (call (.type "list") [.ref o]) Q E s:=by
 refine callType_codes (Q₁:=fun obj s₁=>obj=.ref s.heap.objs.size/\s₁={s with heap:=s.heap.push {cls:=.type "list",data:=.seq #[]}}) PySem.F.called_list (PySem.F.typeCall_list_1 _) PySem.F.entry_list_init
  (code_list_new _ ⟨rfl,rfl⟩) fun obj s₁ h₁=>?_
 obtain⟨rfl,rfl⟩:=h₁
 have k1:∀b u,s.heap.get? b=some u->(s.heap.push {cls:=.type "list",data:=.seq #[]}).get? b=some u:=fun _ _ q=>QWq _ q
 have hS:(s.heap.push {cls:=.type "list",data:=.seq #[]}).get? s.heap.objs.size=some {cls:=.type "list",data:=.seq #[]}:=Qzq _ rfl
 have hfr:H s.heap.objs.size=none:=I.hok.fresh (QVz _)
 have hne:s.heap.objs.size≠o:=fun e=>absurd (Qqz ho) (by rw[e];exact Nat.lt_irrefl _)
 have oth:∀(f:Array Value->Array Value)(h':Heap)b u,b≠s.heap.objs.size->h'.get? b=some u->(h'.update s.heap.objs.size (Obj.mapSeq f)).get? b=some u:=
  fun f h' b u hb e=>(Heap.get?_update_other _ _ (Ne.symm hb)).trans e
 have old:∀b u,s.heap.get? b=some u->b≠s.heap.objs.size:=fun b u e=>Qvz (Qqz e)
 refine⟨⟨_,hS,rfl⟩,PySem.F.args_list_init_2 _ _,?_⟩
 show wpAny _ X.A.in1.in1 (do let old<-Builtin.List.listItems (.ref s.heap.objs.size);Builtin.List.listUpdate (.ref s.heap.objs.size) (fun _=> #[]);letGo old.toList.reverse;Builtin.List.listExtendWith (.ref s.heap.objs.size) (.ref o) .none) _ _ _
 refine QKq ?_
 unfold Builtin.List.listItems
 refine QKq (wpAny_seqItems hS rfl (QKz ?_))
 show wpAny _ X.A.in1.in1 (updateSeq s.heap.objs.size (fun _=> #[])>>=fun _=>letGo (#[]:Array Value).toList.reverse>>=fun _=>Builtin.List.listExtendWith (.ref s.heap.objs.size) (.ref o) .none) _ _ _
 refine QKq (wpAny_updateSeq hS rfl ?_)
 have hS₂:=Heap.get?_update_self (Obj.mapSeq (fun _=>(#[]:Array Value))) hS rfl
 have k2:∀b u,s.heap.get? b=some u->((s.heap.push {cls:=.type "list",data:=.seq #[]}).update s.heap.objs.size (Obj.mapSeq (fun _=>(#[]:Array Value)))).get? b=some u:=fun b u e=>oth _ _ b u (old b u e) (k1 b u e)
 refine QKq (wpAny_letGo ?_)
 unfold Builtin.List.listExtendWith
 have hty:(⟨(s.heap.push {cls:=.type "list",data:=.seq #[]}).update s.heap.objs.size (Obj.mapSeq (fun _=>(#[]:Array Value))),s.gens,s.drawn,s.toks,s.os⟩:Shared).TypeIs (.ref o) "zip":=⟨ob,k2 o ob ho,hcl⟩
 refine QKq (wpAny_typeOf hty ?_)
 have h1:Builtin.List.listSameRef (.ref s.heap.objs.size) (.ref o)=false:=by simp[Builtin.List.listSameRef,hne]
 have h2:(Value.type "zip"==Value.type "list")=false:=by decide
 have h3:(Value.type "zip"==Value.type "tuple")=false:=by decide
 simp only[h1,h2,h3,Bool.or_false,Qxq,if_false]
 refine QKq (hself _ _ _ k2 ?_)
 refine QKq (Qqq ?_)
 unfold Builtin.List.listLengthHint
 refine QKq (wpAny_specialOf hty zJ ?_)
 show wpAny _ X.A.in1.in1 (specialOf (Value.ref o) (Str.ofString "__length_hint__")>>=_) _ _ _
 refine QKq (wpAny_specialOf hty xn ?_)
 refine QKz ?_
 show wpAny _ X.A.in1.in1 (rule "list.extend.makes-room">>=fun _=>Builtin.List.listTouch (.ref s.heap.objs.size)>>=fun _=>
  again (.builtin "list.extend.loop" ⟨[.ref s.heap.objs.size,.ref o,.none],[]⟩)) _ _ _
 refine QKq (wpAny_rule ?_)
 refine QKq ?_
 show wpAny _ X.A.in1.in1 (updateSeq s.heap.objs.size (·.push .none)>>=fun _=>updateSeq s.heap.objs.size (·.pop)) _ _ _
 refine QKq (wpAny_updateSeq hS₂ rfl ?_)
 have hS₃:=Heap.get?_update_self (Obj.mapSeq (·.push Value.none)) hS₂ rfl
 refine wpAny_updateSeq (hz:=by seq_fits) hS₃ rfl ?_
 have hS₄:=Heap.get?_update_self (Obj.mapSeq (·.pop)) hS₃ rfl
 have k4:∀b u,s.heap.get? b=some u->((((s.heap.push {cls:=.type "list",data:=.seq #[]}).update s.heap.objs.size (Obj.mapSeq (fun _=>(#[]:Array Value)))).update s.heap.objs.size (Obj.mapSeq (·.push Value.none))).update s.heap.objs.size (Obj.mapSeq (·.pop))).get? b=some u:=
  fun b u e=>oth _ _ b u (old b u e) (oth _ _ b u (old b u e) (k2 b u e))
 have I1:=I.laid (a:=s.heap.objs.size) (o:=.lst []) (t':=s.toks) k4 (QVz _) ⟨QIq _,[],_,.nil,hS₄⟩
 have N1:=Nx.laid (o:=.lst []) S hfr
 obtain⟨fp,tn,J,Tn,st,hf,G⟩:=hit {s with heap:=_} _ N1 k4
 refine QKz ⟨plainId_quiet PySem.F.plain_extend_loop _,?_⟩
 refine G6 (X:=Cx.under X X.A.in1.in1) (A:=X.A.in1) rfl hc Tn G S hfr (fun s4 H4 I4 N4 O4=>?_) xs.length 0 _ _ [] rfl (Inv.under I1 rfl rfl) hf st (bV.refl _) N1 aW au.fM (QIq _)
 exact⟨rfl,h _ s4 H4 (Inv.back I4 rfl rfl) N4 O4 hfr⟩
end
def Gives.mono{K:QQq}{J:It}{H':Hp}(g:Gives K J xs H)(p:bV H H'):Gives K J xs H':=
 ⟨fun H1 q=>g.go H1 (p.trans q),fun H1 q=>g.yld H1 (p.trans q),fun H1 q=>g.stop H1 (p.trans q),g.len⟩
def Inv.RV{E:QZq}(I:Inv X Q0q σ H s):Inv {X with xe:=E} Q0q σ H s:=
 ⟨⟨I.ok.mod,I.ok.kind,I.ok.glob,I.ok.blt,I.ok.above,I.ok.inj,I.ok.has,I.ok.cab,I.ok.hd,I.ok.frames,I.ok.stk,I.ok.exf,I.ok.bs,I.ok.bsz,I.ok.noex,I.ok.exfs,I.ok.lU,I.ok.frf⟩,
  I.os,I.bare,I.base,I.loc,I.cell,I.free,I.freeC,I.pin,I.hok,I.len⟩
def Inv.unE{E:QZq}(I:Inv {X with xe:=E} Q0q σ H s):Inv X Q0q σ H s:=Inv.RV (X:={X with xe:=E}) (E:=X.xe) I
variable{b:Bool}
theorem Inv.seqObj{l:Addr}(I:Inv X Q0q σ H s)(h:Np X.K b H l vs):
  ∃(its:Array Value)(k:Nat)(sl:Array (Option Value)),s.heap.get? l=some {cls:=.type (if b then "list" else "tuple"),dict:=none,data:=.seq its k,slots:=sl}:=by
 cases b with
 |true=>
  obtain⟨its,r,⟨o,n,e,c,d,dt⟩,z⟩:=I.list (Nu.sq h)
  obtain⟨oc,od,odt,os⟩:=o
  simp only at c d dt
  subst c d dt
  exact⟨_,_,_,e⟩
 |false=>
  obtain⟨its,r,⟨o,e,c,d,n,dt⟩,z⟩:=I.zN h
  obtain⟨oc,od,odt,os⟩:=o
  simp only at c d dt
  subst c d dt
  exact⟨_,_,_,e⟩
def ww{d:D}(h:bB d=some xs):items d=some xs:=by
 cases d<;>simp[bB]at h<;>simp[items,h]
def Td(K:QQq):List V->Hp->VK->Prop:=fun us H Q=>∃env τ v d xs pr,us=[v]/\Sat K env τ H/\bG K H d v/\bB d=some xs/\dictOf [] [] xs=some pr/\
 ∀a H',Nx K env τ H env H'->jA K H' (.dct pr.1 pr.2) a->H a=none->Q (.ref a) H'
section
variable{X:Cx}{W:Wi}{c:Cf}{m m1 m2:E}{a b e:Expr}{pos p p':Pos}
def BL(hc:X.calm=true):f9 X (.type "dict") (Td X.K):=by
 intro Q0q s σ H us ws Q I r h
 obtain⟨env,τ,v,d,xs,pr,rfl,S,Dv,es,hd,q⟩:=h
 obtain⟨u,rfl,ru⟩:=vals1 r
 obtain⟨bb,l,vs,rfl,hq,dl⟩:=Dv.vU es
 cases ru
 obtain⟨its,k,sl,eo⟩:=Inv.seqObj I hq
 refine tu (x:=("_":Str)) (p:=(default:Pos)) hc I S eo rfl (by cases bb<;>decide) hd (fun s1 E Q e1 k1=>?_) (fun s1 u E Q I1 N1 k1 hQ=>?_) fun a s' H' I' N' O' h'=>⟨.ref a,H',I',rfl,q a H' N' O' h'⟩
 ·cases bb with
  |true=>exact rP e1 (I.ok.hd hc) k1
  |false=>exact pZ e1 (I.ok.hd hc) k1
 ·refine QGq (K5 (X:={(Cx.under X X.A.in1.in1)with xe:=E}) (tg:=.Name ("_":Str) (default:Pos)) (d:=d) (xs:=xs) (R:=fun J H'=>Gives X.K J xs H'/\H'=upd H s.heap.objs.size u) (Inv.RV I1) (show RelV (.ref l) (.ref l)from rfl) (Dv.mono N1.pers) (ww es) fun J g=>⟨g,rfl⟩) (fun v2 s2 h2=>?_) fun _ _ h=>h
  obtain⟨it,fp,tn,J,H',rfl,I2,T,st,hf,g,rfl⟩:=h2
  exact hQ s2 it fp tn J (Inv.unE I2) T st hf g
def Mp{Q:VK}(hv:m.aB=none)(q:tM X.K W env (ev c (.bi .dict m) env) σ H Q):aD X W c m σ H fun v H1=>Td X.K [v] H1 Q:=by
 simp only[nR,hv]at q
 refine⟨env,aU q fun d env1 v H1 N1 D1 q1=>?_⟩
 obtain⟨z,ez,S,q3⟩:=cI q1
 simp only[b1]at ez
 cases es:bB d with
 |none=>rw[es]at ez;cases ez
 |some xs=>
  rw[es]at ez
  simp only[QHq,NQ]at ez
  cases ed:dictOf [] [] xs with
  |none=>rw[ed]at ez;cases ez
  |some pr=>
   rw[ed]at ez
   cases ez
   exact⟨env1,σ,v,d,xs,pr,rfl,S,D1,es,ed,fun a H' N O h0=>q3 _ H' N ⟨a,rfl,O,h0⟩⟩
def Q8(hc:X.calm=true)(ha:GE X W c m a)(hv:m.aB=none)(hg:Gl X "dict")(hm:X.mg "dict"=none)(hs:starEach [a] X.env=[(false,eval a X.env)]):
  GE X W c (.bi .dict m) (.Call (.Name "dict" p) [a] [] pos):=fun env=>
 PE.imp (oF (BL hc) hg hm PyProof.Rows.boot_dict (cM ha.d fL hs) (by decide) (by decide) hs rfl) fun σ H Q h=>Mp hv h
structure agq(X:Cx)(W:Wi)(Q0q:QQz)(σ:St)(Q:VK)(f:D->Ev->Out Rv)(v:Value)(s:Shared):Prop where
 go:∃z TI TO i1 i2 b1 b2 l1 l2 vs ws xs ys env H,v=.ref z/\Inv X Q0q σ H s/\zy z TI TO i1 i2 b1 b2 l1 l2 0 s.heap/\ZipApart z TI TO i1 i2 l1 l2/\(∀b∈[z,TI,TO,i1,i2],gK X Q0q H b)/\
  Gives X.K (Itz X.K b1 b2 l1 l2 vs ws) (aO xs ys) H/\tM X.K W env (f (.lst (aO xs ys)) env) σ H Q
theorem xq{Q:VK}{f:D->Ev->Out Rv}(ha:GE X W c m1 a)(hb:GE X W c m2 b)(hg:Gl X "zip")(hm:X.mg "zip"=none)
  (hs:starEach [a,b] X.env=[(false,eval a X.env),(false,eval b X.env)])(hs2:starEach [b] X.env=[(false,eval b X.env)])(I:Inv X Q0q σ H s)(q:tM X.K W env ((ev c (.zip m1 m2) env).aq f) σ H Q):
  wpAny (model X.prog X.w) X.A (eval (.Call (.Name "zip" p) [a,b] [] pos) X.env) (agq X W Q0q σ Q f) X.xe s:=by
 simp only[Ik]at q
 let RR:List V->Hp->Prop:=fun vs H'=>∃env2 d1 d2 xs ys v1 v2,vs=[v1,v2]/\bG X.K H' d1 v1/\bG X.K H' d2 v2/\bB d1=some xs/\bB d2=some ys/\tM X.K W env2 (f (.lst (aO xs ys)) env2) σ H' Q
 have asc:∀(o:Out Rv)(g:D->Ev->Out Rv),(o.aq g).aq f=o.aq fun d e=>(g d e).aq f:=fun o g=>by
  cases o with
  |ok x e=>cases x<;>rfl
  |exc c e=>rfl
  |bad=>rfl
 rw[asc]at q
 have go:aD X W c m1 σ H fun v1 H1=>aD X W c m2 σ H1 fun v2 H2=>RR [v1,v2] H2:=by
  refine⟨env,aU q fun d1 env1 v1 H1 N1 D1 q1=>⟨env1,?_⟩⟩
  rw[asc]at q1
  refine aU q1 fun d2 env2 v2 H2 N2 D2 q2=>?_
  cases e1:bB d1 with
  |none=>rw[e1]at q2;exact q2.2.elim
  |some xs=>
   cases e2:bB d2 with
   |none=>rw[e1,e2]at q2;exact q2.2.elim
   |some ys=>
    rw[e1,e2]at q2
    exact⟨env2,d1,d2,xs,ys,v1,v2,rfl,D1.mono N2.pers,D2,e1,e2,q2⟩
 refine wpAny_Call_Name_kw (jO I hg hm PyProof.Rows.boot_zip ?_ (by decide) (by decide))
 refine PyProof.Rows.callWith_type1 (cA (cM ha.d (cM hb.d fL hs2) (by rw[hs,hs2]) pos Q0q s σ H RR I go) fun us s1⟨vs,H1,I1,r1,q1⟩=>?_) (by rw[hs,hs2]) (by rw[hs2];rfl)
 obtain⟨env2,d1,d2,xs,ys,v1,v2,rfl,D1,D2,e1,e2,q3⟩:=q1
 obtain⟨b1,l1,vs,rfl,h1,dl1⟩:=D1.vU e1
 obtain⟨b2,l2,ws,rfl,h2,dl2⟩:=D2.vU e2
 obtain⟨u1,u2,rfl,ru1,ru2⟩:=Vals.two r1
 cases ru1
 cases ru2
 obtain⟨its,rr1,p1,z1,lt1⟩:=Inv.vU I1 h1
 obtain⟨its2,rr2,p2,z2,lt2⟩:=Inv.vU I1 h2
 refine vB p1 p2 fun h' st sz kk=>?_
 refine⟨s1.heap.objs.size+4,s1.heap.objs.size+2,s1.heap.objs.size+3,s1.heap.objs.size,s1.heap.objs.size+1,b1,b2,l1,l2,vs,ws,xs,ys,env2,H1,rfl,I1.kept (t':=s1.toks) kk,st,ur lt1 lt2,fun b hb=>?_,vm h1 h2 dl1 dl2 z1,q3⟩
 have hb':s1.heap.objs.size<=b:=by
  simp only[QCq,QAz,or_false]at hb
  rcases hb with rfl|rfl|rfl|rfl|rfl<;>omega
 exact I1.Bj hb' (I1.hok.fresh hb')
theorem zy.lt{z TI TO i1 i2:Addr}{b1 b2:Bool}{l1 l2:Addr}{k:Nat}{h:Heap}(st:zy z TI TO i1 i2 b1 b2 l1 l2 k h):∀b∈[z,TI,TO,i1,i2],b<h.objs.size:=by
 intro b hb
 obtain⟨f0,f1,zr,_⟩:=st.zr
 obtain⟨x,y,to⟩:=st.to
 simp only[QCq,QAz,or_false]at hb
 rcases hb with rfl|rfl|rfl|rfl|rfl
 ·exact Qqz zr
 ·exact Qqz st.ti
 ·exact Qqz to
 ·exact st.it1.lt
 ·exact st.it2.lt
theorem Bg{q1 q2:Pos}(hc:X.calm=true)(ha:GE X W c m1 a)(hb:GE X W c m2 b)(hg:Gl X "zip")(hm:X.mg "zip"=none)
  (hs:starEach [a,b] X.env=[(false,eval a X.env),(false,eval b X.env)])(hs2:starEach [b] X.env=[(false,eval b X.env)])(hg':Gl X "dict")(hm':X.mg "dict"=none)
  (hs':starEach [.Call (.Name "zip" q1) [a,b] [] q2] X.env=[(false,eval (.Call (.Name "zip" q1) [a,b] [] q2) X.env)]):
  GE X W c (.bi .dict (.zip m1 m2)) (.Call (.Name "dict" p) [.Call (.Name "zip" q1) [a,b] [] q2] [] pos):=by
 intro env Q0q s σ H Q I q
 simp only[nR,E.aB]at q
 refine wpAny_Call_Name_kw (jO I hg' hm' PyProof.Rows.boot_dict ?_ (by decide) (by decide))
 refine PyProof.Rows.callWith_type1 ?_ hs' rfl
 rw[hs']
 refine Calls.spliced_cons (cA (xq ha hb hg hm hs hs2 I (by simpa only[nR]using q)) fun u s1 h1=>Calls.spliced_nil ?_)
 obtain⟨z,TI,TO,i1,i2,b1,b2,l1,l2,vs,ws,xs,ys,env1,H1,rfl,I1,st,ap,hf,G,q1⟩:=h1.go
 obtain⟨r,er,S,q3⟩:=cI q1
 simp only[Mini.b1,bB,QHq,NQ]at er
 cases ed:dictOf [] [] (aO xs ys)with
 |none=>rw[ed]at er;cases er
 |some pr=>
  rw[ed]at er
  cases er
  obtain⟨f0,f1,zr,h0⟩:=st.zr
  refine tu (x:=("_":Str)) (p:=(default:Pos)) hc I1 S zr rfl (by decide) ed (fun s2 E Q e1 k1=>um e1 (I1.ok.hd hc) k1) (fun s2 u E Q I2 N2 k2 hQ=>?_)
   fun a s' H' I' N' O' h'=>⟨.ref a,H',I',rfl,q3 _ H' N' ⟨a,rfl,O',h'⟩⟩
  refine iT (k2 _ _ zr) (hQ s2 z [z,TI,TO,i1,i2] _ _ I2 (jE (vs:=vs) (ws:=ws) ap) ((jE (P:=X.prog) (w:=X.w) (K:=X.K) (tg:=.Name ("_":Str) (default:Pos)) (vs:=vs) (ws:=ws) ap).keep 0 _ _ st fun b _ o e=>k2 b o e) (fun b hb=>⟨?_,(hf b hb).2⟩) (G.mono N2.pers))
  rw[aC (Qvz (st.lt b hb))]
  exact(hf b hb).1
def Be{q1 q2:Pos}(hc:X.calm=true)(ha:GE X W c m1 a)(hb:GE X W c m2 b)(hg:Gl X "zip")(hm:X.mg "zip"=none)
  (hs:starEach [a,b] X.env=[(false,eval a X.env),(false,eval b X.env)])(hs2:starEach [b] X.env=[(false,eval b X.env)])(hg':Gl X "list")(hm':X.mg "list"=none)
  (hs':starEach [.Call (.Name "zip" q1) [a,b] [] q2] X.env=[(false,eval (.Call (.Name "zip" q1) [a,b] [] q2) X.env)]):
  GE X W c (.bi .list (.zip m1 m2)) (.Call (.Name "list" p) [.Call (.Name "zip" q1) [a,b] [] q2] [] pos):=by
 intro env Q0q s σ H Q I q
 simp only[nR,E.aB]at q
 refine wpAny_Call_Name_kw (jO I hg' hm' PyProof.Rows.boot_list ?_ (by decide) (by decide))
 refine PyProof.Rows.callWith_type1 ?_ hs' rfl
 rw[hs']
 refine Calls.spliced_cons (cA (xq ha hb hg hm hs hs2 I (by simpa only[nR]using q)) fun u s1 h1=>Calls.spliced_nil ?_)
 obtain⟨z,TI,TO,i1,i2,b1,b2,l1,l2,vs,ws,xs,ys,env1,H1,rfl,I1,st,ap,hf,G,q1⟩:=h1.go
 obtain⟨r,er,S,q3⟩:=cI q1
 simp only[Mini.b1,bB,QHq,NQ]at er
 cases er
 obtain⟨f0,f1,zr,h0⟩:=st.zr
 refine BK (x:=("_":Str)) (p:=(default:Pos)) hc I1 S zr rfl (fun s2 E Q k2 hQ=>iT (k2 _ _ zr) hQ) (fun s2 u N2 k2=>?_)
  fun a s' H' I' N' O' h'=>⟨.ref a,H',I',rfl,q3 _ H' N' ⟨a,rfl,O',h'⟩⟩
 refine⟨[z,TI,TO,i1,i2],_,_,jE (vs:=vs) (ws:=ws) ap,(jE (P:=X.prog) (w:=X.w) (K:=X.K) (tg:=.Name ("_":Str) (default:Pos)) (vs:=vs) (ws:=ws) ap).keep 0 _ _ st fun b _ o e=>k2 b o e,fun b hb=>⟨?_,(hf b hb).2⟩,G.mono N2.pers⟩
 rw[aC (Qvz (st.lt b hb))]
 exact(hf b hb).1
end
variable{Q:Bool->Shared->Prop}{a:Bool}
section
variable{prog:Program}{w:World}{A:Around}{E:QZq}{s:Shared}
def wW{Q:QZq}(h:Q (.bool (!a&&b)) s):wpAny (model prog w) A (call (.builtin "int.__lt__") [.bool a,.bool b]) Q E s:=by
 refine Qzz PySem.F.slot_bool_lt (PyProof.Rows.typeIs_bool' s a) PySem.F.entry_int_lt ?_ (PySem.F.args_int_lt_2 _ _)
 have e:(decide ((if a=true then(1:Int)else 0)< (if b=true then(1:Int)else 0)))=(!a&&b):=by cases a<;>cases b<;>rfl
 have g:=PyProof.Rows.gives_int_lt_bools a b
 show wpAny _ _ (ret (.bool (decide ((if a=true then(1:Int)else 0)< (if b=true then(1:Int)else 0))))) _ _ s
 rw[e]
 exact QKz ⟨_,rfl,h⟩
def yr(h:Q (!a&&b) s):wpAny (model prog w) A (PyProof.Rows.oneLt' true (.bool a) (.bool b)) Q E s:=by
 rw[PyProof.Rows.oneLt'_eq]
 simp only[if_true]
 refine QKq (wpAny_cRoomFor_byValue rfl ?_)
 refine QKq (wpAny_callSpecialIfBound?_slot (PyProof.Rows.typeIs_bool' s a) PySem.F.slot_bool_lt (wW ?_))
 exact wpAny_truthy_bool h
def Aj{c:Bool}(h:Q (!a&&b) s):wpAny (model prog w) A (PyProof.Rows.oneLt' c (.bool a) (.bool b)) Q E s:=by
 cases c with
 |true=>exact yr h
 |false=>exact PySem.W.kat_one _ _ (show wpAny (model prog w) A (richCompare .Lt (.bool a) (.bool b)) _ _ s from uJ A s a b prog w _ _ h)
theorem u6{b fin:Bool}{Q:Bool->Shared->Prop}{nx ny:Nat}:∀{vs ws:List Value}{ns ms:List Bool}(i:Nat),BoolsAre vs ns->BoolsAre ws ms->ns.length+ny=ms.length+nx->fin=decide (nx<ny)->Q (jw ns ms) s->
  PySem.W.KatLex prog w A b fin Q (vs.zip ws) i s
 |_,_,_,_,i,.nil,hw=>fun hl hf h=>by
  rw[List.zip_nil_left]
  refine PySem.W.kat_nil ?_
  cases hw with
  |nil=>rw[Dw]at h;rw[hf];simp at hl;rw[QEz (by omega)];exact h
  |cons c hw=>rw[Dz]at h;rw[hf];simp at hl;rw[QFq (by omega)];exact h
 |_,_,_,_,i,.cons a hv,.nil=>fun hl hf h=>by
  rw[List.zip_nil_right]
  refine PySem.W.kat_nil ?_
  rw[DG]at h
  rw[hf]
  simp at hl
  rw[QEz (by omega)]
  exact h
 |_,_,_,_,i,.cons a hv,.cons c hw=>fun hl hf h=>by
  rw[List.zip_cons_cons]
  rw[uX]at h
  simp only[QBq]at hl
  refine PySem.W.kat_cons (SeqAt.EqAt.bool_bool (A:=A) (s:=s) a c prog w _ _ ?_)
  by_cases hac:a=c
  ·subst hac
   rw[if_pos rfl]at h
   rw[beq_self_eq_true]
   exact PySem.W.kat_yes (u6 (i+1) hv hw (by omega) hf h)
  ·rw[if_neg hac]at h
   rw[beq_eq_false_iff_ne.mpr hac]
   exact PySem.W.kat_no (Aj h)
def yJ{x y:Addr}{xs ys:Array Value}{ns ms:List Bool}(hx:∃o n,s.heap.get? x=some o/\o.data=.seq xs n)(hy:∃o n,s.heap.get? y=some o/\o.data=.seq ys n)(bx:BoolsAre xs.toList ns)(by':BoolsAre ys.toList ms)
  (h:Q (jw ns ms) s):wpAny (model prog w) A (PyProof.Rows.keyLt' (PyProof.Rows.tuples' b) (.ref x) (.ref y)) Q E s:=by
 obtain⟨ox,nx,ex,dx⟩:=hx
 obtain⟨oy,ny,ey,dy⟩:=hy
 have l1:=bx.length
 have l2:=by'.length
 simp at l1 l2
 exact PySem.W.kat_lt ex dx ey dy (u6 (nx:=xs.size) (ny:=ys.size) 0 bx by' (by omega) rfl h)
end
end Mini
end
section
namespace Mini
open PySem L2 PyProof.Rows
section
variable{prog:Program}{w:World}{A:Around}{E:QZq}{s:Shared}
def wg{a:Addr}{vs out:List Value}{n:Nat}{P:PySem.Fin->Shared->Prop}(ho:s.heap.get? a=some (seqObj "list" vs.toArray n))(h64:vs.length<64)(hl:out.length=vs.length)
  (h1:vs.length<2->out=vs)
  (h2:2<=vs.length->∀h':Heap,(∀b o,b≠a->s.heap.get? b=some o->h'.get? b=some o)->wpAny (model prog w) A (keyKind' vs.toArray) (fun κ s'=>s'={s with heap:=h'}/\
   (PySem.W.kas_sort vs.length).kasWp (PySem.W.kas_ask prog w A κ vs) (fun p s''=>s''={s with heap:=h'}/\(p.toList.map fun i=>vs.getD i Value.none)=out) s') (fun _ _=>False) {s with heap:=h'})
  (h:P (.done (.ret .none)) {s with heap:=sortedHeap s.heap a vs out.toArray}):
  wpAny (model prog w) A (Builtin.«list.sort» ⟨[.ref a],[]⟩) P E s:=by
 rw[list_sort_plain]
 have ha:a<s.heap.objs.size:=Qqz ho
 have hz:vs.length<=sizeLine:=by rw[sizeLine_eq];omega
 refine QKq (listItems_at ho rfl ?_)
 refine QKq (listUpdate_at ho rfl ?_ (by rw[Qyq];exact hz) (QIq _))
 obtain⟨e1,ho1⟩:∃e1,(s.heap.update a (Obj.mapSeq fun _=> #[])).get? a=some (seqObj "list" #[] e1):=⟨_,get?_update_seq ho (fun _=> #[])⟩
 refine QKq (seqEpoch_at ho1 rfl ?_)
 refine QKq (wpAny_newTuple ?_ (by show vs.length<=_;exact hz))
 refine QKq (wpAny_newList ?_ (QIq _))
 refine Qqq ?_
 have ho6:(((s.heap.update a (Obj.mapSeq fun _=> #[])).push (seqObj "tuple" vs.toArray 0)).push (seqObj "list" #[] 0)).get? a=some (seqObj "list" #[] e1):=by
  rw[Heap.get?_push_ne _ _ _ (by rw[size_push',Heap.size_update];exact Qvz (Nat.lt_succ_of_lt ha)),Heap.get?_push_ne _ _ _ (by rw[Heap.size_update];exact Qvz ha)]
  exact ho1
 have kp:∀b o,b≠a->s.heap.get? b=some o->(((s.heap.update a (Obj.mapSeq fun _=> #[])).push (seqObj "tuple" vs.toArray 0)).push (seqObj "list" #[] 0)).get? b=some o:=fun b o hb e=>
  QWq _ (QWq _ ((Heap.get?_update_other _ _ (Ne.symm hb)).trans e))
 show wpAny (model prog w) A _ P E {s with heap:=((s.heap.update a (Obj.mapSeq fun _=> #[])).push (seqObj "tuple" vs.toArray 0)).push (seqObj "list" #[] 0)}
 dsimp only
 by_cases hn:vs.toArray.size<2
 ·rw[if_pos hn,if_pos hn]
  refine QKq (QKz ?_)
  rw[StateT.run_pure]
  refine QKq (QKz ?_)
  dsimp only
  have em:(arrOf (SortSt.mk' general' (vs.toArray.zip vs.toArray) #[] 7 none)).map (·.2)=out.toArray:=by
   rw[h1 (by simpa using hn)]
   show(vs.toArray.zip vs.toArray).map (·.2)=_
   apply Array.toList_inj.mp
   simp[List.map_snd_zip]
  refine QKq (seqEpoch_at ho6 rfl ?_)
  rw[em]
  refine QKq (listUpdate_at ho6 rfl ?_ (QIq _) (by show out.toArray.size<=_;rw[Qyq];omega))
  simp only[bne_self_eq_false,Qxq,if_false]
  exact QKz h
 ·rw[if_neg hn,if_neg hn]
  have hn2:2<=vs.length:=by simpa using hn
  refine QKq (QGq (h2 hn2 _ kp) (fun κ s0 hk=>?_) fun _ _ x=>x.elim)
  obtain⟨rfl,hk⟩:=hk
  refine QKq (QGq (PySem.W.kat_run (Q:=fun st' s'=>∃p:Array Nat,arrOf st'=p.map (PySem.W.kas_item (vs.toArray.zip vs.toArray))/\failedOf st'=none/\s'={s with heap:=((s.heap.update a (Obj.mapSeq fun _=> #[])).push (seqObj "tuple" vs.toArray 0)).push (seqObj "list" #[] 0)}/\(p.toList.map fun i=>vs.getD i Value.none)=out)
   rfl hn2 h64 (fun p' st' s' a1 a2 a3 a4=>⟨p',a2,a3,a4.1,a4.2⟩) hk) ?_ fun _ _ e=>e)
  rintro ⟨⟨⟩,st'⟩ s' ⟨p,har,hf,rfl,hp⟩
  dsimp only
  have em:(arrOf st').map (·.2)=out.toArray:=by rw[PySem.W.kat_snds rfl har,hp]
  refine QKq (seqEpoch_at ho6 rfl ?_)
  rw[em]
  refine QKq (listUpdate_at ho6 rfl ?_ (QIq _) (by show out.toArray.size<=_;rw[Qyq];omega))
  rw[hf]
  simp only[bne_self_eq_false,Qxq,if_false]
  exact QKz h
def uz{l:Addr}{vs out:List Value}{Q:QZq}(hls:s.heap.IsList l vs.toArray)(h64:vs.length<64)(hl:out.length=vs.length)(h1:vs.length<2->out=vs)
  (h2:2<=vs.length->∀h':Heap,(∀b o,s.heap.get? b=some o->h'.get? b=some o)->wpAny (model prog w) A.in1.in1 (keyKind' vs.toArray) (fun κ s'=>s'={s with heap:=h'}/\
   (PySem.W.kas_sort vs.length).kasWp (PySem.W.kas_ask prog w A.in1.in1 κ vs) (fun p s''=>s''={s with heap:=h'}/\(p.toList.map fun i=>vs.getD i Value.none)=out) s') (fun _ _=>False) {s with heap:=h'})
  (h:Q (.ref (s.heap.objs.size+1)) {s with heap:=sortedAll s.heap vs out.toArray}):
  wpAny (model prog w) A (call (.builtin "sorted") [.ref l]) Q E s:=by
 refine Calls.call_function_entry kind_sorted plain_sorted entry_sorted (args_sorted1 _) ?_
 unfold Builtin.«sorted»
 have hz:vs.length<=sizeLine:=by rw[sizeLine_eq];omega
 refine QKq (m:=checkCount "sorted" 1 1 _) (QKz ?_)
 refine QKq (collect_list hls ?_ hz)
 refine QKq (wpAny_newList ?_ hz)
 have hsz:((s.heap.push (seqObj "list" #[] 0)).update s.heap.objs.size (Obj.mapSeq (· ++vs.toArray))).objs.size=s.heap.objs.size+1:=by
  rw[Heap.size_update,size_push']
 have hoL:(((s.heap.push (seqObj "list" #[] 0)).update s.heap.objs.size (Obj.mapSeq (· ++vs.toArray))).push (seqObj "list" vs.toArray 0)).get? (s.heap.objs.size+1)=some (seqObj "list" vs.toArray 0):=by
  rw[<-hsz];exact Qzq _ rfl
 have keep:∀b o,s.heap.get? b=some o->(((s.heap.push (seqObj "list" #[] 0)).update s.heap.objs.size (Obj.mapSeq (· ++vs.toArray))).push (seqObj "list" vs.toArray 0)).get? b=some o:=fun b o q=>by
  have hlt:b<s.heap.objs.size:=Qqz q
  rw[Heap.get?_push_ne _ _ _ (by rw[hsz];exact Qvz (Nat.lt_succ_of_lt hlt)),Heap.get?_update_ne _ _ _ _ (Qvz hlt),Heap.get?_push_ne _ _ _ (Qvz hlt)]
  exact q
 show wpAny _ _ _ _ _ {s with heap:=((s.heap.push (seqObj "list" #[] 0)).update s.heap.objs.size (Obj.mapSeq (· ++vs.toArray))).push (seqObj "list" vs.toArray 0)}
 rw[hsz]
 refine QKq (Qqq (Qzz slot_list_sort ⟨_,hoL,rfl⟩ entry_list_sort (wg hoL h64 hl h1 (fun hn h' kp=>?_) ⟨_,rfl,?_⟩) (args_list_sort _)))
 ·exact h2 hn h' fun b o e=>kp b o (Qvz (Nat.lt_succ_of_lt (Qqz e))) (keep b o e)
 ·exact QKz ⟨_,rfl,h⟩
theorem rQ{α:Type}{cmp:Nat->Nat->(Bool->Shared->Prop)->Shared->Prop}{f:Nat->Nat->Option Bool}{Q:α->Shared->Prop}{a:α}(hc:∀i j b(C:Bool->Shared->Prop),f i j=some b->C b s->cmp i j C s):
  ∀(t:PySem.W.KasT α),Jr f t=some a->Q a s->t.kasWp cmp Q s
 |.ret x,e,q=>by cases e;exact q
 |.ask i j k,e,q=>by
  simp only[Jr]at e
  cases z:f i j with
  |none=>rw[z]at e;cases e
  |some b=>rw[z]at e;exact hc i j b _ z (rQ hc (k b) e q)
end
end Mini
end
section
namespace Mini
open PySem L2
inductive fX(h:Heap):List Value->List (List Bool)->Prop
 |nil:fX h [] []
 |cons {a:Addr} {o:Obj} {arr:Array Value} {n:Nat} {b:Bool} {bs:List Bool} {vs:List Value} {rs:List (List Bool)}:h.get? a=some o->o.cls=.type "tuple"->o.data=.seq arr n->BoolsAre arr.toList (b::bs)->fX h vs rs->fX h (.ref a::vs) ((b::bs)::rs)
theorem fX.mono{h h':Heap}(k:∀b o,h.get? b=some o->h'.get? b=some o):∀{vs:List Value}{rs:List (List Bool)},fX h vs rs->fX h' vs rs
 |_,_,.nil=>.nil
 |_,_,.cons e c d b r=>.cons (k _ _ e) c d b (fX.mono k r)
theorem fX.tups{h:Heap}:∀{vs:List Value}{rs:List (List Bool)},fX h vs rs->∃fs,PySem.W.KatTups h vs fs/\fs.length=vs.length/\∀v∈fs,∃b,v=.bool b
 |_,_,.nil=>⟨[],PySem.W.KatTups.nil,rfl,fun v z=>nomatch z⟩
 |_,_,.cons (b:=b) e c d bb r=>by
  obtain⟨fs,t,l,f⟩:=r.tups
  have h0:∃x,(‹Array Value›)[0]? =some x/\x=.bool b:=by
   rename_i arr _ _ _ _
   cases q:arr.toList with
   |nil=>rw[q]at bb;cases bb
   |cons x xs=>
    rw[q]at bb
    cases bb
    refine⟨.bool b,?_,rfl⟩
    have:arr=(Value.bool b::xs).toArray:=by rw[<-q]
    rw[this]
    rfl
  obtain⟨x,hx,rfl⟩:=h0
  refine⟨.bool b::fs,PySem.W.KatTups.cons e c d hx t,by simp[l],fun v z=>?_⟩
  rcases QCq.mp z with rfl|z
  ·exact⟨b,rfl⟩
  ·exact f v z
theorem fX.at{h:Heap}:∀{vs:List Value}{rs:List (List Bool)},fX h vs rs->∀{i:Nat}{r:List Bool},rs[i]? =some r->∃a o arr n,vs.getD i Value.none=.ref a/\h.get? a=some o/\o.data=.seq arr n/\BoolsAre arr.toList r
 |_,_,.cons e c d b t,0,r,q=>by cases q;exact⟨_,_,_,_,rfl,e,d,b⟩
 |_,_,.cons e c d b t,i+1,r,q=>by
  obtain⟨a,o,arr,n,z⟩:=t.at (i:=i) (r:=r) (by simpa using q)
  exact⟨a,o,arr,n,by simpa using z⟩
theorem tE{K:QQq}{H:Hp}:∀{ys:List D}{bs:List Bool}{vs:List V}{us:List Value},bools ys=some bs->au K H ys vs->Vals vs us->BoolsAre us bs
 |[],bs,vs,us,e,d,v=>by
  cases e
  rw[au.bH.mp d]at v
  cases v
  exact .nil
 |y::ys,bs,vs,us,e,d,v=>by
  obtain⟨w,ws,rfl,h1,h2⟩:=au.aL.mp d
  cases v with
  |cons r t=>
   cases y with
   |bl b=>
    simp only[bools]at e
    cases q:bools ys with
    |none=>rw[q]at e;cases e
    |some bs'=>
     rw[q]at e
     cases e
     cases h1
     cases r
     exact .cons b (tE q h2 t)
   |_=>simp[bools]at e
theorem CJ{X:Cx}{Q0q:QQz}{σ:St}{H:Hp}{s:Shared}(I:Inv X Q0q σ H s):∀{xs:List D}{rs:List (List Bool)}{vs:List V}{us:List Value},jq xs=some rs->au X.K H xs vs->Vals vs us->fX s.heap us rs
 |[],rs,vs,us,e,d,v=>by
  cases e
  rw[au.bH.mp d]at v
  cases v
  exact .nil
 |y::ys,rs,vs,us,e,d,v=>by
  obtain⟨w,ws,rfl,h1,h2⟩:=au.aL.mp d
  cases v with
  |cons r t=>
   cases y with
   |tup zs=>
    simp only[jq]at e
    cases q:bools zs with
    |none=>rw[q]at e;cases e
    |some bs=>
     cases bs with
     |nil=>rw[q]at e;cases e
     |cons b bs=>
      rw[q]at e
      simp only at e
      cases q2:jq ys with
      |none=>rw[q2]at e;cases e
      |some rs'=>
       rw[q2]at e
       cases e
       obtain⟨a,us',rfl,hq,l⟩:=cJ h1
       cases r
       obtain⟨its,rr,⟨o,eo,c,n,dt⟩,_⟩:=I.tuple hq
       exact .cons eo c dt (by simpa using tE q l rr) (CJ I q2 h2 t)
   |_=>simp[jq]at e
theorem pJ{K:QQq}{H:Hp}{xs:List D}{vs:List V}{us:List Value}(d:au K H xs vs)(v:Vals vs us):∀{is:List Nat}{ys:List D},su xs is=some ys->∃ws,au K H ys ws/\Vals ws (is.map fun i=>us.getD i Value.none)
 |[],ys,e=>by cases e;exact⟨[],au.fM,.nil⟩
 |i::is,ys,e=>by
  simp only[su]at e
  cases q:xs[i]? with
  |none=>rw[q]at e;cases e
  |some x=>
   rw[q]at e
   simp only[QHq]at e
   cases q2:su xs is with
   |none=>rw[q2]at e;cases e
   |some ys'=>
    rw[q2]at e
    cases e
    obtain⟨ws,h1,h2⟩:=pJ d v q2
    obtain⟨w,ew,dw⟩:=d.get q
    obtain⟨u,eu,ru⟩:=v.get ew
    refine⟨w::ws,au.dj dw h1,?_⟩
    rw[Qyz]
    have:us.getD i Value.none=u:=by simp[List.getD,eu]
    rw[this]
    exact .cons ru h2
variable{H:Hp}{K:QQq}{v:V}
def cT.afr{xs:List D}(h:cT K H (.lst xs) v):∃a vs,v=.ref a/\jm K H a vs/\au K H xs vs:=by
 rcases h with h|⟨o,a,q,rfl,u,ha,hq⟩
 ·obtain⟨a,vs,rfl,hq,l⟩:=dH h
  exact⟨a,vs,rfl,hq.sq,l⟩
 ·cases o<;>cases q
  obtain⟨vs,rfl,l⟩:=hq
  exact⟨a,vs,rfl,.inl (.inl ha),l⟩
def S5(K:QQq):List V->Hp->VK->Prop:=fun us H Q=>∃l vs xs ys,us=[.ref l]/\jm K H l vs/\au K H xs vs/\pG xs=some ys/\∀ws,au K H ys ws->∀a,H a=none->Q (.ref a) (upd H a (.lst ws))
section
variable{X:Cx}
def wU:f9 X (.builtin "sorted") (S5 X.K):=by
 intro Q0q s σ H us ws Q I r h
 obtain⟨l,vs,xs,ys,rfl,hq,dl,es,q⟩:=h
 obtain⟨u,rfl,ru⟩:=vals1 r
 cases ru
 obtain⟨its,rr,pl,hz⟩:=I.list hq
 have lx:=dl.length
 have lv:=rr.length
 have fin:∀(zs:List V)(out:List Value),au X.K H ys zs->Vals zs out->out.length<=sizeLine->EP X Q0q σ Q (.ref (s.heap.objs.size+1)) {s with heap:=PyProof.Rows.sortedAll s.heap its out.toArray}:=fun zs out d v lz=>by
  obtain⟨e,ea⟩:=PyProof.Rows.sortedAll_at s.heap its out.toArray
  exact⟨.ref (s.heap.objs.size+1),_,I.laid (t':=s.toks) (fun b o x=>PyProof.Rows.sortedAll_old x) (Nat.le_succ _) (show bW X.prog X.w _ _ _ (.lst zs)from⟨by rw[v.length];exact lz,out,e,v,ea⟩),rfl,q zs d _ (I.hok.fresh (Nat.le_succ _))⟩
 unfold pG at es
 by_cases h1:xs.length<2
 ·rw[if_pos h1]at es
  cases es
  exact uz pl.isList (by omega) rfl (fun _=>rfl) (fun z=>absurd z (by omega)) (fin vs its dl rr (by omega))
 ·rw[if_neg h1]at es
  by_cases h64:xs.length<64
  ·rw[if_pos h64]at es
   unfold acx at es
   cases e1:jq xs with
   |none=>
    rw[e1]at es
    cases es
   |some rs=>
    rw[e1]at es
    simp only[QHq]at es
    cases e2:Jr (RB rs) (PySem.W.kas_sort xs.length)with
    |none=>rw[e2]at es;cases es
    |some p=>
     rw[e2]at es
     simp only[QHq]at es
     by_cases e3:p.size=xs.length
     ·rw[if_pos e3]at es
      obtain⟨zs,d,v⟩:=pJ dl rr es
      have RA:=CJ I e1 dl rr
      have lo:(p.toList.map fun i=>its.getD i Value.none).length=its.length:=by rw[QAq,Array.length_toList];omega
      refine uz pl.isList (by omega) lo (fun z=>absurd z (by omega)) (fun _ h' kp=>?_) (fin zs _ d v (by omega))
      have RA':=RA.mono kp
      obtain⟨fs,t,lf,fb⟩:=RA'.tups
      refine PySem.W.kat_kind (T:=.type "bool") t (by omega) (fun v hv=>?_) (by decide) ⟨rfl,?_⟩
      ·obtain⟨b,rfl⟩:=fb v hv
       exact PySem.W.Looks.of_pure rfl
      ·have el:its.length=xs.length:=by omega
       rw[el]
       refine rQ (f:=RB rs) (fun i j b C e c=>?_) _ e2 ⟨rfl,rfl⟩
       unfold RB at e
       cases ei:rs[i]? with
       |none=>rw[ei]at e;cases e
       |some ri=>
        cases ej:rs[j]? with
        |none=>rw[ei,ej]at e;cases e
        |some rj=>
         rw[ei,ej]at e
         cases e
         obtain⟨ai,oi,arri,ni,x1,x2,x3,x4⟩:=RA'.at ei
         obtain⟨aj,oj,arrj,nj,y1,y2,y3,y4⟩:=RA'.at ej
         show wpAny _ _ (PyProof.Rows.keyLt' _ (its.getD i Value.none) (its.getD j Value.none)) _ _ _
         rw[x1,y1]
         exact yJ ⟨oi,ni,x2,x3⟩ ⟨oj,nj,y2,y3⟩ x4 y4 c
     ·rw[if_neg e3]at es;cases es
  ·rw[if_neg h64]at es;cases es
def zX:qb X (S5 X.K) (b1 .sorted):=by
 intro env σ H x z v Q S Dx e q
 simp only[b1]at e
 cases x with
 |lst xs=>
  simp only[yC,QHq,NQ]at e
  cases es:pG xs with
  |none=>rw[es]at e;cases e
  |some ys=>
   rw[es]at e
   cases e
   obtain⟨a,vs,rfl,hq,l⟩:=Dx.afr
   exact⟨a,vs,xs,ys,rfl,hq,l,es,fun ws d p hp=>q _ _ (Nx.laid S hp) (kI S d hp)⟩
 |_=>simp[yC]at e
end
variable{env:Ev}{σ:St}
section
variable{X:Cx}{W:Wi}{c:Cf}{m m1 m2 m3:E}{e a b:Expr}{pos:Pos}
def XC{k:Nat}{x:Str}(nm:jn X k x):GE X W c (.ref k) (.Name x pos):=by
 intro env
 refine PE.imp nm.pe fun σ H Q q=>?_
 simp only[Im]at q
 have go:∀o,(env[k]? =some (.own o)\/env[k]? =some (.bor o))->tM X.K W env (.ok (.ref k) env) σ H Q->Ja k σ H Q:=fun o e q=>by
  have:∃a,(σ[k]?).join=some (.ref a):=by
   rcases e with e|e
   ·obtain⟨a,z,_⟩:=q.1.sl k _ e;exact⟨a,z⟩
   ·obtain⟨a,z,_⟩:=q.1.sl k _ e;exact⟨a,z⟩
  obtain⟨a,z⟩:=this
  exact⟨.ref a,bY z,q.2 _ H (Nx.refl q.1) (bY z)⟩
 cases e:env[k]? with
 |none=>rw[e]at q;exact q.2.elim
 |some s=>
  rw[e]at q
  cases s with
  |un=>exact q.2.elim
  |val d=>exact q.2.elim
  |own o=>exact go o (.inl e) q
  |bor o=>exact go o (.inr e) q
def Xy(h:GE X W c m e):GE X W c (.tmp m) e:=by
 intro env
 refine PE.imp (h env) fun σ H Q q=>?_
 simp only[Ou]at q
 refine⟨q.1,?_⟩
 have q2:=q.2
 cases r:ev c m env with
 |bad=>rw[r]at q2;exact q2
 |exc k env1=>rw[r]at q2;exact q2
 |ok x env1=>
  rw[r]at q2
  cases x with
  |val d=>exact False.elim q2
  |ref i=>exact False.elim q2
  |tmp o=>exact False.elim q2
  |new o=>exact q2
theorem Jb{r:Out Rv}{f:Bool->Ev->Out Rv}{Q R:Bool->Hp->Prop}(h:tT K W env (r.cC iB f) σ H Q)
  (k:∀b env1 H1,Nx K env σ H env1 H1->tT K W env1 (f b env1) σ H1 Q->R b H1):tT K W env r σ H R:=by
 have step:∀d env1 x,x.jy=some d->r=.ok x env1->∃b,iB d=some b/\∀H1,Nx K env σ H env1 H1->R b H1:=fun d env1 x ex er=>by
  subst er
  cases q:iB d with
  |none=>
   cases x with
   |val d'=>cases ex;simp only[Out.cC,Out.aq,q]at h;exact h.2.elim
   |new xs=>cases ex;simp only[Out.cC,Out.aq,q]at h;exact h.2.elim
   |ref i=>cases ex
   |tmp xs=>cases ex
  |some b=>
   refine⟨b,rfl,fun H1 N=>k b env1 H1 N (Sv ?_ N)⟩
   cases x with
   |val d'=>cases ex;simp only[Out.cC,Out.aq,q]at h;exact h
   |new xs=>cases ex;simp only[Out.cC,Out.aq,q]at h;exact h
   |ref i=>cases ex
   |tmp xs=>cases ex
 refine⟨h.1,?_⟩
 cases r with
 |bad=>exact h.2
 |exc c env1=>exact h.2
 |ok x env1=>
  cases x with
  |val d=>obtain⟨b,e,q⟩:=step d env1 _ rfl rfl;exact⟨d,b,rfl,e,q⟩
  |new xs=>obtain⟨b,e,q⟩:=step xs.d env1 _ rfl rfl;exact⟨xs.d,b,rfl,e,q⟩
  |ref i=>exact h.2.elim
  |tmp xs=>exact h.2.elim
def Xl{t:Expr}(ht:GT X W c m1 t)(ha:GT X W c m2 a)(hb:GT X W c m3 b):GT X W c (.ite m1 m2 m3) (.IfExp t a b pos):=by
 intro Q0q s σ H Q I ⟨env,q⟩
 have e:∀w,isTrue (.IfExp t a b pos) X.env w=(isTrue t X.env (eval t X.env)>>=fun q=>if q=true then isTrue a X.env (eval a X.env)else isTrue b X.env (eval b X.env)):=fun w=>by first|rfl|rw[PySem.isTrue]|simp only[PySem.isTrue]
 rw[e]
 simp only[Io]at q
 refine QKq (cA (ht Q0q s σ H (fun k H1=>∃env1,tT X.K W env1 (if k=true then ev c m2 env1 else ev c m3 env1) σ H1 Q) I ⟨env,Jb q fun k env1 H1 N q1=>⟨env1,q1⟩⟩) fun k s1⟨H1,I1,env1,q1⟩=>?_)
 cases k with
 |true=>rw[if_pos rfl]at q1⊢;exact ha Q0q s1 σ H1 Q I1 ⟨env1,q1⟩
 |false=>rw[if_neg Qjz]at q1⊢;exact hb Q0q s1 σ H1 Q I1 ⟨env1,q1⟩
end
variable{es:E}{ks:List (Option Expr)}{vs:List Expr}
section
variable{X:Cx}{W:Wi}{c:Cf}{m m1 m2 m3:E}{o a b e f:Expr}{pos p apos cpos:Pos}
def Ls{d k x z:D}{y w:V}{Q:VK}(D1:cT K H d v)(D2:bG K H k y)(D3:bG K H x w)(e:pK d k x=some z)(q:∀u,bG K H z u->Q u H):∃a,v=.ref a/\∃o,qd H a y o/\Q (o.getD w) H:=by
 cases d with
 |cH ks ds=>
  simp only[pK]at e
  split at e
  ·rename_i hk
   cases e
   obtain⟨kk,rfl⟩:=gk hk
   have ek:=lq D2
   subst ek
   obtain⟨a,kvs,rfl,ha,rfl,l⟩:=nC D1
   refine⟨a,rfl,iz kvs kk,.inl ⟨kvs,kk,ha,rfl,rfl⟩,q _ ?_⟩
   cases e1:cN (cQ kk) (kvs.map fun p=>cQ p.1) ds with
   |some d=>
    obtain⟨w,e2,e3⟩:=oK kk e1 l
    rw[e2]
    exact e3
   |none=>
    have n:=j9 (kvs:=kvs) kk
    have e4:∀{ks vs:List D},vs.length=ks.length->cN (cQ kk) ks vs=none->aH (cQ kk) ks=false:=by
     intro ks
     induction ks with
     |nil=>intro vs _ _;rfl
     |cons k' ks ih=>
      intro vs hl h
      cases vs with
      |nil=>simp at hl
      |cons v vs=>
       simp only[cN]at h
       split at h
       ·cases h
       ·rename_i ne
        simp[aH,ne,ih (by simpa using hl) h]
    rw[e4 (by have:=l.length;simpa using this) e1]at n
    have e5:iz kvs kk=none:=by
     cases e6:iz kvs kk with
     |none=>rfl
     |some w=>rw[e6]at n;cases n
    rw[e5]
    exact D3
  ·cases e
 |_=>cases e
def K7{d:D}(D1:cT K H d v)(e:pI (some d)=true):∃a,v=.ref a/\IsD H a:=by
 cases d with
 |cH ks ds=>
  obtain⟨a,kvs,rfl,ha,_⟩:=nC D1
  exact⟨a,rfl,.inl ⟨kvs,ha⟩⟩
 |_=>cases e
def Q7(hu:X.A.units+1<cLine)(M:M2 X o "get" apos e f cpos)(hv:∀k,m1.aB=some k->∃x p,o=.Name x p/\jn X k x)(hd:GE X W c m1 o)(hk:GE X W c m2 e)(hx:GE X W c m3 f):GE X W c (.get2 m1 m2 m3) (.Call (.Attribute o "get" apos) [e,f] [] cpos):=by
 intro env
 cases qv:m1.aB with
 |some i=>
  obtain⟨x,p,rfl,nm⟩:=hv i qv
  refine PE.imp (J2 hu nm.pe hk.d hx.d M) fun σ H Q q=>?_
  simp only[U8,qv]at q
  cases e0:pI (aX i env)with
  |false=>rw[e0]at q;exact q.2.elim
  |true=>
   rw[e0]at q
   simp only[Bool.not_true,Qxq,if_false]at q
   cases e1:aX i env with
   |none=>rw[e1]at e0;cases e0
   |some d0=>
    rw[e1]at e0
    obtain⟨u,eu,D0⟩:=eF q.1 e1
    obtain⟨a,rfl,ia⟩:=K7 D0 e0
    refine⟨.ref a,eu,a,rfl,ia,env,aU q fun k env2 y H2 N2 D2 q2=>⟨env2,aU q2 fun x env3 z H3 N3 D3 q3=>?_⟩⟩
    obtain⟨r,er,S,q4⟩:=cI q3
    cases e2:aX i env3 with
    |none=>rw[e2]at er;cases er
    |some d3=>
     rw[e2]at er
     simp only[Option.bind]at er
     obtain⟨u',eu',D4⟩:=eF S e2
     rw[eu]at eu'
     cases eu'
     cases e3:pK d3 k x with
     |none=>rw[e3]at er;cases er
     |some w=>
      rw[e3]at er
      cases er
      obtain⟨a',ea,o,g,q5⟩:=Ls D4 (D2.mono N3.pers) D3 e3 fun u hu=>q4 u H3 (Nx.refl S) hu
      cases ea
      exact⟨o,g,q5⟩
 |none=>
  intro Q0q s σ H Q I q
  simp only[U8,qv]at q
  exact q.2.elim
def aA(X:Cx)(W:Wi)(c:Cf)(m:E):TE:=fun σ H Q=>∃env,tA X.K W env (ev c m env) σ H Q
inductive Kv(X:Cx)(W:Wi)(c:Cf):E->List (Option Expr)->List Expr->List (TE×TE)->Prop
 |nil:Kv X W c .nil [] [] []
 |cons {k v r:E} {ke ve:Expr} {ks:List (Option Expr)} {vs:List Expr} {mD:List (TE×TE)}:GE X W c k ke->GE X W c v ve->Kv X W c r ks vs mD->Kv X W c (.cons k (.cons v r)) (some ke::ks) (ve::vs) ((aA X W c k,aA X W c v)::mD)
def xK{R:List V->Hp->Prop}{Q:VK}(q:Sx K W env (evs c (.cons m1 m2) env) σ H R)(k:∀v H1 env1,Sx K W env1 (evs c m2 env1) σ H1 (fun vs H2=>R (v::vs) H2)->Q v H1):tA K W env (ev c m1 env) σ H Q:=by
 obtain⟨S,q⟩:=q
 refine⟨S,?_⟩
 simp only[evs]at q
 cases r:ev c m1 env with
 |bad=>rw[r]at q;exact q.elim
 |exc k env1=>rw[r]at q;exact q
 |ok x env1=>
  rw[r]at q
  intro v H1 N1 k1
  refine k v H1 env1 ⟨N1.fH,?_⟩
  simp only[Out.bind]at q
  cases r2:evs c m2 env1 with
  |bad=>rw[r2]at q;exact q.elim
  |exc k env2=>rw[r2]at q;exact fun H2 N2=>q H2 (N1.trans N2)
  |ok xs env2=>
   rw[r2]at q
   intro vs H2 N2 k2
   exact q (v::vs) H2 (N1.trans N2) ⟨v,vs,rfl,k1.on S N1 N2,k2.weaken N1.dom⟩
def nT:List (V×V)->List V
 |[]=>[]
 |p::r=>p.1::p.2::nT r
theorem qz:∀{a b:List (V×V)},nT a=nT b->a=b
 |[],[]=>fun _=>rfl
 |[],_::_=>fun h=>by cases h
 |_::_,[]=>fun h=>by cases h
 |(x,y)::a,(x',y')::b=>fun h=>by
  simp only[nT,List.cons.injEq]at h
  obtain⟨rfl,rfl,h⟩:=h
  rw[qz h]
def Kv.pps{mD:List (TE×TE)}(h:Kv X W c es ks vs mD):PPs X pos ks vs mD:=by
 induction h with
 |nil=>exact Qg
 |cons hk hv _ ih=>exact JS (fun Q0q s σ H Q I⟨env,q⟩=>hk.ag env Q0q s σ H Q I q) (fun Q0q s σ H Q I⟨env,q⟩=>hv.ag env Q0q s σ H Q I q) ih
def Kv.go{mD:List (TE×TE)}(h:Kv X W c es ks vs mD):∀{env:Ev}{σ:St}{H:Hp}{R:List V->Hp->Prop},Sx X.K W env (evs c es env) σ H R->vQ mD σ H fun ps H2=>R (nT ps) H2:=by
 induction h with
 |nil=>
  intro env σ H R q
  obtain⟨S,q⟩:=q
  simp only[evs]at q
  exact q [] H (Nx.refl S) rfl
 |cons hk hv _ ih=>
  intro env σ H R q
  exact⟨env,xK q fun x H1 env1 q1=>⟨env1,xK q1 fun y H2 env2 q2=>ih q2⟩⟩
def Nx.relaid{env1:Ev}{H2:Hp}{p:Addr}{u u':HO}(S:Sat K env σ H)(hp:H p=none)(hu:N8 u)(N:Nx K env σ (upd H p u) env1 H2):H2 p=some u/\Nx K env σ H env1 (upd H2 p u'):=by
 have no:∀i,¬aN env σ i p:=S.lO hp
 have e:H2 p=some u:=N.keep p u aW no
 have ne:∀b w,H b=some w->b≠p:=fun b w q z=>by subst z;rw[hp]at q;cases q
 have N0:=(Nx.laid (o:=u) S hp).trans N
 have P:=iH (u':=u') e hu
 refine⟨e,⟨N.fH.keep P fun i b w o q=>?_,N0.sub,N0.pers.trans P,fun b w q n=>?_,fun b q=>?_,N0.bors⟩⟩
 ·rw[aC (fun z=>by subst z;exact no i (N.sub i _ o))];exact q
 ·rw[aC (ne b w q)];exact N0.keep b w q n
 ·by_cases hb:b=p
  ·subst hb;exact hp
  ·rw[aC hb]at q;exact N0.dom b q
def Mh{ds:List D}{r:Rv}(h:Hs ds=some r):∃(k:SK)(v:D),ds=[eU k,v]/\r=.new (.sdt [eU k] [v]):=by
 unfold Hs at h
 split at h
 ·split at h
  ·rename_i hk
   obtain⟨k,rfl⟩:=jQ hk
   cases h
   exact⟨k,_,rfl,rfl⟩
  ·cases h
 ·cases h
def XR(hu:X.A.units+2<cLine){mD:List (TE×TE)}(h:Kv X W c es ks vs mD)(hall:ks.all (·.isSome)=true)(hl:ks.length=vs.length)(h0:ks≠[])(h15:ks.length<=15):GE X W c (.dsp es) (.Dict ks vs pos):=by
 intro env
 refine PE.imp (Qn hu h.pps hall hl h0 h15) fun σ H Q q p hp=>?_
 simp only[aej]at q
 obtain⟨S,q⟩:=q
 have S1:=(Nx.laid (o:=.dK []) S hp).fH
 have go:Sx X.K W env (evs c es env) σ (upd H p (.dK [])) (fun us H2=>H2 p=some (.dK [])/\∃k a v,us=nT [(.ref a,v)]/\cF X.K H2 k a/\Q (.ref p) (upd H2 p (sD [(k,a,v)]))):=by
  refine⟨S1,?_⟩
  cases r:evs c es env with
  |bad=>rw[r]at q;exact q.elim
  |exc k env1=>rw[r]at q;exact fun H2 N=>q H2 ((Nx.laid S hp).trans N)
  |ok rs env1=>
   rw[r]at q
   simp only[Out.bind]at q
   cases e1:aP rs with
   |none=>rw[e1]at q;exact q.elim
   |some ds=>
    rw[e1]at q
    simp only[QHq]at q
    unfold wJ at q
    by_cases hd:(decide (ds.length<=30)&& !ds.isEmpty)=true
    ·rw[if_pos hd]at q
     simp only[QUq,QUz]at hd
     cases e0:Hs ds with
     |some rv0=>
      rw[e0]at q
      intro us H2 N rv
      have l:au X.K H2 ds us:=iM.ds (by rw[yZ es env r];exact rv) e1
      obtain⟨k,v,rfl,rfl⟩:=Mh e0
      obtain⟨x,w1,rfl,h1,l1⟩:=au.aL.mp l
      obtain⟨y,w2,rfl,h2,l2⟩:=au.aL.mp l1
      cases au.bH.mp l2
      obtain⟨a,rfl,ka⟩:=qL h1
      obtain⟨b1,b2⟩:=Nx.relaid (u':=sD [(k,a,y)]) S hp (by constructor<;>(intros;intro z;cases z)) N
      have P:=iH (u':=sD [(k,a,y)]) b1 (by constructor<;>(intros;intro z;cases z))
      refine⟨b1,⟨k,a,y,rfl,ka,q _ _ b2 ⟨p,rfl,⟨_,aW,[(k,a,y)],rfl,rfl,fun x hx=>?_,?_⟩,hp⟩⟩⟩
      ·cases QDz.mp hx
       obtain⟨b,q1,q2⟩:=ka
       exact⟨b,P.Gb q1,P.Gb q2⟩
      ·exact au.aL.mpr ⟨y,[],rfl,h2.mono P,au.fM⟩
     |none=>rw[e0]at q;exact q.elim
    ·rw[if_neg hd]at q;exact q.elim
 have:=h.go go
 refine cast ?_ this
 congr 1
 funext ps H2
 refine propext ⟨fun⟨z,f⟩=>⟨z,?_⟩,fun⟨z,f⟩=>⟨z,?_⟩⟩
 ·obtain⟨k,a,v,e,h⟩:=f
  exact⟨k,a,v,qz e,h⟩
 ·obtain⟨k,a,v,e,h⟩:=f
  exact⟨k,a,v,by rw[e],h⟩
end
end Mini
end
section
namespace Mini
open PySem
structure Ct where
 N:List Str
 sc:Scope
 fns:List (Str×List Bool)
 kY:List Str
 exs:List Str:=[]
def oU:List Str->Str->Option Nat
 |[],_=>none
 |y::r,x=>if x=y then some 0 else(oU r x).map (· +1)
def Mu:Const->Option D
 |.none=>some .non
 |.bool b=>some (.bl b)
 |.int i=>some (.int i)
 |.str x=>some (.str x)
 |_=>none
def U7(sc:Scope)(x:Str):Bool:=match sc.names.lookup x with
 |some .local=>true
 |some .cell=>true
 |some .free=>true
 |_=>false
def Bb(sc:Scope)(x:Str):Bool:=sc.names.lookup x==some .globalImplicit
def J9(x:Str):Bool:= !(x==("__debug__":Str))&& !(x==("__classdict__":Str))
def jF(C:Ct)(x:Str):Option E:=
 if J9 x then
  match oU C.N x with
  |some k=>if U7 C.sc x then some (.var k)else none
  |none=>if Bb C.sc x then(oU C.kY x).map .glob else none
 else none
def opB:Operator->Option NZ
 |.Add=>some .add
 |.Sub=>some .sub
 |.Mult=>some .mul
 |.Mod=>some .mod
 |.FloorDiv=>some .fdiv
 |.Pow=>some .pow
 |_=>none
def cmB:CmpOp->Option Cm
 |.Eq=>some .eq
 |.NotEq=>some .ne
 |.Lt=>some .lt
 |.LtE=>some .le
 |.Gt=>some .gt
 |.GtE=>some .ge
 |.In=>some .isin
 |.NotIn=>some .notin
 |.Is=>some .fQ
 |.IsNot=>some .notN
def tyB(x:Str):Option Ty:=
 if x="tuple" then some .tup else if x="list" then some .lst else if x="str" then some .str else if x="bool" then some .bool else if x="int" then some .int else if x="dict" then some .cH else none
def ZD(x:Str):Option Bi:=
 if x="len" then some .len else if x="int" then some .int else if x="tuple" then some .tuple else if x="list" then some .list else if x="all" then some .all else if x="any" then some .any
 else if x="sorted" then some .sorted else if x="dict" then some .dict else none
def plain:Expr->Bool
 |.BoolOp .. |.BinOp .. |.UnaryOp .. |.IfExp .. |.ListComp .. |.Compare .. |.Call .. |.Constant .. |.Subscript .. |.Name .. |.List .. |.Tuple .. |.Dict .. =>true
 |_=>false
def E.T8:E->Bool
 |.nil=>true
 |_=>false
def fnAt(C:Ct)(x:Str):Option (Nat×List Bool):=(oU (C.fns.map (·.1)) x).bind fun g=>(C.fns[g]?).map fun p=>(g,p.2)
def qU(scope outer:Scope):Scope:=
 {scope with names:=scope.names.map fun(n,k)=>if (k== .free&&outer.kind== .function&&outer.names.lookup n==some .cell)then(n,.cell)else(n,k)}
def qQ(tgs N:List Str):List Str:=tgs++N.map fun x=>if tgs.contains x then(".":Str)++x else x
def ug:Expr->Option Str
 |.Name x _=>some x
 |_=>none
def Vg:Expr->Option (List Str×Tg)
 |.Name x _=>some ([x],.name 0)
 |.Tuple es _ _=>(es.mapM ug).map fun xs=>(xs,.tup (List.range xs.length))
 |_=>none
def Vx(outer inner:Scope)(tgs N:List Str):Bool:=
 decide (inner.kind=.function)&&decide ((qQ tgs N).Nodup)
 &&(inner.names.all fun p=>(p.2 != .local)||((tgs.contains p.1||p.1==(".0":Str))&&inner.names.lookup p.1==some .local))
 &&(tgs.all fun x=>inner.names.lookup x==some .local)
 &&(inner.names.all fun p=>p.2 != .cell)
 &&(inner.names.all fun p=>(p.2 != .free)||outer.names.lookup p.1==some .cell||outer.names.lookup p.1==some .free)
 &&(N.all fun x=> !tgs.contains x||(inner.names.lookup ((".":Str)++x)).isNone)
 && !N.contains (".0":Str)
def isCall:Expr->Bool
 |.Call .. =>true
 |_=>false
def J7(ap cp:Pos):Bool:=ap.endLine==cp.line
mutual
def dF:Nat->Ct->Expr->Option E
 |0,_,_=>none
 |n+1,C,e=>match e with
  |.Constant k _ _=>(Mu k).map .con
  |.Name x _=>jF C x
  |.Tuple es _ _=>(vP n C es).map .tup
  |.List es _=>(vP n C es).map .lis
  |.BinOp a o b _=>(opB o).bind fun o=>(dF n C a).bind fun a=>(dF n C b).map fun b=>.op o a b
  |.UnaryOp o a _=>match o with
   |.USub=>(dF n C a).map .neg
   |.Not=>(dF n C a).map .not
   |_=>none
  |.BoolOp o es _=>(vP n C es).bind fun m=>if m.T8 then none else match o with
   |.And=>some (.and m)
   |.Or=>some (.or m)
  |.Compare a ops cs _=>match ops,cs with
   |[o],[b]=>(cmB o).bind fun o=>(dF n C a).bind fun a=>(dF n C b).map fun b=>.cmp o a b
   |[o,o2],[b,d]=>(cmB o).bind fun o=>(cmB o2).bind fun o2=>(dF n C a).bind fun a=>(dF n C b).bind fun b=>(dF n C d).map fun d=>.chain o o2 a b d
   |_,_=>none
  |.IfExp t a b _=>(dF n C t).bind fun t=>(dF n C a).bind fun a=>(dF n C b).map fun b=>.ite t a b
  |.Subscript a i _=>match i with
   |.Slice lo hi st _=>match st with
    |none=>(dF n C a).bind fun a=>(Vf n C lo).bind fun lo=>(Vf n C hi).map fun hi=>.slc a lo hi
    |some _=>none
   |i=>(dF n C a).bind fun a=>(dF n C i).map fun i=>.idx a i
  |.Call f args kw cp=>match kw with
   |[]=>match f with
    |.Name x _=>if J9 x&&Bb C.sc x then(match fnAt C x with
      |some (g,fl)=>(HR n C fl args).bind fun m=>if m.T8 then none else some (.call g m)
      |none=>trB n C x args)else none
    |.Attribute o name ap=>if J7 ap cp then(match args with
      |[e]=>if name="count" then(dF n C o).bind fun m1=>(if plain o&& !isCall o then some ()else none).bind fun _=>(dF n C e).map fun m2=>.count m1 m2
       else if name="pop" then(match o with
        |.Name x _=>(jF C x).bind fun m=>match m with
         |.var k=>(dF n C e).map fun m2=>.popAt k m2
         |_=>none
        |_=>none)
       else none
      |[e,f]=>if name="get" then(dF n C o).bind fun m1=>(if plain o&& !isCall o then some ()else none).bind fun _=>(dF n C e).bind fun m2=>(dF n C f).map fun m3=>.get2 m1 m2 m3 else none
      |_=>none)else none
    |_=>none
   |_=>none
  |.Dict ks vs _=>if ks.length=vs.length&&decide (ks.length<=15)&& !ks.isEmpty then(FP n C ks vs).map .dsp else none
  |.ListComp elt gens sc _=>match gens with
   |[g]=>trC n C elt g sc
   |_=>none
  |_=>none
def FP:Nat->Ct->List (Option Expr)->List Expr->Option E
 |0,_,_,_=>none
 |n+1,C,ks,vs=>match ks,vs with
  |[],[]=>some .nil
  |some k::ks,v::vs=>(dF n C k).bind fun k=>(dF n C v).bind fun v=>(FP n C ks vs).map fun r=>.cons k (.cons v r)
  |_,_=>none
def trC:Nat->Ct->Expr->Comprehension->Scope->Option E
 |0,_,_,_,_=>none
 |n+1,C,elt,g,sc=>if g.is_async=0 then(Vg g.target).bind fun(tgs,tg)=>
   if Vx C.sc sc tgs C.N then
    let C2:Ct:={C with N:=qQ tgs C.N,sc:=qU sc C.sc}
    (YW n C g.iter).bind fun it=>(match g.ifs with
     |[]=>some (E.con (.bl true))
     |[c]=>dF n C2 c
     |_=>none).bind fun cond=>(dF n C2 elt).map fun m=>.comp tgs.length tg it cond m
   else none else none
def YW:Nat->Ct->Expr->Option E
 |0,_,_=>none
 |n+1,C,e=>match e with
  |.Call f args kw cp=>match f,args,kw with
   |.Name x _,[a],[]=>if x="range"&&Bb C.sc x&&(fnAt C x).isNone then(dF n C a).map .range1 else dF n C e
   |.Name x _,[a,b],[]=>if x="zip"&&Bb C.sc x&&(fnAt C x).isNone then(dF n C a).bind fun a=>(dF n C b).map fun b=>.zip a b else dF n C e
   |_,_,_=>dF n C e
  |_=>dF n C e
def trB:Nat->Ct->Str->List Expr->Option E
 |0,_,_,_=>none
 |n+1,C,x,args=>match args with
  |[a,t]=>if x="isinstance" then(match t with
    |.Name y _=>if Bb C.sc y then(tyB y).bind fun t=>(dF n C a).map fun a=>.isi a t else none
    |_=>none)else none
  |[a]=>match a with
   |.Call f zs kw _=>(match f,zs,kw with
    |.Name z _,[p,q],[]=>if z="zip"&&Bb C.sc z&&(fnAt C z).isNone then
      (if x="dict" then(dF n C p).bind fun p=>(dF n C q).map fun q=>.bi .dict (.zip p q)
       else if x="list" then(dF n C p).bind fun p=>(dF n C q).map fun q=>.bi .list (.zip p q)else none)
     else(ZD x).bind fun b=>(dF n C a).bind fun m=>if b=.dict&&m.aB.isSome then some (.bi b (.rd m))else some (.bi b m)
    |_,_,_=>(ZD x).bind fun b=>(dF n C a).bind fun m=>if b=.dict&&m.aB.isSome then some (.bi b (.rd m))else some (.bi b m))
   |a=>(ZD x).bind fun b=>(dF n C a).bind fun m=>if b=.dict&&m.aB.isSome then some (.bi b (.rd m))else some (.bi b m)
  |_=>none
def HR:Nat->Ct->List Bool->List Expr->Option E
 |0,_,_,_=>none
 |n+1,C,fl,es=>match fl,es with
  |[],[]=>some .nil
  |false::fl,e::es=>(dF n C e).bind fun m=>(HR n C fl es).map fun ms=>.cons m ms
  |true::fl,e::es=>(match e with
    |.Name x _=>(jF C x).bind fun m=>match m with
     |.var k=>some (E.ref k)
     |_=>none
    |e=>(dF n C e).map E.tmp).bind fun m=>(HR n C fl es).map fun ms=>.cons m ms
  |_,_=>none
def Vf:Nat->Ct->Option Expr->Option E
 |0,_,_=>none
 |n+1,C,o=>match o with
  |none=>some .noneE
  |some e=>dF n C e
def vP:Nat->Ct->List Expr->Option E
 |0,_,_=>none
 |n+1,C,es=>match es with
  |[]=>some .nil
  |e::es=>(dF n C e).bind fun m=>(vP n C es).map fun ms=>.cons m ms
end
def Jz(C:Ct)(e f:Option Expr):Nat:=match e,f with
 |some (.Call (.Name x _) [.Constant (.str _) _ _] [] _),none=>if Bb C.sc x&&J9 x then(match oU C.exs x with|some k=>k+1|none=>0)else 0
 |_,_=>0
def G5(sc:Scope)(x:Str):Bool:=sc.names.lookup x==some .local||sc.names.lookup x==some .cell
def slotsOf(C:Ct):List Expr->Option (List Nat)
 |[]=>some []
 |.Name x _::es=>if G5 C.sc x then(oU C.N x).bind fun i=>(slotsOf C es).map (i:: ·)else none
 |_=>none
def IV(C:Ct):Expr->Option Tg
 |.Name x _=>if G5 C.sc x then(oU C.N x).map .name else none
 |.Tuple es _ _=>(slotsOf C es).map .tup
 |_=>none
def isTup:Expr->Bool
 |.Tuple .. =>true
 |_=>false
def oV:Expr->Bool
 |.ListComp .. =>true
 |_=>false
def isSlice:Expr->Bool
 |.Slice .. =>true
 |_=>false
mutual
def Ss:Nat->Ct->Stmt->Option S
 |0,_,_=>none
 |n+1,C,st=>match st with
  |.Return v _=>match v with
   |none=>some (.ret ABh)
   |some e=>(dF n C e).map .ret
  |.Assign ts e _=>match ts with
   |[t]=>match t with
    |.Name x _=>if G5 C.sc x then(oU C.N x).bind fun i=>(dF n C e).map fun m=>.set i m else none
    |.Tuple es _ _=>if isTup e||oV e then none else(slotsOf C es).bind fun is=>(dF n C e).map fun m=>.setT is m
    |.Subscript o ix _=>match o with
     |.Name x _=>if oV e||isSlice ix then none else(jF C x).bind fun v=>match v with
      |.var k=>(dF n C ix).bind fun i=>(dF n C e).map fun m=>.setIx k i m
      |_=>none
     |_=>none
    |_=>none
   |_=>none
  |.Expr e _=>match e with
   |.Call f args kw cp=>match f,args,kw with
    |.Attribute o name ap,[a],[]=>match o with
     |.Name x _=>if J7 ap cp&&name="append" then(jF C x).bind fun v=>(match v with
       |.var k=>(dF n C a).map fun m=>.append k m
       |_=>none)
      else(dF n C e).map .expr
     |_=>none
    |_,_,_=>(dF n C e).map .expr
   |_=>none
  |.If t a b _=>(dF n C t).bind fun t=>(qH n C a).bind fun a=>(qH n C b).map fun b=>.ite t a b
  |.For tg it b el _=>match el with
   |[]=>(IV C tg).bind fun tg'=>(YW n C it).bind fun it=>(qH n C b).map fun b=>.for_ tg' it b
   |_=>none
  |.While t b el _=>match el with
   |[]=>(dF n C t).bind fun t=>(qH n C b).map fun b=>.while_ t b
   |_=>none
  |.Raise e f _=>some (.raise (Jz C e f))
  |_=>none
def qH:Nat->Ct->List Stmt->Option S
 |0,_,_=>none
 |n+1,C,ss=>match ss with
  |[]=>some .nil
  |s::ss=>(Ss n C s).bind fun m=>(qH n C ss).map fun ms=>.cons m ms
end
end Mini
end
section
namespace Mini
open PySem L2
def nH:List Str:=["isinstance","tuple","list","str","bool","int","dict","len","all","any","sorted","zip","range","enumerate"]
def Yy(X:Cx)(c:Cf)(g:Nat)(x:Str):Prop:=∃k f fd ps,pC X.prog X.w X.K X.mg X.base H9 k f fd ps (tX X.K ps.length (c.fn g))/\jz k X.A/\X.mg x=some (.ref f)/\PySem.W.keepIn X.K (.ref f)=true/\Binds X.K fd ps []/\∀sl,c.fn g sl=.bad\/sl.length=ps.length
structure jt(C:Ct)(X:Cx)(c:Cf):Prop where
 N:X.N=C.N
 sc:X.env.scope=C.sc
 nd:C.N.Nodup
 calm:X.calm=true
 hu:X.A.units+60<cLine
 bi:∀x∈nH,X.mg x=none
 gl:∀k x,C.kY[k]? =some x->∃d,c.gl k=some d/\acL X x d
 fn:∀g x fl,C.fns[g]? =some (x,fl)->Yy X c g x
structure Sd(X:Cx)(c:Cf)(m:E)(e:Expr):Prop where
 ge:GE X W0 c m e
 gt:GT X W0 c m e
 pl:plain e=true
 va:∀k,m.aB=some k->∃x p,e=.Name x p/\jn X k x
 nn:m.fQ=false
theorem iY:∀{N:List Str}{x:Str}{k:Nat},oU N x=some k->N[k]? =some x
 |[],_,_,h=>by cases h
 |y::r,x,k,h=>by
  unfold oU at h
  split at h
  ·rename_i e;cases h;subst e;rfl
  ·cases q:oU r x with
   |none=>rw[q]at h;cases h
   |some j=>rw[q]at h;cases h;simpa using iY q
variable{x:Str}
def U6{sc:Scope}(h:U7 sc x=true):Z0 sc x:=by
 unfold U7 at h
 unfold Z0
 cases q:sc.names.lookup x with
 |none=>rw[q]at h;cases h
 |some k=>rw[q]at h;cases k<;>simp at h<;>simp
def Dc(h:J9 x=true):(x==("__debug__":Str))=false/\(x==("__classdict__":Str))=false:=by
 unfold J9 at h
 rw[QUq]at h
 exact⟨by simpa using h.1,by simpa using h.2⟩
section
variable{C:Ct}{X:Cx}{c:Cf}{e a b:Expr}{m m1 m2 m3:E}{pos p:Pos}{x:Str}
def m9(O:jt C X c)(h:Bb C.sc x=true):Gl X x:=by
 unfold Bb at h
 show X.env.scope.names.lookup x=_
 rw[O.sc]
 simpa using h
def bI(h:plain e=true)(es:List Expr)(env:Env):starEach (e::es) env=(false,eval e env)::starEach es env:=by
 cases e<;>first|rfl|exact absurd (show false=true from h) Qjz
def rH(h:plain e=true)(o:CmpOp):behindInMarks o e=false:=by
 cases e<;>first|rfl|exact absurd (show false=true from h) Qjz
def wG(h:plain e=true)(env:Env)(x:Value):foldedSetIterable e env x=pure x:=by
 cases e<;>first|rfl|exact absurd (show false=true from h) Qjz
def Ag(h:plain e=true):w5 e:=by
 intro o i
 cases e<;>first|rfl|exact absurd (show false=true from h) Qjz
def tame:Expr->Bool
 |.UnaryOp .Not .. |.BoolOp .. |.IfExp .. |.Compare .. =>false
 |_=>true
def Li(h:GE X W0 c m e)(hp:plain e=true)(ht:tame e=true):GT X W0 c m e:=by
 refine h.t fun whole=>?_
 cases e with
 |UnaryOp o a q=>cases o<;>first|rfl|exact absurd (show false=true from ht) Qjz
 |_=>first|rfl|exact absurd (show false=true from hp) Qjz|exact absurd (show false=true from ht) Qjz
def CG(O:jt C X c)(h:jF C x=some m):Sd X c m (.Name x p):=by
 unfold jF at h
 split at h
 ·rename_i nb
  obtain⟨n1,n2⟩:=Dc nb
  cases q:oU C.N x with
  |some k=>
   rw[q]at h
   simp only at h
   split at h
   ·rename_i hv
    cases h
    have nm:jn X k x:=⟨by rw[O.N];exact iY q,by rw[O.sc];exact U6 hv,n1,n2⟩
    exact⟨nm.ge,Li nm.ge rfl rfl,rfl,fun k' e=>by cases e;exact⟨x,p,rfl,nm⟩,rfl⟩
   ·cases h
  |none=>
   rw[q]at h
   simp only at h
   split at h
   ·rename_i hg
    cases q2:oU C.kY x with
    |none=>rw[q2]at h;cases h
    |some k=>
     rw[q2]at h
     cases h
     obtain⟨d,hk,ok⟩:=O.gl k x (iY q2)
     have ge:GE X W0 c (.glob k) (.Name x p):=Q6 hk ok (m9 O hg) n1
     exact⟨ge,Li ge rfl rfl,rfl,fun k' e=>(by cases e),rfl⟩
   ·cases h
 ·cases h
def Dd(O:jt C X c){k:Nat}(h:jF C x=some (.var k)):jn X k x:=by
 obtain⟨y,q,e,nm⟩:=(CG (p:=default) O h).va k rfl
 cases e
 exact nm
inductive Al(X:Cx)(c:Cf):E->List Expr->Prop
 |nil:Al X c .nil []
 |cons {m ms:E} {e:Expr} {es:List Expr}:Sd X c m e->Al X c ms es->Al X c (.cons m ms) (e::es)
theorem Al.ga:∀{ms:E}{es:List Expr},Al X c ms es->GA X W0 c ms es
 |_,_,.nil=>Lz
 |_,_,.cons h t=>Ei h.ge t.ga (bI h.pl _ _)
theorem Al.and{es:List Expr}:∀{m ms:E}{e:Expr},Al X c (.cons m ms) (e::es)->GE X W0 c (.and (.cons m ms)) (.BoolOp .And (e::es) pos)/\GW X W0 c (.and (.cons m ms)) (.BoolOp .And (e::es) pos):=by
 induction es with
 |nil=>intro m ms e h;cases h with|cons h t=>cases t;exact⟨Rb h.ge,QZ h.gt⟩
 |cons e2 es ih=>intro m ms e h;cases h with|cons h t=>cases t with|cons h2 t=>exact⟨X3 h.ge (ih (.cons h2 t)).1,Xn h.gt (ih (.cons h2 t)).2⟩
theorem Al.or{es:List Expr}:∀{m ms:E}{e:Expr},Al X c (.cons m ms) (e::es)->GE X W0 c (.or (.cons m ms)) (.BoolOp .Or (e::es) pos)/\GW X W0 c (.or (.cons m ms)) (.BoolOp .Or (e::es) pos):=by
 induction es with
 |nil=>intro m ms e h;cases h with|cons h t=>cases t;exact⟨XD h.ge,Xj h.gt⟩
 |cons e2 es ih=>intro m ms e h;cases h with|cons h t=>cases t with|cons h2 t=>exact⟨ab8 h.ge (ih (.cons h2 t)).1,ab2 h.gt (ih (.cons h2 t)).2⟩
def Wu{o:Operator}{q:NZ}(h:opB o=some q):o=abn q:=by
 cases o<;>first|(cases (show some _=some q from h);rfl)|cases (show none=some q from h)
def Bt{o:CmpOp}{q:Cm}(h:cmB o=some q):o=eQ q:=by
 cases o<;>first|(cases (show some _=some q from h);rfl)|cases (show none=some q from h)
def Mt{k:Const}{d:D}(h:Mu k=some d):CW d k=true:=by
 cases k<;>simp[Mu]at h<;>subst h<;>simp[CW]
def Vd{t:Ty}(h:tyB x=some t):x=Str.ofString (tyN t)/\x∈nH:=by
 unfold tyB at h
 split at h
 ·rename_i e;cases h;subst e;exact⟨rfl,by decide⟩
 split at h
 ·rename_i e;cases h;subst e;exact⟨rfl,by decide⟩
 split at h
 ·rename_i e;cases h;subst e;exact⟨rfl,by decide⟩
 split at h
 ·rename_i e;cases h;subst e;exact⟨rfl,by decide⟩
 split at h
 ·rename_i e;cases h;subst e;exact⟨rfl,by decide⟩
 split at h
 ·rename_i e;cases h;subst e;exact⟨rfl,by decide⟩
 cases h
def Ud(O:jt C X c){bb:Bi}(h:ZD x=some bb)(hg:Bb C.sc x=true)(ha:Sd X c m a)(hd:bb=.dict->m.aB=none):GE X W0 c (.bi bb m) (.Call (.Name x p) [a] [] pos):=by
 have hs:=bI ha.pl [] X.env
 have hG:=m9 O hg
 unfold ZD at h
 split at h
 ·rename_i e;cases h;subst e;exact wF Hz Pu ha.ge ha.va hG (O.bi _ (by decide)) PySem.boot_len (by decide) (by decide) hs
 split at h
 ·rename_i e;cases h;subst e;exact Bh HB Px ha.ge ha.va hG (O.bi _ (by decide)) PyProof.Rows.boot_int (by decide) (by decide) hs
 split at h
 ·rename_i e;cases h;subst e;exact Bh uq Gm ha.ge ha.va hG (O.bi _ (by decide)) PyProof.Rows.boot_tuple (by decide) (by decide) hs
 split at h
 ·rename_i e;cases h;subst e;exact Bh (BJ O.calm) Js ha.ge ha.va hG (O.bi _ (by decide)) PyProof.Rows.boot_list (by decide) (by decide) hs
 split at h
 ·rename_i e;cases h;subst e;exact wF (HF O.calm) Pz ha.ge ha.va hG (O.bi _ (by decide)) PyProof.Rows.boot_all (by decide) (by decide) hs
 split at h
 ·rename_i e;cases h;subst e;exact wF (HD O.calm) Py ha.ge ha.va hG (O.bi _ (by decide)) PyProof.Rows.boot_any (by decide) (by decide) hs
 split at h
 ·rename_i e;cases h;subst e;exact wF wU zX ha.ge ha.va hG (O.bi _ (by decide)) PyProof.Rows.boot_sorted (by decide) (by decide) hs
 split at h
 ·rename_i e;cases h;subst e;exact Q8 O.calm ha.ge (hd rfl) hG (O.bi _ (by decide)) hs
 cases h
end
variable{env:Env}{outer:Scope}
def zZ{sc:Scope}(h:env.scope=outer):relabel sc env=qU sc outer:=by
 subst h
 rfl
variable{tgs:List Str}
def Jp{inner:Scope}{N:List Str}(h:Vx outer inner tgs N=true):(qQ tgs N).Nodup:=by
 unfold Vx at h
 simp only[QUq,QUz]at h
 exact h.1.1.1.1.1.1.2
def Jo{inner:Scope}{N:List Str}(h:Vx outer inner tgs N=true):HQ outer inner tgs N:=by
 unfold Vx at h
 simp only[QUq,QUz,List.all_eq_true,Bool.or_eq_true,bne_iff_ne,beq_iff_eq,Bool.not_eq_true',ne_eq]at h
 obtain⟨⟨⟨⟨⟨⟨⟨h1,h2⟩,h3⟩,h4⟩,h5⟩,h6⟩,h7⟩,h8⟩:=h
 refine⟨h1,h2,fun x hx=>?_,fun p hp hl=>?_,h4,h5,fun p hp hf=>?_,fun x hx ht=>?_,fun hx=>?_⟩
 ·rcases h3 (x,.local) (PySem.mem_of_lookup hx)with z|z
  ·exact absurd rfl z
  ·rcases z.1 with z|z
   ·exact .inl (by simpa using z)
   ·exact .inr z
 ·rcases h3 p hp with z|z
  ·exact absurd hl z
  ·exact z.2
 ·rcases h6 p hp with (z|z)|z
  ·exact absurd hf z
  ·exact .inl z
  ·exact .inr z
 ·rcases h7 x hx with z|z
  ·rw[ht]at z;cases z
  ·simpa using z
 ·have:N.contains (".0":Str)=true:=by simpa using hx
  rw[this]at h8;cases h8
variable{tg:Tg}
section
variable{C:Ct}{X:Cx}{c:Cf}{sc:Scope}{tgs:List Str}
theorem jt.blk(O:jt C X c)(hs:Vx C.sc sc tgs C.N=true){cl:List (Str×Addr)}{fp:List Addr}{s₀:Shared}{H₀:Hp}:jt {C with N:=qQ tgs C.N,sc:=qU sc C.sc} (Mini.blk X sc cl (bK tgs X.N) fp s₀ H₀) c:=
 ⟨by show bK tgs X.N=qQ tgs C.N;rw[O.N];rfl,zZ O.sc,Jp hs,O.calm,O.hu,O.bi,O.gl,O.fn⟩
theorem rE{sc:Scope}{N:List Str}:∀{es:List Expr}{xs:List Str}(k:Nat),es.mapM ug=some xs->(∀j x,xs[j]? =some x->N[k+j]? =some x)->(∀x∈xs,sc.names.lookup x=some .local)->gP sc N (List.range' k xs.length) es=true
 |[],xs,k,h,_,_=>by
  simp at h;subst h;rfl
 |e::es,xs,k,h,hN,hl=>by
  rw[List.mapM_cons]at h
  cases q:ug e with
  |none=>rw[q]at h;cases h
  |some x=>
   rw[q]at h
   cases q2:es.mapM ug with
   |none=>rw[q2]at h;cases h
   |some ys=>
    rw[q2]at h
    cases h
    cases e<;>simp[ug]at q
    subst q
    rw[QBq,List.range'_succ]
    unfold gP
    rw[rE (k+1) q2 (fun j y e=>by have:=hN (j+1) y (by simpa using e);rw[<-this];congr 1;omega) (fun y hy=>hl y (QYq _ hy))]
    have:=hN 0 _ rfl
    simp at this
    simp[this,hl _ QYz]
theorem rF{env:Env}:∀{es:List Expr}{xs:List Str},es.mapM ug=some xs->(assignEach es env).length=xs.length/\(assignEach es env).findIdx? (·.1)=none
 |[],xs,h=>by simp at h;subst h;exact⟨rfl,rfl⟩
 |e::es,xs,h=>by
  rw[List.mapM_cons]at h
  cases q:ug e with
  |none=>rw[q]at h;cases h
  |some x=>
   rw[q]at h
   cases q2:es.mapM ug with
   |none=>rw[q2]at h;cases h
   |some ys=>
    rw[q2]at h
    cases h
    obtain⟨i1,i2⟩:=rF (env:=env) q2
    cases e<;>simp[ug]at q
    subst q
    constructor
    ·show(_::assignEach es env).length=_
     simp[i1]
    ·show(List.findIdx? (·.1) ((false,_)::assignEach es env))=none
     rw[List.findIdx?_cons]
     simp[i2]
def aaj(O:jt C X c){tgE:Expr}(ht:Vg tgE=some (tgs,tg))(hs:Vx C.sc sc tgs C.N=true):(∀i∈slots tg,i<tgs.length)/\∀(cl:List (Str×Addr))(fp:List Addr)(s₀:Shared)(H₀:Hp),GG (Mini.blk X sc cl (bK tgs X.N) fp s₀ H₀) tg tgE:=by
 have S:=Jo hs
 have lc:∀x∈tgs,∀(cl:List (Str×Addr))(fp:List Addr)(s₀:Shared)(H₀:Hp),(Mini.blk X sc cl (bK tgs X.N) fp s₀ H₀).env.scope.names.lookup x=some .local:=fun x hx cl fp s₀ H₀=>lookup_relabel_local (S.tg x hx)
 have nd:∀(cl:List (Str×Addr))(fp:List Addr)(s₀:Shared)(H₀:Hp),(Mini.blk X sc cl (bK tgs X.N) fp s₀ H₀).N.Nodup:=fun cl fp s₀ H₀=>by
  show(bK tgs X.N).Nodup
  rw[O.N]
  exact Jp hs
 cases tgE<;>simp only[Vg]at ht<;>try (cases ht;done)
 ·rename_i x q
  cases ht
  refine⟨fun i hi=>?_,fun cl fp s₀ H₀=>wC (nd cl fp s₀ H₀) rfl (.inl (lc x (by simp) cl fp s₀ H₀)) (.inr (lc x (by simp) cl fp s₀ H₀))⟩
  simp[slots]at hi
  subst hi
  simp
 ·rename_i es k q
  cases qm:es.mapM ug with
  |none=>rw[qm]at ht;cases ht
  |some xs=>
   rw[qm]at ht
   cases ht
   refine⟨fun i hi=>by simpa[slots]using hi,fun cl fp s₀ H₀=>?_⟩
   obtain⟨l1,l2⟩:=rF (env:=(Mini.blk X sc cl (bK tgs X.N) fp s₀ H₀).env) qm
   refine Bc (nd cl fp s₀ H₀) O.calm (Kc ?_) (by simp[l1]) l2
   have:=rE (sc:=(Mini.blk X sc cl (bK tgs X.N) fp s₀ H₀).env.scope) (N:=(Mini.blk X sc cl (bK tgs X.N) fp s₀ H₀).N) 0 qm (fun j x e=>?_) (fun x hx=>lc x hx cl fp s₀ H₀)
   ·rwa[List.range_eq_range']
   ·show(bK tgs X.N)[0+j]? =some x
    unfold bK
    rw[Nat.zero_add,Qwz (QCz.mp e).1]
    exact e
end
inductive Ar(X:Cx)(c:Cf):E->List Expr->Prop
 |nil:Ar X c .nil []
 |cons {m ms:E} {e:Expr} {es:List Expr}:GE X W0 c m e->plain e=true->Ar X c ms es->Ar X c (.cons m ms) (e::es)
theorem Ar.ga{X:Cx}{c:Cf}:∀{ms:E}{es:List Expr},Ar X c ms es->GA X W0 c ms es
 |_,_,.nil=>Lz
 |_,_,.cons h p t=>Ei h t.ga (bI p _ _)
theorem Ar.plain{X:Cx}{c:Cf}{pos:Pos}:∀{ms:E}{es:List Expr},Ar X c ms es->(backTo pos (starEach es X.env)).any (·.1)=false
 |_,_,.nil=>rfl
 |_,_,.cons h p t=>by
  rw[bI p]
  have:=t.plain (pos:=pos)
  simpa[backTo]using this
def Cg(X:Cx)(c:Cf)(m:E)(elt:Expr)(g:Comprehension)(sc:Scope):Prop:=
 ∃tgs tg it cond m',m=.comp tgs.length tg it cond m'/\zB X c sc tgs tg cond m' g.target elt g.ifs/\GI X W0 c it g.target g.iter/\plain g.iter=true/\g.is_async=0
structure Ih(c:Cf)(n:Nat):Prop where
 e:∀C X e m,jt C X c->dF n C e=some m->Sd X c m e
 es:∀C X es m,jt C X c->vP n C es=some m->Al X c m es
 a:∀C X fl es m,jt C X c->HR n C fl es=some m->Ar X c m es
 o:∀C X o m,jt C X c->Vf n C o=some m->GO X W0 c m o
 b:∀C X x args m p pos,jt C X c->Bb C.sc x=true->trB n C x args=some m->GE X W0 c m (.Call (.Name x p) args [] pos)/\m.aB=none/\m.fQ=false
 i:∀C X tg e m,jt C X c->YW n C e=some m->GI X W0 c m tg e/\plain e=true
 k:∀C X elt g sc m,jt C X c->trC n C elt g sc=some m->Cg X c m elt g sc
 d:∀C X ks vs m,jt C X c->FP n C ks vs=some m->∃mD,Kv X W0 c m ks vs mD/\ks.all (·.isSome)=true
def ih0(c:Cf):Ih c 0:=by
 constructor
 all_goals (intros;rename_i h;first|(rw[dF]at h;cases h)|(rw[vP]at h;cases h)|(rw[HR]at h;cases h)|(rw[Vf]at h;cases h)|(rw[trB]at h;cases h)|(rw[YW]at h;cases h)|(rw[trC]at h;cases h)|(rw[FP]at h;cases h))
variable{e:Expr}{es:List Expr}
section
variable{c:Cf}{n:Nat}{C:Ct}{X:Cx}{m:E}
def O2(I:Ih c n)(O:jt C X c)(h:vP (n+1) C es=some m):Al X c m es:=by
 cases es with
 |nil=>rw[vP]at h;cases h;exact .nil
 |cons e es=>
  rw[vP]at h
  simp only[QJq,QJz]at h
  obtain⟨m1,h1,m2,h2,rfl⟩:=h
  exact .cons (I.e C X e m1 O h1) (I.es C X es m2 O h2)
def Vp(I:Ih c n)(O:jt C X c){ks:List (Option Expr)}{vs:List Expr}(h:FP (n+1) C ks vs=some m):∃mD,Kv X W0 c m ks vs mD/\ks.all (·.isSome)=true:=by
 unfold FP at h
 split at h
 ·cases h;exact⟨[],.nil,rfl⟩
 ·simp only[QJq,QJz]at h
  obtain⟨k1,h1,v1,h2,r,h3,rfl⟩:=h
  obtain⟨mD,K,a⟩:=I.d C X _ _ r O h3
  exact⟨_,.cons (I.e C X _ k1 O h1).ge (I.e C X _ v1 O h2).ge K,by simpa using a⟩
 ·cases h
def Vl(I:Ih c n)(O:jt C X c){o:Option Expr}(h:Vf (n+1) C o=some m):GO X W0 c m o:=by
 cases o with
 |none=>rw[Vf]at h;cases h;exact .inl ⟨rfl,rfl⟩
 |some e=>
  rw[Vf]at h
  have s:=I.e C X e m O h
  exact .inr ⟨e,rfl,s.nn,s.ge⟩
def Vr(I:Ih c n)(O:jt C X c){fl:List Bool}(h:HR (n+1) C fl es=some m):Ar X c m es:=by
 cases fl with
 |nil=>
  cases es with
  |nil=>rw[HR]at h;cases h;exact .nil
  |cons e es=>rw[HR]at h<;>first|cases h|(intros;simp_all)
 |cons f fl=>
  cases es with
  |nil=>rw[HR]at h<;>first|cases h|(intros;simp_all)
  |cons e es=>
   cases f with
   |false=>
    rw[HR]at h
    simp only[QJq,QJz]at h
    obtain⟨m1,h1,m2,h2,rfl⟩:=h
    have s:=I.e C X e m1 O h1
    exact .cons s.ge s.pl (I.a C X fl es m2 O h2)
   |true=>
    by_cases hN:∃x p,e=.Name x p
    ·obtain⟨x,p,rfl⟩:=hN
     rw[HR]at h
     simp only[QJq,QJz]at h
     obtain⟨m1,⟨m3,h3,h4⟩,m2,h2,rfl⟩:=h
     split at h4
     ·cases h4
      exact .cons (XC (Dd O h3)) rfl (I.a C X fl es m2 O h2)
     ·cases h4
    ·rw[HR]at h
     ·simp only[QJq,QJz]at h
      obtain⟨m1,⟨m3,h3,rfl⟩,m2,h2,rfl⟩:=h
      have s:=I.e C X e m3 O h3
      exact .cons (Xy s.ge) s.pl (I.a C X fl es m2 O h2)
     ·exact fun x p z=>hN ⟨x,p,z⟩
def VH(O:jt C X c)(h:(decide (x="range")&&Bb C.sc x&&(fnAt C x).isNone)=true):x="range"/\Gl X "range":=by
 simp only[QUq,QUz]at h
 obtain⟨⟨rfl,h2⟩,_⟩:=h
 exact⟨rfl,m9 O h2⟩
def Z1(O:jt C X c)(h:(decide (x="zip")&&Bb C.sc x&&(fnAt C x).isNone)=true):x="zip"/\Gl X "zip":=by
 simp only[QUq,QUz]at h
 obtain⟨⟨rfl,h2⟩,_⟩:=h
 exact⟨rfl,m9 O h2⟩
def Vn(I:Ih c n)(O:jt C X c){tg:Expr}(h:YW (n+1) C e=some m):GI X W0 c m tg e/\plain e=true:=by
 have dflt:dF n C e=some m->GI X W0 c m tg e/\plain e=true:=fun h=>let s:=I.e C X e m O h;⟨ab6 s.ge,s.pl⟩
 unfold YW at h
 split at h
 ·split at h
  ·split at h
   ·rename_i hr
    obtain⟨rfl,hg⟩:=VH O hr
    simp only[QJz]at h
    obtain⟨m1,h1,rfl⟩:=h
    have s:=I.e C X _ m1 O h1
    exact⟨Hr s.ge hg (O.bi _ (by decide)) (bI s.pl _ _),rfl⟩
   ·exact dflt h
  ·split at h
   ·rename_i hr
    obtain⟨rfl,hg⟩:=Z1 O hr
    simp only[QJq,QJz]at h
    obtain⟨m1,h1,m2,h2,rfl⟩:=h
    have s1:=I.e C X _ m1 O h1
    have s2:=I.e C X _ m2 O h2
    exact⟨Xu s1.ge s2.ge hg (O.bi _ (by decide)) (by rw[bI s1.pl,bI s2.pl];rfl) (bI s2.pl _ _),rfl⟩
   ·exact dflt h
  ·exact dflt h
 ·exact dflt h
def Vm(I:Ih c n)(O:jt C X c){elt:Expr}{g:Comprehension}{sc:Scope}(h:trC (n+1) C elt g sc=some m):Cg X c m elt g sc:=by
 rw[trC]at h
 split at h
 ·rename_i ha
  simp only[QJq]at h
  obtain⟨⟨tgs,tg⟩,ht,h⟩:=h
  simp only at h
  split at h
  ·rename_i hs
   simp only[QJq,QJz]at h
   obtain⟨it,h1,cond,h2,m',h3,rfl⟩:=h
   obtain⟨sm,gg⟩:=aaj O ht hs
   have S:=Jo hs
   obtain⟨gi,gp⟩:=I.i C X g.target g.iter it O h1
   refine⟨tgs,tg,it,cond,m',rfl,⟨by rw[O.sc,O.N];exact S,sm,fun cl fp s₀ H₀ _=>gg cl fp s₀ H₀,?_,fun cl fp s₀ H₀ _=>(I.e _ _ elt m' (O.blk hs) h3).ge⟩,gi,gp,ha⟩
   split at h2
   ·rename_i hi
    cases h2
    exact .inl ⟨hi,rfl⟩
   ·rename_i ce hi
    exact .inr ⟨ce,hi,fun cl fp s₀ H₀ _=>(I.e _ _ ce cond (O.blk hs) h2).gt⟩
   ·cases h2
  ·cases h
 ·cases h
end
variable{o:Expr}{p:Pos}
section
variable{c:Cf}{n:Nat}{C:Ct}{X:Cx}{m:E}
theorem J5(I:Ih c n)(O:jt C X c){a:Expr}{pos:Pos}(hg:Bb C.sc x=true)(h:((ZD x).bind fun b=>(dF n C a).bind fun m=>if (decide (b=.dict)&&m.aB.isSome)=true then some (E.bi b (.rd m))else some (E.bi b m))=some m):
  GE X W0 c m (.Call (.Name x p) [a] [] pos)/\m.aB=none/\m.fQ=false:=by
 simp only[QJq]at h
 obtain⟨bb,h1,m1,h2,h3⟩:=h
 split at h3
 ·cases h3
  have s:=I.e C X a m1 O h2
  have gr:GE X W0 c (.rd m1) a:=fun env=>PE.imp (s.ge env) fun σ H Q q=>by simpa only[Il]using q
  have sr:Sd X c (.rd m1) a:=⟨gr,fun Q0q sh σ H Q I⟨env,q⟩=>s.gt Q0q sh σ H Q I ⟨env,by simpa only[Il]using q⟩,s.pl,fun k z=>(by cases z),rfl⟩
  exact⟨Ud O h1 hg sr fun _=>rfl,rfl,rfl⟩
 ·rename_i hn
  cases h3
  refine⟨Ud O h1 hg (I.e C X a m1 O h2) (fun z=>?_),rfl,rfl⟩
  subst z
  cases q:m1.aB with
  |none=>rfl
  |some k=>rw[q]at hn;exact absurd rfl hn
def Vq(I:Ih c n)(O:jt C X c){args:List Expr}{pos:Pos}(hg:Bb C.sc x=true)(h:trB (n+1) C x args=some m):GE X W0 c m (.Call (.Name x p) args [] pos)/\m.aB=none/\m.fQ=false:=by
 unfold trB at h
 split at h
 ·--isinstance
  split at h
  ·rename_i hx
   subst hx
   split at h
   ·split at h
    ·rename_i hy
     simp only[QJq,QJz]at h
     obtain⟨t,h1,m1,h2,rfl⟩:=h
     have s:=I.e C X _ m1 O h2
     obtain⟨e1,e2⟩:=Vd h1
     exact⟨XN s.ge e1 (m9 O hy) (O.bi _ e2) (m9 O hg) (O.bi _ (by decide)) (bI s.pl _ _),rfl,rfl⟩
    ·cases h
   ·cases h
  ·cases h
 ·split at h
  ·split at h
   ·split at h
    ·rename_i hz
     obtain⟨rfl,hgz⟩:=Z1 O hz
     split at h
     ·rename_i hx
      subst hx
      simp only[QJq,QJz]at h
      obtain⟨m1,h1,m2,h2,rfl⟩:=h
      have s1:=I.e C X _ m1 O h1
      have s2:=I.e C X _ m2 O h2
      exact⟨Bg O.calm s1.ge s2.ge hgz (O.bi _ (by decide)) (by rw[bI s1.pl,bI s2.pl];rfl) (bI s2.pl _ _) (m9 O hg) (O.bi _ (by decide)) rfl,rfl,rfl⟩
     ·split at h
      ·rename_i hx
       subst hx
       simp only[QJq,QJz]at h
       obtain⟨m1,h1,m2,h2,rfl⟩:=h
       have s1:=I.e C X _ m1 O h1
       have s2:=I.e C X _ m2 O h2
       exact⟨Be O.calm s1.ge s2.ge hgz (O.bi _ (by decide)) (by rw[bI s1.pl,bI s2.pl];rfl) (bI s2.pl _ _) (m9 O hg) (O.bi _ (by decide)) rfl,rfl,rfl⟩
      ·cases h
    ·exact J5 I O hg h
   ·exact J5 I O hg h
  ·exact J5 I O hg h
 ·cases h
def gM(ge:GE X W0 c m e)(hp:plain e=true)(hv:m.aB=none)(hi:m.fQ=false)(ht:tame e=true):Sd X c m e:=
 ⟨ge,Li ge hp ht,hp,fun k z=>(by rw[hv]at z;cases z),hi⟩
def hu1(O:jt C X c):X.A.units+1<cLine:=by have:=O.hu;omega
def Rf{g:Nat}{fl:List Bool}(h:fnAt C x=some (g,fl)):C.fns[g]? =some (x,fl):=by
 unfold fnAt at h
 simp only[QJq,QJz]at h
 obtain⟨g',h1,⟨y,fl'⟩,h2,h3⟩:=h
 cases h3
 have:=iY h1
 rw[QFz,h2]at this
 simp at this
 rw[h2,this]
def nM{name:Str}(h:isCall o=false):attributeBase o name env (eval o env)=eval o env:=by
 cases o<;>first|rfl|simp[isCall]at h
def Vo(I:Ih c n)(O:jt C X c)(h:dF (n+1) C e=some m):Sd X c m e:=by
 have no:∀{P:Prop},(none:Option E)=some m->P:=fun z=>nomatch z
 unfold dF at h
 split at h
 ·simp only[QJz]at h
  obtain⟨d,h1,rfl⟩:=h
  exact gM (XS (Mt h1)) rfl rfl rfl rfl
 ·exact CG O h
 ·simp only[QJz]at h
  obtain⟨m1,h1,rfl⟩:=h
  exact gM (Xx (I.es C X _ m1 O h1).ga) rfl rfl rfl rfl
 ·simp only[QJz]at h
  obtain⟨m1,h1,rfl⟩:=h
  exact gM (XJ (I.es C X _ m1 O h1).ga) rfl rfl rfl rfl
 ·simp only[QJq,QJz]at h
  obtain⟨o,h0,m1,h1,m2,h2,rfl⟩:=h
  rw[Wu h0]
  exact gM (ab9 (I.e C X _ m1 O h1).ge (I.e C X _ m2 O h2).ge) rfl rfl rfl rfl
 ·split at h
  ·simp only[QJz]at h
   obtain⟨m1,h1,rfl⟩:=h
   exact gM (XH (I.e C X _ m1 O h1).ge) rfl rfl rfl rfl
  ·simp only[QJz]at h
   obtain⟨m1,h1,rfl⟩:=h
   have s:=I.e C X _ m1 O h1
   exact⟨XF s.ge,Xk s.gt,rfl,fun k z=>(by cases z),rfl⟩
  ·exact no h
 ·simp only[QJq]at h
  obtain⟨m1,h1,h2⟩:=h
  have A:=I.es C X _ m1 O h1
  split at h2
  ·exact no h2
  ·rename_i hn
   cases A with
   |nil=>exact absurd rfl hn
   |cons s t=>
    split at h2
    ·cases h2
     exact⟨(Al.cons s t).and.1,(Al.cons s t).and.2.t,rfl,fun k z=>(by cases z),rfl⟩
    ·cases h2
     exact⟨(Al.cons s t).or.1,(Al.cons s t).or.2.t,rfl,fun k z=>(by cases z),rfl⟩
 ·split at h
  ·simp only[QJq,QJz]at h
   obtain⟨o,h0,m1,h1,m2,h2,rfl⟩:=h
   rw[Bt h0]
   have s1:=I.e C X _ m1 O h1
   have s2:=I.e C X _ m2 O h2
   exact⟨XX (n8 O.hu o) s1.ge s2.ge s2.va (rH s2.pl _),Xm (n8 O.hu o) s1.ge s2.ge s2.va (rH s2.pl _),rfl,fun k z=>(by cases z),rfl⟩
  ·simp only[QJq,QJz]at h
   obtain⟨o,h0,o2,h02,m1,h1,m2,h2,m3,h3,rfl⟩:=h
   rw[Bt h0,Bt h02]
   have s1:=I.e C X _ m1 O h1
   have s2:=I.e C X _ m2 O h2
   have s3:=I.e C X _ m3 O h3
   have hm:∀b,lastMarks [eQ o,eQ o2] [b,_]=false:=fun b=>rH s3.pl (eQ o2)
   exact⟨Ly (n8 O.hu o) (n8 O.hu o2) s1.ge s2.ge s3.ge (hm _),Lj (n8 O.hu o) (n8 O.hu o2) s1.ge s2.ge s3.ge (hm _),rfl,fun k z=>(by cases z),rfl⟩
  ·exact no h
 ·simp only[QJq,QJz]at h
  obtain⟨m1,h1,m2,h2,m3,h3,rfl⟩:=h
  have s1:=I.e C X _ m1 O h1
  have s2:=I.e C X _ m2 O h2
  have s3:=I.e C X _ m3 O h3
  exact⟨XM s1.gt s2.ge s3.ge,Xl s1.gt s2.gt s3.gt,rfl,fun k z=>(by cases z),rfl⟩
 ·split at h
  ·split at h
   ·simp only[QJq,QJz]at h
    obtain⟨m1,h1,m2,h2,m3,h3,rfl⟩:=h
    exact gM (Xz (I.e C X _ m1 O h1).ge (I.o C X _ m2 O h2) (I.o C X _ m3 O h3)) rfl rfl rfl rfl
   ·exact no h
  ·simp only[QJq,QJz]at h
   obtain⟨m1,h1,m2,h2,rfl⟩:=h
   have s1:=I.e C X _ m1 O h1
   have s2:=I.e C X _ m2 O h2
   exact gM (XQ (by have:=O.hu;omega) s1.ge s2.ge s1.va (Ag s2.pl)) rfl rfl rfl rfl
 ·split at h
  ·split at h
   ·split at h
    ·rename_i hx
     rw[QUq]at hx
     split at h
     ·rename_i g fl hf
      simp only[QJq]at h
      obtain⟨m1,h1,h2⟩:=h
      split at h2
      ·exact no h2
      ·rename_i hn
       cases h2
       have A:=I.a C X _ _ m1 O h1
       obtain⟨k,f,fd,ps,F,hr,hm,hk,hb,hl⟩:=O.fn g _ fl (Rf hf)
       cases A with
       |nil=>exact absurd rfl hn
       |cons ge pl t=>
        exact gM (Ra F hr (m9 O hx.2) hm hk hb (Dc hx.1).1 (Ar.cons ge pl t).ga (bI pl _ _) t.plain hl) rfl rfl rfl rfl
     ·obtain⟨ge,h1,h2⟩:=I.b C X _ _ m _ _ O hx.2 h
      exact gM ge rfl h1 h2 rfl
    ·exact no h
   ·split at h
    ·rename_i hl
     split at h
     ·split at h
      ·rename_i hx
       subst hx
       simp only[QJq,QJz]at h
       obtain⟨m1,h1,u,h0,m2,h2,rfl⟩:=h
       split at h0
       ·rename_i hp
        rw[QUq]at hp
        have s1:=I.e C X _ m1 O h1
        have s2:=I.e C X _ m2 O h2
        exact gM (Lx ⟨nM (by simpa using hp.2),hl,bI s2.pl _ _⟩ s1.ge s2.ge) rfl rfl rfl rfl
       ·cases h0
      ·split at h
       ·rename_i hx
        subst hx
        split at h
        ·simp only[QJq]at h
         obtain⟨v,h1,h2⟩:=h
         split at h2
         ·simp only[QJz]at h2
          obtain⟨m2,h3,rfl⟩:=h2
          have s2:=I.e C X _ m2 O h3
          exact gM (Lw ⟨rfl,hl,bI s2.pl _ _⟩ (Dd O h1) s2.ge) rfl rfl rfl rfl
         ·exact no h2
        ·exact no h
       ·exact no h
     ·split at h
      ·rename_i hx
       subst hx
       simp only[QJq,QJz]at h
       obtain⟨m1,h1,u,h0,m2,h2,m3,h3,rfl⟩:=h
       split at h0
       ·rename_i hp
        rw[QUq]at hp
        have s1:=I.e C X _ m1 O h1
        have s2:=I.e C X _ m2 O h2
        have s3:=I.e C X _ m3 O h3
        exact gM (Q7 (hu1 O) ⟨nM (by simpa using hp.2),by rw[bI s2.pl,bI s3.pl];rfl,hl,by rw[bI s2.pl,bI s3.pl];rfl⟩ s1.va s1.ge s2.ge s3.ge) rfl rfl rfl rfl
       ·cases h0
      ·exact no h
     ·exact no h
    ·exact no h
   ·exact no h
  ·exact no h
 ·split at h
  ·rename_i hx
   simp only[QUq,QUz]at hx
   simp only[QJz]at h
   obtain⟨m1,h1,rfl⟩:=h
   obtain⟨mD,K,a⟩:=I.d C X _ _ m1 O h1
   exact gM (XR (by have:=O.hu;omega) K a hx.1.1 (fun z=>by rw[z]at hx;simp at hx) hx.1.2) rfl rfl rfl rfl
  ·exact no h
 ·split at h
  ·rename_i elt sc pos g
   obtain⟨tgs,tg,it,cond,m',rfl,B,gi,gp,ha⟩:=I.k C X _ _ _ m O h
   obtain⟨ta,ti,tf,tn⟩:=g
   simp only at ha
   subst ha
   exact gM (Q9 B gi O.calm (fun x=>wG gp _ _)) rfl rfl rfl rfl
  ·exact no h
 ·exact no h
end
theorem ih(c:Cf):∀n,Ih c n
 |0=>ih0 c
 |n+1=>let I:=ih c n
  ⟨fun C X e m O h=>Vo I O h,fun C X es m O h=>O2 I O h,fun C X fl es m O h=>Vr I O h,fun C X o m O h=>Vl I O h,fun C X x args m p pos O hg h=>Vq I O hg h,fun C X tg e m O h=>Vn I O h,fun C X elt g sc m O h=>Vm I O h,fun C X ks vs m O h=>Vp I O h⟩
def NE{α:Type}(r:Out α):Prop:=∀k σ,r≠ .exc k σ
section
variable{α β:Type}
theorem NE.ok(a:α)(σ:Ev):NE (.ok a σ):=fun _ _ z=>nomatch z
theorem NE.bad:NE (.bad:Out α):=fun _ _ z=>nomatch z
theorem NE.lift(σ:Ev)(o:Option α):NE (lift σ o):=by cases o<;>(intro _ _ z;cases z)
theorem NE.bind{r:Out α}{f:α->Ev->Out β}(h:NE r)(g:∀a σ,NE (f a σ)):NE (r.bind f):=by
 cases r with
 |ok a σ=>exact g a σ
 |exc k σ=>exact absurd rfl (h k σ)
 |bad=>exact NE.bad
theorem NE.aq{r:Out Rv}{f:D->Ev->Out β}(h:NE r)(g:∀a σ,NE (f a σ)):NE (r.aq f):=by
 cases r with
 |ok a σ=>cases a<;>first|exact g _ _|exact NE.bad
 |exc k σ=>exact absurd rfl (h k σ)
 |bad=>exact NE.bad
theorem NE.cC{tr:D->Option Bool}{r:Out Rv}{f:Bool->Ev->Out β}(h:NE r)(g:∀a σ,NE (f a σ)):NE (r.cC tr f):=
 NE.aq h fun d σ=>by
  cases tr d with
  |none=>exact NE.bad
  |some b=>exact g b σ
def NE.ite{p:Prop}[Decidable p]{a b:Out α}(h:NE a)(g:NE b):NE (if p then a else b):=by split<;>assumption
end
def QH(c:Cf)(f:Nat)(as:List Rv)(σ:Ev):NE (tB c f as σ):=by
 unfold tB
 split
 ·exact NE.bad
 ·split
  ·split
   ·exact NE.ok _ _
   ·exact NE.bad
  ·exact NE.bad
def Wv(k:Nat)(y:D)(σ:Ev):NE (rA k y σ):=by
 unfold rA
 split
 ·refine NE.ite NE.bad ?_
  split
  ·split
   ·exact NE.ok _ _
   ·exact NE.bad
  ·exact NE.bad
 ·exact NE.bad
def QG(k:Nat)(σ:Ev):NE (qW k σ):=by
 unfold qW
 split<;>first|exact NE.ok _ _|exact NE.bad
def Am(c:Cf):∀(m:E)(σ:Ev),NE (ev c m σ)/\NE (evs c m σ)/\NE (fJ c m σ)/\NE (jR c m σ):=by
 have k3:∀{m:E},(∀σ,NE (ev c m σ))->(∀σ,evs c m σ=.bad)->(∀σ,fJ c m σ=.bad)->(∀σ,jR c m σ=.bad)->∀σ,NE (ev c m σ)/\NE (evs c m σ)/\NE (fJ c m σ)/\NE (jR c m σ):=fun h a b d σ=>by
  rw[a,b,d]
  exact⟨h σ,NE.bad,NE.bad,NE.bad⟩
 intro m
 induction m with
 |var i=>exact k3 (fun σ=>QG i σ) (fun _=>rfl) (fun _=>rfl) fun _=>rfl
 |con d=>exact k3 (fun σ=>NE.ok _ _) (fun _=>rfl) (fun _=>rfl) fun _=>rfl
 |glob k=>exact k3 (fun σ=>by rw[Z9];split<;>first|exact NE.ok _ _|exact NE.bad) (fun _=>rfl) (fun _=>rfl) fun _=>rfl
 |nil=>exact fun σ=>⟨NE.bad,NE.ok _ _,NE.bad,NE.bad⟩
 |cons h t ih jh=>
  intro σ
  refine⟨NE.bad,NE.bind (ih σ).1 fun x σ=>NE.bind (jh σ).2.1 fun _ _=>NE.ok _ _,?_,?_⟩
  ·cases t with
   |nil=>exact(ih σ).1
   |_=>exact NE.aq (ih σ).1 fun x σ=>(by split<;>first|exact(jh σ).2.2.1|exact NE.ok _ _|exact NE.bad)
  ·cases t with
   |nil=>exact(ih σ).1
   |_=>exact NE.aq (ih σ).1 fun x σ=>(by split<;>first|exact(jh σ).2.2.2|exact NE.ok _ _|exact NE.bad)
 |tup es ih=>exact k3 (fun σ=>NE.bind (ih σ).2.1 fun _ _=>NE.lift _ _) (fun _=>rfl) (fun _=>rfl) fun _=>rfl
 |lis es ih=>exact k3 (fun σ=>NE.bind (ih σ).2.1 fun _ _=>NE.lift _ _) (fun _=>rfl) (fun _=>rfl) fun _=>rfl
 |op o a b ih jh=>exact k3 (fun σ=>NE.aq (ih σ).1 fun _ σ=>NE.aq (jh σ).1 fun _ _=>NE.lift _ _) (fun _=>rfl) (fun _=>rfl) fun _=>rfl
 |neg a ih=>exact k3 (fun σ=>NE.aq (ih σ).1 fun _ σ=>NE.lift _ _) (fun _=>rfl) (fun _=>rfl) fun _=>rfl
 |cmp o a b ih jh=>exact k3 (fun σ=>NE.aq (ih σ).1 fun _ σ=>by split<;>first|exact NE.lift _ _|exact NE.aq (jh σ).1 fun _ _=>NE.lift _ _) (fun _=>rfl) (fun _=>rfl) fun _=>rfl
 |chain o p a b d ih jh kh=>exact k3 (fun σ=>NE.aq (ih σ).1 fun _ σ=>NE.aq (jh σ).1 fun _ σ=>NE.bind (NE.lift _ _) fun _ σ=>NE.ite (NE.aq (kh σ).1 fun _ _=>NE.lift _ _) (NE.ok _ _)) (fun _=>rfl) (fun _=>rfl) fun _=>rfl
 |and es ih=>exact k3 (fun σ=>(ih σ).2.2.1) (fun _=>rfl) (fun _=>rfl) fun _=>rfl
 |or es ih=>exact k3 (fun σ=>(ih σ).2.2.2) (fun _=>rfl) (fun _=>rfl) fun _=>rfl
 |not a ih=>exact k3 (fun σ=>NE.cC (ih σ).1 fun _ _=>NE.ok _ _) (fun _=>rfl) (fun _=>rfl) fun _=>rfl
 |ite t a b ih jh kh=>exact k3 (fun σ=>NE.cC (ih σ).1 fun _ σ=>NE.ite (jh σ).1 (kh σ).1) (fun _=>rfl) (fun _=>rfl) fun _=>rfl
 |idx a i ih jh=>exact k3 (fun σ=>by rw[Fz];split<;>first|exact NE.ite NE.bad (NE.aq (jh σ).1 fun _ _=>NE.lift _ _)|exact NE.aq (ih σ).1 fun _ σ=>NE.aq (jh σ).1 fun _ _=>NE.lift _ _) (fun _=>rfl) (fun _=>rfl) fun _=>rfl
 |slc a lo hi ih jh kh=>exact k3 (fun σ=>NE.aq (ih σ).1 fun _ σ=>NE.aq (jh σ).1 fun _ σ=>by split<;>first|exact NE.bad|exact NE.aq (kh σ).1 fun _ _=>NE.lift _ _) (fun _=>rfl) (fun _=>rfl) fun _=>rfl
 |noneE=>exact k3 (fun σ=>NE.ok _ _) (fun _=>rfl) (fun _=>rfl) fun _=>rfl
 |call f as ih=>exact k3 (fun σ=>NE.bind (ih σ).2.1 fun _ _=>QH _ _ _ _) (fun _=>rfl) (fun _=>rfl) fun _=>rfl
 |ref i=>exact k3 (fun σ=>by rw[Im];split<;>first|exact NE.ok _ _|exact NE.bad) (fun _=>rfl) (fun _=>rfl) fun _=>rfl
 |tmp e ih=>exact k3 (fun σ=>NE.bind (ih σ).1 fun _ _=>NE.lift _ _) (fun _=>rfl) (fun _=>rfl) fun _=>rfl
 |rd e ih=>exact k3 (fun σ=>(ih σ).1) (fun _=>rfl) (fun _=>rfl) fun _=>rfl
 |isi a t ih=>exact k3 (fun σ=>NE.aq (ih σ).1 fun _ _=>NE.ok _ _) (fun _=>rfl) (fun _=>rfl) fun _=>rfl
 |bi b a ih=>exact k3 (fun σ=>by rw[nR];split<;>first|exact NE.lift _ _|exact NE.aq (ih σ).1 fun _ _=>NE.lift _ _) (fun _=>rfl) (fun _=>rfl) fun _=>rfl
 |range1 a ih=>exact k3 (fun σ=>NE.aq (ih σ).1 fun _ _=>NE.lift _ _) (fun _=>rfl) (fun _=>rfl) fun _=>rfl
 |zip a b ih jh=>exact k3 (fun σ=>NE.aq (ih σ).1 fun _ σ=>NE.aq (jh σ).1 fun _ _=>NE.lift _ _) (fun _=>rfl) (fun _=>rfl) fun _=>rfl
 |count a b ih jh=>exact k3 (fun σ=>NE.aq (ih σ).1 fun _ σ=>NE.ite NE.bad (NE.aq (jh σ).1 fun _ _=>NE.lift _ _)) (fun _=>rfl) (fun _=>rfl) fun _=>rfl
 |popAt i a ih=>exact k3 (fun σ=>NE.ite NE.bad (NE.aq (ih σ).1 fun _ _=>Wv _ _ _)) (fun _=>rfl) (fun _=>rfl) fun _=>rfl
 |get2 a b d ih jh kh=>
  refine k3 (fun σ=>?_) (fun _=>rfl) (fun _=>rfl) fun _=>rfl
  rw[U8]
  split
  ·exact NE.ite NE.bad (NE.aq (jh σ).1 fun _ σ=>NE.aq (kh σ).1 fun _ _=>NE.lift _ _)
  ·exact NE.bad
 |dsp es ih=>exact k3 (fun σ=>NE.bind (ih σ).2.1 fun _ _=>NE.lift _ _) (fun _=>rfl) (fun _=>rfl) fun _=>rfl
 |comp nl tg it cond elt ih _ _=>
  refine k3 (fun σ=>?_) (fun _=>rfl) (fun _=>rfl) fun _=>rfl
  rw[lH]
  refine NE.aq (ih σ).1 fun _ σ=>?_
  split
  ·split
   ·exact NE.ok _ _
   ·exact NE.bad
  ·exact NE.bad
section
variable{X:Cx}{W:Wi}{c:Cf}{m:E}{e tg:Expr}
def GE.w(h:GE X W0 c m e):GE X W c m e:=fun env=>PE.imp (h env) fun σ H Q⟨S,q⟩=>by
 refine⟨S,?_⟩
 cases r:ev c m env with
 |exc k σ'=>exact absurd r ((Am c m env).1 k σ')
 |_=>rw[r]at q;exact q
def GT.w(h:GT X W0 c m e):GT X W c m e:=PT.imp h fun σ H Q⟨env,S,q⟩=>by
 refine⟨env,S,?_⟩
 cases r:ev c m env with
 |exc k σ'=>exact absurd r ((Am c m env).1 k σ')
 |_=>rw[r]at q;exact q
def GI.w(h:GI X W0 c m tg e):GI X W c m tg e:=fun env Q0q s σ H R I q=>h env Q0q s σ H R I (by
 unfold tI at q⊢
 obtain⟨S,q⟩:=q
 refine⟨S,?_⟩
 cases r:ev c m env with
 |exc k σ'=>exact absurd r ((Am c m env).1 k σ')
 |_=>rw[r]at q;exact q)
end
structure Top(C:Ct)(X:Cx)(W:Wi)(c:Cf):Prop where
 fn:∀x,X.fn x=true
 po:PassesOwn (model X.prog X.w) X.A X.env X.xe
 ra:∀e f p n m,Ss (n+1) C (.Raise e f p)=some m->GS X W c m (.Raise e f p)
section
variable{c:Cf}{n:Nat}{C:Ct}{X:Cx}{W:Wi}{m:E}
theorem Rn(O:jt C X c):∀{n:Nat}{elt:Expr}{gens:List Comprehension}{sc:Scope}{pos:Pos},dF n C (.ListComp elt gens sc pos)=some m->∃g,gens=[g]/\Cg X c m elt g sc
 |0,_,_,_,_,h=>by rw[dF]at h;cases h
 |n+1,elt,gens,sc,pos,h=>by
  unfold dF at h
  simp only at h
  split at h
  ·exact⟨_,rfl,(ih c n).k C X _ _ _ m O h⟩
  ·cases h
def rJ(O:jt C X c)(h:G5 C.sc x=true):Loc X.env.scope x:=by
 unfold G5 at h
 rw[O.sc]
 rw[Bool.or_eq_true]at h
 rcases h with h|h
 ·exact .inl (by simpa using h)
 ·exact .inr (by simpa using h)
def mK{t:Option Expr}{l:Nat}(hp:plain e=true)(hc:oV e=false):swapsWith e t l env=pure false:=by
 cases e<;>first|rfl|exact absurd (show false=true from hp) Qjz|exact absurd (show true=false from hc) (fun h=>Qjz h.symm)
def zQ{k:Nat}{q:Pos}(h:isTup e=false):swappedStores [.Tuple es k q] e env=pure none:=by
 cases e<;>first|rfl|exact absurd (show true=false from h) (fun h=>Qjz h.symm)
def xP{i:Expr}{q:Pos}:swappedStores [.Subscript o i q] e env=pure none:=by
 cases e<;>rfl
def Cw{t:Expr}{l:Nat}:swapsWithSole [t] e l env=swapsWith e (some t) l env:=rfl
def RC{i:Expr}{tp:Pos}{v:Value}(h:isSlice i=false):assign (.Subscript o i tp) env v=(do
   let ov<-holding [v] (eval o env)
   let iv<-holding [v,ov] (eval i env)
   standAt tp
   holding [v,ov,iv] (setItem ov iv v)
   release [v,ov,iv] []):=by
 rw[assign]
 cases i<;>first|rfl|(simp[isSlice]at h;done)
theorem qO(O:jt C X c)(T:Top C X W c):∀{es:List Expr}{is:List Nat},slotsOf C es=some is->tU X is es/\(assignEach es X.env).length=is.length/\(assignEach es X.env).findIdx? (·.1)=none
 |[],is,h=>by cases h;exact⟨.nil,rfl,rfl⟩
 |e::es,is,h=>by
  cases e<;>simp only[slotsOf]at h<;>try (cases h;done)
  rename_i x q
  split at h
  ·rename_i hl
   simp only[QJq,QJz]at h
   obtain⟨i,h1,js,h2,rfl⟩:=h
   obtain⟨a1,a2,a3⟩:=qO O T h2
   refine⟨.cons (by rw[O.N];exact iY h1) (rJ O hl) (.inl (T.fn x)) a1,?_,?_⟩
   ·show(_::assignEach es X.env).length=_
    simp[a2]
   ·show(List.findIdx? (·.1) ((false,_)::assignEach es X.env))=none
    rw[List.findIdx?_cons]
    simp[a3]
  ·cases h
def uT(O:jt C X c):X.N.Nodup:=by rw[O.N];exact O.nd
def IK(O:jt C X c)(T:Top C X W c)(h:IV C e=some tg):GG X tg e:=by
 cases e<;>simp only[IV]at h<;>try (cases h;done)
 ·rename_i x q
  split at h
  ·rename_i hl
   simp only[QJz]at h
   obtain⟨i,h1,rfl⟩:=h
   exact wC (uT O) (by rw[O.N];exact iY h1) (rJ O hl) (.inl (T.fn x))
  ·cases h
 ·simp only[QJz]at h
  obtain⟨is,h1,rfl⟩:=h
  obtain⟨a1,a2,a3⟩:=qO O T h1
  exact Bc (uT O) O.calm a1 a2 a3
theorem Hm(O:jt C X c)(T:Top C X W c){scope:Scope}{it cond elt:E}{tgE iterE eltE:Expr}{ifs:List Expr}{cp sp np:Pos}{i:Nat}(B:zB X c scope tgs tg cond elt tgE eltE ifs)(hi:GI X W c it tgE iterE)(gp:plain iterE=true)
  (ge:GE X W c (.comp tgs.length tg it cond elt) (.ListComp eltE [⟨tgE,iterE,ifs,0⟩] scope cp))(hN:X.N[i]? =some x)(hl:G5 C.sc x=true):
  GS X W c (.set i (.comp tgs.length tg it cond elt)) (.Assign [.Name x np] (.ListComp eltE [⟨tgE,iterE,ifs,0⟩] scope cp) sp):=by
 have key:∃b:Bool,swapsWith (.ListComp eltE [⟨tgE,iterE,ifs,0⟩] scope cp) (some (.Name x np)) sp.line X.env=pure b:=⟨_,rfl⟩
 obtain⟨b,hb⟩:=key
 cases b with
 |false=>exact Lq ge (uT O) hN (rJ O hl) (.inl (T.fn x)) hb
 |true=>exact Ba B hi O.calm (fun x=>wG gp _ _) (uT O) hN (rJ O hl) (.inl (T.fn x)) hb
structure IhS(c:Cf)(n:Nat):Prop where
 s:∀C X W st m,jt C X c->Top C X W c->Ss n C st=some m->GS X W c m st
 ss:∀C X W st m,jt C X c->Top C X W c->qH n C st=some m->N7 X W c m st
def afP(c:Cf):IhS c 0:=by
 constructor
 all_goals (intros;rename_i h;first|(rw[Ss]at h;cases h)|(rw[qH]at h;cases h))
def O1(I:IhS c n)(O:jt C X c)(T:Top C X W c){st:List Stmt}{m:S}(h:qH (n+1) C st=some m):N7 X W c m st:=by
 cases st with
 |nil=>rw[qH]at h;cases h;exact Q0
 |cons s st=>
  rw[qH]at h
  simp only[QJq,QJz]at h
  obtain⟨m1,h1,m2,h2,rfl⟩:=h
  exact Lk (I.s C X W s m1 O T h1) (I.ss C X W st m2 O T h2)
def Vk(I:IhS c n)(O:jt C X c)(T:Top C X W c){st:Stmt}{m:S}(h0:Ss (n+1) C st=some m):GS X W c m st:=by
 have J:=ih c n
 have no:∀{P:Prop},(none:Option S)=some m->P:=fun z=>nomatch z
 have h:=h0
 unfold Ss at h
 split at h
 ·split at h
  ·cases h;exact Q4
  ·simp only[QJz]at h
   obtain⟨m1,h1,rfl⟩:=h
   have s:=J.e C X _ m1 O h1
   exact Xo s.ge.w s.va
 ·split at h
  ·split at h
   ·rename_i e _ _ _ x _
    split at h
    ·rename_i hl
     simp only[QJq,QJz]at h
     obtain⟨i,h1,m1,h2,rfl⟩:=h
     have s:=J.e C X _ m1 O h2
     have hN:X.N[i]? =some x:=by rw[O.N];exact iY h1
     cases hc:oV e with
     |false=>exact Lq s.ge.w (uT O) hN (rJ O hl) (.inl (T.fn x)) (mK s.pl hc)
     |true=>
      cases e<;>simp[oV]at hc
      rename_i elt gens sc cp
      obtain⟨g,rfl,tgs,tg,it,cond,m',rfl,B,gi,gp,ha⟩:=Rn O h2
      obtain⟨ta,ti,tf,tn⟩:=g
      simp only at ha
      subst ha
      exact Hm O T B gi.w gp s.ge.w hN hl
    ·exact no h
   ·split at h
    ·exact no h
    ·rename_i hx
     rw[Bool.not_eq_true,Bool.or_eq_false_iff]at hx
     simp only[QJq,QJz]at h
     obtain⟨is,h1,m1,h2,rfl⟩:=h
     have s:=J.e C X _ m1 O h2
     obtain⟨a1,a2,a3⟩:=qO O T h1
     exact Q3 s.ge.w (Bc (uT O) O.calm a1 a2 a3) (by rw[Cw];exact mK s.pl hx.2) (zQ hx.1) rfl
   ·split at h
    ·split at h
     ·exact no h
     ·rename_i hx
      rw[Bool.not_eq_true,Bool.or_eq_false_iff]at hx
      simp only[QJq]at h
      obtain⟨v,h1,h⟩:=h
      split at h
      ·simp only[QJq,QJz]at h
       obtain⟨i,h2,m1,h3,rfl⟩:=h
       have s1:=J.e C X _ i O h2
       have s:=J.e C X _ m1 O h3
       exact Lp (Dd O h1) s.ge.w s1.ge.w (fun v=>RC hx.2) (by rw[Cw];exact mK s.pl hx.1) xP (by have:=O.hu;omega) rfl
      ·exact no h
    ·exact no h
   ·exact no h
  ·exact no h
 ·--an expression alone
  split at h
  ·have dflt:∀(e:Expr)(q:Pos),oV e=false->(dF n C e).map S.expr=some m->GS X W c m (.Expr e q):=fun e q hc z=>by
    simp only[QJz]at z
    obtain⟨m1,h1,rfl⟩:=z
    have s:=J.e C X _ m1 O h1
    exact Q5 s.ge.w (mK s.pl hc)
   split at h
   ·split at h
    ·split at h
     ·rename_i hx
      simp only[QUq,QUz]at hx
      obtain⟨hl,rfl⟩:=hx
      simp only[QJq]at h
      obtain⟨v,h1,h⟩:=h
      split at h
      ·simp only[QJz]at h
       obtain⟨m1,h2,rfl⟩:=h
       have s:=J.e C X _ m1 O h2
       exact Hn ⟨rfl,hl,bI s.pl _ _⟩ (Dd O h1) s.ge.w
      ·exact no h
     ·exact dflt _ _ rfl h
    ·exact no h
   ·exact dflt _ _ rfl h
  ·exact no h
 ·simp only[QJq,QJz]at h
  obtain⟨t,h1,a,h2,b,h3,rfl⟩:=h
  exact ab3 (J.e C X _ t O h1).gt.w (I.ss C X W _ a O T h2) (I.ss C X W _ b O T h3)
 ·split at h
  ·simp only[QJq,QJz]at h
   obtain⟨tg,h1,it,h2,b,h3,rfl⟩:=h
   obtain⟨gi,gp⟩:=J.i C X _ _ it O h2
   exact Xp T.po O.calm gi.w (IK O T h1) (I.ss C X W _ b O T h3) (fun x=>wG gp _ _)
  ·exact no h
 ·split at h
  ·simp only[QJq,QJz]at h
   obtain⟨t,h1,b,h3,rfl⟩:=h
   exact Ln T.po (J.e C X _ t O h1).gt.w (I.ss C X W _ b O T h3)
  ·exact no h
 ·exact T.ra _ _ _ _ _ h0
 ·exact no h
end
def PN{C:Ct}{e f:Option Expr}{n:Nat}{m:S}(h:Ss (n+1) C (.Raise e f p)=some m):m=.raise (Jz C e f):=by
 unfold Ss at h
 simp only at h
 cases h
 rfl
def Top.plain{C:Ct}{X:Cx}{c:Cf}(hf:∀x,X.fn x=true)(hp:PassesOwn (model X.prog X.w) X.A X.env X.xe):Top C X W0 c:=
 ⟨hf,hp,fun e f p n m h=>by rw[PN h];exact Lr⟩
theorem ihS(c:Cf):∀n,IhS c n
 |0=>afP c
 |n+1=>let I:=ihS c n
  ⟨fun C X W st m O T h=>Vk I O T h,fun C X W st m O T h=>O1 I O T h⟩
structure Df where
 x:Str
 st:Stmt
 N:List Str
 ps:List Str
 fl:List Bool
 exs:List Str:=[]
def aew(ds:List Df):List (Str×List Bool):=ds.map fun d=>(d.x,d.fl)
def acn(ds:List Df)(kY:List Str)(d:Df):Ct:={N:=d.N,sc:=bu d.st,fns:=aew ds,kY:=kY,exs:=d.exs}
def fnOf(ds:List Df)(kY:List Str)(d:Df):Option Fn:=(qH 60 (acn ds kY d) (dI d.st)).map fun b=>{pars:=d.ps.length,names:=d.N.length,body:=b}
structure vL(K:QQq)(mg:QZz)(d:Df)(f:Addr)(fd:FuncData):Prop where
 fu:Yx K d.x d.x d.st f fd
 bi:Binds K fd d.ps []
 at_:mg d.x=some (.ref f)
section
variable{P:Program}{w:World}{K:QQq}{mg:QZz}{base:Heap}{ds:List Df}{kY:List Str}{p:Pg}{fa:Nat->Addr}{fd:Nat->FuncData}
theorem CT(hfn:∀i d,ds[i]? =some d->vL K mg d (fa i) (fd i))(hsc:∀d∈ds,lA d.N d.ps (bu d.st))(htr:∀(i:Nat)d,ds[i]? =some d->∃g,p.fns[i]? =some g/\fnOf ds kY d=some g)
  (hbi:∀x∈nH,mg x=none)(hgl:∀(k:Nat)x,kY[k]? =some x->∃d v u,p.gl k=some d/\mg x=some u/\RelV v u/\∀H,bG K H d v):
  ∀(n i:Nat)d,ds[i]? =some d->pC P w K mg base H9 n (fa i) (fd i) d.ps (tX K d.ps.length (p.fn n i))
 |0,i,d,e=>by
  have no:∀vs H Q E,¬tX K d.ps.length (p.fn 0 i) vs H Q E:=fun vs H Q E h=>by
   obtain⟨_,_,_,_,z⟩:=h
   exact z
  exact⟨fun vs H Q E h=>absurd h (no vs H Q E),fun A outer s H args us vs Q E _ _ _ _ h=>absurd h (no vs H Q E)⟩
 |n+1,i,d,e=>by
  have IH:=CT hfn hsc htr hbi hgl n
  have D:=hfn i d e
  obtain⟨g,hg,ht⟩:=htr i d e
  unfold fnOf at ht
  simp only[QJz]at ht
  obtain⟨b,hb,rfl⟩:=ht
  have S:=hsc d (QBz e)
  have hp:p.fn (n+1) i=iG (p.cf n) {pars:=d.ps.length,names:=d.N.length,body:=b}:=by
   funext sl
   show(match p.fns[i]? with|some g=>iG (p.cf n) g sl|none=>.bad)=_
   rw[hg]
  rw[hp]
  refine Rc D.fu S rfl rfl fun cdv A outer s H E hr=>?_
  refine(ihS (p.cf n) 60).ss (acn ds kY d) _ W0 _ b ⟨rfl,rfl,S.nd,rfl,?_,hbi,fun k x hk=>?_,fun g x fl hk=>?_⟩ (.plain (fun _=>rfl) PassesOwn.never) hb
  ·have:=hr.un
   show(A.deeper _).units+60<cLine
   omega
  ·obtain⟨dd,v,u,h1,h2,h3,h4⟩:=hgl k x hk
   exact⟨dd,h1,v,u,h2,h3,h4⟩
  ·have hk':(ds.map fun d=>(d.x,d.fl))[g]? =some (x,fl):=hk
   rw[QFz]at hk'
   cases q:ds[g]? with
   |none=>rw[q]at hk';cases hk'
   |some d2=>
    rw[q]at hk'
    simp at hk'
    obtain⟨rfl,rfl⟩:=hk'
    have D2:=hfn g d2 q
    refine⟨n,fa g,fd g,d2.ps,IH g d2 q,hr,D2.at_,D2.fu.kp,D2.bi,fun sl=>?_⟩
    show p.fn n g sl=.bad\/_
    cases n with
    |zero=>exact .inl rfl
    |succ n=>
     obtain⟨g2,hg2,ht2⟩:=htr g d2 q
     unfold fnOf at ht2
     simp only[QJz]at ht2
     obtain⟨b2,hb2,rfl⟩:=ht2
     have:p.fn (n+1) g sl=iG (p.cf n) {pars:=d2.ps.length,names:=d2.N.length,body:=b2} sl:=by
      show(match p.fns[g]? with|some g=>iG (p.cf n) g sl|none=>.bad)=_
      rw[hg2]
     rw[this]
     exact Gk (p.cf n) _ sl
end
variable{K:QQq}
theorem Vt{f:List Sl->Res}{H:Hp}{a:Addr}{ns:List Int}(hO:Only H)(hS:jm K H a (ns.map V.int))(hf:∃qs,f [.val (.lst (ns.map D.int))]=.ok (.val (.bl true)) qs)(E:XK):
  tX K 1 f [.ref a] H (fun v _=>v=.bl true) E:=by
 have den:bG K H (.lst (ns.map D.int)) (.ref a):=by
  have fr:Nu K H a (ns.map V.int):=by
   rcases hS with (h|⟨o,h⟩)|h
   ·rcases hO a with z|⟨o,xs,z⟩
    ·rw[z]at h;cases h
    ·rw[z]at h;cases h
   ·exact .inl ⟨o,h⟩
   ·exact .inr h
  have l:∀(ns:List Int),au K H (ns.map D.int) (ns.map V.int):=fun ns=>by
   induction ns with
   |nil=>exact au.fM
   |cons i r ih=>exact au.dj rfl ih
  unfold bG
  exact⟨a,_,rfl,fr,l ns⟩
 obtain⟨qs,hf⟩:=hf
 refine⟨[.val (.lst (ns.map D.int))],rfl,⟨rfl,fun i s e=>?_,fun i j b h1=>?_⟩,fun i o e=>?_,?_⟩
 ·cases i with
  |zero=>simp at e;subst e;exact⟨.ref a,rfl,den⟩
  |succ i=>simp at e
 ·obtain⟨⟨s,o,e1,e2⟩,_⟩:=h1
  cases i with
  |zero=>simp at e1;subst e1;cases e2
  |succ i=>simp at e1
 ·cases i with
  |zero=>simp at e
  |succ i=>simp at e
 ·rw[hf]
  exact fun v H' _ z=>z
def We(a:Arguments):List Str:=a.args.map (·.arg)
def namesOf(st:Stmt):List Str:=We (dJ st)++(((bu st).names.filter fun p=>(p.2== .local||p.2== .cell)&& !(We (dJ st)).contains p.1).map (·.1))
def bO(x:Str)(st:Stmt)(fl:List Bool):Df:={x:=x,st:=st,N:=namesOf st,ps:=We (dJ st),fl:=fl}
def Jm(d:Df):Bool:=
 decide ((bu d.st).kind=.function)&& !(bu d.st).isCoroutine&& !(bu d.st).isGenerator&&decide d.N.Nodup&&decide (d.N.take d.ps.length=d.ps)
 &&(d.ps.all fun x=>(bu d.st).names.lookup x==some .local||(bu d.st).names.lookup x==some .cell)&&((bu d.st).names.all fun y=>y.2 != .free)
def Pa{d:Df}(h:Jm d=true):lA d.N d.ps (bu d.st):=by
 unfold Jm at h
 simp only[QUq,QUz,Bool.not_eq_true',List.all_eq_true,Bool.or_eq_true,beq_iff_eq,bne_iff_ne,ne_eq]at h
 obtain⟨⟨⟨⟨⟨⟨h1,h2⟩,h3⟩,h4⟩,h5⟩,h6⟩,h7⟩:=h
 exact⟨h1,h2,h3,h4,h5,h6,h7⟩
def vIs:Value->D->Bool
 |.none,.non=>true
 |.bool a,.bl b=>a==b
 |.int i _,.int j=>i==j
 |.str x _,.str y=>decide (x=y)
 |_,_=>false
def Fy:List Value->List D->Bool
 |[],[]=>true
 |u::us,d::ds=>vIs u d&&Fy us ds
 |_,_=>false
def Iw(o:Obj)(ds:List D):Bool:=o.cls== .type "tuple"&&o.dict.isNone&&match o.data with
 |.seq its _=>Fy its.toList ds&&decide (its.size<=1000)
 |_=>false
def RN(K:QQq)(mg:QZz)(x:Str)(d:D):Prop:=∃v u,mg x=some u/\RelV v u/\∀H,bG K H d v
def Ir{u:Value}{d:D}(h:vIs u d=true):∃v,RelV v u/\∀H,bG K H d v:=by
 cases u<;>cases d<;>simp[vIs]at h
 ·exact⟨.non,rfl,fun H=>rfl⟩
 ·subst h;exact⟨.bl _,rfl,fun H=>rfl⟩
 ·subst h;exact⟨.int _,⟨_,rfl⟩,fun H=>rfl⟩
 ·subst h;exact⟨.str _,⟨_,rfl⟩,fun H=>rfl⟩
theorem Ck{K:QQq}:∀{us:List Value}{ds:List D},Fy us ds=true->∃vs,Vals vs us/\∀H,au K H ds vs
 |[],[]=>fun _=>⟨[],.nil,fun H=>au.fM⟩
 |u::us,d::ds=>fun h=>by
  unfold Fy at h
  rw[QUq]at h
  obtain⟨v,r,e⟩:=Ir (K:=K) h.1
  obtain⟨vs,rs,es⟩:=Ck (K:=K) h.2
  exact⟨v::vs,.cons r rs,fun H=>au.dj (e H) (es H)⟩
 |[],_::_=>fun h=>by simp[Fy]at h
 |_::_,[]=>fun h=>by simp[Fy]at h
section
variable{K:QQq}{mg:QZz}{h:Heap}{x:Str}{d:D}{u:Value}{a:Addr}{o:Obj}{ds:List D}
def Xq(X:K.In h)(G:h.Ns mainGlobals mg)(e:PySem.W.nsIn K mainGlobals x=some (some u))(hv:vIs u d=true):RN K mg x d:=by
 obtain⟨v,r,q⟩:=Ir (K:=K) hv
 exact⟨v,u,PySem.W.mg_of X G e,r,q⟩
def Xr(X:K.In h)(G:h.Ns mainGlobals mg)(e:PySem.W.nsIn K mainGlobals x=some (some (.ref a)))(l:K.lookup a=some o)(hv:Iw o ds=true):RN K mg x (.tup ds):=by
 unfold Iw at hv
 simp only[QUq,beq_iff_eq,Option.isNone_iff_eq_none]at hv
 obtain⟨⟨hc,hd⟩,hv⟩:=hv
 split at hv
 ·rename_i its n hs
  rw[QUq,QUz]at hv
  obtain⟨vs,r,q⟩:=Ck (K:=K) hv.1
  exact⟨.ref a,_,PySem.W.mg_of X G e,rfl,fun H=>eO (.inr ⟨o,its,n,l,hc,hd,hs,Nat.le_of_lt (Gg hv.2),r⟩) (q H)⟩
 ·cases hv
end
def zF(K:QQq)(mg:QZz):List Df->List (Addr×FuncData)->Prop
 |[],[]=>True
 |d::ds,(f,fd)::r=>vL K mg d f fd/\zF K mg ds r
 |_,_=>False
theorem zF.at{K:QQq}{mg:QZz}:∀{ds:List Df}{fs:List (Addr×FuncData)},zF K mg ds fs->∀(i:Nat)d,ds[i]? =some d->∃q,fs[i]? =some q/\vL K mg d q.1 q.2
 |[],_,_,i=>fun d e=>by simp at e
 |_::_,[],h,_=>fun _ _=>h.elim
 |d::ds,(f,fd)::r,h,0=>fun d' e=>by cases e;exact⟨(f,fd),rfl,h.1⟩
 |d::ds,(f,fd)::r,h,i+1=>fun d' e=>h.2.at i d' e
def zE(K:QQq)(mg:QZz):List Str->List D->Prop
 |[],[]=>True
 |x::xs,d::ds=>RN K mg x d/\zE K mg xs ds
 |_,_=>False
theorem zE.at{K:QQq}{mg:QZz}:∀{xs:List Str}{ds:List D},zE K mg xs ds->∀(k:Nat)x,xs[k]? =some x->∃d,ds[k]? =some d/\RN K mg x d
 |[],_,_,k=>fun x e=>by simp at e
 |_::_,[],h,_=>fun _ _=>h.elim
 |x::xs,d::ds,h,0=>fun x' e=>by cases e;exact⟨d,rfl,h.1⟩
 |x::xs,d::ds,h,k+1=>fun x' e=>h.2.at k x' e
def GF(ds:List Df)(kY:List Str)(vals:List D)(turns:Nat):Pg:=
 {fns:=ds.map fun d=>(fnOf ds kY d).getD {pars:=0,names:=0,body:=.nil},gl:=fun k=>vals[k]?,turns:=turns}
def Oz{P:Program}{w:World}{mg:QZz}{base:Heap}{ds:List Df}{kY:List Str}{vals:List D}{turns:Nat}{fs:List (Addr×FuncData)}(hD:zF K mg ds fs)(hG:zE K mg kY vals)
  (hS:ds.all Jm=true)(hT:ds.all (fun d=>(fnOf ds kY d).isSome)=true)(hB:∀x∈nH,mg x=none)(n i:Nat)(d:Df)(f:Addr)(fd:FuncData)(hd:ds[i]? =some d)(hf:fs[i]? =some (f,fd)):
  pC P w K mg base H9 n f fd d.ps (tX K d.ps.length ((GF ds kY vals turns).fn n i)):=by
 have z1:∀(i:Nat)d,ds[i]? =some d->vL K mg d (((fs[i]?).map (·.1)).getD 0) (((fs[i]?).map (·.2)).getD fd):=fun i d e=>by
  obtain⟨q,e1,e2⟩:=hD.at i d e
  simp only[e1,Option.map_some,Option.getD_some]
  exact e2
 have z2:∀(i:Nat)d,ds[i]? =some d->∃g,(GF ds kY vals turns).fns[i]? =some g/\fnOf ds kY d=some g:=fun i d e=>by
  have hs:=List.all_eq_true.mp hT d (QBz e)
  obtain⟨g,hg⟩:=Option.isSome_iff_exists.mp hs
  refine⟨g,?_,hg⟩
  show(ds.map fun d=>(fnOf ds kY d).getD {pars:=0,names:=0,body:=.nil})[i]? =some g
  rw[QFz,e]
  simp[hg]
 have z3:∀(k:Nat)x,kY[k]? =some x->∃d v u,(GF ds kY vals turns).gl k=some d/\mg x=some u/\RelV v u/\∀H,bG K H d v:=fun k x e=>by
  obtain⟨dd,e1,v,u,z1,z2,z3⟩:=hG.at k x e
  exact⟨dd,v,u,e1,z1,z2,z3⟩
 have Z:=CT (P:=P) (w:=w) (K:=K) (base:=base) (p:=GF ds kY vals turns) (ds:=ds) (kY:=kY) (fa:=fun i=>((fs[i]?).map (·.1)).getD 0) (fd:=fun i=>((fs[i]?).map (·.2)).getD fd)
  z1 (fun d hd=>Pa (List.all_eq_true.mp hS d hd)) z2 hB z3 n i d hd
 simp only[hf,Option.map_some,Option.getD_some]at Z
 exact Z
def Nv(K:QQq)(x:Str)(st:Stmt):Prop:=∃(f:Addr)(od an:Option Addr)(sl:Array (Option Value))(oc kV dc pm cd ct:Value),
 PySem.W.nsIn K mainGlobals x=some (some (.ref f))/\K.lookup f=some ⟨oc,od,.func (PySem.W.fnOf x x (dJ st) (dI st) (bu st) .none kV dc pm an cd ct),sl⟩/\PySem.W.codeIn K cd x=true/\PySem.W.keepIn K (.ref f)=true
def dIn{st:Stmt}{f:Addr}{od an:Option Addr}{sl:Array (Option Value)}{oc kV dc pm cd ct:Value}(a:PySem.W.nsIn K mainGlobals x=some (some (.ref f)))
  (l:K.lookup f=some ⟨oc,od,.func (PySem.W.fnOf x x (dJ st) (dI st) (bu st) .none kV dc pm an cd ct),sl⟩)(c:PySem.W.codeIn K cd x=true)(p:PySem.W.keepIn K (.ref f)=true):Nv K x st:=⟨f,od,an,sl,oc,kV,dc,pm,cd,ct,a,l,c,p⟩
def AllIn(K:QQq):List (Str×Stmt)->Prop
 |[]=>True
 |(x,s)::r=>Nv K x s/\AllIn K r
def Bd(d:Df):Prop:=∀(kV dc pm:Value)(an:Option Addr)(cd ct:Value)(us:List Value),us.length=d.ps.length->bindArgs (PySem.W.fnOf d.x d.x (dJ d.st) (dI d.st) (bu d.st) .none kV dc pm an cd ct) ⟨us,[]⟩=pure (d.ps.zip us)
variable{us:List Value}
def uh(h:us.length=1):∃a,us=[a]:=List.length_eq_one_iff.mp h
def QQ{n:Nat}(h:us.length=n+1):∃a r,us=a::r/\r.length=n:=by
 cases us with
 |nil=>simp at h
 |cons a r=>exact⟨a,r,rfl,by simpa using h⟩
def lC(h:us.length=2):∃a b,us=[a,b]:=by
 obtain⟨a,r,rfl,h2⟩:=QQ h;obtain⟨b,rfl⟩:=uh h2;exact⟨a,b,rfl⟩
def jM(h:us.length=3):∃a b c,us=[a,b,c]:=by
 obtain⟨a,r,rfl,h2⟩:=QQ h;obtain⟨b,c,rfl⟩:=lC h2;exact⟨a,b,c,rfl⟩
def rM(h:us.length=4):∃a b c d,us=[a,b,c,d]:=by
 obtain⟨a,r,rfl,h2⟩:=QQ h;obtain⟨b,c,d,rfl⟩:=jM h2;exact⟨a,b,c,d,rfl⟩
def WK(h:us.length=5):∃a b c d e,us=[a,b,c,d,e]:=by
 obtain⟨a,r,rfl,h2⟩:=QQ h;obtain⟨b,c,d,e,rfl⟩:=rM h2;exact⟨a,b,c,d,e,rfl⟩
def Fw:List Df->Prop
 |[]=>True
 |d::r=>Bd d/\Fw r
inductive Yw(K:QQq)(x:Str):D->Prop
 |v {u:Value} {d:D}:PySem.W.nsIn K mainGlobals x=some (some u)->vIs u d=true->Yw K x d
 |t {a:Addr} {o:Obj} {ds:List D}:PySem.W.nsIn K mainGlobals x=some (some (.ref a))->K.lookup a=some o->Iw o ds=true->Yw K x (.tup ds)
def xf(K:QQq):List Str->List D->Prop
 |[],[]=>True
 |x::xs,d::ds=>Yw K x d/\xf K xs ds
 |_,_=>False
def NB(K:QQq):List Str->Prop
 |[]=>True
 |x::r=>PySem.W.nsIn K mainGlobals x=some none/\NB K r
section
variable{K:QQq}{h:Heap}{mg:QZz}
theorem Nb(X:K.In h)(G:h.Ns mainGlobals mg):∀(ds:List Df),Fw ds->AllIn K (ds.map fun d=>(d.x,d.st))->
  ∃fs,zF K mg ds fs/\∀(i:Nat)d,ds[i]? =some d->∃q,fs[i]? =some q/\vL K mg d q.1 q.2/\∀(s:Shared)(us:List Value),us.length=d.ps.length->BindsTo s q.2 ⟨us,[]⟩ (d.ps.zip us)
 |[],_,_=>⟨[],trivial,fun i d e=>by simp at e⟩
 |d::ds,⟨b,bs⟩,⟨⟨f,od,an,sl,oc,kV,dc,pm,cd,ct,a,l,c,p⟩,is⟩=>by
  obtain⟨fs,A,B⟩:=Nb X G ds bs is
  have F:=X4 l c p
  have D:vL K mg d f (PySem.W.fnOf d.x d.x (dJ d.st) (dI d.st) (bu d.st) .none kV dc pm an cd ct):=⟨F,F.binds b,PySem.W.mg_of X G a⟩
  refine⟨(f,_)::fs,⟨D,A⟩,fun i e he=>?_⟩
  cases i with
  |zero=>cases he;exact⟨_,rfl,D,fun s us hl=>.of_eq (b kV dc pm an cd ct us hl)⟩
  |succ i=>exact B i e he
theorem M9(X:K.In h)(G:h.Ns mainGlobals mg):∀(xs:List Str)(ds:List D),xf K xs ds->zE K mg xs ds
 |[],[],_=>trivial
 |_::xs,_::ds,⟨g,r⟩=>⟨by cases g with
  |v e hv=>exact Xq X G e hv
  |t e l hv=>exact Xr X G e l hv,M9 X G xs ds r⟩
 |[],_::_,h=>h.elim
 |_::_,[],h=>h.elim
theorem M8(X:K.In h)(G:h.Ns mainGlobals mg):∀(xs:List Str),NB K xs->∀x∈xs,mg x=none
 |[],_=>fun x hx=>by cases hx
 |_::r,⟨e,es⟩=>fun x hx=>by
  rcases QCq.mp hx with rfl|hx
  ·exact PySem.W.mg_none_of X G e
  ·exact M8 X G r es x hx
def RG{l:PySem.W.OpenLaw}{w:World}{fa:Addr}{ds:List Df}{kY:List Str}{vals:List D}{L n:Nat}{dL:Df}{y:Str}(X:K.In h)(G:h.Ns mainGlobals mg)(hfa:mg "law"=some (.ref fa))(hx:dL.x="law")(hy:dL.ps=[y])(hL:ds[L]? =some dL)(b:Fw ds)
  (scp:ds.all Jm=true)(mD:ds.all (fun d=>(fnOf ds kY d).isSome)=true)(A:AllIn K (ds.map fun d=>(d.x,d.st)))(B:xf K kY vals)(Z:NB K nH):
  ∃fd:FuncData,(∀(s:Shared)(v:Value),BindsTo s fd ⟨[v],[]⟩ [(y,v)])/\∀base:Heap,K.In base->base.Ns mainGlobals mg->pC l.prog w K mg base H9 n fa fd [y] (tX K 1 ((GF ds kY vals 1000).fn n L)):=by
 obtain⟨fs,A,C⟩:=Nb X G ds b A
 obtain⟨q,e1,e2,e3⟩:=C L dL hL
 have e:=hfa.symm.trans (hx▸e2.at_)
 cases e
 refine⟨q.2,fun s v=>?_,fun base _ _=>?_⟩
 ·have:=e3 s [v] (by rw[hy];rfl)
  rw[hy]at this
  exact this
 ·have:=Oz (P:=l.prog) (w:=w) (base:=base) (turns:=1000) A (M9 X G kY vals B) scp mD (M8 X G _ Z) n L dL q.1 q.2 hL e1
  rw[hy]at this
  exact this
end
def Ig{l:PySem.W.OpenLaw}{q:Program}{loose:List Str}{XP:QZz->Heap->Prop}{YP:World->Heap->Prop}{d:DefRec}{K:Params->QQq}{p:Pg}{L:Nat}{y:Str}(hn:l.most=some 63)(hdf:d.params.defaults=[])
  (hY:∀(w:World)(h:Heap),YP w h->(K w.params).In h)(math:∀ns:List Int,ns.length<=63->∃qs,p.fn 60 L [.val (.lst (ns.map D.int))]=.ok (.val (.bl true)) qs)
  (F:∀(w:World)(mg:QZz)(fa:Addr)(h:Heap),(K w.params).In h->h.Ns mainGlobals mg->mg d.name=some (.ref fa)->
   ∃fd:FuncData,(∀(s:Shared)(u:Value),BindsTo s fd ⟨[u],[]⟩ [(y,u)])/\∀base:Heap,(K w.params).In base->base.Ns mainGlobals mg->pC l.prog w (K w.params) mg base H9 60 fa fd [y] (tX (K w.params) 1 (p.fn 60 L))):
  PySem.W.WalkO q loose XP YP l.row.toRowW d [] (fun f vs=>PySem.call f vs):=
 L2.Oc (n:=63) (k:=60) (x:=y) (CX:=fun _=>H9) (sp:=fun w=>tX (K w.params) 1 (p.fn 60 L)) hn (by decide) hdf ⟨rfl,by decide,by decide⟩ hY F (fun _ _ a ns hl hO hS=>Vt hO hS (math ns hl) _) fun _ _ _ _ _ z=>z
variable{a:D}{f:Ev->Fl}{j:Int}
section
variable{α β:Type}{σ:Ev}{d:D}{o:Ob}{b:Bool}{i:Int}{k:Nat}{xs:List D}
@[simp]theorem ad2{a:α}{f:α->Ev->Out β}:(Out.ok a σ).bind f=f a σ:=rfl
@[simp]theorem acs{f:α->Ev->Out β}:(Out.exc k σ).bind f=.exc k σ:=rfl
@[simp]theorem acu{f:α->Ev->Out β}:(Out.bad:Out α).bind f=.bad:=rfl
@[simp]theorem bT{f:D->Ev->Out β}:(Out.ok (.val d) σ).aq f=f d σ:=rfl
@[simp]theorem lu{f:D->Ev->Out β}:(Out.ok (.new o) σ).aq f=f o.d σ:=rfl
@[simp]theorem Zz{f:D->Ev->Out β}:(Out.exc k σ).aq f=.exc k σ:=rfl
@[simp]theorem ZC{f:D->Ev->Out β}:(Out.bad).aq f=.bad:=rfl
@[simp]theorem dC{f:Bool->Ev->Out β}:(Out.ok (.val (.bl b)) σ).cC iB f=f b σ:=rfl
@[simp]theorem Zw{f:Bool->Ev->Out β}:(Out.ok (.val (.int i)) σ).cC iB f=f (i !=0) σ:=rfl
@[simp]theorem Zu{f:Bool->Ev->Out β}:(Out.ok (.val (.tup xs)) σ).cC iB f=f (!xs.isEmpty) σ:=rfl
@[simp]theorem Zv{f:Bool->Ev->Out β}:(Out.ok (.val (.lst xs)) σ).cC iB f=f (!xs.isEmpty) σ:=rfl
@[simp]theorem Zx{f:Bool->Ev->Out β}:(Out.exc k σ).cC iB f=.exc k σ:=rfl
@[simp]theorem Zy{f:Bool->Ev->Out β}:(Out.bad).cC iB f=.bad:=rfl
@[simp]theorem ahe{a:α}{f:α->Ev->Fl}:(Out.ok a σ).fl f=f a σ:=rfl
@[simp]theorem af0{f:α->Ev->Fl}:(Out.exc k σ:Out α).fl f=.exc k σ:=rfl
@[simp]theorem af1{f:α->Ev->Fl}:(Out.bad:Out α).fl f=.bad:=rfl
@[simp]theorem adL{f:D->Ev->Fl}:(Out.ok (.val d) σ).mF f=f d σ:=rfl
@[simp]theorem adM{f:D->Ev->Fl}:(Out.ok (.new o) σ).mF f=f o.d σ:=rfl
@[simp]theorem adN{f:D->Ev->Fl}:(Out.exc k σ).mF f=.exc k σ:=rfl
@[simp]theorem adO{f:D->Ev->Fl}:(Out.bad).mF f=.bad:=rfl
@[simp]theorem af2{f:Bool->Ev->Fl}:(Out.ok (.val (.bl b)) σ).Bk f=f b σ:=rfl
@[simp]theorem adJ{f:Bool->Ev->Fl}:(Out.exc k σ).Bk f=.exc k σ:=rfl
@[simp]theorem adK{f:Bool->Ev->Fl}:(Out.bad).Bk f=.bad:=rfl
@[simp]theorem uW{a:α}:Mini.lift σ (some a)=.ok a σ:=rfl
@[simp]theorem Zg:Mini.lift σ (none:Option α)=.bad:=rfl
@[simp]theorem aaH:(Fl.next σ).seq f=f σ:=rfl
@[simp]theorem ac4{r:Rv}:(Fl.ret r σ).seq f=.ret r σ:=rfl
@[simp]theorem ac5:(Fl.exc k σ).seq f=.exc k σ:=rfl
@[simp]theorem ac6:(Fl.brk σ).seq f=.brk σ:=rfl
@[simp]theorem aaI:(Fl.cont σ).seq f=.cont σ:=rfl
@[simp]theorem ac7:(Fl.bad).seq f=.bad:=rfl
@[simp]theorem nU:(Fl.next σ).turn f=f σ:=rfl
@[simp]theorem YQ:(Fl.cont σ).turn f=f σ:=rfl
@[simp]theorem aae:(Fl.brk σ).turn f=.next σ:=rfl
@[simp]theorem aac{r:Rv}:(Fl.ret r σ).turn f=.ret r σ:=rfl
@[simp]theorem aad:(Fl.exc k σ).turn f=.exc k σ:=rfl
@[simp]theorem aaf:(Fl.bad).turn f=.bad:=rfl
@[simp]theorem aaJ:n6 (.val d) σ=.ret (.val d) σ:=rfl
@[simp]theorem aaK:n6 (.new o) σ=.ret (.new o) σ:=rfl
@[simp]theorem abp{τ:Ev}:xg (some τ)=.next τ:=rfl
@[simp]theorem abq:xg none=.bad:=rfl
@[simp]theorem acC:argv (.val d)=.val d:=rfl
@[simp]theorem acF:argv (.new o)=.val o.d:=rfl
@[simp]theorem acE:argv (.ref k)=.ref k:=rfl
@[simp]theorem acD:argv (.tmp o)=.tmp o:=rfl
@[simp]theorem aaA:Rv.xT (.val d)=some (.val d):=rfl
@[simp]theorem aaB:Rv.xT (.new o)=some (.own o):=rfl
@[simp]theorem adX:Rv.jy (.val d)=some d:=rfl
@[simp]theorem adY:Rv.jy (.new o)=some o.d:=rfl
@[simp]theorem Mr:Ob.d (.lst xs)=.lst xs:=rfl
@[simp]theorem ahG{ys:List D}:Ob.d (.dct xs ys)=.cH xs ys:=rfl
@[simp]theorem adg:G8 (.tup xs)=some xs.length:=rfl
@[simp]theorem adh:G8 (.lst xs)=some xs.length:=rfl
@[simp]theorem ad5:b1 .len (.tup xs)=some (.val (.int xs.length)):=rfl
@[simp]theorem ad6:b1 .len (.lst xs)=some (.val (.int xs.length)):=rfl
@[simp]theorem ad7:b1 .int (.int i)=some (.val (.int i)):=rfl
@[simp]theorem ad8:b1 .int (.bl b)=some (.val (.int (b2i b))):=rfl
@[simp]theorem acv:b1 .tuple d=(bB d).bind fun xs=>some (.val (.tup xs)):=rfl
@[simp]theorem ad4:b1 .list d=(Jk d).bind fun xs=>some (.new (.lst xs)):=rfl
@[simp]theorem aex(xs:List D):Jk (.tup xs)=some xs:=rfl
@[simp]theorem aez(xs:List D):Jk (.lst xs)=some xs:=rfl
@[simp]theorem aey(ks vs:List D):Jk (.fZ ks vs)=some ks:=rfl
@[simp]theorem M5:b1 .all d=(bB d).bind fun xs=>(bools xs).map fun bs=>.val (.bl (bs.all id)):=rfl
@[simp]theorem ago:b1 .any d=(bB d).bind fun xs=>(bools xs).map fun bs=>.val (.bl (bs.any id)):=rfl
@[simp]theorem ad9:b1 .dict d=(bB d).bind fun xs=>(dictOf [] [] xs).map fun p=>.new (.dct p.1 p.2):=rfl
@[simp]theorem ZF:b1 .sorted d=(yC d).bind fun xs=>(pG xs).map fun ys=>.new (.lst ys):=rfl
@[simp]theorem Y0:bB (.tup xs)=some xs:=rfl
@[simp]theorem uC:bB (.lst xs)=some xs:=rfl
@[simp]theorem Zc:yC (.lst xs)=some xs:=rfl
@[simp]theorem adG:getD (.tup xs) (.int i)=at? xs i:=rfl
@[simp]theorem adH:getD (.lst xs) (.int i)=at? xs i:=rfl
@[simp]theorem add_int:binop .add (.int i) (.int j)=some (.val (.int (i+j))):=rfl
@[simp]theorem sub_int:binop .sub (.int i) (.int j)=some (.val (.int (i-j))):=rfl
@[simp]theorem mul_int:binop .mul (.int i) (.int j)=if small i||small j then some (.val (.int (i*j)))else none:=rfl
@[simp]theorem mod_int:binop .mod (.int i) (.int j)=if 0<j then some (.val (.int (i%j)))else none:=rfl
@[simp]theorem lt_int:aK .lt (.int i) (.int j)=some (decide (i<j)):=rfl
@[simp]theorem gt_int:aK .gt (.int i) (.int j)=some (decide (j<i)):=rfl
@[simp]theorem le_int:aK .le (.int i) (.int j)=some (decide (i<=j)):=rfl
@[simp]theorem ge_int:aK .ge (.int i) (.int j)=some (decide (j<=i)):=rfl
@[simp]theorem ag8{d:D}:aK .fQ d .non=some (bD d):=rfl
@[simp]theorem afo{d:D}:aK .notN d .non=some (!bD d):=rfl
@[simp]theorem Zj{xs:List D}:bD (.tup xs)=false:=rfl
@[simp]theorem Zk:bD .non=true:=rfl
@[simp]theorem eq_int:aK .eq (.int i) (.int j)=some (i==j):=rfl
@[simp]theorem ne_int:aK .ne (.int i) (.int j)=some (!(i==j)):=rfl
@[simp]theorem ahF{c:Bool}:aK .eq (.bl b) (.bl c)=some (b==c):=rfl
@[simp]theorem agW{c:Bool}:aK .ne (.bl b) (.bl c)=some (!(b==c)):=rfl
@[simp]theorem eq_str{x y:PySem.Str}:aK .eq (.str x) (.str y)=some (decide (x=y)):=rfl
@[simp]theorem ne_str{x y:PySem.Str}:aK .ne (.str x) (.str y)=some (!decide (x=y)):=rfl
@[simp]theorem ZJ:E.aB (.var k)=some k:=rfl
@[simp]theorem ZW(d:D):E.aB (.con d)=none:=rfl
@[simp]theorem Yq(k:Nat):E.aB (.glob k)=none:=rfl
@[simp]theorem ZK(a:E):E.aB (.tup a)=none:=rfl
@[simp]theorem ZQ(a:E):E.aB (.lis a)=none:=rfl
@[simp]theorem acA(o:NZ)(a b:E):E.aB (.op o a b)=none:=rfl
@[simp]theorem ZP(a:E):E.aB (.neg a)=none:=rfl
@[simp]theorem ZX(o:Cm)(a b:E):E.aB (.cmp o a b)=none:=rfl
@[simp]theorem Us(o p:Cm)(a b c:E):E.aB (.chain o p a b c)=none:=rfl
@[simp]theorem ZZ(a:E):E.aB (.and a)=none:=rfl
@[simp]theorem acz(a:E):E.aB (.or a)=none:=rfl
@[simp]theorem ZM(a:E):E.aB (.not a)=none:=rfl
@[simp]theorem ZR(a b c:E):E.aB (.ite a b c)=none:=rfl
@[simp]theorem ZV(a b:E):E.aB (.idx a b)=none:=rfl
@[simp]theorem ZL(a b c:E):E.aB (.slc a b c)=none:=rfl
@[simp]theorem Yr(f:Nat)(a:E):E.aB (.call f a)=none:=rfl
@[simp]theorem acB(b:Bi)(a:E):E.aB (.bi b a)=none:=rfl
@[simp]theorem ZS(a:E)(t:Ty):E.aB (.isi a t)=none:=rfl
@[simp]theorem ZG(a b:E):E.aB (.zip a b)=none:=rfl
@[simp]theorem RD(a:E):E.aB (.range1 a)=none:=rfl
@[simp]theorem Ur(a b:E):E.aB (.count a b)=none:=rfl
@[simp]theorem Uq(i:Nat)(a:E):E.aB (.popAt i a)=none:=rfl
@[simp]theorem tO(n:Nat)(tg:Tg)(a b c:E):E.aB (.comp n tg a b c)=none:=rfl
@[simp]theorem acy(a:E):E.aB (.rd a)=none:=rfl
def gD(xs:List D)(j:Nat)(h:j<xs.length):at? xs (j:Int)=xs[j]? :=by
 unfold at? ix?
 rw[if_neg (by omega:¬(j:Int)<0),if_pos ⟨by omega,by omega⟩]
 simp
@[simp]theorem at0:at? (a::xs) 0=some a:=(gD (a::xs) 0 (by simp)).trans rfl
@[simp]theorem at1{b:D}:at? (a::b::xs) 1=some b:=(gD (a::b::xs) 1 (by simp)).trans rfl
@[simp]theorem at2{b c:D}:at? (a::b::c::xs) 2=some c:=(gD (a::b::c::xs) 2 (by simp)).trans rfl
@[simp]theorem at3{b c e:D}:at? (a::b::c::e::xs) 3=some e:=(gD (a::b::c::e::xs) 3 (by simp)).trans rfl
end
def aF(bs:List Bool):D:=.tup (bs.map .bl)
def di:Nat->List (List Bool)
 |0=>[[]]
 |k+1=>(di k).map (· ++[false])++(di k).map (· ++[true])
def masks:Nat->List (List Bool)
 |0=>[[]]
 |k+1=>(masks k).map (false:: ·)++(masks k).map (true:: ·)
theorem uV:∀(bs:List Bool),bs∈masks bs.length
 |[]=>by simp[masks]
 |b::bs=>by
  have:=uV bs
  cases b<;>simp[masks,this]
def lF{α:Type}:List Bool->List α->List α
 |b::bs,x::xs=>if b then x::lF bs xs else lF bs xs
 |_,_=>[]
def yP:List (List Bool)->Bool
 |a::b::r=>jw a b&&yP (b::r)
 |_=>true
def qM(k:Nat)(bs:List Bool):Bool:=match pG (lF bs ((di k).map aF))with
 |some ws=>if ws.isEmpty then true else match jq ws with
  |some rs=>(rs.all fun r=>r.length==k)&&yP rs
  |none=>false
 |none=>false
def aaz:(masks 2).all (qM 1)=true:=by decide+kernel
def aay:(masks 4).all (qM 2)=true:=by decide+kernel
def aax:(masks 8).all (qM 3)=true:=by decide+kernel
theorem vC:∀{ys:List D}{bs:List Bool},bools ys=some bs->ys=bs.map .bl
 |[],bs,e=>by cases e;rfl
 |y::ys,bs,e=>by
  cases y with
  |bl b=>
   simp only[bools]at e
   cases q:bools ys with
   |none=>rw[q]at e;cases e
   |some r=>rw[q]at e;cases e;rw[vC q];rfl
  |_=>cases e
theorem uF:∀{xs:List D}{rs:List (List Bool)},jq xs=some rs->xs=rs.map aF
 |[],rs,e=>by cases e;rfl
 |y::ys,rs,e=>by
  cases y with
  |tup zs=>
   simp only[jq]at e
   cases q:bools zs with
   |none=>rw[q]at e;cases e
   |some bs=>
    cases bs with
    |nil=>rw[q]at e;cases e
    |cons b bs=>
     rw[q]at e
     simp only at e
     cases q2:jq ys with
     |none=>rw[q2]at e;cases e
     |some rs'=>
      rw[q2]at e
      cases e
      rw[uF q2,vC q]
      rfl
  |_=>cases e
theorem nZ:∀k,(di k).length=2 ^k
 |0=>rfl
 |k+1=>by simp[di,nZ k];omega
def Ge(k:Nat)(h1:1<=k)(h3:k<=3)(bs:List Bool)(hl:bs.length=2 ^k):∃rs,pG (lF bs ((di k).map aF))=some (rs.map aF)/\(∀r∈rs,r.length=k)/\yP rs=true:=by
 have ok:qM k bs=true:=by
  have hm:=uV bs
  rw[hl]at hm
  rcases (by omega:k=1\/k=2\/k=3)with rfl|rfl|rfl
  ·exact List.all_eq_true.mp aaz bs hm
  ·exact List.all_eq_true.mp aay bs hm
  ·exact List.all_eq_true.mp aax bs hm
 unfold qM at ok
 cases q:pG (lF bs ((di k).map aF))with
 |none=>rw[q]at ok;cases ok
 |some ws=>
  rw[q]at ok
  simp only at ok
  split at ok
  ·rename_i he
   have:ws=[]:=by simpa using he
   subst this
   exact⟨[],rfl,fun r h=>(by cases h),rfl⟩
  ·cases q2:jq ws with
   |none=>rw[q2]at ok;cases ok
   |some rs=>
    rw[q2]at ok
    simp only[QUq,List.all_eq_true,beq_iff_eq]at ok
    exact⟨rs,by rw[uF q2],ok.1,ok.2⟩
theorem filter_tt{α:Type}:∀(xs:List α),xs.filter (fun _=>true)=xs
 |[]=>rfl
 |x::xs=>by rw[List.filter_cons_of_pos rfl,filter_tt xs]
def bC(s:Sl):Prop:=s=.un\/∃d,s=.val d
def nY{s:Sl}(h:bC s)(d:D)(r:Ev):bw (.name 0) d (s::r)=some (.val d::r):=by
 rcases h with rfl|⟨e,rfl⟩<;>rfl
def uB{s t:Sl}(h:bC s)(h':bC t)(a b:D)(r:Ev):bw (.tup [0,1]) (.tup [a,b]) (s::t::r)=some (.val a:: .val b::r):=by
 rcases h with rfl|⟨e,rfl⟩<;>rcases h' with rfl|⟨e',rfl⟩<;>rfl
def Ms(c:Cf)(d:D)(σ:Ev):ev c (.con d) σ=.ok (.val d) σ:=rfl
section
variable{c:Cf}{τ:Ev}{cond elt:Ev->Out Rv}
theorem go1{f:D->D}{p:D->Bool}:∀(xs acc:List D)(s:Sl),bC s->(∀x∈xs,cond (.val x::τ)=.ok (.val (.bl (p x))) (.val x::τ))->(∀x∈xs,p x=true->elt (.val x::τ)=.ok (.val (f x)) (.val x::τ))->
  ∃s',bC s'/\aR (.name 0) cond elt xs acc (s::τ)=.ok (acc++(xs.filter p).map f) (s'::τ)
 |[]=>fun acc s hs _ _=>⟨s,hs,by simp[aR]⟩
 |x::xs=>fun acc s hs hc he=>by
  have c1:=hc x QYz
  rw[aR,nY hs]
  simp only
  rw[c1,dC]
  cases q:p x with
  |true=>
   obtain⟨s',a1,a2⟩:=go1 (f:=f) (p:=p) xs (acc++[f x]) (.val x) (.inr ⟨x,rfl⟩) (fun y hy=>hc y (QYq _ hy)) (fun y hy=>he y (QYq _ hy))
   refine⟨s',a1,?_⟩
   rw[if_pos rfl,he x QYz q,bT,a2]
   simp[q]
  |false=>
   obtain⟨s',a1,a2⟩:=go1 (f:=f) (p:=p) xs acc (.val x) (.inr ⟨x,rfl⟩) (fun y hy=>hc y (QYq _ hy)) (fun y hy=>he y (QYq _ hy))
   refine⟨s',a1,?_⟩
   rw[if_neg (by simp),a2]
   simp[q]
def pairD(p:D×D):D:=.tup [p.1,p.2]
theorem go2{f:D×D->D}{p:D×D->Bool}:∀(xs:List (D×D))(acc:List D)(s t:Sl),bC s->bC t->(∀x∈xs,cond (.val x.1:: .val x.2::τ)=.ok (.val (.bl (p x))) (.val x.1:: .val x.2::τ))->
  (∀x∈xs,p x=true->elt (.val x.1:: .val x.2::τ)=.ok (.val (f x)) (.val x.1:: .val x.2::τ))->
  ∃s' t',aR (.tup [0,1]) cond elt (xs.map pairD) acc (s::t::τ)=.ok (acc++(xs.filter p).map f) (s'::t'::τ)
 |[]=>fun acc s t hs ht _ _=>⟨s,t,by simp[aR]⟩
 |x::xs=>fun acc s t hs ht hc he=>by
  have c1:=hc x QYz
  rw[Qyz,aR,show pairD x=.tup [x.1,x.2]from rfl,uB hs ht]
  simp only
  rw[c1,dC]
  cases q:p x with
  |true=>
   obtain⟨s',t',a2⟩:=go2 (f:=f) (p:=p) xs (acc++[f x]) (.val x.1) (.val x.2) (.inr ⟨_,rfl⟩) (.inr ⟨_,rfl⟩) (fun y hy=>hc y (QYq _ hy)) (fun y hy=>he y (QYq _ hy))
   refine⟨s',t',?_⟩
   rw[if_pos rfl,he x QYz q,bT,a2]
   simp[q]
  |false=>
   obtain⟨s',t',a2⟩:=go2 (f:=f) (p:=p) xs acc (.val x.1) (.val x.2) (.inr ⟨_,rfl⟩) (.inr ⟨_,rfl⟩) (fun y hy=>hc y (QYq _ hy)) (fun y hy=>he y (QYq _ hy))
   refine⟨s',t',?_⟩
   rw[if_neg (by simp),a2]
   simp[q]
end
variable{ps:List (D×D)}
section
variable{c:Cf}{σ τ:Ev}{it co el:E}{r:Rv}{d:D}{xs:List D}
def lV(f:D->D)(p:D->Bool)(hi:ev c it σ=.ok r τ)(hr:r.jy=some d)(hd:items d=some xs)(hc:∀x∈xs,ev c co (.val x::τ)=.ok (.val (.bl (p x))) (.val x::τ))(he:∀x∈xs,p x=true->ev c el (.val x::τ)=.ok (.val (f x)) (.val x::τ)):
  ev c (.comp 1 (.name 0) it co el) σ=.ok (.new (.lst ((xs.filter p).map f))) τ:=by
 obtain⟨s',_,a⟩:=go1 (f:=f) (p:=p) xs [] .un (.inl rfl) hc he
 rw[lH,hi]
 have b:∀{β:Type}(g:D->Ev->Out β),(Out.ok r τ).aq g=g d τ:=fun g=>by cases r<;>simp[Rv.jy]at hr<;>subst hr<;>rfl
 rw[b]
 simp only[hd]
 rw[show List.replicate 1 Sl.un++τ=.un::τ from rfl,a]
 simp
def sW(f:D->D)(hi:ev c it σ=.ok r τ)(hr:r.jy=some d)(hd:items d=some xs)(he:∀x∈xs,ev c el (.val x::τ)=.ok (.val (f x)) (.val x::τ)):
  ev c (.comp 1 (.name 0) it AAP el) σ=.ok (.new (.lst (xs.map f))) τ:=by
 have:=lV (co:=.con (.bl true)) f (fun _=>true) hi hr hd (fun x _=>Ms c _ _) (fun x hx _=>he x hx)
 rw[filter_tt]at this
 exact this
def Yj(f:D×D->D)(p:D×D->Bool)(hi:ev c it σ=.ok r τ)(hr:r.jy=some d)(hd:items d=some (ps.map pairD))(hc:∀x∈ps,ev c co (.val x.1:: .val x.2::τ)=.ok (.val (.bl (p x))) (.val x.1:: .val x.2::τ))
  (he:∀x∈ps,p x=true->ev c el (.val x.1:: .val x.2::τ)=.ok (.val (f x)) (.val x.1:: .val x.2::τ)):
  ev c (.comp 2 (.tup [0,1]) it co el) σ=.ok (.new (.lst ((ps.filter p).map f))) τ:=by
 obtain⟨s',t',a⟩:=go2 (f:=f) (p:=p) ps [] .un .un (.inl rfl) (.inl rfl) hc he
 rw[lH,hi]
 have b:∀{β:Type}(g:D->Ev->Out β),(Out.ok r τ).aq g=g d τ:=fun g=>by cases r<;>simp[Rv.jy]at hr<;>subst hr<;>rfl
 rw[b]
 simp only[hd]
 rw[show List.replicate 2 Sl.un++τ=.un:: .un::τ from rfl,a]
 simp
def Ul(f:D×D->D)(hi:ev c it σ=.ok r τ)(hr:r.jy=some d)(hd:items d=some (ps.map pairD))(he:∀x∈ps,ev c el (.val x.1:: .val x.2::τ)=.ok (.val (f x)) (.val x.1:: .val x.2::τ)):
  ev c (.comp 2 (.tup [0,1]) it AAP el) σ=.ok (.new (.lst (ps.map f))) τ:=by
 have:=Yj (co:=.con (.bl true)) f (fun _=>true) hi hr hd (fun x _=>Ms c _ _) (fun x hx _=>he x hx)
 rw[filter_tt]at this
 exact this
end
section
variable{c:Cf}{σ τ0 τ:Ev}{it co el:E}{r:Rv}{d:D}
theorem Yk{x0:D}{xs:List D}(f:D->D)(p:D->Bool)(hi:ev c it σ=.ok r τ0)(hr:r.jy=some d)(hd:items d=some (x0::xs))(hc0:ev c co (.val x0::τ0)=.ok (.val (.bl (p x0))) (.val x0::τ))(hc:∀x∈xs,ev c co (.val x::τ)=.ok (.val (.bl (p x))) (.val x::τ))
  (he:∀x∈x0::xs,p x=true->ev c el (.val x::τ)=.ok (.val (f x)) (.val x::τ)):ev c (.comp 1 (.name 0) it co el) σ=.ok (.new (.lst (((x0::xs).filter p).map f))) τ:=by
 rw[lH,hi]
 have b:∀{β:Type}(g:D->Ev->Out β),(Out.ok r τ0).aq g=g d τ0:=fun g=>by cases r<;>simp[Rv.jy]at hr<;>subst hr<;>rfl
 rw[b]
 simp only[hd]
 rw[show List.replicate 1 Sl.un++τ0=.un::τ0 from rfl,aR,nY (.inl rfl)]
 simp only
 rw[hc0,dC]
 cases q:p x0 with
 |true=>
  obtain⟨s',_,a⟩:=go1 (cond:=ev c co) (elt:=ev c el) (f:=f) (p:=p) (τ:=τ) xs ([]++[f x0]) (.val x0) (.inr ⟨_,rfl⟩) hc (fun x hx=>he x (QYq _ hx))
  rw[if_pos rfl,he x0 QYz q,bT,a]
  simp[q]
 |false=>
  obtain⟨s',_,a⟩:=go1 (cond:=ev c co) (elt:=ev c el) (f:=f) (p:=p) (τ:=τ) xs [] (.val x0) (.inr ⟨_,rfl⟩) hc (fun x hx=>he x (QYq _ hx))
  rw[if_neg (by simp),a]
  simp[q]
theorem Yi{x0:D×D}(f:D×D->D)(p:D×D->Bool)(hi:ev c it σ=.ok r τ0)(hr:r.jy=some d)(hd:items d=some ((x0::ps).map pairD))(hc0:ev c co (.val x0.1:: .val x0.2::τ0)=.ok (.val (.bl (p x0))) (.val x0.1:: .val x0.2::τ))
  (hc:∀x∈ps,ev c co (.val x.1:: .val x.2::τ)=.ok (.val (.bl (p x))) (.val x.1:: .val x.2::τ))
  (he:∀x∈x0::ps,p x=true->ev c el (.val x.1:: .val x.2::τ)=.ok (.val (f x)) (.val x.1:: .val x.2::τ)):ev c (.comp 2 (.tup [0,1]) it co el) σ=.ok (.new (.lst (((x0::ps).filter p).map f))) τ:=by
 rw[lH,hi]
 have b:∀{β:Type}(g:D->Ev->Out β),(Out.ok r τ0).aq g=g d τ0:=fun g=>by cases r<;>simp[Rv.jy]at hr<;>subst hr<;>rfl
 rw[b]
 simp only[hd]
 rw[show List.replicate 2 Sl.un++τ0=.un:: .un::τ0 from rfl,Qyz,aR,show pairD x0=.tup [x0.1,x0.2]from rfl,uB (.inl rfl) (.inl rfl)]
 simp only
 rw[hc0,dC]
 cases q:p x0 with
 |true=>
  obtain⟨s',t',a⟩:=go2 (cond:=ev c co) (elt:=ev c el) (f:=f) (p:=p) (τ:=τ) ps ([]++[f x0]) (.val x0.1) (.val x0.2) (.inr ⟨_,rfl⟩) (.inr ⟨_,rfl⟩) hc (fun x hx=>he x (QYq _ hx))
  rw[if_pos rfl,he x0 QYz q,bT,a]
  simp[q]
 |false=>
  obtain⟨s',t',a⟩:=go2 (cond:=ev c co) (elt:=ev c el) (f:=f) (p:=p) (τ:=τ) ps [] (.val x0.1) (.val x0.2) (.inr ⟨_,rfl⟩) (.inr ⟨_,rfl⟩) hc (fun x hx=>he x (QYq _ hx))
  rw[if_neg (by simp),a]
  simp[q]
end
theorem jU:∀(bs:List Bool),bools (bs.map D.bl)=some bs
 |[]=>rfl
 |b::bs=>by simp[bools,jU bs]
theorem tH:∀{α:Type}(xs:List α),bools (xs.map fun _=>D.bl true)=some (xs.map fun _=>true)
 |_,[]=>rfl
 |_,x::xs=>by simp[bools,tH xs]
theorem BW:∀{α:Type}(xs:List α),(xs.map fun _=>true).all id=true
 |_,[]=>rfl
 |_,x::xs=>by simpa using BW xs
section
variable{c:Cf}{σ τ:Ev}{it el:E}{r:Rv}{d:D}
def all1{xs:List D}(hi:ev c it σ=.ok r τ)(hr:r.jy=some d)(hd:items d=some xs)(he:∀x∈xs,ev c el (.val x::τ)=.ok (.val (.bl true)) (.val x::τ)):
  ev c (.bi .all (.comp 1 (.name 0) it AAP el)) σ=.ok (.val (.bl true)) τ:=by
 have e:=sW (fun _=>.bl true) hi hr hd he
 rw[nR]
 simp only[tO]
 rw[e,lu]
 simp only[Mr,M5,uC,QHq]
 rw[tH]
 simp only[Option.map_some,uW,BW]
def all2(hi:ev c it σ=.ok r τ)(hr:r.jy=some d)(hd:items d=some (ps.map pairD))(he:∀x∈ps,ev c el (.val x.1:: .val x.2::τ)=.ok (.val (.bl true)) (.val x.1:: .val x.2::τ)):
  ev c (.bi .all (.comp 2 (.tup [0,1]) it AAP el)) σ=.ok (.val (.bl true)) τ:=by
 have e:=Ul (fun _=>.bl true) hi hr hd he
 rw[nR]
 simp only[tO]
 rw[e,lu]
 simp only[Mr,M5,uC,QHq]
 rw[tH]
 simp only[Option.map_some,uW,BW]
end
theorem cP:∀(xs ys:List D),aO xs ys=(xs.zip ys).map pairD
 |[],_=>by simp[aO]
 |_::_,[]=>by simp[aO]
 |x::xs,y::ys=>by simp[aO,cP xs ys,pairD]
end Mini
end
section
namespace Mini
open PySem
def fin(k:Nat):Fl->Res
 |.next σ=>.ok (.val .non) (σ.take k)
 |.ret r σ=>.ok r (σ.take k)
 |.exc c σ=>.exc c (σ.take k)
 |_=>.bad
def Pj(c:Cf)(f:Fn)(ps:List Sl)(h:ps.length=f.pars):iG c f ps=fin f.pars (ex c f.body (ps++List.replicate (f.names-f.pars) .un)):=by
 unfold iG
 rw[if_pos h]
 cases ex c f.body (ps++List.replicate (f.names-f.pars) .un)<;>rfl
@[simp]theorem acd(k σ):fin k (.next σ)=.ok (.val .non) (σ.take k):=rfl
@[simp]theorem adP(k r σ):fin k (.ret r σ)=.ok r (σ.take k):=rfl
@[simp]theorem adQ(k c σ):fin k (.exc c σ)=.exc c (σ.take k):=rfl
def pN{α:Type}(b:Bool)(r:Out α):Out α:=if b then .bad else r
def Ry(b:Bool)(r:Fl):Fl:=if b then .bad else r
def v8{α:Type}(b:Bool)(r:Option α):Option α:=if b then none else r
variable{α:Type}
@[simp]theorem ad3(r:Out α):pN false r=r:=rfl
@[simp]theorem agl(r:Fl):Ry false r=r:=rfl
@[simp]theorem abu(r:Option α):v8 false r=r:=rfl
@[simp]theorem abt(r:Option α):v8 true r=none:=rfl
def xV(i:Nat)(σ:Ev):Option Sl->Out Rv
 |some (.val d)=>.ok (.val d) σ
 |some (.own o)=>.ok (.val o.d) (σ.set i (.val o.d))
 |_=>.bad
@[simp]theorem Jw(i:Nat)(σ:Ev):qW i σ=xV i σ σ[i]? :=rfl
@[simp]theorem Y4(i σ d):xV i σ (some (.val d))=.ok (.val d) σ:=rfl
@[simp]theorem Y5(i σ o):xV i σ (some (.own o))=.ok (.val o.d) (σ.set i (.val o.d)):=rfl
@[simp]theorem Y6(i σ o):xV i σ (some (.bor o))=.bad:=rfl
@[simp]theorem aaQ(i σ):xV i σ (some .un)=.bad:=rfl
def yD:Option Sl->Option D
 |some (.val d)=>some d
 |some (.own o)=>some o.d
 |some (.bor o)=>some o.d
 |_=>none
@[simp]theorem aby(i:Nat)(σ:Ev):aX i σ=yD σ[i]? :=rfl
@[simp]theorem Zd(d):yD (some (.val d))=some d:=rfl
@[simp]theorem Ze(o):yD (some (.own o))=some o.d:=rfl
@[simp]theorem Zf(o):yD (some (.bor o))=some o.d:=rfl
@[simp]theorem abz:yD (some .un)=none:=rfl
def pR(i:Nat)(σ:Ev)(s:Sl):Option Sl->Option Ev
 |some (.bor _)=>none
 |some _=>some (σ.set i s)
 |none=>none
@[simp]theorem aaD(i:Nat)(s:Sl)(σ:Ev):bN i s σ=pR i σ s σ[i]? :=rfl
@[simp]theorem aaE(i σ s d):pR i σ s (some (.val d))=some (σ.set i s):=rfl
@[simp]theorem aaF(i σ s o):pR i σ s (some (.own o))=some (σ.set i s):=rfl
@[simp]theorem ac3(i σ s):pR i σ s (some .un)=some (σ.set i s):=rfl
@[simp]theorem aaG(i σ s o):pR i σ s (some (.bor o))=none:=rfl
def Iv(i:Nat)(f:Ob->Option Ob)(σ:Ev):Option Sl->Option Ev
 |some (.own o)=>(f o).map fun q=>σ.set i (.own q)
 |some (.bor o)=>(f o).map fun q=>σ.set i (.bor q)
 |_=>none
def v4(i:Nat)(σ:Ev)(q:Ob):Ev:=σ.set i (.own q)
def JL(i:Nat)(σ:Ev)(q:Ob):Ev:=σ.set i (.bor q)
@[simp]theorem Y8(i σ q):v4 i σ q=σ.set i (.own q):=rfl
@[simp]theorem Y9(i σ q):JL i σ q=σ.set i (.bor q):=rfl
@[simp]theorem aag(i:Nat)(f:Ob->Option Ob)(σ:Ev):cZ i f σ=Iv i f σ σ[i]? :=rfl
@[simp]theorem YS(i f σ o):Iv i f σ (some (.own o))=(f o).map (v4 i σ):=rfl
@[simp]theorem YT(i f σ o):Iv i f σ (some (.bor o))=(f o).map (JL i σ):=rfl
def okB(r:Rv):Option Ev->Out Rv
 |some σ=>.ok r σ
 |none=>.bad
def MJ(as:List Rv)(σ:Ev):Res->Out Rv
 |.ok r qs=>okB r (giveBack as qs σ)
 |_=>.bad
def Um(c:Cf)(f:Nat)(as:List Rv)(σ:Ev):Option (List Sl)->Out Rv
 |none=>.bad
 |some ps=>MJ as σ (c.fn f ps)
@[simp]theorem agU(r σ):okB r (some σ)=.ok r σ:=rfl
@[simp]theorem acq(as σ r qs):MJ as σ (.ok r qs)=okB r (giveBack as qs σ):=rfl
@[simp]theorem ad1(c f as σ ps):Um c f as σ (some ps)=MJ as σ (c.fn f ps):=rfl
@[simp]theorem acr(c:Cf)(f:Nat)(as:List Rv)(σ:Ev):tB c f as σ=Um c f as σ (enter as σ):=rfl
@[simp]theorem adW(σ):enter [] σ=some []:=rfl
@[simp]theorem adV(d as σ):enter (.val d::as) σ=(enter as σ).map (.val d:: ·):=rfl
@[simp]theorem adU(o as σ):enter (.tmp o::as) σ=v8 (as.any yO) ((enter as σ).map (.bor o:: ·)):=rfl
def Yc(r:Option (List Sl)):Option Sl->Option (List Sl)
 |some (.own o)=>r.map (.bor o:: ·)
 |some (.bor o)=>r.map (.bor o:: ·)
 |_=>none
@[simp]theorem acg(r o):Yc r (some (.own o))=r.map (.bor o:: ·):=rfl
@[simp]theorem ach(r o):Yc r (some (.bor o))=r.map (.bor o:: ·):=rfl
@[simp]theorem adT(i as σ):enter (.ref i::as) σ=v8 (as.any (jb i)) (Yc (enter as σ) σ[i]?):=rfl
@[simp]theorem agd(c:Cf)(i σ):ev c (.var i) σ=qW i σ:=rfl
@[simp]theorem ajd(c:Cf)(d σ):ev c (.con d) σ=.ok (.val d) σ:=rfl
@[simp]theorem ajc(c:Cf)(k σ):ev c (.glob k) σ=match c.gl k with|some d=>.ok (.val d) σ|none=>.bad:=rfl
def Ve(ds:List D):Option Rv:=if fits ds.length then some (.val (.tup ds))else none
def WF(ds:List D):Option Rv:=if fits ds.length then some (.new (.lst ds))else none
def abC(rs:List Rv)(σ:Ev):Out Rv:=lift σ ((aP rs).bind Ve)
def abL(rs:List Rv)(σ:Ev):Out Rv:=lift σ ((aP rs).bind WF)
@[simp]theorem ac1(ds):Ve ds=if fits ds.length then some (.val (.tup ds))else none:=rfl
@[simp]theorem adf(ds):WF ds=if fits ds.length then some (.new (.lst ds))else none:=rfl
@[simp]theorem adk(rs σ):abC rs σ=lift σ ((aP rs).bind Ve):=rfl
@[simp]theorem adq(rs σ):abL rs σ=lift σ ((aP rs).bind WF):=rfl
@[simp]theorem ajb(c:Cf)(es σ):ev c (.tup es) σ=(evs c es σ).bind abC:=rfl
@[simp]theorem aja(c:Cf)(es σ):ev c (.lis es) σ=(evs c es σ).bind abL:=rfl
def WY(o:NZ)(x y:D)(σ:Ev):Out Rv:=lift σ (binop o x y)
def kOp(c:Cf)(o:NZ)(b:E)(x:D)(σ:Ev):Out Rv:=(ev c b σ).aq (WY o x)
@[simp]theorem ado(o x y σ):WY o x y σ=lift σ (binop o x y):=rfl
@[simp]theorem afw(c o b x σ):kOp c o b x σ=(ev c b σ).aq (WY o x):=rfl
@[simp]theorem ai9(c:Cf)(o a b σ):ev c (.op o a b) σ=(ev c a σ).aq (kOp c o b):=rfl
@[simp]theorem ai8(c:Cf)(a σ):ev c (.neg a) σ=(ev c a σ).aq fun x σ=>lift σ (match x with|.int i=>some (.val (.int (-i)))|_=>none):=rfl
def qV(q:Bool):Rv:=.val (.bl q)
@[simp]theorem agS(q):qV q=.val (.bl q):=rfl
def Ym(o:Cm)(x d:D):Option Rv:=(aK o x d).map qV
@[simp]theorem adZ(o x d):Ym o x d=(aK o x d).map qV:=rfl
def yK(o:Cm)(x y:D)(σ:Ev):Out Rv:=lift σ ((aK o x y).map qV)
@[simp]theorem abW(o x y σ):yK o x y σ=lift σ ((aK o x y).map qV):=rfl
def QR(c:Cf)(o:Cm)(b:E)(x:D)(σ:Ev):Option Nat->Out Rv
 |some k=>lift σ ((aX k σ).bind (Ym o x))
 |none=>(ev c b σ).aq (yK o x)
@[simp]theorem afB(c o b x σ k):QR c o b x σ (some k)=lift σ ((aX k σ).bind (Ym o x)):=rfl
@[simp]theorem afC(c o b x σ):QR c o b x σ none=(ev c b σ).aq (yK o x):=rfl
def T7(c:Cf)(o:Cm)(b:E)(x:D)(σ:Ev):Out Rv:=QR c o b x σ b.aB
@[simp]theorem abX(c o b x σ):T7 c o b x σ=QR c o b x σ b.aB:=rfl
@[simp]theorem ai7(c:Cf)(o a b σ):ev c (.cmp o a b) σ=(ev c a σ).aq (T7 c o b):=rfl
def QS(c:Cf)(o:Cm)(d:E)(y:D)(q:Bool)(σ:Ev):Out Rv:=if q then(ev c d σ).aq (yK o y)else .ok (.val (.bl false)) σ
@[simp]theorem afE(c o d y σ):QS c o d y true σ=(ev c d σ).aq (yK o y):=rfl
@[simp]theorem afF(c o d y σ):QS c o d y false σ=.ok (.val (.bl false)) σ:=rfl
def W7(c:Cf)(o p:Cm)(d:E)(x y:D)(σ:Ev):Out Rv:=(lift σ (aK o x y)).bind (QS c p d y)
@[simp]theorem adD(c o p d x y σ):W7 c o p d x y σ=(lift σ (aK o x y)).bind (QS c p d y):=rfl
def kCh(c:Cf)(o p:Cm)(b d:E)(x:D)(σ:Ev):Out Rv:=(ev c b σ).aq (W7 c o p d x)
@[simp]theorem afD(c o p b d x σ):kCh c o p b d x σ=(ev c b σ).aq (W7 c o p d x):=rfl
@[simp]theorem ai6(c:Cf)(o₁ o₂ a b d σ):ev c (.chain o₁ o₂ a b d) σ=(ev c a σ).aq (kCh c o₁ o₂ b d):=rfl
@[simp]theorem ai5(c:Cf)(es σ):ev c (.and es) σ=fJ c es σ:=rfl
@[simp]theorem ahE(c:Cf)(es σ):ev c (.or es) σ=jR c es σ:=rfl
def abJ(b:Bool)(σ:Ev):Out Rv:=.ok (.val (.bl (!b))) σ
@[simp]theorem adp(b σ):abJ b σ=.ok (.val (.bl (!b))) σ:=rfl
@[simp]theorem ahD(c:Cf)(a σ):ev c (.not a) σ=(ev c a σ).cC iB abJ:=rfl
def KN(c:Cf)(a b:E)(q:Bool)(σ:Ev):Out Rv:=if q then ev c a σ else ev c b σ
@[simp]theorem adu(c a b σ):KN c a b true σ=ev c a σ:=rfl
@[simp]theorem adv(c a b σ):KN c a b false σ=ev c b σ:=rfl
@[simp]theorem ahC(c:Cf)(t a b σ):ev c (.ite t a b) σ=(ev c t σ).cC iB (KN c a b):=rfl
def Xv(y d:D):Option Rv:=(getD d y).map Rv.val
@[simp]theorem adI(y d):Xv y d=(getD d y).map Rv.val:=rfl
def W4(k:Nat)(y:D)(σ:Ev):Out Rv:=lift σ ((aX k σ).bind (Xv y))
@[simp]theorem adx(k y σ):W4 k y σ=lift σ ((aX k σ).bind (Xv y)):=rfl
def KQ(x y:D)(σ:Ev):Out Rv:=lift σ ((getD x y).map Rv.val)
@[simp]theorem abN(x y σ):KQ x y σ=lift σ ((getD x y).map Rv.val):=rfl
def KR(c:Cf)(i:E)(x:D)(σ:Ev):Out Rv:=(ev c i σ).aq (KQ x)
@[simp]theorem abO(c i x σ):KR c i x σ=(ev c i σ).aq (KQ x):=rfl
def Xd(c:Cf)(a i:E)(σ:Ev):Option Nat->Out Rv
 |some k=>pN (aX k σ).isNone ((ev c i σ).aq (W4 k))
 |none=>(ev c a σ).aq (KR c i)
@[simp]theorem afQ(c a i σ k):Xd c a i σ (some k)=pN (aX k σ).isNone ((ev c i σ).aq (W4 k)):=rfl
@[simp]theorem afR(c a i σ):Xd c a i σ none=(ev c a σ).aq (KR c i):=rfl
@[simp]theorem ahB(c:Cf)(a i σ):ev c (.idx a i) σ=Xd c a i σ a.aB:=rfl
def WW(hi:E)(x:D)(l:Option Int)(h:D)(σ:Ev):Out Rv:=lift σ ((bZ hi.fQ h).bind (dM x l))
@[simp]theorem adl(hi x l h σ):WW hi x l h σ=lift σ ((bZ hi.fQ h).bind (dM x l)):=rfl
def slM(c:Cf)(hi:E)(x:D)(σ:Ev):Option (Option Int)->Out Rv
 |none=>.bad
 |some l=>(ev c hi σ).aq (WW hi x l)
@[simp]theorem agH(c hi x σ l):slM c hi x σ (some l)=(ev c hi σ).aq (WW hi x l):=rfl
def WX(c:Cf)(lo hi:E)(x l:D)(σ:Ev):Out Rv:=slM c hi x σ (bZ lo.fQ l)
@[simp]theorem adm(c lo hi x l σ):WX c lo hi x l σ=slM c hi x σ (bZ lo.fQ l):=rfl
def kSl(c:Cf)(lo hi:E)(x:D)(σ:Ev):Out Rv:=(ev c lo σ).aq (WX c lo hi x)
@[simp]theorem afv(c lo hi x σ):kSl c lo hi x σ=(ev c lo σ).aq (WX c lo hi x):=rfl
@[simp]theorem ahA(c:Cf)(a lo hi σ):ev c (.slc a lo hi) σ=(ev c a σ).aq (kSl c lo hi):=rfl
@[simp]theorem ahz(c:Cf)(σ):ev c .noneE σ=.ok (.val .non) σ:=rfl
@[simp]theorem ahy(c:Cf)(f as σ):ev c (.call f as) σ=(evs c as σ).bind (tB c f):=rfl
def VF(i:Nat)(σ:Ev):Option Sl->Out Rv
 |some (.own _)=>.ok (.ref i) σ
 |some (.bor _)=>.ok (.ref i) σ
 |_=>.bad
@[simp]theorem aaO(i σ o):VF i σ (some (.own o))=.ok (.ref i) σ:=rfl
@[simp]theorem aaP(i σ o):VF i σ (some (.bor o))=.ok (.ref i) σ:=rfl
@[simp]theorem ahx(c:Cf)(i σ):ev c (.ref i) σ=VF i σ σ[i]? :=rfl
@[simp]theorem ahw(c:Cf)(e σ):ev c (.rd e) σ=ev c e σ:=rfl
def abE(x:Rv)(σ:Ev):Out Rv:=lift σ (match x with|.new o=>some (.tmp o)|_=>none)
@[simp]theorem abD(o σ):abE (.new o) σ=.ok (.tmp o) σ:=rfl
@[simp]theorem ahv(c:Cf)(e σ):ev c (.tmp e) σ=(ev c e σ).bind abE:=rfl
def abM(t:Ty)(x:D)(σ:Ev):Out Rv:=.ok (.val (.bl (m7 t x))) σ
@[simp]theorem adw(t x σ):abM t x σ=.ok (.val (.bl (m7 t x))) σ:=rfl
@[simp]theorem ahu(c:Cf)(a t σ):ev c (.isi a t) σ=(ev c a σ).aq (abM t):=rfl
def kBi(b:Bi)(x:D)(σ:Ev):Out Rv:=lift σ (b1 b x)
@[simp]theorem afG(b x σ):kBi b x σ=lift σ (b1 b x):=rfl
def biM(c:Cf)(b:Bi)(a:E)(σ:Ev):Option Nat->Out Rv
 |some k=>lift σ ((aX k σ).bind (b1 b))
 |none=>(ev c a σ).aq (kBi b)
@[simp]theorem ahK(c b a σ k):biM c b a σ (some k)=lift σ ((aX k σ).bind (b1 b)):=rfl
@[simp]theorem ahL(c b a σ):biM c b a σ none=(ev c a σ).aq (kBi b):=rfl
@[simp]theorem aht(c:Cf)(b a σ):ev c (.bi b a) σ=biM c b a σ a.aB:=rfl
def abI(x:D)(σ:Ev):Out Rv:=lift σ (match x with|.int n=>if fits n.toNat&&zH n then some (.val (.lst (bJ 0 n.toNat)))else none|_=>none)
@[simp]theorem abH(n:Int)(σ):abI (.int n) σ=lift σ (if fits n.toNat&&zH n then some (.val (.lst (bJ 0 n.toNat)))else none):=rfl
@[simp]theorem ahs(c:Cf)(a σ):ev c (.range1 a) σ=(ev c a σ).aq abI:=rfl
def Uu(xs ys:List D):Rv:=.val (.lst (aO xs ys))
@[simp]theorem acO(xs ys):Uu xs ys=.val (.lst (aO xs ys)):=rfl
def Uv(y:D)(xs:List D):Option Rv:=(bB y).map (Uu xs)
@[simp]theorem acP(y xs):Uv y xs=(bB y).map (Uu xs):=rfl
def KJ(x y:D)(σ:Ev):Out Rv:=lift σ ((bB x).bind (Uv y))
@[simp]theorem abA(x y σ):KJ x y σ=lift σ ((bB x).bind (Uv y)):=rfl
def abB(c:Cf)(b:E)(x:D)(σ:Ev):Out Rv:=(ev c b σ).aq (KJ x)
@[simp]theorem adi(c b x σ):abB c b x σ=(ev c b σ).aq (KJ x):=rfl
@[simp]theorem ahr(c:Cf)(a b σ):ev c (.zip a b) σ=(ev c a σ).aq (abB c b):=rfl
def KZ(x y:D)(σ:Ev):Out Rv:=lift σ (wR x y)
@[simp]theorem abU(x y σ):KZ x y σ=lift σ (wR x y):=rfl
def abV(c:Cf)(b:E)(x:D)(σ:Ev):Out Rv:=pN (bB x).isNone ((ev c b σ).aq (KZ x))
@[simp]theorem adC(c b x σ):abV c b x σ=pN (bB x).isNone ((ev c b σ).aq (KZ x)):=rfl
@[simp]theorem ahq(c:Cf)(a b σ):ev c (.count a b) σ=(ev c a σ).aq (abV c b):=rfl
@[simp]theorem adF(ks vs):pI (some (.cH ks vs))=true:=rfl
@[simp]theorem ahp(c:Cf)(k a σ):ev c (.popAt k a) σ=pN (!dX (aX k σ)) ((ev c a σ).aq (rA k)):=rfl
def T6(c:Cf)(nl:Nat)(tg:Tg)(cond elt:E)(x:D)(σ:Ev):Out Rv:=match items x with
  |some xs=>match aR tg (ev c cond) (ev c elt) xs [] (List.replicate nl .un++σ)with
   |.ok ys τ=>.ok (.new (.lst ys)) (τ.drop nl)
   |_=>.bad
  |none=>.bad
@[simp]theorem abT(c nl tg cond elt x σ):T6 c nl tg cond elt x σ=match items x with
  |some xs=>match aR tg (ev c cond) (ev c elt) xs [] (List.replicate nl .un++σ)with
   |.ok ys τ=>.ok (.new (.lst ys)) (τ.drop nl)
   |_=>.bad
  |none=>.bad:=rfl
@[simp]theorem aho(c:Cf)(nl tg it cond elt σ):ev c (.comp nl tg it cond elt) σ=(ev c it σ).aq (T6 c nl tg cond elt):=rfl
def KY(x:Rv)(xs:List Rv)(σ:Ev):Out (List Rv):=.ok (argv x::xs) σ
@[simp]theorem abQ(x xs σ):KY x xs σ=.ok (argv x::xs) σ:=rfl
def abR(c:Cf)(t:E)(x:Rv)(σ:Ev):Out (List Rv):=(evs c t σ).bind (KY x)
@[simp]theorem adA(c t x σ):abR c t x σ=(evs c t σ).bind (KY x):=rfl
@[simp]theorem ahl(c:Cf)(σ):evs c .nil σ=.ok [] σ:=rfl
@[simp]theorem ahk(c:Cf)(h t σ):evs c (.cons h t) σ=(ev c h σ).bind (abR c t):=rfl
@[simp]theorem ai4(c:Cf)(σ):ex c .nil σ=.next σ:=rfl
@[simp]theorem ai3(c:Cf)(h t σ):ex c (.cons h t) σ=(ex c h σ).seq (ex c t):=rfl
@[simp]theorem ai2(c:Cf)(σ):ex c .pass σ=.next σ:=rfl
@[simp]theorem ai1(c:Cf)(σ):ex c .brk σ=.brk σ:=rfl
@[simp]theorem ai0(c:Cf)(σ):ex c .cont σ=.cont σ:=rfl
def zV(i:Nat)(σ:Ev)(s:Sl):Option Ev:=bN i s σ
@[simp]theorem YZ(i σ s):zV i σ s=bN i s σ:=rfl
def abG(i:Nat)(x:Rv)(σ:Ev):Fl:=xg (x.xT.bind (zV i σ))
@[simp]theorem adn(i x σ):abG i x σ=xg (x.xT.bind (zV i σ)):=rfl
@[simp]theorem aiZ(c:Cf)(i e σ):ex c (.set i e) σ=(ev c e σ).fl (abG i):=rfl
def T3(is:List Nat)(x:D)(σ:Ev):Fl:=xg (bw (.tup is) x σ)
@[simp]theorem abF(is x σ):T3 is x σ=xg (bw (.tup is) x σ):=rfl
@[simp]theorem aiY(c:Cf)(is e σ):ex c (.setT is e) σ=(ev c e σ).mF (T3 is):=rfl
def W2(k:Nat)(x y:D)(σ:Ev):Fl:=xg (cZ k (rn y x) σ)
@[simp]theorem adt(k x y σ):W2 k x y σ=xg (cZ k (rn y x) σ):=rfl
def kIx(c:Cf)(k:Nat)(ix:E)(x:D)(σ:Ev):Fl:=Ry (aX k σ).isNone ((ev c ix σ).mF (W2 k x))
@[simp]theorem afx(c k ix x σ):kIx c k ix x σ=Ry (aX k σ).isNone ((ev c ix σ).mF (W2 k x)):=rfl
@[simp]theorem aiX(c:Cf)(k ix e σ):ex c (.setIx k ix e) σ=(ev c e σ).mF (kIx c k ix):=rfl
def T4(_:D)(σ:Ev):Fl:=.next σ
@[simp]theorem abK(d σ):T4 d σ=.next σ:=rfl
@[simp]theorem aiW(c:Cf)(e σ):ex c (.expr e) σ=(ev c e σ).mF T4:=rfl
def Ys(x:D)(xs:List D):Option (List D):=if fits (xs.length+1)then some (xs++[x])else none
@[simp]theorem aeb(x xs):Ys x xs=if fits (xs.length+1)then some (xs++[x])else none:=rfl
def abY(k:Nat)(x:D)(σ:Ev):Fl:=xg (cZ k (ue (Ys x)) σ)
@[simp]theorem adE(k x σ):abY k x σ=xg (cZ k (ue (Ys x)) σ):=rfl
@[simp]theorem aiV(c:Cf)(k e σ):ex c (.append k e) σ=Ry (!dX (aX k σ)) ((ev c e σ).mF (abY k)):=rfl
def Jv(c:Cf)(e:E)(i:Nat)(σ:Ev):Option Sl->Fl
 |some (.own o)=>.ret (.new o) (σ.set i .un)
 |_=>(ev c e σ).fl n6
@[simp]theorem aaM(c e i σ o):Jv c e i σ (some (.own o))=.ret (.new o) (σ.set i .un):=rfl
@[simp]theorem aaL(c e i σ d):Jv c e i σ (some (.val d))=(ev c e σ).fl n6:=rfl
@[simp]theorem aaN(c e i σ o):Jv c e i σ (some (.bor o))=(ev c e σ).fl n6:=rfl
def VB(c:Cf)(e:E)(σ:Ev):Option Nat->Fl
 |some i=>Jv c e i σ σ[i]?
 |none=>(ev c e σ).fl n6
@[simp]theorem afh(c e σ i):VB c e σ (some i)=Jv c e i σ σ[i]? :=rfl
@[simp]theorem afi(c e σ):VB c e σ none=(ev c e σ).fl n6:=rfl
@[simp]theorem ahj(c:Cf)(e σ):ex c (.ret e) σ=VB c e σ e.aB:=rfl
def W3(c:Cf)(a b:S)(q:Bool)(σ:Ev):Fl:=if q then ex c a σ else ex c b σ
@[simp]theorem afy(c a b σ):W3 c a b true σ=ex c a σ:=rfl
@[simp]theorem afz(c a b σ):W3 c a b false σ=ex c b σ:=rfl
@[simp]theorem ahi(c:Cf)(t a b σ):ex c (.ite t a b) σ=(ev c t σ).Bk (W3 c a b):=rfl
def kFor(c:Cf)(tg:Tg)(b:S)(σ:Ev):Option (List D)->Fl
 |some xs=>aY tg (ex c b) xs σ
 |none=>.bad
@[simp]theorem afA(c tg b σ xs):kFor c tg b σ (some xs)=aY tg (ex c b) xs σ:=rfl
def T5(c:Cf)(tg:Tg)(b:S)(x:D)(σ:Ev):Fl:=kFor c tg b σ (items x)
@[simp]theorem abP(c tg b x σ):T5 c tg b x σ=kFor c tg b σ (items x):=rfl
@[simp]theorem ahh(c:Cf)(tg it b σ):ex c (.for_ tg it b) σ=(ev c it σ).mF (T5 c tg b):=rfl
@[simp]theorem ahg(c:Cf)(t b σ):ex c (.while_ t b) σ=bL (ev c t) (ex c b) c.turns σ:=rfl
@[simp]theorem ahf(c:Cf)(k σ):ex c (.raise k) σ=.exc k σ:=rfl
def W8(c:Cf)(e:E)(x:D)(σ:Ev):Out Rv:=match x with|.bl true=>fJ c e σ|.bl false=>.ok (.val (.bl false)) σ|_=>.bad
@[simp]theorem afI(c e σ):W8 c e (.bl true) σ=fJ c e σ:=rfl
@[simp]theorem afJ(c e σ):W8 c e (.bl false) σ=.ok (.val (.bl false)) σ:=rfl
def kOr(c:Cf)(e:E)(x:D)(σ:Ev):Out Rv:=match x with|.bl true=>.ok (.val (.bl true)) σ|.bl false=>jR c e σ|_=>.bad
@[simp]theorem ag2(c e σ):kOr c e (.bl true) σ=.ok (.val (.bl true)) σ:=rfl
@[simp]theorem ag3(c e σ):kOr c e (.bl false) σ=jR c e σ:=rfl
@[simp]theorem adS(c:Cf)(h σ):fJ c (.cons h .nil) σ=ev c h σ:=rfl
@[simp]theorem adR(c:Cf)(h a b σ):fJ c (.cons h (.cons a b)) σ=(ev c h σ).aq (W8 c (.cons a b)):=rfl
@[simp]theorem agf(c:Cf)(h σ):jR c (.cons h .nil) σ=ev c h σ:=rfl
@[simp]theorem age(c:Cf)(h a b σ):jR c (.cons h (.cons a b)) σ=(ev c h σ).aq (kOr c (.cons a b)):=rfl
@[simp high]theorem aj7(x0:D):at? [x0] 0=some x0:=rfl
@[simp high]theorem aj6(x0 x1:D):at? [x0,x1] 0=some x0:=rfl
@[simp high]theorem aj5(x0 x1:D):at? [x0,x1] 1=some x1:=rfl
@[simp high]theorem aj4(x0 x1 x2:D):at? [x0,x1,x2] 0=some x0:=rfl
@[simp high]theorem aj3(x0 x1 x2:D):at? [x0,x1,x2] 1=some x1:=rfl
@[simp high]theorem aj2(x0 x1 x2:D):at? [x0,x1,x2] 2=some x2:=rfl
@[simp high]theorem aj1(x0 x1 x2 x3:D):at? [x0,x1,x2,x3] 0=some x0:=rfl
@[simp high]theorem aj0(x0 x1 x2 x3:D):at? [x0,x1,x2,x3] 1=some x1:=rfl
@[simp high]theorem ajZ(x0 x1 x2 x3:D):at? [x0,x1,x2,x3] 2=some x2:=rfl
@[simp high]theorem ajY(x0 x1 x2 x3:D):at? [x0,x1,x2,x3] 3=some x3:=rfl
@[simp]theorem aiU(σ):giveBack [] [] σ=some σ:=rfl
@[simp]theorem aiT(i as o ps σ):giveBack (.ref i::as) (.bor o::ps) σ=(cZ i (fun _=>some o) σ).bind (giveBack as ps):=rfl
@[simp]theorem aiS(d as p ps σ):giveBack (.val d::as) (p::ps) σ=giveBack as ps σ:=rfl
@[simp]theorem aiR(o as p ps σ):giveBack (.tmp o::as) (p::ps) σ=giveBack as ps σ:=rfl
@[simp]theorem aij(i j):jb i (.ref j)=(i==j):=rfl
@[simp]theorem aii(i d):jb i (.val d)=false:=rfl
@[simp]theorem aih(i o):jb i (.tmp o)=false:=rfl
@[simp]theorem aig(i o):jb i (.new o)=false:=rfl
@[simp]theorem aiA(o):yO (.tmp o)=true:=rfl
@[simp]theorem aiz(d):yO (.val d)=false:=rfl
@[simp]theorem aiy(i):yO (.ref i)=false:=rfl
@[simp]theorem ah0(xs):m7 .tup (.tup xs)=true:=rfl
@[simp]theorem ahZ(xs):m7 .lst (.lst xs)=true:=rfl
@[simp]theorem ahY(x):m7 .str (.str x)=true:=rfl
@[simp]theorem ahX(b):m7 .bool (.bl b)=true:=rfl
def aem(i):m7 .bool (.int i)=false:=rfl
@[simp]theorem ahW(i):m7 .int (.int i)=true:=rfl
@[simp]theorem agb:fits 0=true:=rfl
@[simp]theorem aga:fits 1=true:=rfl
@[simp]theorem af9:fits 2=true:=rfl
@[simp]theorem af8:fits 3=true:=rfl
@[simp]theorem af7:fits 4=true:=rfl
@[simp]theorem af6:fits 5=true:=rfl
@[simp]theorem af5:fits 6=true:=rfl
@[simp]theorem af4:fits 7=true:=rfl
@[simp]theorem af3:fits 8=true:=rfl
@[simp]theorem ace(i j:Int):binop .fdiv (.int i) (.int j)=if 0<j/\j<1073741824 then some (.val (.int (i/j)))else none:=rfl
@[simp]theorem pow_int(i j:Int):binop .pow (.int i) (.int j)=if 0<=j/\j<=64/\small i=true then some (.val (.int (i ^j.toNat)))else none:=rfl
@[simp↓]theorem ite_tt(a b:α):(if true=true then a else b)=a:=rfl
@[simp↓]theorem ite_ff(a b:α):(if false=true then a else b)=b:=rfl
@[simp]theorem aec(xs ys:List D):binop .add (.tup xs) (.tup ys)=if fits (xs.length+ys.length)then some (.val (.tup (xs++ys)))else none:=rfl
@[simp]theorem aed(xs ys:List D):binop .add (.lst xs) (.lst ys)=if fits (xs.length+ys.length)then some (.new (.lst (xs++ys)))else none:=rfl
@[simp]theorem aea(ks vs:List D):b1 .copy (.cH ks vs)=some (.new (.dct ks vs)):=rfl
def gtK(k x y:D):Option Rv:=(pK y k x).map Rv.val
@[simp]theorem afS(k x y):gtK k x y=(pK y k x).map Rv.val:=rfl
def W5(i:Nat)(k x:D)(σ:Ev):Out Rv:=lift σ ((aX i σ).bind (gtK k x))
@[simp]theorem ady(i k x σ):W5 i k x σ=lift σ ((aX i σ).bind (gtK k x)):=rfl
def W6(c:Cf)(i:Nat)(x:E)(k:D)(σ:Ev):Out Rv:=(ev c x σ).aq (W5 i k)
@[simp]theorem adz(c i x k σ):W6 c i x k σ=(ev c x σ).aq (W5 i k):=rfl
def ab7(c:Cf)(d k x:E)(σ:Ev):Option Nat->Out Rv
 |some i=>pN (!pI (aX i σ)) ((ev c k σ).aq (W6 c i x))
 |none=>.bad
@[simp]theorem afW(c d k x σ i):ab7 c d k x σ (some i)=pN (!pI (aX i σ)) ((ev c k σ).aq (W6 c i x)):=rfl
@[simp]theorem ahn(c:Cf)(d k x σ):ev c (.get2 d k x) σ=ab7 c d k x σ d.aB:=rfl
def abS(rs:List Rv)(σ:Ev):Out Rv:=lift σ ((aP rs).bind wJ)
@[simp]theorem adB(rs σ):abS rs σ=lift σ ((aP rs).bind wJ):=rfl
@[simp]theorem ahm(c:Cf)(es σ):ev c (.dsp es) σ=(evs c es σ).bind abS:=rfl
@[simp high]theorem aiQ(a0:Sl)(r:Ev):(a0::r)[0]? =some a0:=rfl
@[simp high]theorem aif(a0 v:Sl)(r:Ev):List.set (a0::r) 0 v=v::r:=rfl
@[simp high]theorem aiP(a0 a1:Sl)(r:Ev):(a0::a1::r)[1]? =some a1:=rfl
@[simp high]theorem aie(a0 a1 v:Sl)(r:Ev):List.set (a0::a1::r) 1 v=a0::v::r:=rfl
@[simp high]theorem aiO(a0 a1 a2:Sl)(r:Ev):(a0::a1::a2::r)[2]? =some a2:=rfl
@[simp high]theorem aid(a0 a1 a2 v:Sl)(r:Ev):List.set (a0::a1::a2::r) 2 v=a0::a1::v::r:=rfl
@[simp high]theorem aiN(a0 a1 a2 a3:Sl)(r:Ev):(a0::a1::a2::a3::r)[3]? =some a3:=rfl
@[simp high]theorem aic(a0 a1 a2 a3 v:Sl)(r:Ev):List.set (a0::a1::a2::a3::r) 3 v=a0::a1::a2::v::r:=rfl
@[simp high]theorem aiM(a0 a1 a2 a3 a4:Sl)(r:Ev):(a0::a1::a2::a3::a4::r)[4]? =some a4:=rfl
@[simp high]theorem aib(a0 a1 a2 a3 a4 v:Sl)(r:Ev):List.set (a0::a1::a2::a3::a4::r) 4 v=a0::a1::a2::a3::v::r:=rfl
@[simp high]theorem aiL(a0 a1 a2 a3 a4 a5:Sl)(r:Ev):(a0::a1::a2::a3::a4::a5::r)[5]? =some a5:=rfl
@[simp high]theorem aia(a0 a1 a2 a3 a4 a5 v:Sl)(r:Ev):List.set (a0::a1::a2::a3::a4::a5::r) 5 v=a0::a1::a2::a3::a4::v::r:=rfl
@[simp high]theorem aiK(a0 a1 a2 a3 a4 a5 a6:Sl)(r:Ev):(a0::a1::a2::a3::a4::a5::a6::r)[6]? =some a6:=rfl
@[simp high]theorem ah9(a0 a1 a2 a3 a4 a5 a6 v:Sl)(r:Ev):List.set (a0::a1::a2::a3::a4::a5::a6::r) 6 v=a0::a1::a2::a3::a4::a5::v::r:=rfl
@[simp high]theorem aiJ(a0 a1 a2 a3 a4 a5 a6 a7:Sl)(r:Ev):(a0::a1::a2::a3::a4::a5::a6::a7::r)[7]? =some a7:=rfl
@[simp high]theorem ah8(a0 a1 a2 a3 a4 a5 a6 a7 v:Sl)(r:Ev):List.set (a0::a1::a2::a3::a4::a5::a6::a7::r) 7 v=a0::a1::a2::a3::a4::a5::a6::v::r:=rfl
@[simp high]theorem aiI(a0 a1 a2 a3 a4 a5 a6 a7 a8:Sl)(r:Ev):(a0::a1::a2::a3::a4::a5::a6::a7::a8::r)[8]? =some a8:=rfl
@[simp high]theorem ah7(a0 a1 a2 a3 a4 a5 a6 a7 a8 v:Sl)(r:Ev):List.set (a0::a1::a2::a3::a4::a5::a6::a7::a8::r) 8 v=a0::a1::a2::a3::a4::a5::a6::a7::v::r:=rfl
@[simp high]theorem aiH(a0 a1 a2 a3 a4 a5 a6 a7 a8 a9:Sl)(r:Ev):(a0::a1::a2::a3::a4::a5::a6::a7::a8::a9::r)[9]? =some a9:=rfl
@[simp high]theorem ah6(a0 a1 a2 a3 a4 a5 a6 a7 a8 a9 v:Sl)(r:Ev):List.set (a0::a1::a2::a3::a4::a5::a6::a7::a8::a9::r) 9 v=a0::a1::a2::a3::a4::a5::a6::a7::a8::v::r:=rfl
@[simp high]theorem ahd(a0 a1 a2 a3 a4 a5 a6 a7 a8 a9 a10:Sl)(r:Ev):(a0::a1::a2::a3::a4::a5::a6::a7::a8::a9::a10::r)[10]? =some a10:=rfl
@[simp high]theorem agG(a0 a1 a2 a3 a4 a5 a6 a7 a8 a9 a10 v:Sl)(r:Ev):List.set (a0::a1::a2::a3::a4::a5::a6::a7::a8::a9::a10::r) 10 v=a0::a1::a2::a3::a4::a5::a6::a7::a8::a9::v::r:=rfl
@[simp high]theorem ahc(a0 a1 a2 a3 a4 a5 a6 a7 a8 a9 a10 a11:Sl)(r:Ev):(a0::a1::a2::a3::a4::a5::a6::a7::a8::a9::a10::a11::r)[11]? =some a11:=rfl
@[simp high]theorem agF(a0 a1 a2 a3 a4 a5 a6 a7 a8 a9 a10 a11 v:Sl)(r:Ev):List.set (a0::a1::a2::a3::a4::a5::a6::a7::a8::a9::a10::a11::r) 11 v=a0::a1::a2::a3::a4::a5::a6::a7::a8::a9::a10::v::r:=rfl
@[simp high]theorem ahb(a0 a1 a2 a3 a4 a5 a6 a7 a8 a9 a10 a11 a12:Sl)(r:Ev):(a0::a1::a2::a3::a4::a5::a6::a7::a8::a9::a10::a11::a12::r)[12]? =some a12:=rfl
@[simp high]theorem agE(a0 a1 a2 a3 a4 a5 a6 a7 a8 a9 a10 a11 a12 v:Sl)(r:Ev):List.set (a0::a1::a2::a3::a4::a5::a6::a7::a8::a9::a10::a11::a12::r) 12 v=a0::a1::a2::a3::a4::a5::a6::a7::a8::a9::a10::a11::v::r:=rfl
@[simp high]theorem aha(a0 a1 a2 a3 a4 a5 a6 a7 a8 a9 a10 a11 a12 a13:Sl)(r:Ev):(a0::a1::a2::a3::a4::a5::a6::a7::a8::a9::a10::a11::a12::a13::r)[13]? =some a13:=rfl
@[simp high]theorem agD(a0 a1 a2 a3 a4 a5 a6 a7 a8 a9 a10 a11 a12 a13 v:Sl)(r:Ev):List.set (a0::a1::a2::a3::a4::a5::a6::a7::a8::a9::a10::a11::a12::a13::r) 13 v=a0::a1::a2::a3::a4::a5::a6::a7::a8::a9::a10::a11::a12::v::r:=rfl
end Mini
end
section
namespace Tx
open PySem L2 Mini
abbrev d0:Df:=bO "checked" s0 [false]
abbrev d1:Df:=bO "is_net" s1 [false]
abbrev d2:Df:=bO "has_parts" s2 [false]
abbrev d3:Df:=bO "is_tuple" s3 [false,false,false]
abbrev d4:Df:=bO "is_number" s4 [false,false,false]
abbrev d5:Df:=bO "is_name" s5 [false]
abbrev d6:Df:=bO "are_unlike" s6 [false]
abbrev d7:Df:=bO "is_row" s7 [false,false]
abbrev d8:Df:=bO "is_wire" s8 [false,false]
abbrev d9:Df:=bO "are_wires" s9 [false,false,false,false]
abbrev d10:Df:=bO "are_rows" mO [false,false]
abbrev d11:Df:=bO "is_kind" zG [false,false,false]
abbrev d12:Df:=bO "is_held" s12 [false,false,false]
abbrev d13:Df:=bO "wire_names" s13 [false]
abbrev d14:Df:=bO "waiting_gates" s14 [false,false]
abbrev d15:Df:=bO "told" s15 [false,false,false]
abbrev d16:Df:=bO "told_held" s16 [false,false,false]
abbrev d17:Df:=bO "checked_talk" s17 [false,false]
abbrev d18:Df:=bO "is_talk" s18 [false,false]
abbrev d19:Df:=bO "is_state" s19 [false,false,false]
abbrev d20:Df:=bO "first_stand" s20 [false]
abbrev d21:Df:=bO "steps_at" s21 [false,false,false]
abbrev d22:Df:=bO "is_unasked" s22 [false,false,false]
abbrev d23:Df:=bO "led_to" s23 [false,false,false,false]
abbrev d24:Df:=bO "changed" s24 [false,false,false]
abbrev d25:Df:=bO "newly_met" s25 [false,false,false,true]
abbrev d26:Df:=bO "fault" s26 [false,false]
abbrev d27:Df:=bO "fault_at" s27 [false,false,false,false]
abbrev d28:Df:=bO "has_out" s28 [false,false]
abbrev d29:Df:=bO "fault_of_step" s29 [false,false,false,false,false]
abbrev d30:Df:=bO "_law_cell_at" s30 [false,false]
abbrev d31:Df:=bO "_law_mixed" s31 [false,false,false]
abbrev d32:Df:=bO "_law_next" s32 [false,true,false]
abbrev d33:Df:=bO "_law_some" s33 [false,true,false,false,false]
abbrev d34:Df:=bO "_law_table" s34 [false,true,false]
abbrev d35:Df:=bO "_law_kind" s35 [false,true,false,false]
abbrev d36:Df:=bO "_law_net" s36 [false,true,false,false]
abbrev d37:Df:=bO "_law_talk" s37 [false,true,false,false]
abbrev d38:Df:=bO "_law_ring" s38 [false,true]
abbrev d39:Df:=bO "_law_chain" s39 [false,true]
abbrev d40:Df:=bO "_law_meeting" s40 [false,true]
abbrev d41:Df:=bO "_law_spoilt_kind" s41 [false,true,false]
abbrev d42:Df:=bO "_law_case" s42 [false,false]
abbrev d43:Df:=bO "_law_names" s43 [false]
abbrev d44:Df:=bO "_law_tells" s44 [false,false,false]
abbrev d45:Df:=bO "_law_waiting" s45 [false,false]
abbrev d46:Df:=bO "_law_steps" s46 [false,false,false]
abbrev d47:Df:=bO "_law_led" s47 [false,false,false,false]
abbrev d48:Df:=bO "_law_stands" s48 [false,false]
abbrev d49:Df:=bO "_law_fault_at" s49 [false,false,false,false]
abbrev d50:Df:=bO "_law_drawn_run" s50 [false,false,false,false,false]
abbrev d51:Df:=bO "_law_shows" s51 [false,false,false,false]
abbrev d52:Df:=bO "law" s52 [false]
def ds:List Df:=[d0,d1,d2,d3,d4,d5,d6,d7,d8,d9,d10,d11,d12,d13,d14,d15,d16,d17,d18,d19,d20,d21,d22,d23,d24,d25,d26,d27,d28,d29,d30,d31,d32,d33,d34,d35,d36,d37,d38,d39,d40,d41,d42,d43,d44,d45,d46,d47,d48,d49,d50,d51,d52]
def kY:List Str:=["LETTERS","LONGEST_NAME","WORDS","MOST_INPUTS","MOST_GATES","MOST_WIRES","MOST_TABLE_WIRES","DEEPEST_HELD","MOST_STATES"]
def vals:List D:=[.str "abcdefghijklmnopqrstuvwxyz",.int 6,.tup [.str "input",.str "gate",.str "start",.str "out",.str "state",.str "same",.str "not",.str "and",.str "or",.str "both",.str "held",.str "table",.str "on",.str "off"],.int 3,.int 5,.int 4,.int 8,.int 3,.int 12]
def pg:Pg:=GF ds kY vals 1000
def scp:ds.all Jm=true:=by decide+kernel
def mD:ds.all (fun d=>(fnOf ds kY d).isSome)=true:=by decide+kernel
def bd:Fw ds:=⟨fun _ _ _ _ _ _ us hl=>by obtain⟨_,rfl⟩:=uh hl;rfl,fun _ _ _ _ _ _ us hl=>by obtain⟨_,rfl⟩:=uh hl;rfl,fun _ _ _ _ _ _ us hl=>by obtain⟨_,rfl⟩:=uh hl;rfl,fun _ _ _ _ _ _ us hl=>by obtain⟨_,_,_,rfl⟩:=jM hl;rfl,fun _ _ _ _ _ _ us hl=>by obtain⟨_,_,_,rfl⟩:=jM hl;rfl,fun _ _ _ _ _ _ us hl=>by obtain⟨_,rfl⟩:=uh hl;rfl,fun _ _ _ _ _ _ us hl=>by obtain⟨_,rfl⟩:=uh hl;rfl,fun _ _ _ _ _ _ us hl=>by obtain⟨_,_,rfl⟩:=lC hl;rfl,fun _ _ _ _ _ _ us hl=>by obtain⟨_,_,rfl⟩:=lC hl;rfl,fun _ _ _ _ _ _ us hl=>by obtain⟨_,_,_,_,rfl⟩:=rM hl;rfl,fun _ _ _ _ _ _ us hl=>by obtain⟨_,_,rfl⟩:=lC hl;rfl,fun _ _ _ _ _ _ us hl=>by obtain⟨_,_,_,rfl⟩:=jM hl;rfl,fun _ _ _ _ _ _ us hl=>by obtain⟨_,_,_,rfl⟩:=jM hl;rfl,fun _ _ _ _ _ _ us hl=>by obtain⟨_,rfl⟩:=uh hl;rfl,fun _ _ _ _ _ _ us hl=>by obtain⟨_,_,rfl⟩:=lC hl;rfl,fun _ _ _ _ _ _ us hl=>by obtain⟨_,_,_,rfl⟩:=jM hl;rfl,fun _ _ _ _ _ _ us hl=>by obtain⟨_,_,_,rfl⟩:=jM hl;rfl,fun _ _ _ _ _ _ us hl=>by obtain⟨_,_,rfl⟩:=lC hl;rfl,fun _ _ _ _ _ _ us hl=>by obtain⟨_,_,rfl⟩:=lC hl;rfl,fun _ _ _ _ _ _ us hl=>by obtain⟨_,_,_,rfl⟩:=jM hl;rfl,fun _ _ _ _ _ _ us hl=>by obtain⟨_,rfl⟩:=uh hl;rfl,fun _ _ _ _ _ _ us hl=>by obtain⟨_,_,_,rfl⟩:=jM hl;rfl,fun _ _ _ _ _ _ us hl=>by obtain⟨_,_,_,rfl⟩:=jM hl;rfl,fun _ _ _ _ _ _ us hl=>by obtain⟨_,_,_,_,rfl⟩:=rM hl;rfl,fun _ _ _ _ _ _ us hl=>by obtain⟨_,_,_,rfl⟩:=jM hl;rfl,fun _ _ _ _ _ _ us hl=>by obtain⟨_,_,_,_,rfl⟩:=rM hl;rfl,fun _ _ _ _ _ _ us hl=>by obtain⟨_,_,rfl⟩:=lC hl;rfl,fun _ _ _ _ _ _ us hl=>by obtain⟨_,_,_,_,rfl⟩:=rM hl;rfl,fun _ _ _ _ _ _ us hl=>by obtain⟨_,_,rfl⟩:=lC hl;rfl,fun _ _ _ _ _ _ us hl=>by obtain⟨_,_,_,_,_,rfl⟩:=WK hl;rfl,fun _ _ _ _ _ _ us hl=>by obtain⟨_,_,rfl⟩:=lC hl;rfl,fun _ _ _ _ _ _ us hl=>by obtain⟨_,_,_,rfl⟩:=jM hl;rfl,fun _ _ _ _ _ _ us hl=>by obtain⟨_,_,_,rfl⟩:=jM hl;rfl,fun _ _ _ _ _ _ us hl=>by obtain⟨_,_,_,_,_,rfl⟩:=WK hl;rfl,fun _ _ _ _ _ _ us hl=>by obtain⟨_,_,_,rfl⟩:=jM hl;rfl,fun _ _ _ _ _ _ us hl=>by obtain⟨_,_,_,_,rfl⟩:=rM hl;rfl,fun _ _ _ _ _ _ us hl=>by obtain⟨_,_,_,_,rfl⟩:=rM hl;rfl,fun _ _ _ _ _ _ us hl=>by obtain⟨_,_,_,_,rfl⟩:=rM hl;rfl,fun _ _ _ _ _ _ us hl=>by obtain⟨_,_,rfl⟩:=lC hl;rfl,fun _ _ _ _ _ _ us hl=>by obtain⟨_,_,rfl⟩:=lC hl;rfl,fun _ _ _ _ _ _ us hl=>by obtain⟨_,_,rfl⟩:=lC hl;rfl,fun _ _ _ _ _ _ us hl=>by obtain⟨_,_,_,rfl⟩:=jM hl;rfl,fun _ _ _ _ _ _ us hl=>by obtain⟨_,_,rfl⟩:=lC hl;rfl,fun _ _ _ _ _ _ us hl=>by obtain⟨_,rfl⟩:=uh hl;rfl,fun _ _ _ _ _ _ us hl=>by obtain⟨_,_,_,rfl⟩:=jM hl;rfl,fun _ _ _ _ _ _ us hl=>by obtain⟨_,_,rfl⟩:=lC hl;rfl,fun _ _ _ _ _ _ us hl=>by obtain⟨_,_,_,rfl⟩:=jM hl;rfl,fun _ _ _ _ _ _ us hl=>by obtain⟨_,_,_,_,rfl⟩:=rM hl;rfl,fun _ _ _ _ _ _ us hl=>by obtain⟨_,_,rfl⟩:=lC hl;rfl,fun _ _ _ _ _ _ us hl=>by obtain⟨_,_,_,_,rfl⟩:=rM hl;rfl,fun _ _ _ _ _ _ us hl=>by obtain⟨_,_,_,_,_,rfl⟩:=WK hl;rfl,fun _ _ _ _ _ _ us hl=>by obtain⟨_,_,_,_,rfl⟩:=rM hl;rfl,fun _ _ _ _ _ _ us hl=>by obtain⟨_,rfl⟩:=uh hl;rfl,trivial⟩
def nms:List (Str×Stmt):=("checked",s0)::("is_net",s1)::("has_parts",s2)::("is_tuple",s3)::("is_number",s4)::("is_name",s5)::("are_unlike",s6)::("is_row",s7)::("is_wire",s8)::("are_wires",s9)::("are_rows",mO)::("is_kind",zG)::("is_held",s12)::("wire_names",s13)::("waiting_gates",s14)::("told",s15)::("told_held",s16)::("checked_talk",s17)::("is_talk",s18)::("is_state",s19)::("first_stand",s20)::("steps_at",s21)::("is_unasked",s22)::("led_to",s23)::("changed",s24)::("newly_met",s25)::("fault",s26)::("fault_at",s27)::("has_out",s28)::("fault_of_step",s29)::("_law_cell_at",s30)::("_law_mixed",s31)::("_law_next",s32)::("_law_some",s33)::("_law_table",s34)::("_law_kind",s35)::("_law_net",s36)::("_law_talk",s37)::("_law_ring",s38)::("_law_chain",s39)::("_law_meeting",s40)::("_law_spoilt_kind",s41)::("_law_case",s42)::("_law_names",s43)::("_law_tells",s44)::("_law_waiting",s45)::("_law_steps",s46)::("_law_led",s47)::("_law_stands",s48)::("_law_fault_at",s49)::("_law_drawn_run",s50)::("_law_shows",s51)::("law",s52)::[]
end Tx
end
section
open PySem
section
open Mini
namespace Tx
def bf{n i:Nat}{g:Fn}{ps us:List Sl}(h:pg.fns[i]? =some g:=by kernel_rfl)(e:us=ps++List.replicate (g.names-g.pars) .un:=by rfl)(l:ps.length=g.pars:=by rfl):pg.fn (n+1) i ps=fin g.pars (ex (pg.cf n) g.body us):=by
 subst e
 refine Eq.trans ?_ (Pj _ _ _ l)
 show(match pg.fns[i]? with|some g=>iG (pg.cf n) g ps|none=>.bad)=_
 rw[h]
noncomputable def pq:Fn:=⟨1,1,(.cons (.ite (.not (.call 1 AAT)) (.cons (.raise 0) .nil) .nil) (.cons (.ret (.var 0)) .nil))⟩
def Gy(n:Nat)(p0:Sl):pg.fn (n+1) 0 [p0]=fin 1 (ex (pg.cf n) pq.body [p0]):=bf (g:=pq)
noncomputable def tL:Fn:=⟨1,2,(.cons (.ite ABn AAL .nil) (.cons (.set 1 (.call 13 AAT)) (.cons (.ite (.or (.cons (.not (.bi .all ADf)) AEd)) AAL .nil) (.cons (.ret (.and (.cons (.bi .all ACd) AEI))) .nil))))⟩
def JD(n:Nat)(p0:Sl):pg.fn (n+1) 1 [p0]=fin 1 (ex (pg.cf n) tL.body [p0,.un]):=bf (g:=tL)
noncomputable def j7:Fn:=⟨1,1,(.cons (.ite ABO AAL .nil) (.cons (.ret (.bi .all (.comp 1 (.name 0) AAc AAP ABM))) .nil))⟩
def yh(n:Nat)(p0:Sl):pg.fn (n+1) 2 [p0]=fin 1 (ex (pg.cf n) j7.body [p0]):=bf (g:=j7)
noncomputable def mq:Fn:=⟨3,3,(.cons (.ret (.and (.cons AEP (.cons (.chain .le .le (.var 1) ACq (.var 2)) .nil)))) .nil)⟩
def Ac(n:Nat)(p0 p1 p2:Sl):pg.fn (n+1) 3 [p0,p1,p2]=fin 3 (ex (pg.cf n) mq.body [p0,p1,p2]):=bf (g:=mq)
noncomputable def j6:Fn:=⟨3,3,(.cons (.ret (.and (.cons (.isi (.var 0) .int) (.cons (.not (.isi (.var 0) .bool)) (.cons (.chain .le .le (.var 1) (.var 0) (.var 2)) .nil))))) .nil)⟩
def yg(n:Nat)(p0 p1 p2:Sl):pg.fn (n+1) 4 [p0,p1,p2]=fin 3 (ex (pg.cf n) j6.body [p0,p1,p2]):=bf (g:=j6)
noncomputable def vK:Fn:=⟨1,1,(.cons (.ite (.or (.cons (.not (.isi (.var 0) .str)) (.cons (.not (.chain .le .le AAG ACq (.glob 1))) .nil))) AAL .nil) (.cons (.ret (.and (.cons (.bi .all (.comp 1 (.name 0) (.var 0) AAP (.cmp .isin (.var 0) (.glob 0)))) (.cons (.cmp .notin (.var 0) (.glob 2)) .nil)))) .nil))⟩
def Gv(n:Nat)(p0:Sl):pg.fn (n+1) 5 [p0]=fin 1 (ex (pg.cf n) vK.body [p0]):=bf (g:=vK)
noncomputable def jk:Fn:=⟨1,1,(.cons (.ret (.bi .all ACm)) .nil)⟩
def vZ(n:Nat)(p0:Sl):pg.fn (n+1) 6 [p0]=fin 1 (ex (pg.cf n) jk.body [p0]):=bf (g:=jk)
noncomputable def tK:Fn:=⟨2,2,(.cons (.ret (.and (.cons ADd (.cons (.bi .all ADM) .nil)))) .nil)⟩
def JC(n:Nat)(p0 p1:Sl):pg.fn (n+1) 7 [p0,p1]=fin 2 (ex (pg.cf n) tK.body [p0,p1]):=bf (g:=tK)
noncomputable def o7:Fn:=⟨2,2,(.cons (.ret (.and (.cons (.isi (.var 0) .str) (.cons (.cmp .isin (.var 0) (.var 1)) .nil)))) .nil)⟩
def Gs(n:Nat)(p0 p1:Sl):pg.fn (n+1) 8 [p0,p1]=fin 2 (ex (pg.cf n) o7.body [p0,p1]):=bf (g:=o7)
noncomputable def j8:Fn:=⟨4,4,(.cons (.ite AEO AAL .nil) (.cons (.ret (.and (.cons (.bi .all ADg) (.cons (.call 6 AAT) .nil)))) .nil))⟩
def yj(n:Nat)(p0 p1 p2 p3:Sl):pg.fn (n+1) 9 [p0,p1,p2,p3]=fin 4 (ex (pg.cf n) j8.body [p0,p1,p2,p3]):=bf (g:=j8)
noncomputable def mC:Fn:=⟨2,2,(.cons (.ite (.or (.cons (.not AEP) (.cons (.not (.bi .all ADh)) .nil))) AAL .nil) (.cons (.ret (.bi .all ACJ)) .nil))⟩
def Af(n:Nat)(p0 p1:Sl):pg.fn (n+1) 10 [p0,p1]=fin 2 (ex (pg.cf n) mC.body [p0,p1]):=bf (g:=mC)
noncomputable def cX:Fn:=⟨3,5,(.cons (.ite (.or (.cons (.not (.call 3 (.cons (.var 0) (.cons AAQ ABa)))) (.cons (.not (.isi AAb .str)) .nil))) AAL .nil) (.cons (.set 3 AAb) (.cons (.set 4 ACq) (.cons (.ite (.cmp .isin (.var 3) (.tup ADR)) (.cons (.ret (.and (.cons ADq (.cons (.call 8 (.cons AAc ABH)) .nil)))) .nil) .nil) (.cons (.ite (.cmp .isin (.var 3) (.tup (.cons ACI (.cons ACO .nil)))) (.cons (.ret (.and (.cons ADq (.cons (.call 9 (.cons AAc (.cons (.var 1) (.cons AAG (.cons (.glob 5) .nil))))) .nil)))) .nil) .nil) (.cons (.ite (.cmp .eq (.var 3) ACT) (.cons (.ret (.and (.cons ADq (.cons (.call 9 (.cons AAc (.cons (.var 1) (.cons AAQ (.cons (.glob 5) .nil))))) .nil)))) .nil) .nil) (.cons (.ite ADs (.cons (.ret (.and (.cons (.cmp .eq (.var 4) ADW) (.cons (.call 9 (.cons AAc (.cons (.var 1) (.cons AAG (.cons (.glob 6) .nil))))) (.cons (.call 10 (.cons AAs (.cons (.bi .len AAc) .nil))) .nil))))) .nil) .nil) (.cons (.ite ADr (.cons (.ret (.and (.cons (.cmp .eq (.var 4) (.con (.int 4))) (.cons (.cmp .lt (.var 2) (.glob 7)) (.cons (.call 12 (.cons (.var 0) (.cons (.var 1) (.cons (.op .add (.var 2) AAG) .nil)))) .nil))))) .nil) .nil) AAL))))))))⟩
def eX(n:Nat)(p0 p1 p2:Sl):pg.fn (n+1) 11 [p0,p1,p2]=fin 3 (ex (pg.cf n) cX.body [p0,p1,p2,.un,.un]):=bf (g:=cX)
noncomputable def o9:Fn:=⟨3,3,(.cons (.ret (.and (.cons (.call 11 (.cons AAc AAR)) (.cons (.call 8 (.cons AAs ABH)) (.cons (.isi (.idx (.var 0) ADW) .bool) .nil))))) .nil)⟩
def Gw(n:Nat)(p0 p1 p2:Sl):pg.fn (n+1) 12 [p0,p1,p2]=fin 3 (ex (pg.cf n) o9.body [p0,p1,p2]):=bf (g:=o9)
noncomputable def jg:Fn:=⟨1,1,ACi⟩
def mQ(n:Nat)(p0:Sl):pg.fn (n+1) 13 [p0]=fin 1 (ex (pg.cf n) jg.body [p0]):=bf (g:=jg)
noncomputable def fU:Fn:=⟨2,3,(.cons (.set 2 (.bi .dict ACY)) (.cons (.ret (.comp 2 (.tup [0,1]) AAc AAm (.var 0))) .nil))⟩
def pU(n:Nat)(p0 p1:Sl):pg.fn (n+1) 14 [p0,p1]=fin 2 (ex (pg.cf n) fU.body [p0,p1,.un]):=bf (g:=fU)
noncomputable def BR:Fn:=⟨3,5,(.cons (.set 3 AAb) (.cons (.ite (.cmp .eq (.var 3) ABU) (.cons (.ret ADU) .nil) .nil) (.cons (.ite (.cmp .eq (.var 3) ACH) (.cons (.ret (.not ADU)) .nil) .nil) (.cons (.ite ADr AEb .nil) (.cons (.set 4 (.bi .tuple (.comp 1 (.name 0) AAc AAP (.idx (.var 3) (.var 0))))) (.cons (.ite (.cmp .eq (.var 3) ACI) AEH .nil) (.cons (.ite (.cmp .eq (.var 3) ACO) ADz .nil) (.cons (.ite ADs ADk .nil) ABd))))))))⟩
def lM(n:Nat)(p0 p1 p2:Sl):pg.fn (n+1) 15 [p0,p1,p2]=fin 3 (ex (pg.cf n) BR.body [p0,p1,p2,.un,.un]):=bf (g:=BR)
noncomputable def jV:Fn:=⟨3,5,(.cons (.set 3 (.call 15 (.cons AAc AAR))) (.cons (.set 4 (.cmp .eq (.idx (.var 2) AAs) (.var 3))) (.cons (.ret (.ite (.cmp .eq (.var 4) (.idx (.var 0) ADW)) (.var 3) (.var 1))) .nil)))⟩
def xW(n:Nat)(p0 p1 p2:Sl):pg.fn (n+1) 16 [p0,p1,p2]=fin 3 (ex (pg.cf n) jV.body [p0,p1,p2,.un,.un]):=bf (g:=jV)
noncomputable def gC:Fn:=⟨2,2,(.cons (.ite (.not (.call 18 (.cons (.call 0 AAT) ABH))) (.cons (.raise 0) .nil) .nil) (.cons (.ret (.var 1)) .nil))⟩
def qY(n:Nat)(p0 p1:Sl):pg.fn (n+1) 17 [p0,p1]=fin 2 (ex (pg.cf n) gC.body [p0,p1]):=bf (g:=gC)
noncomputable def o8:Fn:=⟨2,4,(.cons (.ite ACu AAL .nil) (.cons (.set 2 (.comp 1 (.name 0) AAc AAP AAb)) (.cons (.ite ABI AAL .nil) (.cons (.set 3 (.op .add AAb AAr)) (.cons (.ret (.bi .all ACG)) .nil)))))⟩
def Gu(n:Nat)(p0 p1:Sl):pg.fn (n+1) 18 [p0,p1]=fin 2 (ex (pg.cf n) o8.body [p0,p1,.un,.un]):=bf (g:=o8)
noncomputable def my:Fn:=⟨3,3,(.cons (.ite (.or (.cons ADX (.cons (.not (.bi .all AEQ)) .nil))) AAL .nil) (.cons (.ite (.not (.call 9 (.cons (.bi .tuple (.comp 1 (.name 0) (.var 0) AAP AAb)) (.cons (.var 1) (.cons AAH ABQ))))) AAL .nil) (.cons (.ret (.bi .all ABx)) .nil)))⟩
def Ad(n:Nat)(p0 p1 p2:Sl):pg.fn (n+1) 19 [p0,p1,p2]=fin 3 (ex (pg.cf n) my.body [p0,p1,p2]):=bf (g:=my)
noncomputable def il:Fn:=⟨1,1,(.cons (.ret (.tup (.cons AAs AAx))) .nil)⟩
def uc(n:Nat)(p0:Sl):pg.fn (n+1) 20 [p0]=fin 1 (ex (pg.cf n) il.body [p0]):=bf (g:=il)
noncomputable def lW:Fn:=⟨3,4,(.cons (.set 3 (.bi .dict ACQ)) (.cons (.ret (.op .add (.comp 1 (.name 0) AAb ACZ (.var 0)) AEW)) .nil))⟩
def z7(n:Nat)(p0 p1 p2:Sl):pg.fn (n+1) 21 [p0,p1,p2]=fin 3 (ex (pg.cf n) lW.body [p0,p1,p2,.un]):=bf (g:=lW)
noncomputable def jj:Fn:=⟨3,3,(.cons (.ret (.and (.cons (.cmp .isin (.var 2) AAb) (.cons (.cmp .notin (.var 2) (.bi .dict (.idx AAc AAg))) .nil)))) .nil)⟩
def vY(n:Nat)(p0 p1 p2:Sl):pg.fn (n+1) 22 [p0,p1,p2]=fin 3 (ex (pg.cf n) jj.body [p0,p1,p2]):=bf (g:=jj)
noncomputable def nO:Fn:=⟨4,5,(.cons (.ite ACz AAv .nil) (.cons (.set 4 (.bi .dict ACQ)) (.cons (.ret (.tup (.cons (.call 24 (.cons (.var 0) (.cons AAe AAS))) (.cons (.get2 (.var 4) (.var 3) AAf) .nil)))) .nil)))⟩
def JB(n:Nat)(p0 p1 p2 p3:Sl):pg.fn (n+1) 23 [p0,p1,p2,p3]=fin 4 (ex (pg.cf n) nO.body [p0,p1,p2,p3,.un]):=bf (g:=nO)
noncomputable def pA:Fn:=⟨3,3,(.cons (.ret (.bi .tuple (.comp 2 (.tup [0,1]) ACY AAP (.ite ADS (.not (.var 1)) (.var 1))))) .nil)⟩
def Gz(n:Nat)(p0 p1 p2:Sl):pg.fn (n+1) 24 [p0,p1,p2]=fin 3 (ex (pg.cf n) pA.body [p0,p1,p2]):=bf (g:=pA)
noncomputable def jW:Fn:=⟨4,7,(.cons (.set 4 AAa) (.cons (.for_ (.name 5) AEV (.cons (.set 6 (.call 23 ABN)) (.cons (.ite (.and (.cons ADb ABb)) ABr .nil) .nil))) ACg))⟩
def xX(n:Nat)(p0 p1 p2 p3:Sl):pg.fn (n+1) 25 [p0,p1,p2,p3]=fin 4 (ex (pg.cf n) jW.body [p0,p1,p2,p3,.un,.un,.un]):=bf (g:=jW)
noncomputable def wY:Fn:=⟨2,5,(.cons ADx (.cons ADK (.cons (.set 3 ADQ) (.cons (.while_ (.var 3) (.cons ACM (.cons (.ite (.cmp .notN (.var 4) ABh) ACg .nil) ABW))) AAv))))⟩
def PQ(n:Nat)(p0 p1:Sl):pg.fn (n+1) 26 [p0,p1]=fin 2 (ex (pg.cf n) wY.body [p0,p1,.un,.un,.un]):=bf (g:=wY)
noncomputable def mz:Fn:=⟨4,7,(.cons (.set 4 AEV) (.cons (.ite ADH ABJ .nil) (.cons (.for_ (.name 5) (.var 4) (.cons ABu (.cons (.ite ADb (.cons (.ret (.var 6)) .nil) .nil) .nil))) AAv)))⟩
def Ae(n:Nat)(p0 p1 p2 p3:Sl):pg.fn (n+1) 27 [p0,p1,p2,p3]=fin 4 (ex (pg.cf n) mz.body [p0,p1,p2,p3,.un,.un,.un]):=bf (g:=mz)
noncomputable def ph:Fn:=⟨2,2,(.cons (.ret (.bi .any (.comp 1 (.name 0) (.idx AAc AAg) AAP ADN))) .nil)⟩
def Gx(n:Nat)(p0 p1:Sl):pg.fn (n+1) 28 [p0,p1]=fin 2 (ex (pg.cf n) ph.body [p0,p1]):=bf (g:=ph)
noncomputable def fW:Fn:=⟨5,7,(.cons (.ite ACz ACw .nil) (.cons ABl (.cons (.for_ (.name 6) AEW (.cons (.ite ACU ACk .nil) .nil)) AAv)))⟩
def pX(n:Nat)(p0 p1 p2 p3 p4:Sl):pg.fn (n+1) 29 [p0,p1,p2,p3,p4]=fin 5 (ex (pg.cf n) fW.body [p0,p1,p2,p3,p4,.un,.un]):=bf (g:=fW)
noncomputable def dD:Fn:=⟨2,2,(.cons (.ite (.cmp .lt (.var 1) ACq) (.cons (.ret (.idx (.var 0) (.var 1))) .nil) .nil) (.cons (.ite (.cmp .eq (.var 0) AAa) (.cons (.ret AAH) .nil) .nil) (.cons (.ret (.op .add (.op .mul (.idx (.var 0) (.op .mod (.var 1) ACq)) (.con (.int 31))) (.var 1))) .nil)))⟩
def g8(n:Nat)(p0 p1:Sl):pg.fn (n+1) 30 [p0,p1]=fin 2 (ex (pg.cf n) dD.body [p0,p1]):=bf (g:=dD)
noncomputable def j4:Fn:=⟨3,4,(.cons (.set 3 (.op .mod (.op .mul (.op .add (.op .add (.call 30 (.cons (.var 0) ABH)) (.op .mul (.con (.int 7919)) (.var 1))) AAG) (.con (.int 48271))) (.con (.int 2147483647)))) (.cons (.ret (.op .mod (.op .mod (.op .add (.op .add (.op .mul (.var 3) (.var 3)) (.op .mul (.con (.int 7)) (.var 3))) (.var 1)) (.con (.int 2147483629))) (.var 2))) .nil))⟩
def ye(n:Nat)(p0 p1 p2:Sl):pg.fn (n+1) 31 [p0,p1,p2]=fin 3 (ex (pg.cf n) j4.body [p0,p1,p2,.un]):=bf (g:=j4)
noncomputable def mj:Fn:=⟨3,3,(.cons (.setIx 1 AAH (.op .add AAr AAG)) (.cons (.ret (.call 31 (.cons (.var 0) (.cons AAr (.cons (.var 2) .nil))))) .nil))⟩
def Ab(n:Nat)(p0 p1 p2:Sl):pg.fn (n+1) 32 [p0,p1,p2]=fin 3 (ex (pg.cf n) mj.body [p0,p1,p2]):=bf (g:=mj)
noncomputable def lY:Fn:=⟨5,6,(.cons (.set 5 ADQ) (.cons (.while_ ABP ABo) (.cons (.ret ADJ) .nil)))⟩
def z9(n:Nat)(p0 p1 p2 p3 p4:Sl):pg.fn (n+1) 33 [p0,p1,p2,p3,p4]=fin 5 (ex (pg.cf n) lY.body [p0,p1,p2,p3,p4,.un]):=bf (g:=lY)
noncomputable def jY:Fn:=⟨3,6,(.cons ACW (.cons ADw (.cons (.for_ (.name 5) (.var 3) (.cons (.set 4 (.op .add (.comp 1 (.name 0) (.var 4) AAP (.op .add (.var 0) (.tup (.cons (.con (.bl false)) .nil)))) (.comp 1 (.name 0) (.var 4) AAP (.op .add (.var 0) (.tup (.cons AAP .nil)))))) .nil)) (.cons (.ret (.tup (.cons ABi (.cons (.var 3) (.cons (.bi .tuple (.bi .sorted (.comp 1 (.name 0) (.var 4) AAi (.var 0)))) .nil))))) .nil))))⟩
def xY(n:Nat)(p0 p1 p2:Sl):pg.fn (n+1) 34 [p0,p1,p2]=fin 3 (ex (pg.cf n) jY.body [p0,p1,p2,.un,.un,.un]):=bf (g:=jY)
noncomputable def cW:Fn:=⟨4,6,(.cons (.set 4 (.call 32 (.cons (.var 0) (.cons (.ref 1) (.cons (.con (.int 9)) .nil))))) (.cons (.ite (.or (.cons (.cmp .lt (.var 4) (.con (.int 4))) (.cons (.cmp .lt ACL AAQ) .nil))) (.cons (.ret (.tup (.cons (.idx (.lis ADR) (.op .mod (.var 4) AAQ)) (.cons ACj .nil)))) .nil) .nil) (.cons (.ite (.cmp .lt (.var 4) (.con (.int 7))) (.cons (.ret (.tup (.cons (.idx (.lis (.cons ACI (.cons ACO (.cons ACT .nil)))) (.op .sub (.var 4) (.con (.int 4)))) (.cons (.call 33 (.cons (.var 0) (.cons (.ref 1) (.cons (.var 2) (.cons AAQ AAj))))) .nil)))) .nil) .nil) (.cons (.ite (.or (.cons (.cmp .eq (.var 4) (.con (.int 7))) (.cons (.cmp .eq (.var 3) AAH) .nil))) (.cons (.ret (.call 34 (.cons (.var 0) (.cons (.ref 1) (.cons (.var 2) .nil))))) .nil) .nil) (.cons (.set 5 (.call 35 (.cons (.var 0) (.cons (.ref 1) (.cons (.var 2) (.cons (.op .sub (.var 3) AAG) .nil)))))) (.cons (.ret (.tup (.cons ABt (.cons (.var 5) (.cons ACj (.cons ACt .nil)))))) .nil))))))⟩
def iR(n:Nat)(p0 p1 p2 p3:Sl):pg.fn (n+1) 35 [p0,p1,p2,p3]=fin 4 (ex (pg.cf n) cW.body [p0,p1,p2,p3,.un,.un]):=bf (g:=cW)
noncomputable def o5:Fn:=⟨4,8,(.cons AAw (.cons AEM (.cons AEJ (.cons (.set 7 (.bi .tuple (.comp 1 (.name 0) (.var 5) AAP (.tup ABq)))) (.cons (.ret (.tup (.cons (.var 4) (.cons (.var 7) (.cons (.bi .tuple (.comp 1 (.name 0) (.var 6) AAP AAi)) .nil))))) .nil)))))⟩
abbrev ZaA(a b c d):=([a,b,c,d,.un,.un,.un,.un]:Ev)
def Gq(n:Nat)(p0 p1 p2 p3:Sl):pg.fn (n+1) 36 [p0,p1,p2,p3]=fin 4 (ex (pg.cf n) o5.body (ZaA p0 p1 p2 p3)):=bf (g:=o5)
noncomputable def lX:Fn:=⟨4,9,(.cons (.set 4 (.bi .tuple (.comp 1 (.name 0) AAf ABe AAb))) (.cons (.set 5 AAy) (.cons (.set 6 AAa) (.cons (.for_ (.name 7) (.range1 (.var 5)) (.cons (.set 8 (.comp 1 (.name 0) ADp AAi (.var 0))) (.cons (.append 6 (.bi .tuple (.comp 1 (.name 0) (.var 8) AAP (.tup ACf)))) .nil))) ACh))))⟩
def z8(n:Nat)(p0 p1 p2 p3:Sl):pg.fn (n+1) 37 [p0,p1,p2,p3]=fin 4 (ex (pg.cf n) lX.body [p0,p1,p2,p3,.un,.un,.un,.un,.un]):=bf (g:=lX)
noncomputable def lZ:Fn:=⟨2,5,(.cons ABm (.cons (.set 3 AAa) (.cons (.for_ (.name 4) (.range1 ACL) AAh) (.cons (.ret (.tup (.cons (.tup .nil) (.cons (.bi .tuple (.var 3)) (.cons (.bi .tuple (.comp 1 (.name 0) (.var 2) AAP AAi)) .nil))))) .nil))))⟩
def Aa(n:Nat)(p0 p1:Sl):pg.fn (n+1) 38 [p0,p1]=fin 2 (ex (pg.cf n) lZ.body [p0,p1,.un,.un,.un]):=bf (g:=lZ)
noncomputable def j5:Fn:=⟨2,8,(.cons AAo (.cons (.set 3 ACV) (.cons (.set 4 (.lis (.cons ACt .nil))) (.cons (.set 5 AAa) (.cons (.for_ (.name 6) (.var 2) (.cons (.set 7 AAd) AAk)) (.cons AAz .nil))))))⟩
def yf(n:Nat)(p0 p1:Sl):pg.fn (n+1) 39 [p0,p1]=fin 2 (ex (pg.cf n) j5.body (ZaA p0 p1 .un .un)):=bf (g:=j5)
noncomputable def aQ:Fn:=⟨2,8,(.cons (.set 2 (.call 32 (.cons (.var 0) (.cons (.ref 1) (.cons (.con (.int 6)) .nil))))) (.cons (.set 3 (.tup (.cons (.idx (.lis (.cons ACT (.cons ACT (.cons ACI (.cons ACO (.cons ACT (.cons ACT .nil))))))) (.var 2)) (.cons (.tup (.cons ACV (.cons ACy .nil))) .nil)))) (.cons (.ite (.cmp .gt (.var 2) ADW) (.cons (.set 3 (.tup (.cons ABt (.cons (.tup (.cons ABU (.cons ACV .nil))) (.cons ACy (.cons AAP .nil)))))) .nil) .nil) (.cons (.set 4 (.tup (.cons (.tup (.cons (.tup (.cons ACV (.cons AAG .nil))) (.cons (.tup (.cons ACy (.cons AAQ .nil))) .nil))) (.cons (.tup (.cons (.tup (.cons ACy AAj)) .nil)) (.cons (.tup (.cons (.tup (.cons ACV AAj)) .nil)) (.cons (.tup (.cons (.tup (.cons ADm AAx)) .nil)) .nil)))))) (.cons (.set 5 (.lis (.cons (.tup (.cons ADm AAS)) .nil))) (.cons (.ite ACt (.cons (.append 5 (.tup (.cons ADl (.cons (.tup (.cons (.idx (.lis ADR) AAd) (.cons ADm .nil))) .nil)))) .nil) .nil) (.cons (.set 6 ACt) (.cons (.set 7 (.lis (.cons (.var 6) (.cons (.var 6) ABR)))) (.cons (.ite (.cmp .gt (.bi .len (.var 5)) AAG) (.cons (.append 7 (.cmp .eq (.var 6) (.cmp .eq (.idx (.idx (.idx (.var 5) AAG) AAG) AAH) ABU))) .nil) .nil) (.cons (.ret (.tup (.cons (.tup (.cons (.tup (.cons ACV (.cons ACy .nil))) (.cons ADJ (.cons (.bi .tuple (.var 7)) .nil)))) (.cons (.tup (.cons (.tup (.cons ADm .nil)) (.cons (.var 4) .nil))) .nil)))) .nil))))))))))⟩
def gZ(n:Nat)(p0 p1:Sl):pg.fn (n+1) 40 [p0,p1]=fin 2 (ex (pg.cf n) aQ.body (ZaA p0 p1 .un .un)):=bf (g:=aQ)
noncomputable def cD:Fn:=⟨3,6,(.cons (.set 3 (.op .add AAe (.bi .tuple (.comp 1 (.name 0) AAf AAP AAb)))) (.cons (.set 4 (.call 32 (.cons (.var 0) (.cons (.ref 1) (.cons (.bi .len AAf) .nil))))) (.cons (.set 5 (.bi .list AAf)) (.cons (.setIx 5 (.var 4) (.tup (.cons (.idx (.idx (.var 5) (.var 4)) AAH) (.cons (.call 35 (.cons (.var 0) (.cons (.ref 1) (.cons (.var 3) (.cons AAG .nil))))) .nil)))) (.cons (.ret (.tup (.cons AAe (.cons ADJ (.cons (.idx (.var 2) AAQ) .nil))))) .nil)))))⟩
def mR(n:Nat)(p0 p1 p2:Sl):pg.fn (n+1) 41 [p0,p1,p2]=fin 3 (ex (pg.cf n) cD.body [p0,p1,p2,.un,.un,.un]):=bf (g:=cD)
noncomputable def bj:Fn:=⟨2,6,(.cons (.set 2 (.lis ABH)) (.cons (.set 3 (.call 32 (.cons (.var 0) (.cons (.ref 2) (.cons (.con (.int 8)) .nil))))) (.cons (.ite (.cmp .lt (.var 3) AAQ) (.cons (.set 4 (.call 36 (.cons (.var 0) (.cons (.ref 2) (.cons AAQ ABa))))) (.cons (.ret (.tup (.cons (.var 4) (.cons (.call 37 (.cons (.var 0) (.cons (.ref 2) (.cons (.var 4) ABa)))) .nil)))) .nil)) .nil) (.cons (.ite (.cmp .eq (.var 3) AAQ) (.cons (.ret (.tup (.cons (.call 36 (.cons (.var 0) (.cons (.ref 2) (.cons AAH ABa)))) (.cons (.tup (.cons (.tup .nil) (.cons (.tup (.cons (.tup .nil) .nil)) .nil))) .nil)))) .nil) .nil) (.cons (.ite (.cmp .eq (.var 3) ADW) (.cons (.set 4 (.call 38 ACn)) (.cons (.ite ACl (.cons (.ret (.tup (.cons (.var 4) (.cons (.tup (.cons (.tup .nil) (.cons (.tup (.cons (.tup .nil) .nil)) .nil))) .nil)))) .nil) .nil) (.cons (.ret (.tup (.cons (.var 4) (.cons (.tup (.cons (.tup (.cons ADl .nil)) (.cons (.tup (.cons (.tup (.cons (.tup (.cons ADl (.cons AAG .nil))) .nil)) (.cons (.tup (.cons (.tup (.cons ADl AAx)) .nil)) .nil))) .nil))) .nil)))) .nil))) .nil) (.cons (.ite (.cmp .lt (.var 3) (.con (.int 6))) (.cons (.setT [4,5] (.call 39 ACn)) .nil) (.cons (.setT [4,5] (.call 40 ACn)) .nil)) (.cons (.ite (.and (.cons (.cmp .eq (.op .mod (.var 3) AAQ) AAG) (.cons ACl .nil))) (.cons (.set 4 (.call 41 (.cons (.var 0) (.cons (.ref 2) (.cons (.var 4) .nil))))) .nil) .nil) (.cons (.ret (.tup (.cons (.var 4) AAX))) .nil))))))))⟩
def dN(n:Nat)(p0 p1:Sl):pg.fn (n+1) 42 [p0,p1]=fin 2 (ex (pg.cf n) bj.body [p0,p1,.un,.un,.un,.un]):=bf (g:=bj)
noncomputable def pO:Fn:=⟨1,1,ACi⟩
def yd(n:Nat)(p0:Sl):pg.fn (n+1) 43 [p0]=fin 1 (ex (pg.cf n) pO.body [p0]):=bf (g:=pO)
noncomputable def jX:Fn:=⟨3,5,(.cons (.ite (.cmp .eq AAb ABU) (.cons (.ret ADV) .nil) .nil) (.cons (.ite (.cmp .eq AAb ACH) (.cons (.ret (.not ADV)) .nil) .nil) (.cons (.ite (.cmp .eq AAb ABt) ABG .nil) (.cons (.set 4 (.comp 1 (.name 0) AAc AAP (.idx (.var 2) (.var 0)))) (.cons (.ite (.cmp .eq AAb ABi) ADG .nil) (.cons (.ite (.cmp .eq AAb ACI) ACv .nil) (.cons (.ite (.cmp .eq AAb ACO) ADj .nil) (.cons (.ite ACN (.cons (.ret (.var 2)) .nil) .nil) ADy))))))))⟩
def cU(n:Nat)(p0 p1 p2:Sl):pg.fn (n+1) 44 [p0,p1,p2]=fin 3 (ex (pg.cf n) jX.body [p0,p1,p2,.un,.un]):=bf (g:=jX)
noncomputable def ik:Fn:=⟨2,3,(.cons ACs (.cons (.ret (.comp 1 (.name 0) AAc AAu AAb)) .nil))⟩
def tZ(n:Nat)(p0 p1:Sl):pg.fn (n+1) 45 [p0,p1]=fin 2 (ex (pg.cf n) ik.body [p0,p1,.un]):=bf (g:=ik)
noncomputable def jZ:Fn:=⟨3,4,(.cons (.set 3 (.comp 1 (.name 0) ACQ ADN AAb)) (.cons ADo (.cons (.ret (.comp 1 (.name 0) AEU ACZ (.var 0))) .nil)))⟩
def xZ(n:Nat)(p0 p1 p2:Sl):pg.fn (n+1) 46 [p0,p1,p2]=fin 3 (ex (pg.cf n) jZ.body [p0,p1,p2,.un]):=bf (g:=jZ)
noncomputable def o6:Fn:=⟨4,8,(.cons (.set 4 AEU) (.cons (.set 5 (.bi .tuple (.comp 1 (.name 0) (.range1 AEa) AAP (.cmp .ne AEX ACX)))) (.cons (.ite ACc ACx .nil) (.cons (.for_ (.tup [6,7]) ACQ (.cons (.ite (.cmp .eq (.var 6) (.var 3)) ACr .nil) .nil)) AAv))))⟩
def Gr(n:Nat)(p0 p1 p2 p3:Sl):pg.fn (n+1) 47 [p0,p1,p2,p3]=fin 4 (ex (pg.cf n) o6.body (ZaA p0 p1 p2 p3)):=bf (g:=o6)
noncomputable def ji:Fn:=⟨2,7,(.cons ADT (.cons ADn (.cons (.set 4 AAH) (.cons (.while_ (.cmp .lt (.var 4) ACL) (.cons (.for_ (.name 5) ACb (.cons ACR (.cons (.ite (.and (.cons ADb ABb)) ABc .nil) .nil))) ADi)) (.cons (.ret (.tup ABT)) .nil)))))⟩
def vX(n:Nat)(p0 p1:Sl):pg.fn (n+1) 48 [p0,p1]=fin 2 (ex (pg.cf n) ji.body [p0,p1,.un,.un,.un,.un,.un]):=bf (g:=ji)
noncomputable def gB:Fn:=⟨4,9,(.cons (.set 4 (.call 46 ABf)) (.cons (.ite (.cmp .eq (.var 4) AAa) (.cons (.ite (.cmp .ne (.comp 1 (.name 0) ACQ ADP (.var 0)) AAa) ABJ .nil) AAv) .nil) (.cons (.for_ (.name 5) (.var 4) (.cons (.set 6 (.call 47 ABN)) (.cons (.ite (.cmp .fQ (.var 6) ABh) ADL .nil) (.cons ACP (.cons (.set 8 (.comp 1 (.name 0) (.call 45 AAn) (.cmp .notin (.var 0) (.var 8)) (.var 0))) (.cons (.ite (.cmp .ne (.var 8) AAa) ABy .nil) .nil)))))) AAv)))⟩
def qX(n:Nat)(p0 p1 p2 p3:Sl):pg.fn (n+1) 49 [p0,p1,p2,p3]=fin 4 (ex (pg.cf n) gB.body [p0,p1,p2,p3,.un,.un,.un,.un,.un]):=bf (g:=gB)
noncomputable def fV:Fn:=⟨5,12,(.cons ABk (.cons ADZ (.cons (.set 7 AAa) (.cons (.for_ (.name 8) ABs (.cons (.set 9 AAa) (.cons (.for_ (.name 10) ADY (.cons (.ite ABz AEc .nil) .nil)) (.cons (.ite (.cmp .ne (.var 9) AAa) (.cons AAt AAp) .nil) .nil)))) ADa))))⟩
def pW(n:Nat)(p0 p1 p2 p3 p4:Sl):pg.fn (n+1) 50 [p0,p1,p2,p3,p4]=fin 5 (ex (pg.cf n) fV.body [p0,p1,p2,p3,p4,.un,.un,.un,.un,.un,.un,.un]):=bf (g:=fV)
noncomputable def j0:Fn:=⟨4,8,(.cons ADt (.cons (.ite ADv (.cons (.set 6 (.comp 1 (.name 0) (.idx AAg AEZ) ADP (.var 0))) ABY) .nil) (.cons (.ite ABS AAL .nil) (.cons ABj (.cons (.ite (.cmp .eq (.var 4) ABw) (.cons (.ret (.cmp .fQ (.var 7) ABh)) .nil) .nil) (.cons (.ite (.or (.cons ADu (.cons (.cmp .fQ (.var 7) ABh) ACo))) AAL .nil) AAl))))))⟩
def yc(n:Nat)(p0 p1 p2 p3:Sl):pg.fn (n+1) 51 [p0,p1,p2,p3]=fin 4 (ex (pg.cf n) j0.body (ZaA p0 p1 p2 p3)):=bf (g:=j0)
noncomputable def M4:Fn:=⟨1,11,(.cons ADe (.cons (.set 3 (.call 26 AAR)) (.cons (.setT [4,5] (.call 48 AAR)) (.cons (.ite (.cmp .fQ (.var 3) ABh) (.cons ABg (.cons ABX (.cons (.for_ (.name 8) (.var 6) (.cons (.ite (.cmp .notN AAq ABh) AAL .nil) AAZ)) (.cons (.ret (.cmp .fQ AAq ABh)) .nil)))) .nil) (.cons ABZ (.cons ABX (.cons (.for_ (.name 8) (.var 9) (.cons (.ite ACS AAL .nil) AAZ)) (.cons (.for_ (.name 10) (.var 4) (.cons (.ite (.and (.cons ACp (.cons (.cmp .notN ACe ABh) .nil))) AAL .nil) .nil)) ABv))))))))⟩
def aaY(n:Nat)(p0:Sl):pg.fn (n+1) 52 [p0]=fin 1 (ex (pg.cf n) M4.body [p0,.un,.un,.un,.un,.un,.un,.un,.un,.un,.un]):=bf (g:=M4)
end Tx
end
end
section
open PySem Mini
namespace Tx
abbrev sc(ns:List Int):D:=.lst (ns.map .int)
def M7(ns:List Int)(i:Int)(h0:0<=i)(h:i<ns.length):∃r:Int,at? (ns.map D.int) i=some (.int r):=by
 unfold at? ix?
 rw[QAq,if_neg (by omega:¬i<0)]
 rw[if_pos ⟨h0,h⟩]
 have:i.toNat<ns.length:=by omega
 exact⟨ns[i.toNat],by simp[this]⟩
def Ko(ns:List Int):lB (ns.map D.int)=true:=by
 induction ns with
 |nil=>rfl
 |cons i r ih=>simp[lB,nd,ih]
def Hu(ns:List Int):jx (ns.map D.int)=0:=by
 induction ns with
 |nil=>rfl
 |cons i r ih=>simp[jx,dep,ih]
def Ma(ns:List Int):aK .eq (.lst (ns.map .int)) (.lst [])=some ns.isEmpty:=by
 cases ns with
 |nil=>rfl
 |cons i ns=>simp[aK,oZ,flat,nd,lB,dep,jx,cL,jc,Ko,Hu]
abbrev ZaG(a b):=([.val (sc a),.val (.int b)]:Ev)
def By(n:Nat)(ns:List Int)(k:Int)(hk:0<=k):∃r:Int,pg.fn (n+1) 30 (ZaG ns k)=.ok (.val (.int r)) (ZaG ns k):=by
 by_cases h:k<ns.length
 ·obtain⟨r,e⟩:=M7 ns k hk h
  exact⟨r,by rw[g8];simp[dD,h,e]⟩
 ·by_cases hn:ns=[]
  ·subst hn
   have h0:¬k<0:=by omega
   exact⟨0,by rw[g8];simp[dD,h0,aP,fits,Ma []]⟩
  ·have hl':0<ns.length:=List.length_pos_iff.mpr hn
   have hl:(0:Int)<ns.length:=by omega
   obtain⟨r,e⟩:=M7 ns (k%ns.length) (Int.emod_nonneg _ (by omega)) (Int.emod_lt_of_pos _ hl)
   have he:ns.isEmpty=false:=by simpa using hn
   exact⟨r*31+k,by rw[g8];simp[dD,h,e,aP,fits,Ma,he,hl,hl',small]⟩
@[simp]theorem ahJ(n:Nat):(pg.cf n).fn=pg.fn n:=rfl
@[simp]theorem ahI(n:Nat):(pg.cf n).gl=pg.gl:=rfl
@[simp]theorem acp(n:Nat):(pg.cf n).turns=1000:=rfl
def rG(n:Nat)(ns:List Int)(k many:Int)(hk:0<=k)(hm:0<many):∃r:Int,0<=r/\r<many/\
  pg.fn (n+2) 31 [.val (sc ns),.val (.int k),.val (.int many)]=.ok (.val (.int r)) [.val (sc ns),.val (.int k),.val (.int many)]:=by
 obtain⟨c,e⟩:=By n ns k hk
 have b:∀x:Int,small (x%2147483647)=true:=fun x=>by
  have h1:=Int.emod_nonneg x (by omega:(2147483647:Int)≠0)
  have h2:=Int.emod_lt_of_pos x (by omega:(0:Int)<2147483647)
  simp[small]
  omega
 have s1:small 7919=true:=by decide
 have s2:small 48271=true:=by decide
 have s3:small 7=true:=by decide
 refine⟨_,?_,?_,by rw[ye];simp[j4,e,s1,s2,s3,b,hm];rfl⟩
 ·exact Int.emod_nonneg _ (by omega)
 ·exact Int.emod_lt_of_pos _ hm
def NP{k:Int}(h:0<=k):0<=k+1:=Int.le_trans h (Int.le_add_one (Int.le_refl k))
def bF(n:Nat)(ns:List Int)(k many:Int)(hk:0<=k)(hm:0<many):∃r:Int,0<=r/\r<many/\
  pg.fn (n+3) 32 [.val (sc ns),.bor (.lst [.int k]),.val (.int many)]=.ok (.val (.int r)) [.val (sc ns),.bor (.lst [.int (k+1)]),.val (.int many)]:=by
 obtain⟨r,h1,h2,e⟩:=rG n ns (k+1) many (NP hk) hm
 refine⟨r,h1,h2,?_⟩
 rw[Ab]
 simp[mj,at?,ix?,rn,e]
end Tx
end
section
open PySem Mini
namespace Tx
def pH:E:=ABP
def uA:S:=ABo
abbrev someσ(ns:List Int)(k:Int)(xs:List D)(least most:Int)(row:List D):Ev:=[.val (sc ns),.bor (.lst [.int k]),.val (.tup xs),.val (.int least),.val (.int most),.own (.lst row)]
def Jg(n:Nat)(ns:List Int)(k:Int)(hk:0<=k)(xs row:List D)(least most:Int)(h0:0<row.length)(hf:row.length<=1000):
  ∃j:Nat,j<row.length/\ex (pg.cf (n+3)) uA (someσ ns k xs least most row)=.next (someσ ns (k+1) xs least most (row.eraseIdx j)):=by
 obtain⟨r,h1,h2,e⟩:=bF n ns k row.length hk (by omega)
 refine⟨r.toNat,by omega,?_⟩
 have f:fits row.length=true:=by simp[fits];omega
 have hx:ix? row.length r=some r.toNat:=by
  unfold ix?
  rw[if_neg (by omega:¬r<0),if_pos ⟨h1,h2⟩]
 have hr:row[r.toNat]? =some (row[r.toNat]'(by omega)):=QXq (by omega)
 simp[uA,e,dX,rA,f,hx,hr,ue]
theorem Gf(n:Nat)(ns:List Int)(xs:List D)(least most:Int)(hx:xs.length<=1000)(hl:0<=least)(hlm:least<=most):∀(L:Nat)(row:List D)(k:Int)(fuel:Nat),row.length=L->L<fuel->0<=k->row.Sublist xs->least<=row.length->
  ∃ys k',ys.Sublist xs/\least<=ys.length/\ys.length<=most/\0<=k'/\bL (ev (pg.cf (n+3)) pH) (ex (pg.cf (n+3)) uA) fuel (someσ ns k xs least most row)=.next (someσ ns k' xs least most ys):=by
 intro L
 induction L with
 |zero=>
  intro row k fuel hL hf hk hs hr
  obtain⟨fuel,rfl⟩:∃f,fuel=f+1:=⟨fuel-1,by omega⟩
  have:¬least<row.length:=by omega
  exact⟨row,k,hs,hr,by omega,hk,by simp[bL,pH,this]⟩
 |succ L ih=>
  intro row k fuel hL hf hk hs hr
  obtain⟨fuel,rfl⟩:∃f,fuel=f+1:=⟨fuel-1,by omega⟩
  have hrl:=hs.length_le
  by_cases h1:least<row.length
  ·--the row is longer than the least
   have cont:∀k1:Int,0<=k1->∃ys k',ys.Sublist xs/\least<=ys.length/\ys.length<=most/\0<=k'/\
     (ex (pg.cf (n+3)) uA (someσ ns k1 xs least most row)).turn (bL (ev (pg.cf (n+3)) pH) (ex (pg.cf (n+3)) uA) fuel)=.next (someσ ns k' xs least most ys):=fun k1 hk1=>by
    obtain⟨j,hj,e⟩:=Jg n ns k1 hk1 xs row least most (by omega) (by omega)
    have el:(row.eraseIdx j).length=L:=by rw[List.length_eraseIdx_of_lt hj];omega
    obtain⟨ys,k',a1,a2,a3,a4,a5⟩:=ih (row.eraseIdx j) (k1+1) fuel el (by omega) (by omega) ((List.eraseIdx_sublist row j).trans hs) (by omega)
    exact⟨ys,k',a1,a2,a3,a4,by rw[e];exact a5⟩
   by_cases h2:most<row.length
   ·obtain⟨ys,k',a1,a2,a3,a4,a5⟩:=cont k hk
    refine⟨ys,k',a1,a2,a3,a4,?_⟩
    rw[<-a5]
    simp[bL,pH,h1,h2]
   ·obtain⟨r,b1,b2,e⟩:=bF n ns k 2 hk (by omega)
    by_cases h3:r=1
    ·subst h3
     obtain⟨ys,k',a1,a2,a3,a4,a5⟩:=cont (k+1) (by omega)
     refine⟨ys,k',a1,a2,a3,a4,?_⟩
     rw[<-a5]
     simp[bL,pH,h1,h2,e]
    ·exact⟨row,k+1,hs,by omega,by omega,by omega,by simp[bL,pH,h1,h2,e,h3]⟩
  ·exact⟨row,k,hs,by omega,by omega,hk,by simp[bL,pH,h1]⟩
abbrev Zat(a b c d e):=([.val (sc a),.bor (.lst [.int b]),c,d,e]:Ev)
def Cv(n:Nat)(ns:List Int)(k:Int)(hk:0<=k)(xs:List D)(least most:Int)(hx:xs.length<=900)(hl:0<=least)(hlm:least<=most)(hxl:least<=xs.length):
  ∃ys k',ys.Sublist xs/\least<=ys.length/\ys.length<=most/\0<=k'/\
   pg.fn (n+4) 33 (Zat ns k (.val (.tup xs)) (.val (.int least)) (.val (.int most)))=.ok (.val (.tup ys)) (Zat ns k' (.val (.tup xs)) (.val (.int least)) (.val (.int most))):=by
 obtain⟨ys,k',a1,a2,a3,a4,a5⟩:=Gf n ns xs least most (by omega) hl hlm xs.length xs k 1000 rfl (by omega) hk (List.Sublist.refl _) hxl
 refine⟨ys,k',a1,a2,a3,a4,?_⟩
 rw[z9]
 have hb:lY.body=.cons (.set 5 ADQ) (.cons (.while_ pH uA) (.cons (.ret ADJ) .nil)):=rfl
 rw[hb]
 simp[a5]
end Tx
end
section
open PySem Mini
namespace Tx
def tV(s:Sl):Prop:=s=.un\/∃d,s=.val d
variable{s:Sl}
def jK(h:tV s)(d:D)(r:Ev):bw (.name 0) d (s::r)=some (.val d::r):=by
 rcases h with rfl|⟨e,rfl⟩<;>simp[bw]
def nF:E:=AAi
def wQ(n:Nat)(ns:List Int)(k:Int)(hk:0<=k)(d:D)(rest:Ev):∃b:Bool,ev (pg.cf (n+3)) nF (.val d:: .val (sc ns):: .bor (.lst [.int k])::rest)=.ok (.val (.bl b)) (.val d:: .val (sc ns):: .bor (.lst [.int (k+1)])::rest):=by
 obtain⟨r,h1,h2,e⟩:=bF n ns k 2 hk (by omega)
 exact⟨r==1,by simp[nF,e]⟩
theorem Mw(n:Nat)(ns:List Int)(rest:Ev):∀(xs acc:List D)(k:Int)(s:Sl),0<=k->tV s->∃bs k' s',bs.length=xs.length/\0<=k'/\tV s'/\
  aR (.name 0) (ev (pg.cf (n+3)) nF) (ev (pg.cf (n+3)) (.var 0)) xs acc (s:: .val (sc ns):: .bor (.lst [.int k])::rest)=.ok (acc++lF bs xs) (s':: .val (sc ns):: .bor (.lst [.int k'])::rest)
 |[]=>fun acc k s hk hs=>⟨[],k,s,rfl,hk,hs,by simp[aR,lF]⟩
 |x::xs=>fun acc k s hk hs=>by
  obtain⟨b,e⟩:=wQ n ns k hk x rest
  cases b with
  |true=>
   obtain⟨bs,k',s',a1,a2,a3,a4⟩:=Mw n ns rest xs (acc++[x]) (k+1) (.val x) (by omega) (.inr ⟨x,rfl⟩)
   refine⟨true::bs,k',s',by simp[a1],a2,a3,?_⟩
   rw[aR,jK hs]
   simp only[e,dC,if_true]
   have e0:ev (pg.cf (n+3)) (.var 0) (.val x:: .val (sc ns):: .bor (.lst [.int (k+1)])::rest)=.ok (.val x) (.val x:: .val (sc ns):: .bor (.lst [.int (k+1)])::rest):=by simp
   rw[e0,bT,a4]
   simp[lF]
  |false=>
   obtain⟨bs,k',s',a1,a2,a3,a4⟩:=Mw n ns rest xs acc (k+1) (.val x) (by omega) (.inr ⟨x,rfl⟩)
   refine⟨false::bs,k',s',by simp[a1],a2,a3,?_⟩
   rw[aR,jK hs]
   simp only[e,dC,Qxq,if_false]
   rw[a4]
   simp[lF]
def RK(b:Bool):E:=(.comp 1 (.name 0) (.var 4) AAP (.op .add (.var 0) (.tup (.cons (.con (.bl b)) .nil))))
def vW:S:=(.cons (.set 4 (.op .add (RK false) (RK true))) .nil)
theorem Ni(c:Cf)(b:Bool)(rest:Ev):∀(rs:List (List Bool))(acc:List D)(s:Sl),tV s->(∀r∈rs,r.length<=1000)->∃s',tV s'/\
  aR (.name 0) (ev c AAP) (ev c (.op .add (.var 0) (.tup (.cons (.con (.bl b)) .nil)))) (rs.map aF) acc (s::rest)=.ok (acc++(rs.map (· ++[b])).map aF) (s'::rest)
 |[]=>fun acc s hs _=>⟨s,hs,by simp[aR]⟩
 |r::rs=>fun acc s hs hl=>by
  obtain⟨s',a1,a2⟩:=Ni c b rest rs (acc++[aF (r++[b])]) (.val (aF r)) (.inr ⟨_,rfl⟩) fun q hq=>hl q (QYq _ hq)
  have h1:=hl r QYz
  refine⟨s',a1,?_⟩
  rw[Qyz,aR,jK hs]
  have e0:ev c (.op .add (.var 0) (.tup (.cons (.con (.bl b)) .nil))) (.val (aF r)::rest)=.ok (.val (aF (r++[b]))) (.val (aF r)::rest):=by
   have f:fits (r.length+1)=true:=by simp[fits];omega
   simp[aP,aF,f]
  have e1:ev c AAP (.val (aF r)::rest)=.ok (.val (.bl true)) (.val (aF r)::rest):=by simp
  simp only[e1,dC,if_true]
  rw[e0,bT,a2]
  simp
def Nj(c:Cf)(b:Bool)(rs:List (List Bool))(hl:∀r∈rs,r.length<=1000)(hs:s=.own (.lst (rs.map aF))\/s=.val (.lst (rs.map aF)))(s0 s1 s2 s3 s5:Sl):ev c (RK b) [s0,s1,s2,s3,s,s5]=.ok (.new (.lst ((rs.map (· ++[b])).map aF))) [s0,s1,s2,s3,.val (.lst (rs.map aF)),s5]:=by
 obtain⟨s',_,a⟩:=Ni c b [s0,s1,s2,s3,.val (.lst (rs.map aF)),s5] rs [] .un (.inl rfl) hl
 have h:ev c (.var 4) [s0,s1,s2,s3,s,s5]=.ok (.val (.lst (rs.map aF))) [s0,s1,s2,s3,.val (.lst (rs.map aF)),s5]:=by
  rcases hs with rfl|rfl<;>simp
 unfold RK
 rw[lH,h,bT]
 simp only[items]
 rw[show List.replicate 1 Sl.un++[s0,s1,s2,s3,.val (.lst (rs.map aF)),s5]=Sl.un::[s0,s1,s2,s3,.val (.lst (rs.map aF)),s5]from rfl,a]
 simp
def Gn(c:Cf)(rs:List (List Bool))(hl:∀r∈rs,r.length<=1000)(hn:rs.length<=1000)(hs:s=.own (.lst (rs.map aF)))(s0 s1 s2 s3 s5:Sl):
  ex c vW [s0,s1,s2,s3,s,s5]=.next [s0,s1,s2,s3,.own (.lst ((rs.map (· ++[false])++rs.map (· ++[true])).map aF)),s5]:=by
 have f:fits (rs.length+rs.length)=true:=by simp[fits];omega
 unfold vW
 simp only[x_0,x_1,x_5,Z8]
 rw[Nj c false rs hl (.inl hs),lu]
 simp only[Mr]
 rw[Nj c true rs hl (.inr rfl),lu]
 simp[f]
theorem uE(c:Cf)(s0 s1 s2 s3:Sl):∀(ys:List D)(k:Nat)(s5:Sl),tV s5->k+ys.length<=9->∃s5',tV s5'/\aY (.name 5) (ex c vW) ys [s0,s1,s2,s3,.own (.lst ((di k).map aF)),s5]=.next [s0,s1,s2,s3,.own (.lst ((di (k+ys.length)).map aF)),s5']
 |[]=>fun k s5 h5 _=>⟨s5,h5,by simp[aY]⟩
 |y::ys=>fun k s5 h5 hk=>by
  simp only[QBq]at hk
  obtain⟨s5',a1,a2⟩:=uE c s0 s1 s2 s3 ys (k+1) (.val y) (.inr ⟨y,rfl⟩) (by omega)
  refine⟨s5',a1,?_⟩
  have st:bw (.name 5) y [s0,s1,s2,s3,.own (.lst ((di k).map aF)),s5]=some [s0,s1,s2,s3,.own (.lst ((di k).map aF)),.val y]:=by
   rcases h5 with rfl|⟨e,rfl⟩<;>simp[bw]
  have lens:∀k,∀r∈di k,r.length=k:=by
   intro k
   induction k with
   |zero=>intro r hr;simp[di]at hr;subst hr;rfl
   |succ k ih=>
    intro r hr
    simp only[di,QXz,QDq]at hr
    rcases hr with ⟨q,hq,rfl⟩|⟨q,hq,rfl⟩<;>simp[ih q hq]
  have hn:(di k).length<=1000:=by
   rw[nZ]
   have:2 ^k<=2 ^9:=Nat.pow_le_pow_right (by omega) (by omega)
   omega
  rw[aY,st]
  simp only
  rw[Gn c (di k) (fun r hr=>by rw[lens k r hr];omega) hn rfl,nU]
  rw[show(di k).map (· ++[false])++(di k).map (· ++[true])=di (k+1)from rfl,a2]
  rw[show k+1+ys.length=k+(y::ys).length by simp;omega]
def ql:E:=.comp 1 (.name 0) (.var 4) nF (.var 0)
abbrev Zax(a b c d e f):=([.val (sc a),.bor (.lst [.int b]),c,d,e,f]:Ev)
def Bs(n:Nat)(ns:List Int)(k:Int)(hk:0<=k)(zs:List D)(s2 s3 s5:Sl):∃bs k',bs.length=zs.length/\0<=k'/\
  ev (pg.cf (n+3)) ql (Zax ns k s2 s3 (.own (.lst zs)) s5)=.ok (.new (.lst (lF bs zs))) (Zax ns k' s2 s3 (.val (.lst zs)) s5):=by
 obtain⟨bs,k',s',c1,c2,c3,c4⟩:=Mw n ns [s2,s3,.val (.lst zs),s5] zs [] k .un hk (.inl rfl)
 refine⟨bs,k',c1,c2,?_⟩
 have h:ev (pg.cf (n+3)) (.var 4) (Zax ns k s2 s3 (.own (.lst zs)) s5)=.ok (.val (.lst zs)) (Zax ns k s2 s3 (.val (.lst zs)) s5):=by simp
 unfold ql
 rw[lH,h,bT]
 simp only[items]
 rw[show List.replicate 1 Sl.un++(Zax ns k s2 s3 (.val (.lst zs)) s5)=Sl.un:: .val (sc ns):: .bor (.lst [.int k])::[s2,s3,.val (.lst zs),s5]from rfl,c4]
 simp
def I8(n:Nat)(ns:List Int)(k:Int)(hk:0<=k)(xs:List D)(hx:xs.length<=900)(h1:1<=xs.length):
  ∃ys rs k',ys.Sublist xs/\1<=ys.length/\ys.length<=3/\(∀r∈rs,r.length=ys.length)/\yP rs=true/\0<=k'/\
   pg.fn (n+5) 34 [.val (sc ns),.bor (.lst [.int k]),.val (.tup xs)]=.ok (.val (.tup [.str "table",.tup ys,.tup (rs.map aF)])) [.val (sc ns),.bor (.lst [.int k']),.val (.tup xs)]:=by
 obtain⟨ys,k1,a1,a2,a3,a4,a5⟩:=Cv n ns k hk xs 1 3 hx (by omega) (by omega) (by omega)
 obtain⟨s5,b1,b2⟩:=uE (pg.cf (n+4)) (.val (sc ns)) (.bor (.lst [.int k1])) (.val (.tup xs)) (.val (.tup ys)) ys 0 .un (.inl rfl) (by omega)
 obtain⟨bs,k2,c1,c2,c4⟩:=Bs (n+1) ns k1 a4 ((di ys.length).map aF) (.val (.tup xs)) (.val (.tup ys)) s5
 rw[QAq,nZ]at c1
 obtain⟨rs,d1,d2,d3⟩:=Ge ys.length (by omega) (by omega) bs c1
 refine⟨ys,rs,k2,a1,by omega,by omega,d2,d3,c2,?_⟩
 rw[xY]
 have hb:jY=⟨3,6,.cons ACW (.cons ADw (.cons (.for_ (.name 5) (.var 3) vW)
  (.cons (.ret (.tup (.cons ABi (.cons (.var 3) (.cons (.bi .tuple (.bi .sorted ql)) .nil))))) .nil)))⟩:=rfl
 rw[hb]
 have e1:([D.tup []]:List D)=(di 0).map aF:=rfl
 simp only[Nat.zero_add]at b2
 have e2:(di 0).length=1:=rfl
 have q:ql.aB=none:=rfl
 simp[a5,aP,items,e1,e2,b2,c4,d1,q]
end Tx
end
section
open PySem Mini
namespace Tx
inductive bR(xs:List D):Nat->D->Prop
 |same {n:Nat} {x:D}:x∈xs->bR xs n (.tup [.str "same",x])
 |not {n:Nat} {x:D}:x∈xs->bR xs n (.tup [.str "not",x])
 |and {n:Nat} {ys:List D}:ys.Sublist xs->2<=ys.length->ys.length<=3->bR xs n (.tup [.str "and",.tup ys])
 |or {n:Nat} {ys:List D}:ys.Sublist xs->2<=ys.length->ys.length<=3->bR xs n (.tup [.str "or",.tup ys])
 |both {n:Nat} {ys:List D}:ys.Sublist xs->2<=ys.length->ys.length<=3->bR xs n (.tup [.str "both",.tup ys])
 |table {n:Nat} {ys:List D} {rs:List (List Bool)}:ys.Sublist xs->1<=ys.length->ys.length<=3->(∀r∈rs,r.length=ys.length)->yP rs=true->bR xs n (.tup [.str "table",.tup ys,.tup (rs.map aF)])
 |held {n:Nat} {k x:D} {b:Bool}:bR xs n k->x∈xs->bR xs (n+1) (.tup [.str "held",k,x,.bl b])
def M6(xs:List D)(r:Int)(h1:0<=r)(h2:r<xs.length):∃d,at? xs r=some d/\d∈xs:=by
 unfold at? ix?
 rw[if_neg (Int.not_lt.mpr h1),if_pos ⟨h1,h2⟩]
 have:r.toNat<xs.length:=(Int.toNat_lt h1).mpr h2
 exact⟨xs[r.toNat],by simp[this],List.getElem_mem this⟩
def QL(r:Int):r%2=0\/r%2=1:=by omega
def LC{r:Int}(h1:¬r<4)(h2:r<7):r-4=0\/r-4=1\/r-4=2:=by omega
def eight{r:Int}(h1:¬r<7)(h2:r<9)(h3:¬r=7):r=8:=by omega
def Yd(n:Nat):¬((n:Int)+1=0):=by omega
abbrev Zai(a b c d):=([.val (sc a),.bor (.lst [.int b]),.val (.tup c),.val (.int d)]:Ev)
def u0(m:Nat)(ns:List Int)(xs:List D)(hx:xs.length<=900)(h1:1<=xs.length)(deep:Nat)
  (rec:∀dp,deep=dp+1->∀k:Int,0<=k->∃d k',bR xs dp d/\0<=k'/\pg.fn (m+5) 35 (Zai ns k xs dp)=.ok (.val d) (Zai ns k' xs dp))
  (k:Int)(hk:0<=k):∃d k',bR xs deep d/\0<=k'/\
  pg.fn (m+6) 35 (Zai ns k xs deep)=.ok (.val d) (Zai ns k' xs deep):=by
 obtain⟨r,r1,r2,er⟩:=bF (m+2) ns k 9 hk (by decide)
 have hk1:=NP hk
 by_cases c1:r<4\/xs.length<2
 ·obtain⟨q,q1,q2,eq⟩:=bF (m+2) ns (k+1) xs.length hk1 (Int.ofNat_lt.mpr h1)
  obtain⟨x,ex,mx⟩:=M6 xs q q1 q2
  obtain⟨w,ew,kw⟩:∃w,at? [.str "same",.str "not"] (r%2)=some (.str w)/\bR xs deep (.tup [.str w,x]):=by
   rcases QL r with h|h<;>rw[h]
   ·exact⟨_,rfl,.same mx⟩
   ·exact⟨_,rfl,.not mx⟩
  refine⟨_,k+1+1,kw,NP hk1,?_⟩
  rw[iR]
  by_cases c4:r<4
  ·simp[cW,er,c4,eq,ex,aP,ew]
  ·have c6:=c1.resolve_left c4
   have c5:(xs.length:Int)<2:=Int.ofNat_lt.mpr c6
   simp[cW,er,c4,c5,c6,eq,ex,aP,ew]
 ·have c2:¬r<4:=fun h=>c1 (.inl h)
  have c3':¬xs.length<2:=fun h=>c1 (.inr h)
  have c3:¬(xs.length:Int)<2:=fun h=>c3' (Int.ofNat_lt.mp h)
  by_cases c7:r<7
  ·obtain⟨ys,k',a1,a2,a3,a4,a5⟩:=Cv (m+1) ns (k+1) hk1 xs 2 3 hx (by decide) (by decide) (Int.not_lt.mp c3)
   have a2:2<=ys.length:=Int.ofNat_le.mp a2
   have a3:ys.length<=3:=Int.ofNat_le.mp a3
   obtain⟨w,ew,kw⟩:∃w,at? [.str "and",.str "or",.str "both"] (r-4)=some (.str w)/\bR xs deep (.tup [.str w,.tup ys]):=by
    rcases LC c2 c7 with h|h|h<;>rw[h]
    ·exact⟨_,rfl,.and a1 a2 a3⟩
    ·exact⟨_,rfl,.or a1 a2 a3⟩
    ·exact⟨_,rfl,.both a1 a2 a3⟩
   exact⟨_,k',kw,a4,by rw[iR];simp[cW,er,c2,c3,c3',c7,a5,aP,ew]⟩
  ·by_cases c8:r=7\/deep=0
   ·obtain⟨ys,rs,k',a1,a2,a3,a4,a5,a6,a7⟩:=I8 m ns (k+1) hk1 xs hx h1
    refine⟨_,k',.table a1 a2 a3 a4 a5,a6,?_⟩
    rw[iR]
    by_cases c9:r=7
    ·subst c9
     simp[cW,er,c3,c3',a7]
    ·have c10:deep=0:=c8.resolve_left c9
     subst c10
     have c9b:(r==7)=false:=beq_false_of_ne c9
     simp[cW,er,c2,c3,c3',c7,c9,c9b,a7]
   ·obtain⟨dp,rfl⟩:=Nat.exists_eq_succ_of_ne_zero (fun h=>c8 (.inr h))
    have c9:r=8:=eight c7 r2 fun h=>c8 (.inl h)
    subst c9
    obtain⟨d,k1,b1,b2,b3⟩:=rec dp rfl (k+1) hk1
    obtain⟨q,q1,q2,eq⟩:=bF (m+2) ns k1 xs.length b2 (Int.ofNat_lt.mpr h1)
    obtain⟨x,ex,mx⟩:=M6 xs q q1 q2
    obtain⟨z,z1,z2,ez⟩:=bF (m+2) ns (k1+1) 2 (NP b2) (by decide)
    refine⟨_,k1+1+1,.held (b:=z==1) b1 mx,NP (NP b2),?_⟩
    rw[iR]
    have e1:¬((dp:Int)+1=0):=Yd dp
    have e0:((dp:Int)+1==0)=false:=beq_false_of_ne e1
    have e2:(dp:Int)+1-1=dp:=Int.add_sub_cancel _ _
    simp[cW,er,c3,c3',e0,e1,e2,b3,eq,ex,ez,aP]
def afO(m deep:Nat):m+deep+1+5=m+6+deep:=by omega
def afN(m deep:Nat):m+6+(deep+1)=m+deep+1+6:=by omega
theorem wu(ns:List Int)(xs:List D)(hx:xs.length<=900)(h1:1<=xs.length):∀(deep m:Nat)(k:Int),0<=k->∃d k',bR xs deep d/\0<=k'/\
  pg.fn (m+6+deep) 35 (Zai ns k xs deep)=.ok (.val d) (Zai ns k' xs deep)
 |0=>fun m k hk=>u0 m ns xs hx h1 0 (fun dp h=>nomatch h) k hk
 |deep+1=>fun m k hk=>by
  have:=u0 (m+deep+1) ns xs hx h1 (deep+1) (fun dp h k hk=>by
   cases h
   have q:=wu ns xs hx h1 deep m k hk
   rw[afO m deep]
   exact q) k hk
  rw[afN m deep]
  exact this
end Tx
end
section
open PySem Mini
namespace Tx
def DX:E:=(.tup ABq)
abbrev Zas(a b c d e f g h i):=([a,.val (sc b),.bor (.lst [.int c]),d,e,f,g,.val (.tup h),i]:Ev)
def KH(n:Nat)(ns:List Int)(k:Int)(hk:0<=k)(xs:List D)(hx:xs.length<=900)(h1:1<=xs.length)(x:D)(s3 s4 s5 s6 s8:Sl):∃d k',bR xs 1 d/\0<=k'/\
  ev (pg.cf (n+7)) DX (Zas (.val x) ns k s3 s4 s5 s6 xs s8)=.ok (.val (.tup [x,d])) (Zas (.val x) ns k' s3 s4 s5 s6 xs s8):=by
 obtain⟨d,k',a1,a2,a3⟩:=wu ns xs hx h1 1 n k hk
 refine⟨d,k',a1,a2,?_⟩
 simp only[Int.natCast_one,show n+6+1=n+7 from rfl]at a3
 simp[DX,a3,aP]
theorem yI(n:Nat)(ns:List Int)(xs:List D)(hx:xs.length<=900)(h1:1<=xs.length)(s3 s4 s5 s6 s8:Sl):∀(row acc:List D)(k:Int)(s:Sl),0<=k->tV s->∃ks k' s',ks.length=row.length/\(∀d∈ks,bR xs 1 d)/\0<=k'/\tV s'/\
  aR (.name 0) (ev (pg.cf (n+7)) AAP) (ev (pg.cf (n+7)) DX) row acc (Zas s ns k s3 s4 s5 s6 xs s8)
   =.ok (acc++aO row ks) (Zas s' ns k' s3 s4 s5 s6 xs s8)
 |[]=>fun acc k s hk hs=>⟨[],k,s,rfl,fun d h=>(by cases h),hk,hs,by simp[aR,aO]⟩
 |x::row=>fun acc k s hk hs=>by
  obtain⟨d,k1,a1,a2,a3⟩:=KH n ns k hk xs hx h1 x s3 s4 s5 s6 s8
  obtain⟨ks,k',s',b1,b2,b3,b4,b5⟩:=yI n ns xs hx h1 s3 s4 s5 s6 s8 row (acc++[.tup [x,d]]) k1 (.val x) a2 (.inr ⟨x,rfl⟩)
  refine⟨d::ks,k',s',by simp[b1],fun e h=>?_,b3,b4,?_⟩
  ·rcases QCq.mp h with rfl|h
   ·exact a1
   ·exact b2 e h
  ·rw[aR,jK hs]
   have e1:∀σ,ev (pg.cf (n+7)) AAP σ=.ok (.val (.bl true)) σ:=fun σ=>by simp
   simp only[e1,dC,if_true]
   rw[a3,bT,b5]
   simp[aO]
theorem sE(n:Nat)(ns:List Int)(rest:Ev):∀(xs acc:List D)(k:Int)(s:Sl),0<=k->tV s->∃(bs:List Bool)(k':Int)(s':Sl),bs.length=xs.length/\0<=k'/\tV s'/\
  aR (.name 0) (ev (pg.cf (n+3)) AAP) (ev (pg.cf (n+3)) nF) xs acc (s:: .val (sc ns):: .bor (.lst [.int k])::rest)=.ok (acc++bs.map .bl) (s':: .val (sc ns):: .bor (.lst [.int k'])::rest)
 |[]=>fun acc k s hk hs=>⟨[],k,s,rfl,hk,hs,by simp[aR]⟩
 |x::xs=>fun acc k s hk hs=>by
  obtain⟨b,e⟩:=wQ n ns k hk x rest
  obtain⟨bs,k',s',a1,a2,a3,a4⟩:=sE n ns rest xs (acc++[.bl b]) (k+1) (.val x) (NP hk) (.inr ⟨x,rfl⟩)
  refine⟨b::bs,k',s',by simp[a1],a2,a3,?_⟩
  rw[aR,jK hs]
  have e1:∀σ,ev (pg.cf (n+3)) AAP σ=.ok (.val (.bl true)) σ:=fun σ=>by simp
  simp only[e1,dC,if_true]
  rw[e,bT,a4]
  simp
def Dl:E:=(.comp 1 (.name 0) (.var 5) AAP DX)
def DW:E:=(.comp 1 (.name 0) (.var 6) AAP nF)
def v9:S:=(.cons AEJ (.cons (.set 7 (.bi .tuple Dl)) (.cons (.ret (.tup (.cons (.var 4) (.cons (.var 7) (.cons (.bi .tuple DW) .nil))))) .nil)))
abbrev Zad(a b c d e f g h):=([.val (sc a),.bor (.lst [.int b]),c,d,.val (.tup e),.val (.tup f),.val (.tup g),h]:Ev)
def Kg(n:Nat)(ns:List Int)(k:Int)(hk:0<=k)(heard row:List D)(hx:heard.length+row.length<=900)(h1:1<=row.length)(s2 s3:Sl):∃(ks:List D)(ls:List Bool)(k':Int),ks.length=row.length/\(∀d∈ks,bR (heard++row) 1 d)/\ls.length=(heard++row).length/\0<=k'/\
  ex (pg.cf (n+7)) v9 [.val (sc ns),.bor (.lst [.int k]),s2,s3,.val (.tup heard),.val (.tup row),.un,.un]
   =.ret (.val (.tup [.tup heard,.tup (aO row ks),.tup (ls.map .bl)])) (Zad ns k' s2 s3 heard row (heard++row) (.val (.tup (aO row ks)))):=by
 obtain⟨ks,k1,s',a1,a2,a3,a4,a5⟩:=yI n ns (heard++row) (by simpa using hx) (by simp;omega) s2 s3 (.val (.tup heard)) (.val (.tup row)) .un row [] k .un hk (.inl rfl)
 obtain⟨ls,k',s'',b1,b2,b3,b4⟩:=sE (n+4) ns [s2,s3,.val (.tup heard),.val (.tup row),.val (.tup (heard++row)),.val (.tup (aO row ks))] (heard++row) [] k1 .un a3 (.inl rfl)
 refine⟨ks,ls,k',a1,a2,b1,b2,?_⟩
 have f:fits (heard.length+row.length)=true:=by simp[fits];omega
 have em:ev (pg.cf (n+7)) Dl (Zad ns k s2 s3 heard row (heard++row) .un)=.ok (.new (.lst (aO row ks))) (Zad ns k1 s2 s3 heard row (heard++row) .un):=by
  have h:ev (pg.cf (n+7)) (.var 5) (Zad ns k s2 s3 heard row (heard++row) .un)=.ok (.val (.tup row)) (Zad ns k s2 s3 heard row (heard++row) .un):=by simp
  unfold Dl
  rw[lH,h,bT]
  simp only[items]
  rw[show List.replicate 1 Sl.un++(Zad ns k s2 s3 heard row (heard++row) .un)=(Zas .un ns k s2 s3 (.val (.tup heard)) (.val (.tup row)) (heard++row) .un)from rfl,a5]
  simp
 have el:ev (pg.cf (n+7)) DW (Zad ns k1 s2 s3 heard row (heard++row) (.val (.tup (aO row ks))))=.ok (.new (.lst (ls.map .bl))) (Zad ns k' s2 s3 heard row (heard++row) (.val (.tup (aO row ks)))):=by
  have h:ev (pg.cf (n+7)) (.var 6) (Zad ns k1 s2 s3 heard row (heard++row) (.val (.tup (aO row ks))))=.ok (.val (.tup (heard++row))) (Zad ns k1 s2 s3 heard row (heard++row) (.val (.tup (aO row ks)))):=by simp
  unfold DW
  rw[lH,h,bT]
  simp only[items]
  rw[show List.replicate 1 Sl.un++(Zad ns k1 s2 s3 heard row (heard++row) (.val (.tup (aO row ks))))=.un:: .val (sc ns):: .bor (.lst [.int k1])::[s2,s3,.val (.tup heard),.val (.tup row),.val (.tup (heard++row)),.val (.tup (aO row ks))]from rfl,b4]
  simp
 have q1:Dl.aB=none:=rfl
 have q2:DW.aB=none:=rfl
 simp[v9,f,em,el,q1,q2,aP]
def hd(h:Nat):List D:=([.str "a",.str "b",.str "come"]:List D).take h
def b7(g:Nat):List D:=([.str "p",.str "q",.str "rr",.str "go",.str "abcdef"]:List D).take g
def ig{h:Nat}(h2:h<=2):(hd h).length=h:=List.length_take_of_le (Nat.le_succ_of_le h2)
def dq{g:Nat}(g4:g<=5):(b7 g).length=g:=List.length_take_of_le g4
def aG(h g:Nat)(ks:List D)(ls:List Bool):D:=.tup [.tup (hd h),.tup (aO (b7 g) ks),.tup (ls.map .bl)]
structure b8(h g:Nat)(ks:List D)(ls:List Bool):Prop where
 h2:h<=2
 g1:1<=g
 g5:g<=5
 kl:ks.length=g
 kk:∀d∈ks,bR (hd h++b7 g) 1 d
 ll:ls.length=h+g
def WM{ni:Int}{h:Nat}(i2:ni<=2)(r2:(h:Int)<ni+1):h<=2:=by omega
def Kl(n:Nat)(ns:List Int)(k:Int)(hk:0<=k)(ni:Int)(i0:0<=ni)(i2:ni<=2):∃h g ks ls k',b8 h g ks ls/\0<=k'/\
  pg.fn (n+8) 36 [.val (sc ns),.bor (.lst [.int k]),.val (.int ni),.val (.int 4)]=.ok (.val (aG h g ks ls)) [.val (sc ns),.bor (.lst [.int k']),.val (.int ni),.val (.int 4)]:=by
 obtain⟨r,r1,r2,er⟩:=bF (n+4) ns k (ni+1) hk (Int.lt_add_one_of_le i0)
 obtain⟨q,q1,q2,eq⟩:=bF (n+4) ns (k+1) 4 (NP hk) (by decide)
 obtain⟨h,rfl⟩:=Int.eq_ofNat_of_zero_le r1
 obtain⟨g,rfl⟩:=Int.eq_ofNat_of_zero_le q1
 have h2:h<=2:=WM i2 r2
 have g3:g<4:=Int.ofNat_lt.mp q2
 have g1:1<=1+g:=Nat.le_add_right 1 g
 have g5:1+g<=5:=Nat.add_le_add_left (Nat.le_of_lt g3) 1
 have lh:=ig h2
 have lg:=dq g5
 obtain⟨ks,ls,k',a1,a2,a3,a4,a5⟩:=Kg n ns (k+1+1) (NP (NP hk)) (hd h) (b7 (1+g)) (by rw[lh,lg];exact Nat.le_trans (Nat.add_le_add h2 g5) (by decide)) (by rw[lg];exact g1) (.val (.int ni)) (.val (.int 4))
 refine⟨h,1+g,ks,ls,k',⟨h2,g1,g5,a1.trans lg,a2,by rw[a3,QTq,lh,lg]⟩,a4,?_⟩
 rw[Gq]
 have hb:o5=⟨4,8,(.cons AAw (.cons AEM v9))⟩:=rfl
 rw[hb]
 have c1:dM (.tup [.str "a",.str "b",.str "come"]) none (some (h:Int))=some (.val (.tup (hd h))):=by
  rcases h with _|_|_|h
  ·rfl
  ·rfl
  ·rfl
  ·exact absurd h2 (by simp)
 have c2:dM (.tup [.str "p",.str "q",.str "rr",.str "go",.str "abcdef"]) none (some (1+(g:Int)))=some (.val (.tup (b7 (1+g)))):=by
  rcases g with _|_|_|_|g
  ·rfl
  ·rfl
  ·rfl
  ·rfl
  ·exact absurd g3 (by simp)
 simp[er,eq,aP,bZ,E.fQ,c1,c2,a5,aG]
end Tx
end
section
open PySem Mini
namespace Tx
def aZ(n:Nat)(xs:List D)(a b:Int)(h1:a<=xs.length)(h2:xs.length<=b):pg.fn (n+1) 3 [.val (.tup xs),.val (.int a),.val (.int b)]=.ok (.val (.bl true)) [.val (.tup xs),.val (.int a),.val (.int b)]:=by
 rw[Ac]
 simp[mq,h1,h2]
def Uo:E:=.bi .all ADM
abbrev ZaH(a b):=([.val (aF a),.val (.int b)]:Ev)
def vd(n:Nat)(bs:List Bool)(m:Int)(h:m=bs.length):pg.fn (n+2) 7 (ZaH bs m)=.ok (.val (.bl true)) (ZaH bs m):=by
 subst h
 have e:ev (pg.cf (n+1)) Uo (ZaH bs bs.length)=.ok (.val (.bl true)) (ZaH bs bs.length):=by
  refine all1 (d:=aF bs) (xs:=bs.map .bl) (r:=.val (aF bs)) (by simp) rfl rfl fun x hx=>?_
  obtain⟨b,_,rfl⟩:=QDq.mp hx
  simp
 have t:pg.fn (n+1) 3 [.val (aF bs),.val (.int bs.length),.val (.int bs.length)]=.ok (.val (.bl true)) [.val (aF bs),.val (.int bs.length),.val (.int bs.length)]:=aZ n (bs.map .bl) bs.length bs.length (by simp) (by simp)
 rw[JC]
 have hb:tK=⟨2,2,(.cons (.ret (.and (.cons ADd (.cons Uo .nil)))) .nil)⟩:=rfl
 rw[hb]
 simp[t,e]
def cu(xs:List D):Prop:=∀x∈xs,∃s,x=.str s
variable{xs:List D}
def kZ(h:cu xs):xs.all flat=true:=by
 rw[List.all_eq_true]
 intro x hx
 obtain⟨s,rfl⟩:=h x hx
 rfl
variable{x:D}
def gh(hx:x∈xs)(h:cu xs):aH x xs=true:=by
 induction xs with
 |nil=>cases hx
 |cons y ys ih=>
  unfold aH
  rcases QCq.mp hx with rfl|hx
  ·obtain⟨s,rfl⟩:=h x QYz
   simp[cL]
  ·simp[ih hx fun z hz=>h z (QYq _ hz)]
def Br(h:cu xs)(nd:xs.Nodup)(hx:x∈xs):fc x xs=1:=by
 induction xs with
 |nil=>cases hx
 |cons y ys ih=>
  have hys:cu ys:=fun z hz=>h z (QYq _ hz)
  obtain⟨s,rfl⟩:=h y QYz
  rw[List.nodup_cons]at nd
  have zero:∀{zs:List D},cu zs->D.str s∉zs->fc (.str s) zs=0:=by
   intro zs
   induction zs with
   |nil=>intro _ _;rfl
   |cons z zs ihz=>
    intro hz hn
    obtain⟨q,rfl⟩:=hz z QYz
    have ne:q≠s:=fun e=>hn (by rw[e];exact QYz)
    simp[fc,cL,ne,ihz (fun w hw=>hz w (QYq _ hw)) fun hw=>hn (QYq _ hw)]
  rcases QCq.mp hx with rfl|hx
  ·simp[fc,cL,zero hys nd.1]
  ·obtain⟨q,rfl⟩:=hys x hx
   have ne:s≠q:=fun e=>nd.1 (by rw[e];exact hx)
   simp[fc,cL,ne,ih hys nd.2 hx]
def iZ(n:Nat){d:D}(dd:d=.tup xs\/d=.lst xs)(h:cu xs)(hx:x∈xs):pg.fn (n+1) 8 [.val x,.val d]=.ok (.val (.bl true)) [.val x,.val d]:=by
 obtain⟨s,rfl⟩:=h x hx
 rw[Gs]
 have o:eZ (.str s) xs=true:=by
  unfold eZ
  rw[kZ h]
  rfl
 have e:aK .isin (.str s) d=some true:=by
  rcases dd with rfl|rfl<;>(show(if eZ (.str s) xs then some (aH (.str s) xs)else none)=_;rw[o,gh hx h];rfl)
 simp[o7,e]
def vO:E:=.bi .all ACm
def lG(n:Nat){d:D}(hd:d=.tup xs\/d=.lst xs)(h:cu xs)(nd:xs.Nodup):pg.fn (n+1) 6 [.val d]=.ok (.val (.bl true)) [.val d]:=by
 have f:=kZ h
 have e:ev (pg.cf n) vO [.val d]=.ok (.val (.bl true)) [.val d]:=by
  refine all1 (d:=d) (xs:=xs) (r:=.val d) (by simp) rfl (by rcases hd with rfl|rfl<;>rfl) fun x hx=>?_
  have c:=Br h nd hx
  obtain⟨s,rfl⟩:=h x hx
  have e1:wR (.tup xs) (.str s)=some (.val (.int 1)):=by
   simp only[wR]
   rw[f,c]
   rfl
  have e2:wR (.lst xs) (.str s)=some (.val (.int 1)):=e1
  rcases hd with rfl|rfl<;>simp[e1,e2]
 have hb:jk=⟨1,1,(.cons (.ret vO) .nil)⟩:=rfl
 rw[vZ,hb]
 have q:vO.aB=none:=rfl
 simp[e,q]
def oX:D->D
 |.tup (a::_)=>a
 |_=>.non
theorem vM:∀(gs ks:List D),ks.length=gs.length->(aO gs ks).map oX=gs
 |[],ks=>fun _=>by simp[aO]
 |g::gs,[]=>fun h=>by simp at h
 |g::gs,k::ks=>fun h=>by simp[aO,oX,vM gs ks (by simpa using h)]
def yV(it:E):E:=.comp 1 (.name 0) it AAP AAb
def sy{c:Cf}{σ:Ev}{it:E}(gs ks:List D)(hl:ks.length=gs.length)(hi:ev c it σ=.ok (.val (.tup (aO gs ks))) σ):ev c (yV it) σ=.ok (.new (.lst gs)) σ:=by
 have:=sW (el:=.idx (.var 0) AAH) oX hi rfl rfl fun y hy=>by
  rw[cP]at hy
  obtain⟨p,_,rfl⟩:=QDq.mp hy
  simp[pairD,oX]
 rw[vM gs ks hl]at this
 exact this
def fB(n:Nat)(hs gs:List D)(ks:List D)(x:D)(hl:ks.length=gs.length)(hf:hs.length+gs.length<=1000):
  pg.fn (n+1) 13 [.val (.tup [.tup hs,.tup (aO gs ks),x])]=.ok (.new (.lst (hs++gs))) [.val (.tup [.tup hs,.tup (aO gs ks),x])]:=by
 have e:=sy (c:=pg.cf n) (it:=.idx (.var 0) AAG) (σ:=[.val (.tup [.tup hs,.tup (aO gs ks),x])]) gs ks hl (by simp)
 have f:fits (hs.length+gs.length)=true:=by simp[fits];omega
 have hb:jg=⟨1,1,.cons (.ret (.op .add (.bi .list AAb) (yV AAc))) .nil⟩:=rfl
 rw[mQ,hb]
 simp[e,f]
end Tx
end
section
open PySem Mini
namespace Tx
@[simp↓]theorem RZ:decide (Str.ofString "same"=Str.ofString "same")=true:=rfl
@[simp↓]theorem YF:decide (Str.ofString "not"=Str.ofString "not")=true:=rfl
@[simp↓]theorem YL:decide (Str.ofString "and"=Str.ofString "and")=true:=rfl
@[simp↓]theorem acW:decide (Str.ofString "or"=Str.ofString "or")=true:=rfl
@[simp↓]theorem Sh:decide (Str.ofString "both"=Str.ofString "both")=true:=rfl
@[simp↓]theorem NK:decide (Str.ofString "table"=Str.ofString "table")=true:=rfl
@[simp↓]theorem R7:decide (Str.ofString "held"=Str.ofString "held")=true:=rfl
@[simp]theorem Ux:decide (Str.ofString "same"=Str.ofString "not")=false:=rfl
@[simp]theorem Uy:decide (Str.ofString "same"=Str.ofString "and")=false:=rfl
@[simp]theorem Yz:decide (Str.ofString "same"=Str.ofString "or")=false:=rfl
@[simp]theorem R4:decide (Str.ofString "same"=Str.ofString "both")=false:=rfl
@[simp]theorem Oh:decide (Str.ofString "same"=Str.ofString "table")=false:=rfl
@[simp]theorem R3:decide (Str.ofString "same"=Str.ofString "held")=false:=rfl
@[simp]theorem UG:decide (Str.ofString "not"=Str.ofString "same")=false:=rfl
@[simp]theorem YG:decide (Str.ofString "not"=Str.ofString "and")=false:=rfl
@[simp]theorem Z5:decide (Str.ofString "not"=Str.ofString "or")=false:=rfl
@[simp]theorem UL:decide (Str.ofString "not"=Str.ofString "both")=false:=rfl
@[simp]theorem R5:decide (Str.ofString "not"=Str.ofString "table")=false:=rfl
@[simp]theorem UJ:decide (Str.ofString "not"=Str.ofString "held")=false:=rfl
@[simp]theorem U3:decide (Str.ofString "and"=Str.ofString "same")=false:=rfl
@[simp]theorem YK:decide (Str.ofString "and"=Str.ofString "not")=false:=rfl
@[simp]theorem Z6:decide (Str.ofString "and"=Str.ofString "or")=false:=rfl
@[simp]theorem U5:decide (Str.ofString "and"=Str.ofString "both")=false:=rfl
@[simp]theorem Sq:decide (Str.ofString "and"=Str.ofString "table")=false:=rfl
@[simp]theorem U4:decide (Str.ofString "and"=Str.ofString "held")=false:=rfl
@[simp]theorem YB:decide (Str.ofString "or"=Str.ofString "same")=false:=rfl
@[simp]theorem Z3:decide (Str.ofString "or"=Str.ofString "not")=false:=rfl
@[simp]theorem Z4:decide (Str.ofString "or"=Str.ofString "and")=false:=rfl
@[simp]theorem YD:decide (Str.ofString "or"=Str.ofString "both")=false:=rfl
@[simp]theorem Uz:decide (Str.ofString "or"=Str.ofString "table")=false:=rfl
@[simp]theorem YC:decide (Str.ofString "or"=Str.ofString "held")=false:=rfl
@[simp]theorem R9:decide (Str.ofString "both"=Str.ofString "same")=false:=rfl
@[simp]theorem UW:decide (Str.ofString "both"=Str.ofString "not")=false:=rfl
@[simp]theorem U0:decide (Str.ofString "both"=Str.ofString "and")=false:=rfl
@[simp]theorem YJ:decide (Str.ofString "both"=Str.ofString "or")=false:=rfl
@[simp]theorem Oj:decide (Str.ofString "both"=Str.ofString "table")=false:=rfl
@[simp]theorem Sg:decide (Str.ofString "both"=Str.ofString "held")=false:=rfl
@[simp]theorem Od:decide (Str.ofString "table"=Str.ofString "same")=false:=rfl
@[simp]theorem RW:decide (Str.ofString "table"=Str.ofString "not")=false:=rfl
@[simp]theorem RX:decide (Str.ofString "table"=Str.ofString "and")=false:=rfl
@[simp]theorem Uw:decide (Str.ofString "table"=Str.ofString "or")=false:=rfl
@[simp]theorem Og:decide (Str.ofString "table"=Str.ofString "both")=false:=rfl
@[simp]theorem Oe:decide (Str.ofString "table"=Str.ofString "held")=false:=rfl
@[simp]theorem R6:decide (Str.ofString "held"=Str.ofString "same")=false:=rfl
@[simp]theorem UT:decide (Str.ofString "held"=Str.ofString "not")=false:=rfl
@[simp]theorem UV:decide (Str.ofString "held"=Str.ofString "and")=false:=rfl
@[simp]theorem YH:decide (Str.ofString "held"=Str.ofString "or")=false:=rfl
@[simp]theorem R8:decide (Str.ofString "held"=Str.ofString "both")=false:=rfl
@[simp]theorem Oi:decide (Str.ofString "held"=Str.ofString "table")=false:=rfl
@[simp]theorem Ua:aK .isin (.str "same") (.tup [.str "same",.str "not"])=some true:=rfl
@[simp]theorem Xf:aK .isin (.str "not") (.tup [.str "same",.str "not"])=some true:=rfl
@[simp]theorem Xi:aK .isin (.str "and") (.tup [.str "same",.str "not"])=some false:=rfl
@[simp]theorem Zm:aK .isin (.str "or") (.tup [.str "same",.str "not"])=some false:=rfl
@[simp]theorem Uc:aK .isin (.str "both") (.tup [.str "same",.str "not"])=some false:=rfl
@[simp]theorem QW:aK .isin (.str "table") (.tup [.str "same",.str "not"])=some false:=rfl
@[simp]theorem Ub:aK .isin (.str "held") (.tup [.str "same",.str "not"])=some false:=rfl
@[simp]theorem Xe:aK .isin (.str "same") (.tup [.str "and",.str "or"])=some false:=rfl
@[simp]theorem Zn:aK .isin (.str "not") (.tup [.str "and",.str "or"])=some false:=rfl
@[simp]theorem Zo:aK .isin (.str "and") (.tup [.str "and",.str "or"])=some true:=rfl
@[simp]theorem ab0:aK .isin (.str "or") (.tup [.str "and",.str "or"])=some true:=rfl
@[simp]theorem Xh:aK .isin (.str "both") (.tup [.str "and",.str "or"])=some false:=rfl
@[simp]theorem T9:aK .isin (.str "table") (.tup [.str "and",.str "or"])=some false:=rfl
@[simp]theorem Xg:aK .isin (.str "held") (.tup [.str "and",.str "or"])=some false:=rfl
def gl5:pg.gl 5=some (.int 4):=rfl
def gl6:pg.gl 6=some (.int 8):=rfl
def gl7:pg.gl 7=some (.int 3):=rfl
def Ie:E:=.bi .all ADg
abbrev Zay(a b c d):=([.val (.tup a),.val b,.val (.int c),.val (.int d)]:Ev)
def cY(n:Nat){xs ys:List D}{d:D}(dd:d=.tup xs\/d=.lst xs)(h:cu xs)(nd:xs.Nodup)(hs:ys.Sublist xs)(a b:Int)(h1:a<=ys.length)(h2:ys.length<=b):
  pg.fn (n+2) 9 (Zay ys d a b)=.ok (.val (.bl true)) (Zay ys d a b):=by
 have hy:cu ys:=fun z hz=>h z (hs.subset hz)
 have e:ev (pg.cf (n+1)) Ie (Zay ys d a b)=.ok (.val (.bl true)) (Zay ys d a b):=by
  refine all1 (d:=.tup ys) (xs:=ys) (r:=.val (.tup ys)) (by simp) rfl rfl fun x hx=>?_
  have w:=iZ n dd h (hs.subset hx)
  simp[w]
 have u:=lG n (.inl rfl) hy (hs.nodup nd)
 have t:=aZ n ys a b h1 h2
 have hb:j8=⟨4,4,(.cons (.ite AEO AAL .nil) (.cons (.ret (.and (.cons Ie (.cons (.call 6 AAT) .nil)))) .nil))⟩:=rfl
 rw[yj,hb]
 simp[t,e,u]
def agh(xs:List D):cut xs (some 1) none=xs.tail:=by
 cases xs with
 |nil=>rfl
 |cons x xs=>
  have:clip (xs.length+1) 1=1:=by simp[clip];omega
  simp[cut,this]
theorem vf:∀(rs:List (List Bool)),yP rs=true->∀p∈rs.zip rs.tail,jw p.1 p.2=true
 |[]=>fun _ p h=>by simp at h
 |[a]=>fun _ p h=>by simp at h
 |a::b::r=>fun hi p h=>by
  simp only[yP,QUq]at hi
  simp only[List.tail_cons,List.zip_cons_cons,QCq]at h
  rcases h with rfl|h
  ·exact hi.1
  ·exact vf (b::r) hi.2 p (by simpa using h)
def SQ:E:=.bi .all ADh
def upC:E:=.bi .all ACJ
abbrev Zaz(a b):=([.val (.tup a),.val (.int b)]:Ev)
def zu(n:Nat)(rs:List (List Bool))(m:Nat)(h:∀r∈rs,r.length=m)(hi:yP rs=true):
  pg.fn (n+3) 10 (Zaz (rs.map aF) m)=.ok (.val (.bl true)) (Zaz (rs.map aF) m):=by
 have e1:ev (pg.cf (n+2)) SQ (Zaz (rs.map aF) m)=.ok (.val (.bl true)) (Zaz (rs.map aF) m):=by
  refine all1 (d:=.tup (rs.map aF)) (xs:=rs.map aF) (r:=.val (.tup (rs.map aF))) (by simp) rfl rfl fun x hx=>?_
  obtain⟨r,hr,rfl⟩:=QDq.mp hx
  have w:=vd n r m (by rw[h r hr])
  simp[w]
 have e2:ev (pg.cf (n+2)) upC (Zaz (rs.map aF) m)=.ok (.val (.bl true)) (Zaz (rs.map aF) m):=by
  have hz:aO (rs.map aF) (rs.map aF).tail=((rs.zip rs.tail).map fun p=>(aF p.1,aF p.2)).map pairD:=by
   rw[cP,<-List.map_tail,List.zip_map]
   rfl
  refine all2 (d:=.lst (aO (rs.map aF) (rs.map aF).tail)) (ps:=(rs.zip rs.tail).map fun p=>(aF p.1,aF p.2)) (r:=.val (.lst (aO (rs.map aF) (rs.map aF).tail))) ?_ rfl (by show some _=some _;rw[hz]) fun x hx=>?_
  ·simp[bZ,E.fQ,dM,agh]
  ·obtain⟨p,hp,rfl⟩:=QDq.mp hx
   have l:=vf rs hi p hp
   have lt:aK .lt (aF p.1) (aF p.2)=some true:=by
    simp[aK,ltD,aF,jU,l]
   simp[lt]
 have hb:mC=⟨2,2,(.cons (.ite (.or (.cons (.not AEP) (.cons (.not SQ) .nil))) AAL .nil) (.cons (.ret upC) .nil))⟩:=rfl
 have q:upC.aB=none:=rfl
 rw[Af,hb]
 simp[e1,e2,q]
def Hh(n k:Nat):n+4+2*k=n+2+2*k+1+1:=by omega
def QT(n k:Nat):n+1+2*k+2=n+2+2*k+1:=by omega
def afM(n k:Nat):n+2*k+3=n+2+2*k+1:=by omega
def afL(n k:Nat):n+3+2*k+1=n+4+2*k:=by omega
def afK(n k:Nat):n+4+2*(k+1)=n+4+2*k+1+1:=by omega
def DN{a:Nat}{c d:Nat}(h1:c<=a)(h2:d<=c):(d:Int)<=a:=Int.ofNat_le.mpr (Nat.le_trans h2 h1)
def DP{a:Nat}{c d:Nat}(h1:a<=c)(h2:c<=d):(a:Int)<=d:=Int.ofNat_le.mpr (Nat.le_trans h1 h2)
abbrev ZaD(a b c):=([.val a,.val (.lst b),.val (.int c)]:Ev)
theorem Ax{xs:List D}(h:cu xs)(nd:xs.Nodup):∀{k:Nat}{d:D},bR xs k d->∀(n:Nat)(dp:Int),dp+k<=3->
  pg.fn (n+4+2*k) 11 (ZaD d xs dp)=.ok (.val (.bl true)) (ZaD d xs dp):=by
 intro k d hk
 induction hk with
 | @same k x hx=>
  intro n dp _
  have t:=aZ (n+2+2*k) [.str "same",x] 2 4 (by simp) (by simp)
  have w:=iZ (n+2+2*k) (.inr rfl) h hx
  rw[Hh,eX]
  simp[cX,t,w,aP]
 | @not k x hx=>
  intro n dp _
  have t:=aZ (n+2+2*k) [.str "not",x] 2 4 (by simp) (by simp)
  have w:=iZ (n+2+2*k) (.inr rfl) h hx
  rw[Hh,eX]
  simp[cX,t,w,aP]
 | @and k ys hs h1 h2=>
  intro n dp _
  have t:=aZ (n+2+2*k) [.str "and",.tup ys] 2 4 (by simp) (by simp)
  have w:=cY (n+1+2*k) (.inr rfl) h nd hs 1 4 (DN h1 (by decide)) (DP h2 (by decide))
  rw[QT]at w
  rw[Hh,eX]
  simp[cX,t,w,aP,gl5]
 | @or k ys hs h1 h2=>
  intro n dp _
  have t:=aZ (n+2+2*k) [.str "or",.tup ys] 2 4 (by simp) (by simp)
  have w:=cY (n+1+2*k) (.inr rfl) h nd hs 1 4 (DN h1 (by decide)) (DP h2 (by decide))
  rw[QT]at w
  rw[Hh,eX]
  simp[cX,t,w,aP,gl5]
 | @both k ys hs h1 h2=>
  intro n dp _
  have t:=aZ (n+2+2*k) [.str "both",.tup ys] 2 4 (by simp) (by simp)
  have w:=cY (n+1+2*k) (.inr rfl) h nd hs 2 4 (DN h1 (by decide)) (DP h2 (by decide))
  rw[QT]at w
  rw[Hh,eX]
  simp[cX,t,w,aP,gl5]
 | @table k ys rs hs h1 h2 hr hi=>
  intro n dp _
  have t:=aZ (n+2+2*k) [.str "table",.tup ys,.tup (rs.map aF)] 2 4 (by simp) (by simp)
  have w:=cY (n+1+2*k) (.inr rfl) h nd hs 1 8 (DN h1 (by decide)) (DP h2 (by decide))
  rw[QT]at w
  have z:=zu (n+2*k) rs ys.length hr hi
  rw[afM]at z
  rw[Hh,eX]
  simp[cX,t,w,z,aP,gl6]
 | @held k d x b hk hx ih=>
  intro n dp hd
  have t:=aZ (n+4+2*k) [.str "held",d,x,.bl b] 2 4 (by simp) (by simp)
  have i:=ih n (dp+1) (by omega)
  have w:=iZ (n+3+2*k) (.inr rfl) h hx
  rw[afL]at w
  have hl:pg.fn (n+4+2*k+1) 12 (ZaD (.tup [.str "held",d,x,.bl b]) xs (dp+1))=.ok (.val (.bl true)) (ZaD (.tup [.str "held",d,x,.bl b]) xs (dp+1)):=by
   rw[Gw]
   simp[o9,i,w]
  have lt:dp<3:=by omega
  rw[afK,eX]
  simp[cX,t,hl,aP,gl7,lt]
end Tx
end
section
open PySem Mini
namespace Tx
def Tq(h g:Nat):List Str:=(["a","b","come"]:List Str).take h++(["p","q","rr","go","abcdef"]:List Str).take g
def names(h g:Nat):List D:=hd h++b7 g
def mY(h g:Nat):names h g=(Tq h g).map .str:=by
 simp[names,Tq,hd,b7,List.map_take]
def uf{ss:List Str}(h:ss.Nodup):(ss.map D.str).Nodup:=by
 induction ss with
 |nil=>simp
 |cons s ss ih=>
  rw[List.nodup_cons]at h
  rw[Qyz,List.nodup_cons]
  exact⟨fun z=>h.1 (by simpa using z),ih h.2⟩
variable{g h:Nat}
def names_nodup(h2:h<=2)(g1:1<=g)(g4:g<=5):(names h g).Nodup:=by
 rw[mY]
 refine uf ?_
 exact((List.take_sublist h _).append (List.take_sublist g _)).nodup (by decide)
def bz(h g:Nat):cu (names h g):=fun x hx=>by
 rw[mY]at hx
 obtain⟨s,_,rfl⟩:=QDq.mp hx
 exact⟨s,rfl⟩
def dR(h2:h<=2)(g4:g<=5):(names h g).length=h+g:=by
 rw[names,QTq,ig h2,dq g4]
def QJ(n:Nat)(s:Str)(hs:s∈Tq 3 5):pg.fn (n+1) 5 [.val (.str s)]=.ok (.val (.bl true)) [.val (.str s)]:=by
 have:Tq 3 5=(["a","b","come","p","q","rr","go","abcdef"]:List Str):=by rfl
 rw[this]at hs
 rw[Gv]
 simp only[QCq,QAz,or_false]at hs
 rcases hs with rfl|rfl|rfl|rfl|rfl|rfl|rfl|rfl<;>kernel_rfl
def Dg{s:Str}(hs:s∈Tq h g):s∈Tq 3 5:=by
 unfold Tq at*
 rw[QXz]at*
 rcases hs with hs|hs
 ·exact .inl (by have:=List.mem_of_mem_take hs;simpa using this)
 ·exact .inr (by have:=List.mem_of_mem_take hs;simpa using this)
def gl3:pg.gl 3=some (.int 3):=rfl
def gl4:pg.gl 4=some (.int 5):=rfl
def Ai:E:=.bi .all (.comp 1 (.name 0) AAc AAP ABM)
def Cj{xs ys:List D}(h:ys.length=xs.length):(aO xs ys).length=xs.length:=by
 rw[cP];simp[h]
section
variable{h g:Nat}{ks:List D}{ls:List Bool}
def iV(h g:Nat)(ks:List D)(X:D):D:=.tup [.tup (hd h),.tup (aO (b7 g) ks),X]
def yR(n:Nat)(O:b8 h g ks ls)(X:D):pg.fn (n+2) 2 [.val (iV h g ks X)]=.ok (.val (.bl true)) [.val (iV h g ks X)]:=by
 have lg:=dq O.g5
 have lh:=ig O.h2
 have lz:(aO (b7 g) ks).length=g:=by rw[Cj (by rw[lg,O.kl]),lg]
 have e:ev (pg.cf (n+1)) Ai [.val (iV h g ks X)]=.ok (.val (.bl true)) [.val (iV h g ks X)]:=by
  refine all1 (d:=.tup (aO (b7 g) ks)) (xs:=aO (b7 g) ks) (r:=.val (.tup (aO (b7 g) ks))) (by simp[iV]) rfl rfl fun x hx=>?_
  rw[cP]at hx
  obtain⟨p,_,rfl⟩:=QDq.mp hx
  have t:=aZ n [p.1,p.2] 2 2 (by simp) (by simp)
  simp[pairD,t]
 have t1:=aZ n (hd h) 0 3 (by omega) (by have:=O.h2;omega)
 have t2:=aZ n (aO (b7 g) ks) 1 5 (by have:=O.g1;omega) (by have:=O.g5;omega)
 have hb:j7=⟨1,1,(.cons (.ite ABO AAL .nil) (.cons (.ret Ai) .nil))⟩:=rfl
 have q:Ai.aB=none:=rfl
 rw[yh,hb]
 simp only[iV]at*
 simp[t1,t2,gl3,gl4,e,q]
def Tt:E:=.bi .all ADf
def TY:E:=.bi .all ACd
abbrev ZaJ(a b c d):=([.val (iV a b c d),.val (.lst (names a b))]:Ev)
def K8(n:Nat)(O:b8 h g ks ls)(X:D)(b:Bool)(t5:pg.fn (n+6) 7 [.val X,.val (.int (names h g).length)]=.ok (.val (.bl b)) [.val X,.val (.int (names h g).length)]):pg.fn (n+7) 1 [.val (iV h g ks X)]=.ok (.val (.bl b)) [.val (iV h g ks X)]:=by
 have lg:=dq O.g5
 have lh:=ig O.h2
 have T:=bz h g
 have Nd:=names_nodup O.h2 O.g1 O.g5
 have L:=dR (g:=g) O.h2 O.g5
 have t1:=aZ (n+5) [.tup (hd h),.tup (aO (b7 g) ks),X] 3 3 (by simp) (by simp)
 have t2:=yR (n+4) O X
 have t3:=fB (n+5) (hd h) (b7 g) ks X (by rw[O.kl,lg]) (by have:=O.h2;have:=O.g5;omega)
 have t4:=lG (n+5) (d:=.lst (names h g)) (.inr rfl) T Nd
 have e1:ev (pg.cf (n+6)) Tt [.val (iV h g ks X),.own (.lst (names h g))]=.ok (.val (.bl true)) (ZaJ h g ks X):=by
  refine all1 (d:=.lst (names h g)) (xs:=names h g) (r:=.val (.lst (names h g))) (by simp) rfl rfl fun x hx=>?_
  rw[mY]at hx
  obtain⟨s,hs,rfl⟩:=QDq.mp hx
  have w:=QJ (n+5) s (Dg hs)
  simp[w]
 have e2:ev (pg.cf (n+6)) TY (ZaJ h g ks X)=.ok (.val (.bl true)) (ZaJ h g ks X):=by
  refine all2 (d:=.tup (aO (b7 g) ks)) (ps:=(b7 g).zip ks) (r:=.val (.tup (aO (b7 g) ks))) (by simp[iV]) rfl (by show some _=some _;rw[cP]) fun x hx=>?_
  have hk:=O.kk x.2 (List.of_mem_zip hx).2
  have w:=Ax T Nd hk n 0 (by decide)
  rw[show n+4+2*1=n+6 from rfl]at w
  simp[w]
 have hb:tL=⟨1,2,(.cons (.ite ABn AAL .nil) (.cons (.set 1 (.call 13 AAT)) (.cons (.ite (.or (.cons (.not Tt) AEd)) AAL .nil) (.cons (.ret (.and (.cons TY AEI))) .nil))))⟩:=rfl
 rw[JD,hb]
 have nn:hd h++b7 g=names h g:=rfl
 rw[nn]at t3
 have g2:getD (iV h g ks X) (.int 2)=some X:=by simp[iV]
 have t1':pg.fn (n+6) 3 [.val (iV h g ks X),.val (.int 3),.val (.int 3)]=.ok (.val (.bl true)) [.val (iV h g ks X),.val (.int 3),.val (.int 3)]:=t1
 have t3':pg.fn (n+6) 13 [.val (iV h g ks X)]=.ok (.new (.lst (names h g))) [.val (iV h g ks X)]:=t3
 simp[t1',t2,t3',e1,t4,e2,g2,t5]
def Hi(n:Nat)(O:b8 h g ks ls):pg.fn (n+7) 1 [.val (aG h g ks ls)]=.ok (.val (.bl true)) [.val (aG h g ks ls)]:=
 K8 n O (aF ls) true (vd (n+4) ls (names h g).length (by rw[dR O.h2 O.g5,O.ll]))
def Bv(n:Nat)(O:b8 h g ks ls):pg.fn (n+8) 0 [.val (aG h g ks ls)]=.ok (.val (aG h g ks ls)) [.val (aG h g ks ls)]:=by
 have t:=Hi n O
 rw[Gy]
 simp[pq,t]
end
end Tx
end
section
open PySem Mini
namespace Tx
theorem goD(τ:Int->Ev){cond elt:Ev->Out Rv}(P:D->D->Prop)(all:Bool):∀(xs acc:List D)(k:Int)(s:Sl),0<=k->bC s->
  (∀x∈xs,∀k,0<=k->∃b k',0<=k'/\(all=true->b=true)/\cond (.val x::τ k)=.ok (.val (.bl b)) (.val x::τ k'))->
  (∀x∈xs,∀k,0<=k->∃y k',0<=k'/\P x y/\elt (.val x::τ k)=.ok (.val y) (.val x::τ k'))->
  ∃(zs:List (D×D))(k':Int)(s':Sl),(zs.map (·.1)).Sublist xs/\(all=true->zs.map (·.1)=xs)/\(∀p∈zs,P p.1 p.2)/\0<=k'/\aR (.name 0) cond elt xs acc (s::τ k)=.ok (acc++zs.map (·.2)) (s'::τ k')
 |[]=>fun acc k s hk _ _ _=>⟨[],k,s,List.Sublist.refl _,fun _=>rfl,fun p h=>(by cases h),hk,by simp[aR]⟩
 |x::xs=>fun acc k s hk hs hc he=>by
  obtain⟨b,k1,a1,a2,a3⟩:=hc x QYz k hk
  rw[aR,nY hs]
  simp only[a3,dC]
  cases b with
  |true=>
   obtain⟨y,k2,b1,b2,b3⟩:=he x QYz k1 a1
   obtain⟨zs,k',s',c1,c2,c3,c4,c5⟩:=goD τ (cond:=cond) (elt:=elt) P all xs (acc++[y]) k2 (.val x) b1 (.inr ⟨_,rfl⟩) (fun z hz=>hc z (QYq _ hz)) fun z hz=>he z (QYq _ hz)
   refine⟨(x,y)::zs,k',s',c1.cons_cons x,fun h=>by simp[c2 h],fun p hp=>?_,c4,?_⟩
   ·rcases QCq.mp hp with rfl|hp
    ·exact b2
    ·exact c3 p hp
   ·rw[if_pos rfl,b3,bT,c5]
    simp
  |false=>
   obtain⟨zs,k',s',c1,c2,c3,c4,c5⟩:=goD τ (cond:=cond) (elt:=elt) P all xs acc k1 (.val x) a1 (.inr ⟨_,rfl⟩) (fun z hz=>hc z (QYq _ hz)) fun z hz=>he z (QYq _ hz)
   exact⟨zs,k',s',c1.cons x,fun h=>by simpa using a2 h,c3,c4,by rw[if_neg (by simp),c5]⟩
def Mv{c:Cf}{σ:Ev}{it co el:E}{r:Rv}{d:D}{xs:List D}(τ:Int->Ev)(P:D->D->Prop)(all:Bool){k:Int}(hk:0<=k)(hi:ev c it σ=.ok r (τ k))(hr:r.jy=some d)(hd:items d=some xs)
  (hc:∀x∈xs,∀k,0<=k->∃b k',0<=k'/\(all=true->b=true)/\ev c co (.val x::τ k)=.ok (.val (.bl b)) (.val x::τ k'))
  (he:∀x∈xs,∀k,0<=k->∃y k',0<=k'/\P x y/\ev c el (.val x::τ k)=.ok (.val y) (.val x::τ k')):
  ∃(zs:List (D×D))(k':Int),(zs.map (·.1)).Sublist xs/\(all=true->zs.map (·.1)=xs)/\(∀p∈zs,P p.1 p.2)/\0<=k'/\ev c (.comp 1 (.name 0) it co el) σ=.ok (.new (.lst (zs.map (·.2)))) (τ k'):=by
 obtain⟨zs,k',s',a1,a2,a3,a4,a5⟩:=goD τ (cond:=ev c co) (elt:=ev c el) P all xs [] k .un hk (.inl rfl) hc he
 refine⟨zs,k',a1,a2,a3,a4,?_⟩
 rw[lH,hi]
 have b:∀{β:Type}(g:D->Ev->Out β),(Out.ok r (τ k)).aq g=g d (τ k):=fun g=>by cases r<;>simp[Rv.jy]at hr<;>subst hr<;>rfl
 rw[b]
 simp only[hd]
 rw[show List.replicate 1 Sl.un++τ k=.un::τ k from rfl,a5]
 simp
def ie(m:D×Nat):D:=.tup [m.1,.int m.2]
def dO(st:List (D×Nat)):D:=.tup (st.map ie)
def aJ(os:List D)(sts:List (List (D×Nat))):D:=.tup [.tup os,.tup (sts.map dO)]
structure bU(h g:Nat)(os:List D)(sts:List (List (D×Nat))):Prop where
 ou:os.Sublist (b7 g)
 s1:1<=sts.length
 s4:sts.length<=4
 mv:∀st∈sts,(st.map (·.1)).Sublist (hd h++os)/\∀m∈st,m.2<sts.length
def Qt:E:=.comp 1 (.name 0) AAf ABe AAb
def SJ:E:=.comp 1 (.name 0) ADp nF (.var 0)
def Ww:E:=(.tup ACf)
def Wx:E:=.comp 1 (.name 0) (.var 8) AAP Ww
def xF:S:=(.cons (.set 8 SJ) (.cons (.append 6 (.bi .tuple Wx)) .nil))
def Vj{zs:List (D×D)}{xs:List D}(h:(zs.map (·.1)).Sublist xs)(e:∀p∈zs,p.2=p.1):(zs.map (·.2)).Sublist xs:=by
 rw[show zs.map (·.2)=zs.map (·.1)from List.map_congr_left e];exact h
section
variable(n:Nat)(ns:List Int)(hs os gs:List D)(x:D)(s3 s5 s6 s7 s8:Sl)
def Jh(k:Int)(hk:0<=k)(hl:hs.length+os.length<=900):∃(ys:List D)(k':Int),ys.Sublist (hs++os)/\0<=k'/\
  ev (pg.cf (n+3)) SJ [.val (sc ns),.bor (.lst [.int k]),.val (.tup [.tup hs,.tup gs,x]),s3,.val (.tup os),s5,s6,s7,s8]=.ok (.new (.lst ys)) [.val (sc ns),.bor (.lst [.int k']),.val (.tup [.tup hs,.tup gs,x]),s3,.val (.tup os),s5,s6,s7,s8]:=by
 have f:fits (hs.length+os.length)=true:=by simp[fits];omega
 obtain⟨zs,k',a1,a2,a3,a4,a5⟩:=Mv (c:=pg.cf (n+3)) (it:=ADp) (co:=nF) (el:=.var 0) (σ:=[.val (sc ns),.bor (.lst [.int k]),.val (.tup [.tup hs,.tup gs,x]),s3,.val (.tup os),s5,s6,s7,s8]) (k:=k) (fun k=>[.val (sc ns),.bor (.lst [.int k]),.val (.tup [.tup hs,.tup gs,x]),s3,.val (.tup os),s5,s6,s7,s8])
  (fun x y=>y=x) false hk (r:=.val (.tup (hs++os))) (d:=.tup (hs++os)) (xs:=hs++os) (by simp[f]) rfl rfl
  (fun x _ k hk=>by obtain⟨b,e⟩:=wQ n ns k hk x [.val (.tup [.tup hs,.tup gs,_]),s3,.val (.tup os),s5,s6,s7,s8];exact⟨b,k+1,by omega,by simp,e⟩) fun x _ k hk=>⟨x,k,hk,rfl,by simp⟩
 exact⟨_,k',Vj a1 a3,a4,a5⟩
theorem QK(k:Int)(hk:0<=k)(ys:List D)(many:Nat)(h1:1<=many)(net:D)(s4:Sl):∃(st:List (D×Nat))(k':Int),st.map (·.1)=ys/\(∀m∈st,m.2<many)/\0<=k'/\
  ev (pg.cf (n+3)) Wx [.val (sc ns),.bor (.lst [.int k]),.val net,s3,s4,.val (.int many),s6,s7,.own (.lst ys)]=.ok (.new (.lst (st.map ie))) [.val (sc ns),.bor (.lst [.int k']),.val net,s3,s4,.val (.int many),s6,s7,.val (.lst ys)]:=by
 obtain⟨zs,k',a1,a2,a3,a4,a5⟩:=Mv (c:=pg.cf (n+3)) (it:=.var 8) (co:=.con (.bl true)) (el:=Ww) (σ:=[.val (sc ns),.bor (.lst [.int k]),.val net,s3,s4,.val (.int many),s6,s7,.own (.lst ys)]) (k:=k) (fun k=>[.val (sc ns),.bor (.lst [.int k]),.val net,s3,s4,.val (.int many),s6,s7,.val (.lst ys)])
  (fun x y=>∃j:Nat,j<many/\y=ie (x,j)) true hk (r:=.val (.lst ys)) (d:=.lst ys) (xs:=ys) (by simp) rfl rfl
  (fun x _ k hk=>⟨true,k,hk,fun _=>rfl,by simp⟩) fun x _ k hk=>by
   obtain⟨q,q1,q2,e⟩:=bF n ns k many hk (by omega)
   obtain⟨j,rfl⟩:∃j:Nat,q=j:=⟨q.toNat,by omega⟩
   exact⟨_,k+1,by omega,⟨j,by omega,rfl⟩,by simp[Ww,e,aP,ie]⟩
 have pick:∀(zs:List (D×D)),(∀p∈zs,∃j:Nat,j<many/\p.2=ie (p.1,j))->∃st:List (D×Nat),st.map (·.1)=zs.map (·.1)/\(∀m∈st,m.2<many)/\st.map ie=zs.map (·.2):=by
  intro zs
  induction zs with
  |nil=>exact fun _=>⟨[],rfl,fun m h=>(by cases h),rfl⟩
  |cons z zs ih=>
   intro h
   obtain⟨j,j1,j2⟩:=h z QYz
   obtain⟨st,b1,b2,b3⟩:=ih fun p hp=>h p (QYq _ hp)
   refine⟨(z.1,j)::st,by simp[b1],fun m hm=>?_,by simp[b3,j2]⟩
   rcases QCq.mp hm with rfl|hm
   ·exact j1
   ·exact b2 m hm
 obtain⟨st,b1,b2,b3⟩:=pick zs a3
 exact⟨st,k',by rw[b1,a2 rfl],b2,a4,by rw[b3];exact a5⟩
def FT(k:Int)(hk:0<=k)(hl:hs.length+os.length<=900)(many:Nat)(h1:1<=many)(acc:List D)(ha:acc.length<=1000)(h8:bC s8):∃(st:List (D×Nat))(k':Int)(s':Sl),(st.map (·.1)).Sublist (hs++os)/\(∀m∈st,m.2<many)/\0<=k'/\bC s'/\
  ex (pg.cf (n+3)) xF [.val (sc ns),.bor (.lst [.int k]),.val (.tup [.tup hs,.tup gs,x]),s3,.val (.tup os),.val (.int many),.own (.lst acc),s7,s8]=.next [.val (sc ns),.bor (.lst [.int k']),.val (.tup [.tup hs,.tup gs,x]),s3,.val (.tup os),.val (.int many),.own (.lst (acc++[dO st])),s7,s']:=by
 obtain⟨ys,k1,a1,a2,a3⟩:=Jh n ns hs os gs x s3 (.val (.int many)) (.own (.lst acc)) s7 s8 k hk hl
 obtain⟨st,k',b1,b2,b3,b4⟩:=QK n ns s3 (.own (.lst acc)) s7 k1 a2 ys many h1 (.tup [.tup hs,.tup gs,x]) (.val (.tup os))
 have f:fits (acc.length+1)=true:=by simp[fits];omega
 have q:Wx.aB=none:=rfl
 refine⟨st,k',.val (.lst ys),by rw[b1];exact a1,b2,b3,.inr ⟨_,rfl⟩,?_⟩
 rcases h8 with rfl|⟨e,rfl⟩<;>simp[xF,a3,b4,dX,ue,f,q,dO]
theorem ux(hl:hs.length+os.length<=900)(many:Nat)(h1:1<=many):∀(xs:List D)(acc:List (List (D×Nat)))(k:Int)(s7 s8:Sl),0<=k->bC s7->bC s8->acc.length+xs.length<=1000->∃(sts:List (List (D×Nat)))(k':Int)(t7 t8:Sl),sts.length=xs.length/\(∀st∈sts,(st.map (·.1)).Sublist (hs++os)/\∀m∈st,m.2<many)/\0<=k'/\
  aY (.name 7) (ex (pg.cf (n+3)) xF) xs [.val (sc ns),.bor (.lst [.int k]),.val (.tup [.tup hs,.tup gs,x]),s3,.val (.tup os),.val (.int many),.own (.lst (acc.map dO)),s7,s8]=.next [.val (sc ns),.bor (.lst [.int k']),.val (.tup [.tup hs,.tup gs,x]),s3,.val (.tup os),.val (.int many),.own (.lst ((acc++sts).map dO)),t7,t8]
 |[]=>fun acc k s7 s8 hk _ _ _=>⟨[],k,s7,s8,rfl,fun st h=>(by cases h),hk,by simp[aY]⟩
 |y::xs=>fun acc k s7 s8 hk h7 h8 hx=>by
  simp only[QBq]at hx
  obtain⟨st,k1,s',a1,a2,a3,a4,a5⟩:=FT n ns hs os gs x s3 (.val y) s8 k hk hl many h1 (acc.map dO) (by simp;omega) h8
  obtain⟨sts,k',t7,t8,b1,b2,b3,b4⟩:=ux hl many h1 xs (acc++[st]) k1 (.val y) s' a3 (.inr ⟨_,rfl⟩) a4 (by simp;omega)
  refine⟨st::sts,k',t7,t8,by simp[b1],fun q hq=>?_,b3,?_⟩
  ·rcases QCq.mp hq with rfl|hq
   ·exact⟨a1,a2⟩
   ·exact b2 q hq
  ·rw[aY]
   have st1:bw (.name 7) y [.val (sc ns),.bor (.lst [.int k]),.val (.tup [.tup hs,.tup gs,x]),s3,.val (.tup os),.val (.int many),.own (.lst (acc.map dO)),s7,s8]=some [.val (sc ns),.bor (.lst [.int k]),.val (.tup [.tup hs,.tup gs,x]),s3,.val (.tup os),.val (.int many),.own (.lst (acc.map dO)),.val y,s8]:=by
    rcases h7 with rfl|⟨e,rfl⟩<;>simp[bw]
   rw[st1]
   simp only
   rw[a5,nU]
   rw[show acc.map dO++[dO st]=(acc++[st]).map dO by simp,b4]
   simp
end
theorem oh:∀(m:Nat)(lo:Int),(bJ lo m).length=m
 |0=>fun _=>rfl
 |m+1=>fun lo=>by simp[bJ,oh m]
abbrev Zar(a b c d e f g h i j k l):=([.val (sc a),.bor (.lst [.int b]),.val (.tup [.tup c,.tup (aO d e),f]),g,h,i,j,k,l]:Ev)
def Qs(n:Nat)(ns:List Int)(k:Int)(hk:0<=k)(hs gs ks:List D)(x:D)(hl:ks.length=gs.length)(s3 s4 s5 s6 s7 s8:Sl):∃(os:List D)(k':Int),os.Sublist gs/\0<=k'/\
  ev (pg.cf (n+3)) Qt (Zar ns k hs gs ks x s3 s4 s5 s6 s7 s8)=.ok (.new (.lst os)) (Zar ns k' hs gs ks x s3 s4 s5 s6 s7 s8):=by
 obtain⟨zs,k',a1,a2,a3,a4,a5⟩:=Mv (c:=pg.cf (n+3)) (it:=AAf) (co:=ABe) (el:=AAb) (σ:=(Zar ns k hs gs ks x s3 s4 s5 s6 s7 s8)) (k:=k) (fun k=>(Zar ns k hs gs ks x s3 s4 s5 s6 s7 s8))
  (fun x y=>y=oX x) false hk (r:=.val (.tup (aO gs ks))) (d:=.tup (aO gs ks)) (xs:=aO gs ks) (by simp) rfl rfl
  (fun x _ k hk=>by
   obtain⟨q,_,_,e⟩:=bF n ns k 3 hk (by omega)
   exact⟨decide (0<q),k+1,by omega,by simp,by simp[e]⟩) fun x hx k hk=>by
   rw[cP]at hx
   obtain⟨p,_,rfl⟩:=QDq.mp hx
   exact⟨_,k,hk,rfl,by simp[pairD,oX]⟩
 refine⟨_,k',?_,a4,a5⟩
 have:=a1.map oX
 rw[vM gs ks hl]at this
 rw[show zs.map (·.2)=(zs.map (·.1)).map oX by rw[List.map_map];exact List.map_congr_left a3]
 exact this
def OD(n:Nat)(ns:List Int)(k:Int)(hk:0<=k){h g:Nat}{ks:List D}{ls:List Bool}(O:b8 h g ks ls):∃os sts k',bU h g os sts/\0<=k'/\
  pg.fn (n+4) 37 [.val (sc ns),.bor (.lst [.int k]),.val (aG h g ks ls),.val (.int 4)]=.ok (.val (aJ os sts)) [.val (sc ns),.bor (.lst [.int k']),.val (aG h g ks ls),.val (.int 4)]:=by
 have lg:=dq O.g5
 have lh:=ig O.h2
 obtain⟨os,k1,a1,a2,a3⟩:=Qs n ns k hk (hd h) (b7 g) ks (.tup (ls.map .bl)) (by rw[O.kl,lg]) (.val (.int 4)) .un .un .un .un .un
 obtain⟨q,q1,q2,eq⟩:=bF n ns k1 4 a2 (by omega)
 obtain⟨m,rfl⟩:∃m:Nat,q=m:=⟨q.toNat,by omega⟩
 have lo:=a1.length_le
 have:=O.h2
 have:=O.g5
 obtain⟨sts,k',t7,t8,b1,b2,b3,b4⟩:=ux n ns (hd h) os (aO (b7 g) ks) (.tup (ls.map .bl)) (.val (.int 4)) (by omega) (1+m) (by omega) (bJ 0 (1+m)) [] (k1+1) .un .un (by omega) (.inl rfl) (.inl rfl) (by simp[oh];omega)
 rw[oh]at b1
 refine⟨os,sts,k',⟨a1,by omega,by omega,fun st hst=>?_⟩,b3,?_⟩
 ·rw[b1];exact b2 st hst
 ·have hb:lX=⟨4,9,.cons (.set 4 (.bi .tuple Qt)) (.cons (.set 5 AAy) (.cons (.set 6 AAa) (.cons (.for_ (.name 7) (.range1 (.var 5)) xF) ACh)))⟩:=rfl
  rw[z8,hb]
  have q0:Qt.aB=none:=rfl
  have fm:fits (1+m)=true:=by simp[fits];omega
  have md:zH (1+(m:Int))=true:=by simp[zH];omega
  have tn:(1+(m:Int)).toNat=1+m:=by omega
  have b4':aY (.name 7) (ex (pg.cf (n+3)) xF) (bJ 0 (1+m)) [.val (sc ns),.bor (.lst [.int (k1+1)]),.val (aG h g ks ls),.val (.int 4),.val (.tup os),.val (.int (1+(m:Int))),.own (.lst []),.un,.un]=.next [.val (sc ns),.bor (.lst [.int k']),.val (aG h g ks ls),.val (.int 4),.val (.tup os),.val (.int (1+(m:Int))),.own (.lst (sts.map dO)),t7,t8]:=by simpa[aG]using b4
  have a3':ev (pg.cf (n+3)) Qt [.val (sc ns),.bor (.lst [.int k]),.val (aG h g ks ls),.val (.int 4),.un,.un,.un,.un,.un]=.ok (.new (.lst os)) [.val (sc ns),.bor (.lst [.int k1]),.val (aG h g ks ls),.val (.int 4),.un,.un,.un,.un,.un]:=a3
  simp[a3',q0,eq,aP,fm,md,tn,b4',items,aJ]
end Tx
end
section
open PySem Mini
namespace Tx
def DR:E:=(.comp 1 (.name 0) (.var 2) AAP nF)
def KD(n:Nat)(ns:List Int)(k:Int)(hk:0<=k)(xs:List D)(s3 s4:Sl):∃(bs:List Bool)(k':Int),bs.length=xs.length/\0<=k'/\
  ev (pg.cf (n+3)) DR (Zat ns k (.own (.lst xs)) s3 s4)=.ok (.new (.lst (bs.map .bl))) (Zat ns k' (.val (.lst xs)) s3 s4):=by
 obtain⟨bs,k',s',a1,a2,a3,a4⟩:=sE n ns [.val (.lst xs),s3,s4] xs [] k .un hk (.inl rfl)
 refine⟨bs,k',a1,a2,?_⟩
 have h:ev (pg.cf (n+3)) (.var 2) (Zat ns k (.own (.lst xs)) s3 s4)=.ok (.val (.lst xs)) (Zat ns k (.val (.lst xs)) s3 s4):=by simp
 unfold DR
 rw[lH,h,bT]
 simp only[items]
 rw[show List.replicate 1 Sl.un++(Zat ns k (.val (.lst xs)) s3 s4)=.un:: .val (sc ns):: .bor (.lst [.int k])::[.val (.lst xs),s3,s4]from rfl,a4]
 simp
def Ju:S:=AAh
def rk(a b:String):D:=.tup [.str "held",.tup [.str "same",.str a],.str b,.bl false]
def uG:Nat->List D
 |3=>[rk "rr" "q",rk "p" "rr",rk "q" "p"]
 |4=>[rk "go" "q",rk "p" "rr",rk "q" "go",rk "rr" "p"]
 |_=>[rk "abcdef" "q",rk "p" "rr",rk "q" "go",rk "rr" "abcdef",rk "go" "p"]
def Gp(c:Cf)(s0 s1:Sl)(g:Nat)(hg:g=3\/g=4\/g=5):∃s4,aY (.name 4) (ex c Ju) (bJ 0 g) [s0,s1,.own (.lst (b7 g)),.own (.lst []),.un]=.next [s0,s1,.own (.lst (b7 g)),.own (.lst (aO (b7 g) (uG g))),s4]:=by
 refine⟨.val (.int (g-1)),?_⟩
 rcases hg with rfl|rfl|rfl
 all_goals
  simp[Ju,aY,bJ,bw,bN,b7,at?,ix?,aP,dX,ue,uG,rk,aO]
  try rfl
def zY(g:Nat)(hg:g=3\/g=4\/g=5):∀d∈uG g,bR (hd 0++b7 g) 1 d:=by
 intro d h
 rcases hg with rfl|rfl|rfl<;>simp only[uG,QCq,QAz,or_false]at h<;>rcases h with rfl|rfl|rfl|rfl|rfl<;>exact .held (.same (by simp[hd,b7])) (by simp[hd,b7])
abbrev Zav(a b):=([.val (sc a),.bor (.lst [.int b])]:Ev)
def PJ(n:Nat)(ns:List Int)(k:Int)(hk:0<=k):∃g ks ls k',b8 0 g ks ls/\3<=g/\0<=k'/\pg.fn (n+4) 38 (Zav ns k)=.ok (.val (aG 0 g ks ls)) (Zav ns k'):=by
 obtain⟨r,r1,r2,er⟩:=bF n ns k 3 hk (by omega)
 obtain⟨g,hg,hr⟩:∃g:Nat,(g=3\/g=4\/g=5)/\3+r=g:=⟨(3+r).toNat,by omega,by omega⟩
 have lg:(b7 g).length=g:=dq (by omega)
 obtain⟨s4,a⟩:=Gp (pg.cf (n+3)) (.val (sc ns)) (.bor (.lst [.int (k+1)])) g hg
 obtain⟨bs,k',b1,b2,b3⟩:=KD n ns (k+1) (by omega) (b7 g) (.own (.lst (aO (b7 g) (uG g)))) s4
 refine⟨g,uG g,bs,k',⟨by omega,by omega,by omega,?_,zY g hg,by omega⟩,by omega,b2,?_⟩
 ·rcases hg with rfl|rfl|rfl<;>rfl
 ·have hb:lZ=⟨2,5,(.cons ABm (.cons (.set 3 AAa) (.cons (.for_ (.name 4) (.range1 ACL) Ju) (.cons (.ret (.tup (.cons (.tup .nil) (.cons (.bi .tuple (.var 3)) (.cons (.bi .tuple DR) .nil))))) .nil))))⟩:=rfl
  rw[Aa,hb]
  have sl:dM (.lst [.str "p",.str "q",.str "rr",.str "go",.str "abcdef"]) none (some (g:Int))=some (.new (.lst (b7 g))):=by
   rcases hg with rfl|rfl|rfl<;>rfl
  have fg:fits g=true:=by simp[fits];omega
  have md:zH (g:Int)=true:=by simp[zH];omega
  have q:DR.aB=none:=rfl
  simp[er,hr,sl,aP,bZ,E.fQ,lg,fg,md,items,a,b3,q,aG,hd]
def o4:S:=(.cons (.set 7 AAd) AAk)
def Rz(xs:List D)(b:D):at? (xs++[b]) (-1)=some b:=by
 unfold at? ix?
 have e:(-1+((xs.length:Int)+1)).toNat=xs.length:=by omega
 have e2:(0:Int)<= -1+((xs.length:Int)+1):=by omega
 have e3: -1+((xs.length:Int)+1)< (xs.length:Int)+1:=by omega
 simp[e,e2,e3]
def Bx(n:Nat)(ns:List Int)(k:Int)(hk:0<=k)(s2 s7:Sl)(h7:bC s7)(a x:D)(ls:List Bool)(l:Bool)(acc:List D)(hl:ls.length<=1000)(ha:acc.length<=1000):
  ∃(w:Str)(b:Bool)(t7:Sl),(w="same"\/w="not")/\bC t7/\ex (pg.cf (n+3)) o4 [.val (sc ns),.bor (.lst [.int k]),s2,.val a,.own (.lst ((ls++[l]).map .bl)),.own (.lst acc),.val x,s7]
   =.next [.val (sc ns),.bor (.lst [.int (k+1)]),s2,.val x,.own (.lst ((ls++[l]++[b]).map .bl)),.own (.lst (acc++[.tup [x,.tup [.str w,a]]])),.val x,t7]:=by
 obtain⟨r,r1,r2,er⟩:=bF n ns k 2 hk (by omega)
 have fa:fits (acc.length+1)=true:=by simp[fits];omega
 have fb:fits (ls.length+1+1)=true:=by simp[fits];omega
 have al:at? (ls.map D.bl++[.bl l]) (-1)=some (.bl l):=Rz _ _
 rcases (by omega:r=0\/r=1)with rfl|rfl
 ·refine⟨"same",l==true,.val (.int 0),.inl rfl,.inr ⟨_,rfl⟩,?_⟩
  rcases h7 with rfl|⟨e,rfl⟩<;>simp[o4,er,aP,fa,fb,dX,ue,al]
 ·refine⟨"not",l==false,.val (.int 1),.inr rfl,.inr ⟨_,rfl⟩,?_⟩
  rcases h7 with rfl|⟨e,rfl⟩<;>simp[o4,er,aP,fa,fb,dX,ue,al]
theorem sX(n:Nat)(ns:List Int)(s2:Sl):∀(xs acc:List D)(k:Int)(s6 s7:Sl)(a:D)(ls:List Bool)(l:Bool),0<=k->bC s6->bC s7->ls.length+xs.length<=1000->acc.length+xs.length<=1000->
  ∃(ks:List D)(bs:List Bool)(k':Int)(t3 t6 t7:Sl),ks.length=xs.length/\bs.length=xs.length/\0<=k'/\(∀d∈ks,∃y∈a::xs,d=.tup [.str "same",y]\/d=.tup [.str "not",y])/\
   aY (.name 6) (ex (pg.cf (n+3)) o4) xs [.val (sc ns),.bor (.lst [.int k]),s2,.val a,.own (.lst ((ls++[l]).map .bl)),.own (.lst acc),s6,s7]=.next [.val (sc ns),.bor (.lst [.int k']),s2,t3,.own (.lst ((ls++[l]++bs).map .bl)),.own (.lst (acc++aO xs ks)),t6,t7]
 |[]=>fun acc k s6 s7 a ls l hk _ _ _ _=>⟨[],[],k,.val a,s6,s7,rfl,rfl,hk,fun d h=>(by cases h),by simp[aY,aO]⟩
 |x::xs=>fun acc k s6 s7 a ls l hk h6 h7 hl ha=>by
  simp only[QBq]at hl ha
  obtain⟨w,b,t,a1,a2,a3⟩:=Bx n ns k hk s2 s7 h7 a x ls l acc (by omega) (by omega)
  obtain⟨ks,bs,k',t3,t6,t7,b1,b2,b3,b4,b5⟩:=sX n ns s2 xs (acc++[.tup [x,.tup [.str w,a]]]) (k+1) (.val x) t x (ls++[l]) b (by omega) (.inr ⟨_,rfl⟩) a2 (by simp;omega) (by simp;omega)
  refine⟨.tup [.str w,a]::ks,b::bs,k',t3,t6,t7,by simp[b1],by simp[b2],b3,fun d hd=>?_,?_⟩
  ·rcases QCq.mp hd with rfl|hd
   ·exact⟨a,QYz,by rcases a1 with rfl|rfl<;>simp⟩
   ·obtain⟨y,hy,e⟩:=b4 d hd
    exact⟨y,QYq _ hy,e⟩
  ·have st:bw (.name 6) x [.val (sc ns),.bor (.lst [.int k]),s2,.val a,.own (.lst ((ls++[l]).map .bl)),.own (.lst acc),s6,s7]=some [.val (sc ns),.bor (.lst [.int k]),s2,.val a,.own (.lst ((ls++[l]).map .bl)),.own (.lst acc),.val x,s7]:=by
    rcases h6 with rfl|⟨e,rfl⟩<;>simp[bw]
   rw[aY,st]
   simp only
   rw[a3,nU,b5]
   simp[aO]
def agw(d:D):Prop:=∃h g ks ls os sts,b8 h g ks ls/\bU h g os sts/\d=.tup [aG h g ks ls,aJ os sts]
def My(n:Nat)(ns:List Int)(k:Int)(hk:0<=k):∃h g ks ls os sts k',b8 h g ks ls/\bU h g os sts/\0<=k'/\pg.fn (n+4) 39 (Zav ns k)=.ok (.val (.tup [aG h g ks ls,aJ os sts])) (Zav ns k'):=by
 obtain⟨r,r1,r2,er⟩:=bF n ns k 4 hk (by omega)
 obtain⟨g,hg,hr⟩:∃g:Nat,(g=1\/g=2\/g=3\/g=4)/\1+r=g:=⟨(1+r).toNat,by omega,by omega⟩
 have lg:(b7 g).length=g:=dq (by omega)
 obtain⟨q,q1,q2,eq⟩:=bF n ns (k+1) 2 (by omega) (by omega)
 obtain⟨ks,bs,k',t3,t6,t7,b1,b2,b3,b4,b5⟩:=sX n ns (.val (.lst (b7 g))) (b7 g) [] (k+1+1) .un .un (.str "a") [] (q==1) (by omega) (.inl rfl) (.inl rfl) (by simp;omega) (by simp;omega)
 obtain⟨z,z1,z2⟩:∃z,at? (b7 g) (-1)=some z/\z∈b7 g:=by
  rcases hg with rfl|rfl|rfl|rfl
  ·exact⟨.str "p",rfl,by simp[b7]⟩
  ·exact⟨.str "q",rfl,by simp[b7]⟩
  ·exact⟨.str "rr",rfl,by simp[b7]⟩
  ·exact⟨.str "go",rfl,by simp[b7]⟩
 refine⟨1,g,ks,(q==1)::bs,[z],[[(.str "a",1)],[(z,0)]],k',⟨by omega,by omega,by omega,by omega,fun d dm=>?_,by simp[b2,lg];omega⟩,⟨by simpa using z2,by simp,by simp,fun st h=>?_⟩,b3,?_⟩
 ·obtain⟨y,hy,e⟩:=b4 d dm
  have hy':y∈hd 1++b7 g:=by simpa[hd]using hy
  rcases e with rfl|rfl
  ·exact .same hy'
  ·exact .not hy'
 ·simp only[QCq,QAz,or_false]at h
  rcases h with rfl|rfl<;>simp[hd]
 ·have hb:j5=⟨2,8,(.cons AAo (.cons (.set 3 ACV) (.cons (.set 4 (.lis (.cons ACt .nil))) (.cons (.set 5 AAa) (.cons (.for_ (.name 6) (.var 2) o4) (.cons AAz .nil))))))⟩:=rfl
  rw[yf,hb]
  have sl:dM (.lst [.str "p",.str "q",.str "rr",.str "go"]) none (some (g:Int))=some (.new (.lst (b7 g))):=by
   rcases hg with rfl|rfl|rfl|rfl<;>rfl
  have b5':aY (.name 6) (ex (pg.cf (n+3)) o4) (b7 g) [.val (sc ns),.bor (.lst [.int (k+1+1)]),.val (.lst (b7 g)),.val (.str "a"),.own (.lst [.bl (q==1)]),.own (.lst []),.un,.un]=.next [.val (sc ns),.bor (.lst [.int k']),.val (.lst (b7 g)),t3,.own (.lst (.bl (q==1)::bs.map .bl)),.own (.lst (aO (b7 g) ks)),t6,t7]:=by simpa using b5
  simp[er,hr,eq,sl,aP,bZ,E.fQ,items,b5',z1,aG,aJ,dO,ie,hd]
end Tx
end
section
open PySem Mini
namespace Tx
def jo:S->S
 |.cons _ t=>t
 |s=>s
def hdS:S->S
 |.cons t _=>t
 |s=>s
def yz:S:=jo (jo (jo aQ.body))
def G4(n:Nat)(ns:List Int)(k:Int)(hk:0<=k):∃(kd:D)(s2:Sl),(∀g,bR (hd 2++b7 g) 1 kd)/\
  ex (pg.cf (n+3)) aQ.body (ZaA (.val (sc ns)) (.bor (.lst [.int k])) .un .un)=ex (pg.cf (n+3)) yz (ZaA (.val (sc ns)) (.bor (.lst [.int (k+1)])) s2 (.val kd)):=by
 obtain⟨r,r1,r2,er⟩:=bF n ns k 6 hk (by omega)
 have hb:aQ.body=.cons (hdS aQ.body) (.cons (hdS (jo aQ.body)) (.cons (hdS (jo (jo aQ.body))) yz)):=rfl
 have sb:∀g,([.str "a",.str "b"]:List D).Sublist (hd 2++b7 g):=fun g=>List.sublist_append_left _ _
 have at6:∀(xs:List D)(i:Nat),i<xs.length->at? xs (i:Int)=xs[i]? :=gD
 have hh:∀g,bR (hd 2++b7 g) 1 (.tup [.str "held",.tup [.str "same",.str "a"],.str "b",.bl true]):=fun g=>.held (.same (by simp[hd])) (by simp[hd])
 rcases (by omega:r=0\/r=1\/r=2\/r=3\/r=4\/r=5)with rfl|rfl|rfl|rfl|rfl|rfl
 ·refine⟨.tup [.str "both",.tup [.str "a",.str "b"]],.val (.int 0),fun g=>.both (sb g) (by simp) (by simp),?_⟩
  rw[hb];simp[aQ,hdS,jo,er,aP,at?,ix?]
 ·refine⟨.tup [.str "both",.tup [.str "a",.str "b"]],.val (.int 1),fun g=>.both (sb g) (by simp) (by simp),?_⟩
  rw[hb];simp[aQ,hdS,jo,er,aP,at?,ix?]
 ·refine⟨.tup [.str "and",.tup [.str "a",.str "b"]],.val (.int 2),fun g=>.and (sb g) (by simp) (by simp),?_⟩
  rw[hb];simp[aQ,hdS,jo,er,aP,at?,ix?]
 ·refine⟨.tup [.str "or",.tup [.str "a",.str "b"]],.val (.int 3),fun g=>.or (sb g) (by simp) (by simp),?_⟩
  rw[hb];simp[aQ,hdS,jo,er,aP,at?,ix?]
 ·refine⟨_,.val (.int 4),hh,?_⟩
  rw[hb];simp[aQ,hdS,jo,er,aP,at?,ix?]
 ·refine⟨_,.val (.int 5),hh,?_⟩
  rw[hb];simp[aQ,hdS,jo,er,aP,at?,ix?]
def eE:List (List (D×Nat)):=[[(.str "a",1),(.str "b",2)],[(.str "b",3)],[(.str "a",3)],[(.str "p",0)]]
def oJ(g:Nat)(h1:1<=g):bU 2 g [.str "p"] eE:=by
 refine⟨?_,by simp[eE],by simp[eE],fun st h=>?_⟩
 ·obtain⟨j,rfl⟩:∃j,g=j+1:=⟨g-1,by omega⟩
  simp[b7]
 ·simp only[eE,QCq,QAz,or_false]at h
  rcases h with rfl|rfl|rfl|rfl<;>simp[hd,eE]
def An(n:Nat)(ns:List Int)(k:Int)(hk:0<=k):∃h g ks ls os sts k',b8 h g ks ls/\bU h g os sts/\0<=k'/\pg.fn (n+4) 40 (Zav ns k)=.ok (.val (.tup [aG h g ks ls,aJ os sts])) (Zav ns k'):=by
 obtain⟨kd,s2,a1,a2⟩:=G4 n ns k hk
 obtain⟨q,q1,q2,eq⟩:=bF n ns (k+1) 2 (by omega) (by omega)
 rcases (by omega:q=0\/q=1)with rfl|rfl
 ·obtain⟨z,z1,z2,ez⟩:=bF n ns (k+1+1) 2 (by omega) (by omega)
  refine⟨2,1,[kd],[z==1,z==1,z==1],[.str "p"],eE,k+1+1+1,⟨by omega,by omega,by omega,rfl,fun d h=>?_,rfl⟩,oJ 1 (by omega),by omega,?_⟩
  ·cases QDz.mp h;exact a1 1
  ·rw[gZ,a2]
   simp[yz,aQ,jo,eq,ez,aP,aG,hd,b7,aO,aJ,dO,ie,eE]
 ·obtain⟨w,w1,w2,ew⟩:=bF n ns (k+1+1) 2 (by omega) (by omega)
  obtain⟨z,z1,z2,ez⟩:=bF n ns (k+1+1+1) 2 (by omega) (by omega)
  rcases (by omega:w=0\/w=1)with rfl|rfl
  ·refine⟨2,2,[kd,.tup [.str "same",.str "p"]],[z==1,z==1,z==1,z==1],[.str "p"],eE,k+1+1+1+1,⟨by omega,by omega,by omega,rfl,fun d h=>?_,rfl⟩,oJ 2 (by omega),by omega,?_⟩
   ·simp only[QCq,QAz,or_false]at h
    rcases h with rfl|rfl
    ·exact a1 2
    ·exact .same (by simp[hd,b7])
   ·rw[gZ,a2]
    simp[yz,aQ,jo,eq,ew,ez,aP,aG,hd,b7,aO,aJ,dO,ie,eE,dX,ue]
  ·refine⟨2,2,[kd,.tup [.str "not",.str "p"]],[z==1,z==1,z==1, !(z==1)],[.str "p"],eE,k+1+1+1+1,⟨by omega,by omega,by omega,rfl,fun d h=>?_,rfl⟩,oJ 2 (by omega),by omega,?_⟩
   ·simp only[QCq,QAz,or_false]at h
    rcases h with rfl|rfl
    ·exact a1 2
    ·exact .not (by simp[hd,b7])
   ·rw[gZ,a2]
    simp[yz,aQ,jo,eq,ew,ez,aP,aG,hd,b7,aO,aJ,dO,ie,eE,dX,ue]
end Tx
end
section
open PySem Mini
namespace Tx
theorem Ci:∀(gs ks:List D)(i:Nat)(x d:D),gs[i]? =some x->ks.length=gs.length->(aO gs ks).set i (.tup [x,d])=aO gs (ks.set i d)
 |[],_,_=>fun _ _ h _=>by simp at h
 |g::gs,[],_=>fun _ _ _ h=>by simp at h
 |g::gs,k::ks,0=>fun x d h _=>by simp at h;subst h;simp[aO]
 |g::gs,k::ks,i+1=>fun x d h hl=>by simp[aO,Ci gs ks i x d (by simpa using h) (by simpa using hl)]
theorem zip_get:∀(gs ks:List D)(i:Nat),i<gs.length->ks.length=gs.length->∃x d,(aO gs ks)[i]? =some (.tup [x,d])/\gs[i]? =some x
 |[],_,_=>fun h _=>by simp at h
 |g::gs,[],_=>fun _ h=>by simp at h
 |g::gs,k::ks,0=>fun _ _=>⟨g,k,by simp[aO],rfl⟩
 |g::gs,k::ks,i+1=>fun h hl=>by
  obtain⟨x,d,a,b⟩:=zip_get gs ks i (by simpa using h) (by simpa using hl)
  exact⟨x,d,by simp[aO,a],by simpa using b⟩
def Gd(n:Nat)(ns:List Int)(k:Int)(hk:0<=k){h g:Nat}{ks:List D}{ls:List Bool}(O:b8 h g ks ls):∃ks' k',b8 h g ks' ls/\0<=k'/\
  pg.fn (n+8) 41 [.val (sc ns),.bor (.lst [.int k]),.val (aG h g ks ls)]=.ok (.val (aG h g ks' ls)) [.val (sc ns),.bor (.lst [.int k']),.val (aG h g ks ls)]:=by
 have lg:=dq O.g5
 have lh:=ig O.h2
 have h2:=O.h2
 have g1:=O.g1
 have g5:=O.g5
 have kl:=O.kl
 have lz:(aO (b7 g) ks).length=g:=by rw[Cj (by rw[lg,kl]),lg]
 obtain⟨q,q1,q2,eq⟩:=bF (n+4) ns k g hk (by omega)
 obtain⟨i,rfl⟩:∃i:Nat,q=i:=⟨q.toNat,by omega⟩
 obtain⟨d,k',a1,a2,a3⟩:=wu ns (hd h++b7 g) (by simp;omega) (by simp;omega) 1 n (k+1) (by omega)
 simp only[Int.natCast_one,show n+6+1=n+7 from rfl]at a3
 obtain⟨x,y,b1,b2⟩:=zip_get (b7 g) ks i (by omega) (by omega)
 refine⟨ks.set i d,k',⟨h2,g1,g5,by simp[kl],fun e he=>?_,O.ll⟩,a2,?_⟩
 ·rcases List.mem_or_eq_of_mem_set he with he|rfl
  ·exact O.kk e he
  ·exact a1
 ·have gc:=sy (c:=pg.cf (n+7)) (it:=.idx (.var 2) AAG) (σ:=(Zax ns k (.val (aG h g ks ls)) .un .un .un)) (b7 g) ks (by omega) (by simp[aG])
  have hb:cD=⟨3,6,.cons (.set 3 (.op .add AAe (.bi .tuple (yV AAf)))) (jo cD.body)⟩:=rfl
  have f:fits ((hd h).length+(b7 g).length)=true:=by simp[fits];omega
  have i1:at? (aO (b7 g) ks) (i:Int)=some (.tup [x,y]):=by rw[gD _ _ (by omega),b1]
  have i2:ix? g (i:Int)=some i:=by simp[ix?];omega
  have zs:=Ci (b7 g) ks i x d b2 (by omega)
  have q0:∀it,(yV it).aB=none:=fun _=>rfl
  have n0:getD (aG h g ks ls) (.int 0)=some (.tup (hd h)):=by simp[aG]
  have n1:getD (aG h g ks ls) (.int 1)=some (.tup (aO (b7 g) ks)):=by simp[aG]
  have n2:getD (aG h g ks ls) (.int 2)=some (.tup (ls.map .bl)):=by simp[aG]
  rw[mR,hb]
  simp[cD,jo,gc,q0,f,n0,n1,n2,lz,eq,a3,i1,i2,rn,zs,aP]
  simp[aG]
def uQ(h g:Nat):bU h g [] [[]]:=⟨by simp,by simp,by simp,fun st h=>by cases QDz.mp h;simp⟩
def VP(g:Nat)(h3:3<=g):bU 0 g [.str "q"] [[(.str "q",1)],[(.str "q",0)]]:=by
 refine⟨?_,by simp,by simp,fun st h=>?_⟩
 ·obtain⟨j,rfl⟩:∃j,g=j+2:=⟨g-2,by omega⟩
  simp[b7]
 ·simp only[QCq,QAz,or_false]at h
  rcases h with rfl|rfl<;>simp[hd]
def sY:S:=jo (jo (jo (jo (jo bj.body))))
def zm:S:=jo sY
def Rq(n:Nat)(ns:List Int)(k:Int)(hk:0<=k):∃h g ks ls os sts,b8 h g ks ls/\bU h g os sts/\pg.fn (n+9) 42 (ZaG ns k)=.ok (.val (.tup [aG h g ks ls,aJ os sts])) (ZaG ns k):=by
 obtain⟨r,r1,r2,er⟩:=bF (n+5) ns k 8 hk (by omega)
 by_cases c2:r<2
 ·obtain⟨h,g,ks,ls,k1,O,a1,a2⟩:=Kl n ns (k+1) (by omega) 2 (by omega) (by omega)
  obtain⟨os,sts,k2,T,b1,b2⟩:=OD (n+4) ns k1 a1 O
  exact⟨h,g,ks,ls,os,sts,O,T,by rw[dN];simp[bj,er,c2,a2,b2,aP]⟩
 have c2b:¬r<2:=c2
 by_cases c3:r=2
 ·subst c3
  obtain⟨h,g,ks,ls,k1,O,a1,a2⟩:=Kl n ns (k+1) (by omega) 0 (by omega) (by omega)
  exact⟨h,g,ks,ls,[],[[]],O,uQ h g,by rw[dN];simp[bj,er,a2,aP,aJ,dO]⟩
 by_cases c4:r=3
 ·subst c4
  obtain⟨g,ks,ls,k1,O,g3,a1,a2⟩:=PJ (n+4) ns (k+1) (by omega)
  obtain⟨q,q1,q2,eq⟩:=bF (n+5) ns k1 2 a1 (by omega)
  rcases (by omega:q=1\/q=0)with rfl|rfl
  ·exact⟨0,g,ks,ls,[],[[]],O,uQ 0 g,by rw[dN];simp[bj,er,a2,eq,aP,aJ,dO]⟩
  ·exact⟨0,g,ks,ls,_,_,O,VP g g3,by rw[dN];simp[bj,er,a2,eq,aP,aJ,dO,ie]⟩
 have e2:(r==2)=false:=by simpa using c3
 have e3:(r==3)=false:=by simpa using c4
 have main:∃h g ks ls os sts k1,b8 h g ks ls/\bU h g os sts/\0<=k1/\ex (pg.cf (n+8)) bj.body [.val (sc ns),.val (.int k),.un,.un,.un,.un]=ex (pg.cf (n+8)) zm [.val (sc ns),.val (.int k),.own (.lst [.int k1]),.val (.int r),.val (aG h g ks ls),.val (aJ os sts)]:=by
  have hb:bj.body=.cons (hdS bj.body) (.cons (hdS (jo bj.body)) (.cons (hdS (jo (jo bj.body))) (.cons (hdS (jo (jo (jo bj.body)))) (.cons (hdS (jo (jo (jo (jo bj.body))))) (.cons (hdS sY) zm))))):=rfl
  by_cases c6:r<6
  ·obtain⟨h,g,ks,ls,os,sts,k1,O,T,a1,a2⟩:=My (n+4) ns (k+1) (by omega)
   refine⟨h,g,ks,ls,os,sts,k1,O,T,a1,?_⟩
   rw[hb]
   simp[bj,hdS,jo,sY,er,c2,e2,e3,c3,c4,c6,a2,aP,bw,dZ,bN]
  ·obtain⟨h,g,ks,ls,os,sts,k1,O,T,a1,a2⟩:=An (n+4) ns (k+1) (by omega)
   refine⟨h,g,ks,ls,os,sts,k1,O,T,a1,?_⟩
   rw[hb]
   simp[bj,hdS,jo,sY,er,c2,e2,e3,c3,c4,c6,a2,aP,bw,dZ,bN]
 obtain⟨h,g,ks,ls,os,sts,k1,O,T,a1,a2⟩:=main
 by_cases c7:r%2=1
 ·obtain⟨q,q1,q2,eq⟩:=bF (n+5) ns k1 2 a1 (by omega)
  rcases (by omega:q=1\/q=0)with rfl|rfl
  ·obtain⟨ks',k2,O',b1,b2⟩:=Gd n ns (k1+1) (by omega) O
   refine⟨h,g,ks',ls,os,sts,O',T,?_⟩
   rw[dN,a2]
   simp[zm,sY,bj,jo,c7,eq,b2,aP]
  ·refine⟨h,g,ks,ls,os,sts,O,T,?_⟩
   rw[dN,a2]
   simp[zm,sY,bj,jo,c7,eq,aP]
 ·refine⟨h,g,ks,ls,os,sts,O,T,?_⟩
  have c8:r%2=0:=by omega
  rw[dN,a2]
  simp[zm,sY,bj,jo,c8,aP]
end Tx
end
section
open PySem Mini
namespace Tx
def Tv:E:=.bi .all AEQ
def Kq:E:=.bi .all ABx
def X5:E:=.comp 1 (.name 0) (.var 0) AAP AAb
abbrev Zah(a b c):=([.val (dO a),.val (.tup b),.val (.int c)]:Ev)
abbrev ZaF(a b):=([a,.val (.int 0),.val (.int b)]:Ev)
def yN(n:Nat){xs:List D}(h:cu xs)(nd:xs.Nodup)(st:List (D×Nat))(N:Nat)(hs:(st.map (·.1)).Sublist xs)(hn:∀m∈st,m.2<N):
  pg.fn (n+3) 19 (Zah st xs N)=.ok (.val (.bl true)) (Zah st xs N):=by
 have ll:=hs.length_le
 rw[QAq]at ll
 have t1:=aZ (n+1) (st.map ie) 0 xs.length (by omega) (by simpa using ll)
 have t2:=cY n (d:=.tup xs) (.inl rfl) h nd hs 0 xs.length (by omega) (by simpa using ll)
 have e1:ev (pg.cf (n+2)) Tv (Zah st xs N)=.ok (.val (.bl true)) (Zah st xs N):=by
  refine all1 (d:=dO st) (xs:=st.map ie) (r:=.val (dO st)) (by simp) rfl rfl fun x hx=>?_
  obtain⟨m,_,rfl⟩:=QDq.mp hx
  have t:=aZ (n+1) [m.1,.int m.2] 2 2 (by simp) (by simp)
  simp[ie,t]
 have e2:ev (pg.cf (n+2)) Kq (Zah st xs N)=.ok (.val (.bl true)) (Zah st xs N):=by
  refine all1 (d:=dO st) (xs:=st.map ie) (r:=.val (dO st)) (by simp) rfl rfl fun x hx=>?_
  obtain⟨m,hm,rfl⟩:=QDq.mp hx
  have t:pg.fn (n+2) 4 (ZaF (.val (.int m.2)) (N-1))=.ok (.val (.bl true)) (ZaF (.val (.int m.2)) (N-1)):=by
   rw[yg]
   have:(m.2:Int)<=N-1:=Int.le_sub_one_of_lt (Int.ofNat_lt.mpr (hn m hm))
   simp[j6,aem,this]
  simp[ie,t]
 have e3:ev (pg.cf (n+2)) X5 (Zah st xs N)=.ok (.new (.lst (st.map (·.1)))) (Zah st xs N):=by
  have:=sW (c:=pg.cf (n+2)) (it:=.var 0) (σ:=(Zah st xs N)) (el:=.idx (.var 0) AAH) oX (d:=dO st) (xs:=st.map ie) (r:=.val (dO st)) (by simp;rfl) rfl rfl fun y hy=>by
   obtain⟨m,_,rfl⟩:=QDq.mp hy
   simp[ie,oX]
  rw[List.map_map]at this
  exact this
 have hb:my=⟨3,3,(.cons (.ite (.or (.cons ADX (.cons (.not Tv) .nil))) AAL .nil) (.cons (.ite (.not (.call 9 (.cons (.bi .tuple X5) (.cons (.var 1) (.cons AAH ABQ))))) AAL .nil) (.cons (.ret Kq) .nil)))⟩:=rfl
 rw[Ad,hb]
 have q1:X5.aB=none:=rfl
 have q2:Kq.aB=none:=rfl
 have t1':pg.fn (n+2) 3 (ZaF (.val (dO st)) xs.length)=.ok (.val (.bl true)) (ZaF (.val (dO st)) xs.length):=t1
 simp[t1',e1,e3,q1,t2,e2,q2]
def gl8:pg.gl 8=some (.int 12):=rfl
def vR:E:=.bi .all ACG
section
variable{h g:Nat}{ks:List D}{ls:List Bool}{os:List D}{sts:List (List (D×Nat))}
def bU.sub(T:bU h g os sts):(hd h++os).Sublist (names h g):=(List.Sublist.refl _).append T.ou
def zW:(b7 g).Sublist (names h g):=List.sublist_append_right _ _
def Aw(n:Nat)(O:b8 h g ks ls)(T:bU h g os sts):pg.fn (n+4) 18 [.val (aG h g ks ls),.val (aJ os sts)]=.ok (.val (.bl true)) [.val (aG h g ks ls),.val (aJ os sts)]:=by
 have lg:=dq O.g5
 have lh:=ig O.h2
 have h2:=O.h2
 have g5:=O.g5
 have s1:=T.s1
 have s4:=T.s4
 have lo:=T.ou.length_le
 have X:=bz h g
 have Nd:=names_nodup O.h2 O.g1 O.g5
 have t1:pg.fn (n+3) 3 [.val (aJ os sts),.val (.int 2),.val (.int 2)]=.ok (.val (.bl true)) [.val (aJ os sts),.val (.int 2),.val (.int 2)]:=aZ (n+2) [.tup os,.tup (sts.map dO)] 2 2 (by simp) (by simp)
 have gc:=sy (c:=pg.cf (n+3)) (it:=.idx (.var 0) AAG) (σ:=[.val (aG h g ks ls),.val (aJ os sts),.un,.un]) (b7 g) ks (by rw[O.kl,lg]) (by simp[aG])
 have t2:=cY (n+1) (d:=.lst (b7 g)) (ys:=os) (.inr rfl) (fun x hx=>X x (zW.subset hx)) (zW.nodup Nd) T.ou 0 g (by omega) (by omega)
 have t3:=aZ (n+2) (sts.map dO) 1 12 (by simp;omega) (by simp;omega)
 have hb:o8=⟨2,4,(.cons (.ite ACu AAL .nil) (.cons (.set 2 (yV AAc)) (.cons (.ite ABI AAL .nil) (.cons (.set 3 (.op .add AAb AAr)) (.cons (.ret vR) .nil)))))⟩:=rfl
 have q:vR.aB=none:=rfl
 have f:fits ((hd h).length+os.length)=true:=by simp[fits];omega
 have n0:getD (aG h g ks ls) (.int 0)=some (.tup (hd h)):=by simp[aG]
 have m0:getD (aJ os sts) (.int 0)=some (.tup os):=by simp[aJ]
 have m1:getD (aJ os sts) (.int 1)=some (.tup (sts.map dO)):=by simp[aJ]
 have e':ev (pg.cf (n+3)) vR [.val (aG h g ks ls),.val (aJ os sts),.val (.lst (b7 g)),.val (.tup (hd h++os))]=.ok (.val (.bl true)) [.val (aG h g ks ls),.val (aJ os sts),.val (.lst (b7 g)),.val (.tup (hd h++os))]:=by
  refine all1 (d:=.tup (sts.map dO)) (xs:=sts.map dO) (r:=.val (.tup (sts.map dO))) (by simp[aJ]) rfl rfl fun x hx=>?_
  obtain⟨st,hst,rfl⟩:=QDq.mp hx
  have t:=yN n (xs:=hd h++os) (fun x hx=>X x (T.sub.subset hx)) (T.sub.nodup Nd) st sts.length (T.mv st hst).1 (T.mv st hst).2
  simp[aJ,t]
 rw[Gu,hb]
 simp[t1,gc,m0,m1,n0,lg,t2,t3,gl8,f,e',q]
def p8(n:Nat)(O:b8 h g ks ls)(T:bU h g os sts):pg.fn (n+9) 17 [.val (aG h g ks ls),.val (aJ os sts)]=.ok (.val (aJ os sts)) [.val (aG h g ks ls),.val (aJ os sts)]:=by
 have t:=Aw (n+4) O T
 have c:=Bv n O
 rw[qY]
 simp[gC,c,t]
end
end Tx
end
section
open PySem Mini
namespace Tx
def lk(x:D):List (D×Nat)->Option Nat
 |[]=>none
 |m::st=>if cL m.1 x then some m.2 else lk x st
abbrev gG(st:List (D×Nat)):List D:=st.map (·.1)
abbrev qx(st:List (D×Nat)):List D:=st.map fun m=>.int m.2
def dcD(st:List (D×Nat)):D:=.cH (gG st) (qx st)
theorem Dn(x:D):∀st,cN x (gG st) (qx st)=(lk x st).map fun j:Nat=>D.int j
 |[]=>rfl
 |m::st=>by
  simp only[Qyz,cN,lk]
  split
  ·rfl
  ·exact Dn x st
theorem Do(x:D):∀st,aH x (gG st)=(lk x st).isSome
 |[]=>rfl
 |m::st=>by
  simp only[Qyz,aH,lk,Do x st]
  cases cL m.1 x<;>simp
theorem jd:∀(st:List (D×Nat))(ks vs:List D),cu (ks++gG st)->(ks++gG st).Nodup->dictOf ks vs (st.map ie)=some (ks++gG st,vs++qx st)
 |[]=>fun ks vs _ _=>by simp[dictOf]
 |m::st=>fun ks vs h nd=>by
  obtain⟨s,e⟩:=h m.1 (by simp)
  have no:aH m.1 ks=false:=by
   rw[e]
   have hn:m.1∉ks:=fun hm=>by
    rw[show gG (m::st)=m.1::gG st from rfl,List.nodup_append]at nd
    exact nd.2.2 _ hm _ QYz rfl
   rw[e]at hn
   have hk:cu ks:=fun x hx=>h x (QWz _ hx)
   clear nd h
   induction ks with
   |nil=>rfl
   |cons y ys ih=>
    obtain⟨q,rfl⟩:=hk y QYz
    have ne:¬q=s:=fun c=>hn (by rw[c];exact QYz)
    simp[aH,cL,ne,ih (fun c=>hn (QYq _ c)) fun x hx=>hk x (QYq _ hx)]
  have r:=jd st (ks++[m.1]) (vs++[.int m.2]) (by simpa using h) (by simpa using nd)
  have kk:keyOk m.1=true:=by rw[e];rfl
  rw[Qyz,show ie m=.tup [m.1,.int m.2]from rfl,dictOf,if_pos kk]
  simp only[putD,no]
  rw[if_neg (by simp),r]
  simp
def aV(sts:List (List (D×Nat)))(i:Nat):List (D×Nat):=sts.getD i []
end Tx
end
section
open PySem Mini
namespace Tx
def m5(n:Nat)(hs gs:List D)(ks:List D)(x:D)(hl:ks.length=gs.length)(hf:hs.length+gs.length<=1000):
  pg.fn (n+1) 43 [.val (.tup [.tup hs,.tup (aO gs ks),x])]=.ok (.new (.lst (hs++gs))) [.val (.tup [.tup hs,.tup (aO gs ks),x])]:=
 (show pg.fn (n+1) 43 _=pg.fn (n+1) 13 _ from(yd n _).trans (mQ n _).symm).trans (fB n hs gs ks x hl hf)
variable{xs:List D}
def rY{s:Str}(h:cu xs)(hn:D.str s∉xs):aH (.str s) xs=false:=by
 induction xs with
 |nil=>rfl
 |cons x xs ih=>
  obtain⟨q,rfl⟩:=h x QYz
  have ne:q≠s:=fun e=>hn (by rw[e];exact QYz)
  simp[aH,cL,ne,ih (fun z hz=>h z (QYq _ hz)) fun hz=>hn (QYq _ hz)]
theorem Er:∀(xs ys ks vs:List D),ys.length=xs.length->cu xs->cu ks->(ks++xs).Nodup->dictOf ks vs (aO xs ys)=some (ks++xs,vs++ys)
 |[],ys=>fun ks vs hl _ _ _=>by
  have:ys=[]:=by cases ys<;>simp_all
  subst this
  simp[aO,dictOf]
 |x::xs,[]=>fun ks vs hl _ _ _=>by simp at hl
 |x::xs,y::ys=>fun ks vs hl h hk nd=>by
  obtain⟨s,rfl⟩:=h x QYz
  have hn:D.str s∉ks:=fun z=>by
   have:=List.nodup_append.mp nd
   exact this.2.2 _ z _ QYz rfl
  have e:=rY hk hn
  have ih:=Er xs ys (ks++[.str s]) (vs++[y]) (by simpa using hl) (fun z hz=>h z (QYq _ hz)) (fun z hz=>by
   rcases QXz.mp hz with hz|hz
   ·exact hk z hz
   ·simp at hz;exact⟨s,hz⟩) (by simpa using nd)
  simp only[aO,dictOf,keyOk,if_true,putD,e,Qxq,if_false]
  rw[ih]
  simp
def Mm{ys:List D}(hl:ys.length=xs.length)(h:cu xs)(nd:xs.Nodup):dictOf [] [] (aO xs ys)=some (xs,ys):=by
 have:=Er xs ys [] [] hl h (fun z hz=>by cases hz) (by simpa using nd)
 simpa using this
def cR(xs:List D)(bs:List Bool)(x:D):Bool:=match cN x xs (bs.map .bl)with
 |some (.bl b)=>b
 |_=>false
theorem uZ{x:D}:∀{xs:List D}{bs:List Bool},cu xs->bs.length=xs.length->x∈xs->cN x xs (bs.map .bl)=some (.bl (cR xs bs x))
 |[],_=>fun _ _ hx=>by cases hx
 |y::ys,[]=>fun _ hl _=>by simp at hl
 |y::ys,b::bs=>fun h hl hx=>by
  obtain⟨q,rfl⟩:=h x hx
  obtain⟨s,rfl⟩:=h y QYz
  by_cases e:s=q
  ·subst e
   simp[cR,cN,cL]
  ·have hx':D.str q∈ys:=by
    rcases QCq.mp hx with z|z
    ·cases z;exact absurd rfl e
    ·exact z
   have ih:=uZ (bs:=bs) (fun z hz=>h z (QYq _ hz)) (by simpa using hl) hx'
   have l:cN (.str q) (.str s::ys) ((b::bs).map .bl)=cN (.str q) ys (bs.map .bl):=by simp[cN,cL,e]
   have v:cR (.str s::ys) (b::bs) (.str q)=cR ys bs (.str q):=by
    unfold cR
    rw[l]
   rw[l,v]
   exact ih
def gw{x:D}{bs:List Bool}(h:cu xs)(hl:bs.length=xs.length)(hx:x∈xs):getD (.cH xs (bs.map .bl)) x=some (.bl (cR xs bs x)):=by
 have e:=uZ h hl hx
 obtain⟨q,rfl⟩:=h x hx
 exact e
theorem rZ:∀(bs:List Bool),aH (.bl false) (bs.map .bl)= !bs.all id
 |[]=>rfl
 |b::bs=>by cases b<;>simp[aH,cL,rZ bs]
theorem wz:∀(bs:List Bool),aH (.bl true) (bs.map .bl)=bs.any id
 |[]=>rfl
 |b::bs=>by cases b<;>simp[aH,cL,wz bs]
def sH(bs:List Bool):(bs.map D.bl).all flat=true:=by
 rw[List.all_eq_true]
 intro x hx
 obtain⟨b,_,rfl⟩:=QDq.mp hx
 rfl
def wy(b:Bool)(bs:List Bool):aK .isin (.bl b) (.lst (bs.map .bl))=some (aH (.bl b) (bs.map .bl)):=by
 have o:eZ (.bl b) (bs.map .bl)=true:=by
  unfold eZ
  rw[sH]
  rfl
 show(if eZ (.bl b) (bs.map .bl)then some (aH (.bl b) (bs.map .bl))else none)=_
 rw[o]
 rfl
def J8(b:Bool)(bs:List Bool):aK .notin (.bl b) (.lst (bs.map .bl))=some (!aH (.bl b) (bs.map .bl)):=by
 have o:eZ (.bl b) (bs.map .bl)=true:=by
  unfold eZ
  rw[sH]
  rfl
 show(if eZ (.bl b) (bs.map .bl)then some (!aH (.bl b) (bs.map .bl))else none)=_
 rw[o]
 rfl
def uR(bs:List Bool):lB (bs.map D.bl)=true:=by
 induction bs with
 |nil=>rfl
 |cons b bs ih=>simp[lB,nd,ih]
def Bp(bs:List Bool):jx (bs.map D.bl)=0:=by
 induction bs with
 |nil=>rfl
 |cons b bs ih=>simp[jx,dep,ih]
def Km(rs:List (List Bool)):lB (rs.map aF)=true:=by
 induction rs with
 |nil=>rfl
 |cons r rs ih=>simp[lB,nd,aF,uR,ih]
def K6(bs:List Bool)(rs:List (List Bool)):∃b,aK .isin (.tup (bs.map .bl)) (.tup (rs.map aF))=some b:=by
 have o:eZ (.tup (bs.map .bl)) (rs.map aF)=true:=by
  simp[eZ,nd,dep,uR,Bp,Km]
 refine⟨aH (.tup (bs.map .bl)) (rs.map aF),?_⟩
 show(if eZ (.tup (bs.map .bl)) (rs.map aF)then some (aH (.tup (bs.map .bl)) (rs.map aF))else none)=_
 rw[o]
 rfl
end Tx
end
section
open PySem Mini
namespace Tx
def rO:E:=.comp 1 (.name 0) AAc AAP (.idx (.var 3) (.var 0))
def rN:E:=.comp 1 (.name 0) AAc AAP (.idx (.var 2) (.var 0))
noncomputable def pF:Fn:=⟨3,5,(.cons (.set 3 AAb) (.cons (.ite (.cmp .eq (.var 3) ABU) (.cons (.ret ADU) .nil) .nil) (.cons (.ite (.cmp .eq (.var 3) ACH) (.cons (.ret (.not ADU)) .nil) .nil) (.cons (.ite ADr AEb .nil) (.cons (.set 4 (.bi .tuple rO)) (.cons (.ite (.cmp .eq (.var 3) ACI) AEH .nil) (.cons (.ite (.cmp .eq (.var 3) ACO) ADz .nil) (.cons (.ite ADs ADk .nil) ABd))))))))⟩
def iQ:BR=pF:=rfl
noncomputable def gY:Fn:=⟨3,5,(.cons (.ite (.cmp .eq AAb ABU) (.cons (.ret ADV) .nil) .nil) (.cons (.ite (.cmp .eq AAb ACH) (.cons (.ret (.not ADV)) .nil) .nil) (.cons (.ite (.cmp .eq AAb ABt) ABG .nil) (.cons (.set 4 rN) (.cons (.ite (.cmp .eq AAb ABi) ADG .nil) (.cons (.ite (.cmp .eq AAb ACI) ACv .nil) (.cons (.ite (.cmp .eq AAb ACO) ADj .nil) (.cons (.ite ACN (.cons (.ret (.var 2)) .nil) .nil) ADy))))))))⟩
def tells_eq:jX=gY:=rfl
variable{ys:List D}
section
variable{xs:List D}{bs:List Bool}
abbrev ZaI(a b c d e f):=([.val (.tup a),b,.val (.cH c d),e,f]:Ev)
def Hb(n:Nat)(h:cu xs)(hl:bs.length=xs.length)(hs:ys.Sublist xs)(w:D)(r:List D)(s1 s3 s4:Sl):
  ev (pg.cf n) rO (ZaI (w:: .tup ys::r) s1 xs (bs.map .bl) s3 s4)=.ok (.new (.lst ((ys.map (cR xs bs)).map .bl))) (ZaI (w:: .tup ys::r) s1 xs (bs.map .bl) s3 s4):=by
 have:=sW (c:=pg.cf n) (it:=.idx (.var 0) AAG) (el:=.idx (.var 3) (.var 0)) (σ:=(ZaI (w:: .tup ys::r) s1 xs (bs.map .bl) s3 s4)) (fun x=>.bl (cR xs bs x)) (d:=.tup ys) (xs:=ys) (r:=.val (.tup ys)) (τ:=(ZaI (w:: .tup ys::r) s1 xs (bs.map .bl) s3 s4)) (by simp) rfl rfl fun x hx=>by
  have e:=gw h hl (hs.subset hx)
  simp[e]
 rw[rO,this]
 simp
abbrev ZaC(a b c d e):=([.val a,.val b,c,d,e]:Ev)
def Ha(n:Nat)(h:cu xs)(hl:bs.length=xs.length)(hs:ys.Sublist xs)(w:D)(r:List D)(s2 s3 s4:Sl):
  ev (pg.cf n) rN (ZaC (.tup (w:: .tup ys::r)) (.cH xs (bs.map .bl)) s2 s3 s4)=.ok (.new (.lst ((ys.map (cR xs bs)).map .bl))) (ZaC (.tup (w:: .tup ys::r)) (.cH xs (bs.map .bl)) s2 s3 s4):=by
 have:=sW (c:=pg.cf n) (it:=.idx (.var 0) AAG) (el:=.idx (.var 2) (.var 0)) (σ:=(ZaC (.tup (w:: .tup ys::r)) (.cH xs (bs.map .bl)) s2 s3 s4)) (fun x=>.bl (cR xs bs x)) (d:=.tup ys) (xs:=ys) (r:=.val (.tup ys)) (τ:=(ZaC (.tup (w:: .tup ys::r)) (.cH xs (bs.map .bl)) s2 s3 s4)) (by simp) rfl rfl fun x hx=>by
  have e:=gw h hl (hs.subset hx)
  simp[e]
 rw[rN,this]
 simp
def m6(h:cu xs)(hl:bs.length=xs.length)(hs:ys.Sublist xs)(w:D)(r:List D):∃row:List Bool,row.length=ys.length/\
  (∀(n:Nat)(s1 s3 s4:Sl),ev (pg.cf n) rO [.val (.tup (w:: .tup ys::r)),s1,.val (.cH xs (bs.map .bl)),s3,s4]=.ok (.new (.lst (row.map .bl))) [.val (.tup (w:: .tup ys::r)),s1,.val (.cH xs (bs.map .bl)),s3,s4])/\
  (∀(n:Nat)(s2 s3 s4:Sl),ev (pg.cf n) rN [.val (.tup (w:: .tup ys::r)),.val (.cH xs (bs.map .bl)),s2,s3,s4]=.ok (.new (.lst (row.map .bl))) [.val (.tup (w:: .tup ys::r)),.val (.cH xs (bs.map .bl)),s2,s3,s4]):=
 ⟨ys.map (cR xs bs),by simp,fun n s1 s3 s4=>Hb n h hl hs w r s1 s3 s4,fun n s2 s3 s4=>Ha n h hl hs w r s2 s3 s4⟩
def Agree(xs:List D)(bs:List Bool)(i j:Nat)(d:D)(own b:Bool):Prop:=
 pg.fn i 15 [.val d,.val (.bl own),.val (.cH xs (bs.map .bl))]=.ok (.val (.bl b)) [.val d,.val (.bl own),.val (.cH xs (bs.map .bl))]/\
 pg.fn j 44 [.val d,.val (.cH xs (bs.map .bl)),.val (.bl own)]=.ok (.val (.bl b)) [.val d,.val (.cH xs (bs.map .bl)),.val (.bl own)]
def Hd(n k:Nat):n+1+2*k=n+2*k+1:=Nat.add_right_comm n 1 (2*k)
def Hc(m k:Nat):m+1+k=m+k+1:=Nat.add_right_comm m 1 k
def aft(n k:Nat):n+1+2*(k+1)=n+1+2*k+1+1:=rfl
def IW(h:cu xs)(hl:bs.length=xs.length):∀{k:Nat}{d:D},bR xs k d->∀own:Bool,∃b,∀n m:Nat,Agree xs bs (n+1+2*k) (m+1+k) d own b:=by
 intro k d hk
 have q1:rO.aB=none:=rfl
 have q2:rN.aB=none:=rfl
 induction hk with
 | @same k x hx=>
  intro own
  have e:=gw h hl hx
  refine⟨cR xs bs x,fun n m=>⟨?_,?_⟩⟩
  ·rw[Hd,lM,iQ]
   simp[pF,e]
  ·rw[Hc,cU,tells_eq]
   simp[gY,e]
 | @not k x hx=>
  intro own
  have e:=gw h hl hx
  refine⟨!cR xs bs x,fun n m=>⟨?_,?_⟩⟩
  ·rw[Hd,lM,iQ]
   simp[pF,e]
  ·rw[Hc,cU,tells_eq]
   simp[gY,e]
 | @and k ys hs h1 h2=>
  intro own
  obtain⟨row,_,e1,e2⟩:=m6 h hl hs (.str "and") []
  have bb:=jU row
  refine⟨row.all id,fun n m=>⟨?_,?_⟩⟩
  ·rw[Hd,lM,iQ]
   simp[pF,e1,q1,bb]
  ·rw[Hc,cU,tells_eq]
   simp[gY,e2,q2,J8,rZ]
 | @or k ys hs h1 h2=>
  intro own
  obtain⟨row,_,e1,e2⟩:=m6 h hl hs (.str "or") []
  have bb:=jU row
  refine⟨row.any id,fun n m=>⟨?_,?_⟩⟩
  ·rw[Hd,lM,iQ]
   simp[pF,e1,q1,bb]
  ·rw[Hc,cU,tells_eq]
   simp[gY,e2,q2,wy,wz]
 | @both k ys hs h1 h2=>
  intro own
  obtain⟨row,hr,e1,e2⟩:=m6 h hl hs (.str "both") []
  have bb:=jU row
  refine⟨row.all id||(own&&row.any id),fun n m=>⟨?_,?_⟩⟩
  ·rw[Hd,lM,iQ]
   cases ha:row.all id<;>cases own<;>simp[pF,e1,q1,bb,ha]
  ·obtain⟨b0,row',rfl⟩:∃b0 row',row=b0::row':=by
    cases row with
    |nil=>simp at hr;omega
    |cons b r=>exact⟨b,r,rfl⟩
   rw[Hc,cU,tells_eq]
   have i1:=wy true (b0::row')
   have i2:=wy false (b0::row')
   rw[wz]at i1
   rw[rZ]at i2
   cases ha:(b0::row').all id with
   |true=>
    have hb0:b0=true:=by simp at ha;exact ha.1
    have hn:(b0::row').any id=true:=by simp[hb0]
    rw[hn]at i1
    rw[ha]at i2
    simp only[Qyz]at i1 i2 e2
    simp[gY,e2,q2,i1,i2,hb0]
    simp_all
   |false=>
    cases hn:(b0::row').any id with
    |true=>
     rw[hn]at i1
     rw[ha]at i2
     simp only[Qyz]at i1 i2 e2
     simp[gY,e2,q2,i1,i2]
    |false=>
     have hb0:b0=false:=by simp at hn;exact hn.1
     rw[hn]at i1
     rw[ha]at i2
     simp only[Qyz]at i1 i2 e2
     simp[gY,e2,q2,i1,i2,hb0]
     simp_all
 | @table k ys rs hs h1 h2 hr hi=>
  intro own
  obtain⟨row,_,e1,e2⟩:=m6 h hl hs (.str "table") [.tup (rs.map aF)]
  obtain⟨b,eb⟩:=K6 row rs
  refine⟨b,fun n m=>⟨?_,?_⟩⟩
  ·rw[Hd,lM,iQ]
   simp[pF,e1,q1,eb]
  ·rw[Hc,cU,tells_eq]
   simp[gY,e2,q2,eb]
 | @held k d x bb hk hx ih=>
  intro own
  obtain⟨b,ib⟩:=ih own
  have i1:=fun n=>(ib n 0).1
  have i2:=fun m=>(ib 0 m).2
  have e:=gw h hl hx
  have hh:∀n,pg.fn (n+1+2*k+1) 16 [.val (.tup [.str "held",d,x,.bl bb]),.val (.bl own),.val (.cH xs (bs.map .bl))]=.ok (.val (.bl (if (cR xs bs x==b)==bb then b else own))) [.val (.tup [.str "held",d,x,.bl bb]),.val (.bl own),.val (.cH xs (bs.map .bl))]:=fun n=>by
   rw[xW]
   cases hc:((cR xs bs x==b)==bb)<;>simp[jV,i1,e,hc]
  refine⟨if (cR xs bs x==b)==bb then b else own,fun n m=>⟨?_,?_⟩⟩
  ·rw[aft,lM,iQ]
   simp[pF,hh]
  ·rw[<-Nat.add_assoc,cU,tells_eq]
   have hx2:(cR xs bs x==(b==bb))=((cR xs bs x==b)==bb):=by cases cR xs bs x<;>cases b<;>cases bb<;>rfl
   cases hc:((cR xs bs x==b)==bb)<;>rw[hc]at hx2<;>simp[gY,i2,e,hx2,aP,b2i]
end
end Tx
end
section
open PySem Mini
namespace Tx
section
variable{h g:Nat}{ks:List D}{ls bs:List Bool}
def Ij:E:=.comp 2 (.tup [0,1]) AAc AAm (.var 0)
def Ii:E:=.comp 1 (.name 0) AAc AAu AAb
abbrev Zam(a b c d e f):=([.val (aG a b c d),.val (aF e),f]:Ev)
abbrev Zau(a b):=([.val a,.val (aF b)]:Ev)
theorem HH(O:b8 h g ks ls)(hl:bs.length=(names h g).length):∃zs:List D,zs.Sublist (b7 g)/\∀n m:Nat,
  pg.fn (n+4) 14 (Zau (aG h g ks ls) bs)=.ok (.new (.lst zs)) (Zau (aG h g ks ls) bs)/\
  pg.fn (m+3) 45 (Zau (aG h g ks ls) bs)=.ok (.new (.lst zs)) (Zau (aG h g ks ls) bs):=by
 have T:=bz h g
 have Nd:=names_nodup O.h2 O.g1 O.g5
 have lg:=dq O.g5
 have lh:=ig O.h2
 have ag:∀(k:D)(own:Bool),∃b,bR (names h g) 1 k->∀n m,Agree (names h g) bs (n+3) (m+2) k own b:=fun k own=>by
  by_cases hk:bR (names h g) 1 k
  ·obtain⟨b,z⟩:=IW T hl hk own
   exact⟨b,fun _=>z⟩
  ·exact⟨true,fun z=>absurd z hk⟩
 have sk:∃F:D->Bool->Bool,∀k own,bR (names h g) 1 k->∀n m,Agree (names h g) bs (n+3) (m+2) k own (F k own):=
  ⟨fun k own=>Classical.choose (ag k own),fun k own=>Classical.choose_spec (ag k own)⟩
 obtain⟨F,hF⟩:=sk
 let p:D×D->Bool:=fun x=> !(F x.2 (cR (names h g) bs x.1)==cR (names h g) bs x.1)
 have mem:∀x∈(b7 g).zip ks,x.1∈names h g/\bR (names h g) 1 x.2:=fun x hx=>⟨QVq _ (List.of_mem_zip hx).1,O.kk x.2 (List.of_mem_zip hx).2⟩
 obtain⟨x0,ps,zeq⟩:∃x0 ps,(b7 g).zip ks=x0::ps:=by
  cases q:(b7 g).zip ks with
  |nil=>
   have:=congrArg List.length q
   rw[List.length_zip,lg,O.kl]at this
   have:=O.g1
   simp at*
   omega
  |cons x ps=>exact⟨x,ps,rfl⟩
 have dz:dictOf [] [] (aO (names h g) (bs.map .bl))=some (names h g,bs.map .bl):=Mm (by simpa using hl) T Nd
 refine⟨(((b7 g).zip ks).filter p).map (·.1),?_,fun n m=>?_⟩
 ·have s1:((((b7 g).zip ks).filter p).map (·.1)).Sublist (((b7 g).zip ks).map (·.1)):=(List.filter_sublist).map _
  have s2:((b7 g).zip ks).map (·.1)=b7 g:=List.map_fst_zip (by rw[lg,O.kl];exact QVz _)
  rw[s2]at s1
  exact s1
 have w1:pg.fn (n+3) 13 [.val (aG h g ks ls)]=.ok (.new (.lst (names h g))) [.val (aG h g ks ls)]:=
  fB (n+2) (hd h) (b7 g) ks (.tup (ls.map .bl)) (by rw[O.kl,lg]) (by have:=O.h2;have:=O.g5;omega)
 have w2:pg.fn (m+2) 43 [.val (aG h g ks ls)]=.ok (.new (.lst (names h g))) [.val (aG h g ks ls)]:=
  m5 (m+1) (hd h) (b7 g) ks (.tup (ls.map .bl)) (by rw[O.kl,lg]) (by have:=O.h2;have:=O.g5;omega)
 have e1:ev (pg.cf (n+3)) Ij (Zam h g ks ls bs (.own (.dct (names h g) (bs.map .bl))))=.ok (.new (.lst ((((b7 g).zip ks).filter p).map (·.1)))) (Zam h g ks ls bs (.val (.cH (names h g) (bs.map .bl)))):=by
  rw[zeq]at mem⊢
  have c0:∀x,x∈x0::ps->∀s:Sl,(s=.own (.dct (names h g) (bs.map .bl))\/s=.val (.cH (names h g) (bs.map .bl)))->ev (pg.cf (n+3)) AAm (ZaC x.1 x.2 (.val (aG h g ks ls)) (.val (aF bs)) s)=.ok (.val (.bl (p x))) (ZaC x.1 x.2 (.val (aG h g ks ls)) (.val (aF bs)) (.val (.cH (names h g) (bs.map .bl)))):=fun x hx s hs=>by
   obtain⟨m1,m2⟩:=mem x hx
   have gl:=gw T hl m1
   have a:=(hF x.2 (cR (names h g) bs x.1) m2 n m).1
   rcases hs with rfl|rfl<;>simp[gl,a,p]
  have it:items (.tup (aO (b7 g) ks))=some ((x0::ps).map pairD):=by show some _=some _;rw[cP,zeq]
  exact Yi (·.1) p (r:=.val (.tup (aO (b7 g) ks))) (τ0:=(Zam h g ks ls bs (.own (.dct (names h g) (bs.map .bl))))) (by simp[aG]) rfl it (c0 x0 QYz _ (.inl rfl)) (fun x hx=>c0 x (QYq _ hx) _ (.inr rfl)) (fun x _ _=>by simp)
 have e2:ev (pg.cf (m+2)) Ii (Zam h g ks ls bs (.own (.dct (names h g) (bs.map .bl))))=.ok (.new (.lst ((((b7 g).zip ks).filter p).map (·.1)))) (Zam h g ks ls bs (.val (.cH (names h g) (bs.map .bl)))):=by
  rw[zeq]at mem⊢
  let p':D->Bool:=fun d=>match d with|.tup [a,k]=>p (a,k)|_=>false
  let f':D->D:=fun d=>match d with|.tup (a::_)=>a|_=>.non
  have fm:∀xs:List (D×D),((xs.map pairD).filter p').map f'=(xs.filter p).map (·.1):=by
   intro xs
   induction xs with
   |nil=>rfl
   |cons x xs ih=>
    have hp:p' (pairD x)=p x:=rfl
    rw[Qyz,List.filter_cons,List.filter_cons,hp]
    cases p x with
    |true=>simp only[if_true,Qyz,ih];rfl
    |false=>simp only[Qxq,if_false,ih]
  have c0:∀x,x∈x0::ps->∀s:Sl,(s=.own (.dct (names h g) (bs.map .bl))\/s=.val (.cH (names h g) (bs.map .bl)))->ev (pg.cf (m+2)) AAu [.val (pairD x),.val (aG h g ks ls),.val (aF bs),s]=.ok (.val (.bl (p' (pairD x)))) [.val (pairD x),.val (aG h g ks ls),.val (aF bs),.val (.cH (names h g) (bs.map .bl))]:=fun x hx s hs=>by
   obtain⟨m1,m2⟩:=mem x hx
   have gl:=gw T hl m1
   have a:=(hF x.2 (cR (names h g) bs x.1) m2 n m).2
   rcases hs with rfl|rfl<;>simp[gl,a,p',p,pairD]
  have it:items (.tup (aO (b7 g) ks))=some (pairD x0::ps.map pairD):=by show some _=some _;rw[cP,zeq];rfl
  have:=Yk (c:=pg.cf (m+2)) (el:=.idx (.var 0) AAH) (it:=.idx (.var 0) AAG) (σ:=(Zam h g ks ls bs (.own (.dct (names h g) (bs.map .bl))))) (τ:=(Zam h g ks ls bs (.val (.cH (names h g) (bs.map .bl))))) f' p' (r:=.val (.tup (aO (b7 g) ks))) (τ0:=(Zam h g ks ls bs (.own (.dct (names h g) (bs.map .bl))))) (by simp[aG]) rfl it (c0 x0 QYz _ (.inl rfl)) (fun y hy=>by
   obtain⟨x,hx,rfl⟩:=QDq.mp hy
   exact c0 x (QYq _ hx) _ (.inr rfl)) (fun y hy _=>by
   rw[<-Qyz]at hy
   obtain⟨x,hx,rfl⟩:=QDq.mp hy
   simp[pairD,f'])
  rw[<-Qyz,fm]at this
  exact this
 refine⟨?_,?_⟩
 ·have hb:fU=⟨2,3,(.cons (.set 2 (.bi .dict ACY)) (.cons (.ret Ij) .nil))⟩:=rfl
  have q:Ij.aB=none:=rfl
  have z:bB (aF bs)=some (bs.map .bl):=rfl
  rw[pU,hb]
  simp[w1,z,dz,e1,q]
 ·have hb:ik=⟨2,3,(.cons ACs (.cons (.ret Ii) .nil))⟩:=rfl
  have q:Ii.aB=none:=rfl
  have z:bB (aF bs)=some (bs.map .bl):=rfl
  rw[tZ,hb]
  simp[w2,z,dz,e2,q]
end
end Tx
end
section
open PySem Mini
namespace Tx
structure Wt(h g:Nat)(ks:List D)(ls:List Bool)(W:List Bool->List D):Prop where
 sub:∀bs,bs.length=(names h g).length->(W bs).Sublist (b7 g)
 pr:∀bs,bs.length=(names h g).length->∀n,pg.fn (n+4) 14 [.val (aG h g ks ls),.val (aF bs)]=.ok (.new (.lst (W bs))) [.val (aG h g ks ls),.val (aF bs)]
 lw:∀bs,bs.length=(names h g).length->∀n,pg.fn (n+3) 45 [.val (aG h g ks ls),.val (aF bs)]=.ok (.new (.lst (W bs))) [.val (aG h g ks ls),.val (aF bs)]
def Z2{h g:Nat}{ks:List D}{ls:List Bool}(O:b8 h g ks ls):∃W,Wt h g ks ls W:=by
 have ag:∀bs:List Bool,∃zs:List D,bs.length=(names h g).length->zs.Sublist (b7 g)/\∀n m:Nat,pg.fn (n+4) 14 (Zau (aG h g ks ls) bs)=.ok (.new (.lst zs)) (Zau (aG h g ks ls) bs)/\pg.fn (m+3) 45 (Zau (aG h g ks ls) bs)=.ok (.new (.lst zs)) (Zau (aG h g ks ls) bs):=fun bs=>by
  by_cases hl:bs.length=(names h g).length
  ·obtain⟨zs,z⟩:=HH O hl
   exact⟨zs,fun _=>z⟩
  ·exact⟨[],fun z=>absurd z hl⟩
 exact⟨fun bs=>Classical.choose (ag bs),fun bs hl=>(Classical.choose_spec (ag bs) hl).1,fun bs hl n=>((Classical.choose_spec (ag bs) hl).2 n 0).1,fun bs hl n=>((Classical.choose_spec (ag bs) hl).2 0 n).2⟩
def lR{s:Str}{xs:List D}(h:cu xs):aH (.str s) xs=true↔D.str s∈xs:=by
 constructor
 ·intro z
  by_cases c:D.str s∈xs
  ·exact c
  ·rw[rY h c]at z;cases z
 ·intro z;exact gh z h
theorem Ld{w:D}(hw:m7 .str w=false):∀{xs:List D},cu xs->aH w xs=false
 |[]=>fun _=>rfl
 |x::xs=>fun h=>by
  obtain⟨s,rfl⟩:=h x QYz
  rw[aH,Ld hw fun y hy=>h y (QYq _ hy),Bool.or_false]
  cases w<;>first|rfl|cases hw
def Bl{W L:List D}(s:W.Sublist L):cu L->L.Nodup->L.filter (fun x=>aH x W)=W:=by
 induction s with
 |slnil=>intro _ _;rfl
 | @cons l₁ l₂ a s ih=>
  intro t nd
  rw[List.nodup_cons]at nd
  obtain⟨q,rfl⟩:=t a QYz
  have t2:cu l₂:=fun x hx=>t x (QYq _ hx)
  have no:aH (.str q) l₁=false:=rY (fun x hx=>t2 x (s.subset hx)) fun z=>nd.1 (s.subset z)
  rw[List.filter_cons,no]
  exact ih t2 nd.2
 | @cons_cons l₁ l₂ a s ih=>
  intro t nd
  rw[List.nodup_cons]at nd
  obtain⟨q,rfl⟩:=t a QYz
  have t2:cu l₂:=fun x hx=>t x (QYq _ hx)
  have yes:aH (.str q) (D.str q::l₁)=true:=by simp[aH,cL]
  rw[List.filter_cons,yes,if_pos rfl]
  congr 1
  refine Eq.trans (List.filter_congr fun x hx=>?_) (ih t2 nd.2)
  obtain⟨u,rfl⟩:=t2 x hx
  have ne:¬q=u:=fun e=>nd.1 (by rw[e];exact hx)
  simp[aH,cL,ne]
theorem vg(x:D):∀xs ys:List D,aH x (xs++ys)=(aH x xs||aH x ys)
 |[]=>fun ys=>rfl
 |y::xs=>fun ys=>by simp[aH,vg x xs ys,Bool.or_assoc]
abbrev St:=List Bool×Nat
def ao(s:St):D:=.tup [aF s.1,.int s.2]
section
variable{h g:Nat}{ks:List D}{ls:List Bool}{os:List D}{sts:List (List (D×Nat))}{W:List Bool->List D}
structure HW(h g:Nat)(sts:List (List (D×Nat)))(s:St):Prop where
 l:s.1.length=(names h g).length
 j:s.2<sts.length
def jG(h:Nat)(sts:List (List (D×Nat)))(W:List Bool->List D)(s:St):List D:=(hd h).filter (fun x=>(lk x (aV sts s.2)).isSome)++W s.1
def gR(h:Nat):cu (hd h):=fun x hx=>bz h 0 x (QWz _ hx)
def kj(g:Nat):cu (b7 g):=fun x hx=>bz 0 g x (QVq _ hx)
def iC(hj:j<sts.length):aV sts j∈sts:=by simp[aV,hj]
def jH{j:Nat}(hj:j<sts.length):at? (sts.map dO) (j:Int)=some (dO (aV sts j)):=by
 rw[gD _ _ (by simpa using hj)]
 simp[aV,hj]
def qK(Wk:Wt h g ks ls W){s:St}(S:HW h g sts s):(jG h sts W s).Sublist (names h g):=(List.filter_sublist).append (Wk.sub s.1 S.l)
def fD(T:bU h g os sts)(O:b8 h g ks ls){j:Nat}(hj:j<sts.length):cu (gG (aV sts j))/\(gG (aV sts j)).Nodup:=by
 have:=(T.mv _ (iC hj)).1
 exact⟨fun x hx=>bz h g x (T.sub.subset (this.subset hx)),this.nodup (T.sub.nodup (names_nodup O.h2 O.g1 O.g5))⟩
def stC:E:=.comp 1 (.name 0) AAb ACZ (.var 0)
abbrev Zae(a b c d e f g h):=([.val (aG a b c d),.val (aJ e f),.val (ao g),h]:Ev)
abbrev Zaw(a b c):=([.val a,.val b,.val (ao c)]:Ev)
def xR(n:Nat)(O:b8 h g ks ls)(T:bU h g os sts)(Wk:Wt h g ks ls W){s:St}(S:HW h g sts s):
  pg.fn (n+5) 21 (Zaw (aG h g ks ls) (aJ os sts) s)=.ok (.new (.lst (jG h sts W s))) (Zaw (aG h g ks ls) (aJ os sts) s):=by
 have K:=fD T O S.j
 have d:=jd (aV sts s.2) [] [] (by simpa using K.1) (by simpa using K.2)
 have e:ev (pg.cf (n+4)) stC (Zae h g ks ls os sts s (.own (.dct (gG (aV sts s.2)) (qx (aV sts s.2)))))=.ok (.new (.lst ((hd h).filter fun x=>(lk x (aV sts s.2)).isSome))) (Zae h g ks ls os sts s (.own (.dct (gG (aV sts s.2)) (qx (aV sts s.2))))):=by
  have:=lV (c:=pg.cf (n+4)) (it:=.idx (.var 0) AAH) (co:=.cmp .isin (.var 0) (.var 4)) (el:=.var 0) (σ:=(Zae h g ks ls os sts s (.own (.dct (gG (aV sts s.2)) (qx (aV sts s.2)))))) (τ:=(Zae h g ks ls os sts s (.own (.dct (gG (aV sts s.2)) (qx (aV sts s.2)))))) (d:=.tup (hd h)) (xs:=hd h) (r:=.val (.tup (hd h))) (fun x=>x) (fun x=>(lk x (aV sts s.2)).isSome) (by simp[aG]) rfl rfl (fun x hx=>by
   obtain⟨q,rfl⟩:=gR h x hx
   have:aK .isin (.str q) (.cH (gG (aV sts s.2)) (qx (aV sts s.2)))=some (lk (.str q) (aV sts s.2)).isSome:=by rw[<-Do];rfl
   simp[this,Ob.d]) (fun x _ _=>by simp)
  rw[List.map_id']at this
  exact this
 have w:=Wk.pr s.1 S.l n
 have t1:getD (aJ os sts) (.int 1)=some (.tup (sts.map dO)):=by simp[aJ]
 have s0:getD (ao s) (.int 0)=some (aF s.1):=by simp[ao]
 have s1:getD (ao s) (.int 1)=some (.int s.2):=by simp[ao]
 have st:=jH S.j
 have sl:=(qK Wk S).length_le
 have nl:=dR (g:=g) O.h2 O.g5
 have h2:=O.h2
 have g5:=O.g5
 have f:fits (((hd h).filter fun x=>(lk x (aV sts s.2)).isSome).length+(W s.1).length)=true:=by
  simp only[jG,QTq]at sl
  simp[fits]
  omega
 have hb:lW=⟨3,4,(.cons (.set 3 (.bi .dict ACQ)) (.cons (.ret (.op .add stC AEW)) .nil))⟩:=rfl
 rw[z7,hb]
 simp[t1,s0,s1,st,dO,d,e,w,f,jG]
end
end Tx
end
section
open PySem Mini
namespace Tx
section
variable{h g:Nat}{ks:List D}{ls:List Bool}{os:List D}{sts:List (List (D×Nat))}{W:List Bool->List D}
theorem Ku{x:D}:∀{st:List (D×Nat)},cu (gG st)->(∃s,x=.str s)->((lk x st).isSome=true↔x∈gG st)
 |[],_,_=>by simp[lk]
 |m::st,t,⟨s,hs⟩=>by
  subst hs
  rw[<-Do,lR t]
def lsM:E:=.comp 1 (.name 0) ACQ ADN AAb
def lsN:E:=.comp 1 (.name 0) AEU ACZ (.var 0)
def Ed(h:Nat)(st:List (D×Nat)):List D:=(st.filter fun m=>aH m.1 (hd h)).map (·.1)
def lN(n:Nat)(O:b8 h g ks ls):pg.fn (n+1) 43 [.val (aG h g ks ls)]=.ok (.new (.lst (names h g))) [.val (aG h g ks ls)]:=
 m5 n (hd h) (b7 g) ks (.tup (ls.map .bl)) (by rw[O.kl,dq O.g5]) (by rw[ig O.h2,dq O.g5];have:=O.h2;have:=O.g5;omega)
def yQ(O:b8 h g ks ls){x:D}(hx:x∈hd h):x∉b7 g:=fun hs=>by
 have nd:=names_nodup O.h2 O.g1 O.g5
 rw[names,List.nodup_append]at nd
 exact nd.2.2 _ hx _ hs rfl
def Jf(O:b8 h g ks ls)(T:bU h g os sts)(Wk:Wt h g ks ls W){s:St}(S:HW h g sts s):(names h g).filter (fun x=>aH x (Ed h (aV sts s.2)++W s.1))=jG h sts W s:=by
 have K:=fD T O S.j
 have ws:=Wk.sub s.1 S.l
 have tW:cu (W s.1):=fun x hx=>kj g x (ws.subset hx)
 have iA:cu (Ed h (aV sts s.2)):=fun x hx=>by
  obtain⟨m,hm,rfl⟩:=QDq.mp hx
  exact K.1 m.1 (QTz (List.mem_filter.mp hm).1)
 have tI:cu (Ed h (aV sts s.2)++W s.1):=fun x hx=>by
  rcases QXz.mp hx with z|z
  ·exact iA x z
  ·exact tW x z
 have hI:∀q:Str,D.str q∈Ed h (aV sts s.2)↔D.str q∈hd h/\D.str q∈gG (aV sts s.2):=fun q=>by
  constructor
  ·intro z
   obtain⟨m,hm,e⟩:=QDq.mp z
   obtain⟨a,b⟩:=List.mem_filter.mp hm
   rw[e]at b
   exact⟨(lR (gR h)).mp b,by rw[<-e];exact QTz a⟩
  ·rintro ⟨a,b⟩
   obtain⟨m,hm,e⟩:=QDq.mp b
   refine QDq.mpr ⟨m,List.mem_filter.mpr ⟨hm,?_⟩,e⟩
   rw[show m.1=D.str q from e]
   exact(lR (gR h)).mpr a
 rw[names,List.filter_append,jG]
 congr 1
 ·refine List.filter_congr fun x hx=>?_
  obtain⟨q,rfl⟩:=gR h x hx
  rw[Bool.eq_iff_iff,lR tI,Ku K.1 ⟨q,rfl⟩,QXz,hI]
  exact⟨fun z=>z.elim (fun a=>a.2) fun a=>absurd (ws.subset a) (yQ O hx),fun z=>.inl ⟨hx,z⟩⟩
 ·refine Eq.trans (List.filter_congr fun x hx=>?_) (Bl ws (kj g) ((List.sublist_append_right (hd h) (b7 g)).nodup (names_nodup O.h2 O.g1 O.g5)))
  obtain⟨q,rfl⟩:=kj g x hx
  rw[Bool.eq_iff_iff,lR tI,lR tW,QXz,hI]
  exact⟨fun z=>z.elim (fun a=>absurd hx (yQ O a.1)) fun a=>a,.inr⟩
def eG{q:Str}{xs:List D}(t:cu xs):aK .isin (.str q) (.lst xs)=some (aH (.str q) xs)/\aK .isin (.str q) (.tup xs)=some (aH (.str q) xs)/\aK .notin (.str q) (.tup xs)=some (!aH (.str q) xs):=by
 have o:eZ (.str q) xs=true:=by unfold eZ;rw[kZ t];rfl
 refine⟨?_,?_,?_⟩
 ·show(if eZ (.str q) xs then some (aH (.str q) xs)else none)=_;rw[o];rfl
 ·show(if eZ (.str q) xs then some (aH (.str q) xs)else none)=_;rw[o];rfl
 ·show(if eZ (.str q) xs then some (!aH (.str q) xs)else none)=_;rw[o];rfl
theorem gA(p:D->Bool):∀st:List (D×Nat),((st.map ie).filter fun d=>match d with|.tup (a::_)=>p a|_=>false).map oX=(st.filter fun m=>p m.1).map (·.1)
 |[]=>rfl
 |m::st=>by
  rw[Qyz,List.filter_cons,List.filter_cons,show(match ie m with|.tup (a::_)=>p a|_=>false)=p m.1 from rfl]
  cases p m.1
  ·exact gA p st
  ·simp only[if_true,Qyz,gA p st];rfl
def wk(n:Nat)(O:b8 h g ks ls)(T:bU h g os sts)(Wk:Wt h g ks ls W){s:St}(S:HW h g sts s):
  pg.fn (n+4) 46 (Zaw (aG h g ks ls) (aJ os sts) s)=.ok (.new (.lst (jG h sts W s))) (Zaw (aG h g ks ls) (aJ os sts) s):=by
 have K:=fD T O S.j
 have t1:getD (aJ os sts) (.int 1)=some (.tup (sts.map dO)):=by simp[aJ]
 have n0:getD (aG h g ks ls) (.int 0)=some (.tup (hd h)):=by simp[aG]
 have s0:getD (ao s) (.int 0)=some (aF s.1):=by simp[ao]
 have s1:getD (ao s) (.int 1)=some (.int s.2):=by simp[ao]
 have st:=jH S.j
 have w:=Wk.lw s.1 S.l n
 have e1:ev (pg.cf (n+3)) lsM (Zae h g ks ls os sts s .un)=.ok (.new (.lst (Ed h (aV sts s.2)))) (Zae h g ks ls os sts s .un):=by
  have:=lV (c:=pg.cf (n+3)) (it:=.idx AAg AAf) (co:=.cmp .isin AAb AAr) (el:=.idx (.var 0) AAH) (σ:=(Zae h g ks ls os sts s .un)) (τ:=(Zae h g ks ls os sts s .un)) (d:=dO (aV sts s.2)) (xs:=(aV sts s.2).map ie) (r:=.val (dO (aV sts s.2))) oX (fun d=>match d with|.tup (a::_)=>aH a (hd h)|_=>false) (by simp[t1,s1,st]) rfl rfl (fun x hx=>by
   obtain⟨m,hm,rfl⟩:=QDq.mp hx
   obtain⟨q,eq⟩:=K.1 m.1 (QTz hm)
   have i:=(eG (q:=q) (gR h)).2.1
   simp[ie,n0,eq,i]) (fun x hx _=>by
   obtain⟨m,hm,rfl⟩:=QDq.mp hx
   simp[ie,oX])
  rw[gA fun a=>aH a (hd h)]at this
  exact this
 have tI:cu (Ed h (aV sts s.2)++W s.1):=fun x hx=>by
  rcases QXz.mp hx with z|z
  ·obtain⟨m,hm,rfl⟩:=QDq.mp z
   exact K.1 m.1 (QTz (List.mem_filter.mp hm).1)
  ·exact kj g x ((Wk.sub s.1 S.l).subset z)
 have ln:=lN (n+2) O
 have e2:ev (pg.cf (n+3)) lsN (Zae h g ks ls os sts s (.own (.lst (Ed h (aV sts s.2)++W s.1))))=.ok (.new (.lst (jG h sts W s))) (Zae h g ks ls os sts s (.own (.lst (Ed h (aV sts s.2)++W s.1)))):=by
  have:=lV (c:=pg.cf (n+3)) (it:=.call 43 AAT) (co:=.cmp .isin (.var 0) (.var 4)) (el:=.var 0) (σ:=(Zae h g ks ls os sts s (.own (.lst (Ed h (aV sts s.2)++W s.1))))) (τ:=(Zae h g ks ls os sts s (.own (.lst (Ed h (aV sts s.2)++W s.1))))) (d:=.lst (names h g)) (xs:=names h g) (r:=.new (.lst (names h g))) (fun x=>x) (fun x=>aH x (Ed h (aV sts s.2)++W s.1)) (by simp[ln]) rfl rfl (fun x hx=>by
   obtain⟨q,rfl⟩:=bz h g x hx
   have i:=(eG (q:=q) tI).1
   simp[i,Ob.d]) (fun x _ _=>by simp)
  rw[List.map_id',Jf O T Wk S]at this
  exact this
 have f:fits ((Ed h (aV sts s.2)).length+(W s.1).length)=true:=by
  have a:(Ed h (aV sts s.2)).length<=(aV sts s.2).length:=by rw[Ed,QAq];exact List.length_filter_le _ _
  have b:=(T.mv _ (iC S.j)).1.length_le
  have c:=(Wk.sub s.1 S.l).length_le
  have d:=T.sub.length_le
  have nl:=dR (g:=g) O.h2 O.g5
  have h2:=O.h2
  have g5:=O.g5
  have:=dq O.g5
  simp at b
  simp only[QTq]at d
  simp[fits]
  omega
 have hb:jZ=⟨3,4,(.cons (.set 3 lsM) (.cons ADo (.cons (.ret lsN) .nil)))⟩:=rfl
 have q:lsN.aB=none:=rfl
 rw[xZ,hb]
 simp[e1,w,s0,f,Ob.d,e2,q]
end
end Tx
end
section
open PySem Mini
namespace Tx
section
variable{h g:Nat}{ks:List D}{ls:List Bool}{os:List D}{sts:List (List (D×Nat))}{W:List Bool->List D}
def dB(xs:List D)(bs:List Bool)(x:D):List Bool:=(xs.zip bs).map fun p=>if cL p.1 x then !p.2 else p.2
def sG{xs:List D}{bs:List Bool}(hl:bs.length=xs.length)(x:D):(dB xs bs x).length=xs.length:=by simp[dB,hl]
def chF(x:D)(p:D×D):D:=match p.2 with
 |.bl b=>.bl (if cL p.1 x then !b else b)
 |d=>d
theorem Fg(x:D):∀(xs:List D)(bs:List Bool),(xs.zip (bs.map D.bl)).map (chF x)=(dB xs bs x).map .bl
 |[],bs=>by simp[dB]
 |_::_,[]=>by simp[dB]
 |y::xs,b::bs=>by
  have:=Fg x xs bs
  simp only[dB]at this⊢
  simp[chF,this]
def chC:E:=.comp 2 (.tup [0,1]) ACY AAP (.ite ADS (.not (.var 1)) (.var 1))
def Bw(n:Nat)(O:b8 h g ks ls){bs:List Bool}(hl:bs.length=(names h g).length){x:D}(hx:∃s,x=.str s):
  pg.fn (n+2) 24 (Zam h g ks ls bs (.val x))=.ok (.val (aF (dB (names h g) bs x))) (Zam h g ks ls bs (.val x)):=by
 obtain⟨q,rfl⟩:=hx
 have w:pg.fn (n+1) 13 [.val (aG h g ks ls)]=.ok (.new (.lst (names h g))) [.val (aG h g ks ls)]:=
  fB n (hd h) (b7 g) ks (.tup (ls.map .bl)) (by rw[O.kl,dq O.g5]) (by rw[ig O.h2,dq O.g5];have:=O.h2;have:=O.g5;omega)
 have e:ev (pg.cf (n+1)) chC (Zam h g ks ls bs (.val (.str q)))=.ok (.new (.lst ((dB (names h g) bs (.str q)).map .bl))) (Zam h g ks ls bs (.val (.str q))):=by
  have:=Ul (c:=pg.cf (n+1)) (it:=.zip (.call 13 AAT) (.var 1)) (el:=.ite ADS (.not (.var 1)) (.var 1)) (σ:=(Zam h g ks ls bs (.val (.str q)))) (τ:=(Zam h g ks ls bs (.val (.str q)))) (d:=.lst (aO (names h g) (bs.map .bl))) (ps:=(names h g).zip (bs.map .bl)) (r:=.val (.lst (aO (names h g) (bs.map .bl)))) (chF (.str q)) (by
    have z:bB (aF bs)=some (bs.map .bl):=rfl
    simp[w,z]) rfl (by show some _=some _;rw[cP]) (fun p hp=>by
    obtain⟨u,eu⟩:=bz h g p.1 (List.of_mem_zip hp).1
    obtain⟨b,_,eb⟩:=QDq.mp (List.of_mem_zip hp).2
    rw[<-eb,eu]
    have e1:chF (.str q) p=.bl (if decide (u=q)then !b else b):=by
     unfold chF
     rw[<-eb,eu]
     rfl
    rw[e1]
    cases c:decide (u=q)<;>simp[c])
  rw[Fg]at this
  exact this
 have hb:pA=⟨3,3,(.cons (.ret (.bi .tuple chC)) .nil)⟩:=rfl
 have qv:chC.aB=none:=rfl
 rw[Gz,hb]
 simp[e,qv]
 rfl
theorem uL:∀(L pre:List D),(bJ pre.length L.length).map (fun d=>match d with|.int i=>(pre++L).getD i.toNat .non|_=>.non)=L
 |[]=>fun pre=>rfl
 |x::L=>fun pre=>by
  have:=uL L (pre++[x])
  simp only[QTq,QBq,List.length_nil,QLq,QLz,List.nil_append]at this
  simp only[QBq,bJ,Qyz]
  rw[show((pre.length:Int)+1)=((pre.length+(0+1):Nat):Int) by simp,this]
  simp[List.getD]
def fgC:E:=.comp 1 (.name 0) (.range1 AEa) AAP (.cmp .ne AEX ACX)
theorem uK:∀(n:Nat)(lo:Int)(x:D),x∈bJ lo n->∃j:Nat,j<n/\x=.int (lo+j)
 |0=>fun _ _ h=>by cases h
 |n+1=>fun lo x h=>by
  rcases QCq.mp h with rfl|h
  ·exact⟨0,by omega,by simp⟩
  ·obtain⟨j,hj,rfl⟩:=uK n (lo+1) x h
   exact⟨j+1,by omega,by congr 1;omega⟩
abbrev Zaq(a b c d e f g h i j):=([.val (aG a b c d),.val e,.val (ao f),.val (.str g),.own (.lst (names a b)),h,i,j]:Ev)
def Rg(n:Nat)(O:b8 h g ks ls)(T:D){s:St}(S:HW h g sts s){q:Str}(s5 s6 s7:Sl):
  ev (pg.cf n) fgC (Zaq h g ks ls T s q s5 s6 s7)=.ok (.new (.lst ((dB (names h g) s.1 (.str q)).map .bl))) (Zaq h g ks ls T s q s5 s6 s7):=by
 have nl:=dR (g:=g) O.h2 O.g5
 have h2:=O.h2
 have g5:=O.g5
 have fl:=sG S.l (.str q)
 have f1:fits (names h g).length=true:=by simp[fits];omega
 have f2:zH (names h g).length=true:=by simp[zH];omega
 have s0:getD (ao s) (.int 0)=some (aF s.1):=by simp[ao]
 have:=sW (c:=pg.cf n) (it:=.range1 AEa) (el:=.cmp .ne AEX ACX) (σ:=(Zaq h g ks ls T s q s5 s6 s7)) (τ:=(Zaq h g ks ls T s q s5 s6 s7)) (d:=.lst (bJ 0 (names h g).length)) (xs:=bJ 0 (names h g).length) (r:=.val (.lst (bJ 0 (names h g).length))) (fun d=>match d with|.int i=>([]++(dB (names h g) s.1 (.str q)).map D.bl).getD i.toNat .non|_=>.non) (by simp[f1,f2,Ob.d]) rfl rfl (fun x hx=>by
  obtain⟨j,hj,rfl⟩:=uK _ _ _ hx
  have hb:j<s.1.length:=by rw[S.l];exact hj
  obtain⟨u,eu⟩:=bz h g _ (List.getElem_mem hj)
  have a1:at? (names h g) (j:Int)=some (.str u):=by rw[gD _ _ hj,QXq hj,eu]
  have a2:at? (s.1.map D.bl) (j:Int)=some (.bl s.1[j]):=by rw[gD _ _ (by simpa using hb)];simp[hb]
  have a3:getD (aF s.1) (.int j)=some (.bl s.1[j]):=by simpa[aF]using a2
  have fj:(dB (names h g) s.1 (.str q)).length=(names h g).length:=fl
  have v:([]++(dB (names h g) s.1 (.str q)).map D.bl).getD ((0:Int)+(j:Int)).toNat .non=.bl (!(s.1[j]==decide (u=q))):=by
   rw[List.nil_append,Int.zero_add,Int.toNat_natCast,List.getD_eq_getElem?_getD,QFz,QXq (by rw[fj];exact hj)]
   have e2:cL (names h g)[j] (.str q)=decide (u=q):=by rw[eu];rfl
   simp only[dB,List.getElem_map,List.getElem_zip,Option.map_some,Option.getD_some,e2]
   cases decide (u=q)<;>cases s.1[j]<;>rfl
  simp only[v]
  simp[s0,a3,a1,Ob.d])
 have fl':((dB (names h g) s.1 (.str q)).map D.bl).length=(names h g).length:=by rw[QAq,fl]
 have rg:=uL ((dB (names h g) s.1 (.str q)).map D.bl) []
 rw[fl']at rg
 rw[show((([]:List D).length:Nat):Int)=0 from rfl]at rg
 rw[rg]at this
 exact this
end
end Tx
end
section
open PySem Mini
namespace Tx
variable{s:St}{x:D}
section
variable{h g:Nat}{ks:List D}{ls:List Bool}{os:List D}{sts:List (List (D×Nat))}{W:List Bool->List D}
def wj(h g:Nat)(os:List D)(sts:List (List (D×Nat)))(s:St)(x:D):Option St:=
 if aH x (hd h)||aH x os then(lk x (aV sts s.2)).map fun j=>(dB (names h g) s.1 x,j)else some (dB (names h g) s.1 x,s.2)
def eV:Option St->D
 |none=>.non
 |some s=>ao s
def sdE(a:List Bool)(j:Nat):D.tup [aF a,.int j]=ao (a,j):=rfl
def iU(T:bU h g os sts):cu os:=fun x hx=>kj g x (T.ou.subset hx)
theorem TF{x:D}{N:Nat}:∀{st:List (D×Nat)},(∀m∈st,m.2<N)->∀{j:Nat},lk x st=some j->j<N
 |[],_,_,e=>by cases e
 |m::st,hm,j,e=>by
  simp only[lk]at e
  split at e
  ·cases e;exact hm m QYz
  ·exact TF (fun q hq=>hm q (QYq _ hq)) e
def WL(T:bU h g os sts){s':St}(S:HW h g sts s)(e:wj h g os sts s x=some s'):HW h g sts s':=by
 unfold wj at e
 split at e
 ·obtain⟨j,hj,rfl⟩:=QJz.mp e
  exact⟨sG S.l x,TF (T.mv _ (iC S.j)).2 hj⟩
 ·cases e
  exact⟨sG S.l x,S.j⟩
abbrev ZaE(a b c):=([.val a,.val (ao b),.val (.str c)]:Ev)
def qC(n:Nat)(O:b8 h g ks ls)(T:bU h g os sts)(S:HW h g sts s)(q:Str):
  pg.fn (n+1) 22 (ZaE (aJ os sts) s q)=.ok (.val (.bl (aH (.str q) os&& !(lk (.str q) (aV sts s.2)).isSome))) (ZaE (aJ os sts) s q):=by
 have K:=fD T O S.j
 have d:=jd (aV sts s.2) [] [] (by simpa using K.1) (by simpa using K.2)
 have t0:getD (aJ os sts) (.int 0)=some (.tup os):=by simp[aJ]
 have t1:getD (aJ os sts) (.int 1)=some (.tup (sts.map dO)):=by simp[aJ]
 have s1:getD (ao s) (.int 1)=some (.int s.2):=by simp[ao]
 have st:=jH S.j
 have i:=(eG (q:=q) (iU T)).2.1
 have i2:aK .notin (.str q) (.cH (gG (aV sts s.2)) (qx (aV sts s.2)))=some (!(lk (.str q) (aV sts s.2)).isSome):=by rw[<-Do];rfl
 rw[vY]
 cases c:aH (.str q) os<;>rw[c]at i<;>simp[jj,t0,i,t1,s1,st,dO,d,Ob.d,i2]
def DK(O:b8 h g ks ls)(T:bU h g os sts)(Wk:Wt h g ks ls W)(S:HW h g sts s){q:Str}(hx:D.str q∈jG h sts W s):(aH (.str q) os&& !(lk (.str q) (aV sts s.2)).isSome)=true/\wj h g os sts s (.str q)=none\/(aH (.str q) os&& !(lk (.str q) (aV sts s.2)).isSome)=false/\wj h g os sts s (.str q)=some (dB (names h g) s.1 (.str q),(lk (.str q) (aV sts s.2)).getD s.2):=by
 have K:=fD T O S.j
 unfold wj
 rcases QXz.mp hx with z|z
 ·obtain⟨z1,z2⟩:=List.mem_filter.mp z
  have no:aH (.str q) os=false:=rY (iU T) fun w=>yQ O z1 (T.ou.subset w)
  have yes:aH (.str q) (hd h)=true:=gh z1 (gR h)
  rw[no,yes]
  obtain⟨j,hj⟩:=Option.isSome_iff_exists.mp z2
  rw[hj]
  exact .inr ⟨rfl,rfl⟩
 ·have zr:=(Wk.sub s.1 S.l).subset z
  have no:aH (.str q) (hd h)=false:=rY (gR h) fun w=>yQ O w zr
  rw[no]
  cases ho:aH (.str q) os with
  |true=>
   cases hj:lk (.str q) (aV sts s.2)with
   |none=>exact .inl ⟨rfl,rfl⟩
   |some j=>exact .inr ⟨rfl,rfl⟩
  |false=>
   have hn:lk (.str q) (aV sts s.2)=none:=by
    cases hj:lk (.str q) (aV sts s.2)with
    |none=>rfl
    |some j=>
     have m:=(Ku K.1 ⟨q,rfl⟩).mp (by rw[hj];rfl)
     rcases QXz.mp ((T.mv _ (iC S.j)).1.subset m)with w|w
     ·exact absurd zr (yQ O w)
     ·rw[gh w (iU T)]at ho;cases ho
   rw[hn]
   exact .inr ⟨rfl,rfl⟩
def G9(n:Nat)(O:b8 h g ks ls)(T:bU h g os sts)(Wk:Wt h g ks ls W)(S:HW h g sts s)(hx:x∈jG h sts W s):
  pg.fn (n+3) 23 (Zae h g ks ls os sts s (.val x))=.ok (.val (eV (wj h g os sts s x))) (Zae h g ks ls os sts s (.val x)):=by
 have K:=fD T O S.j
 have d:=jd (aV sts s.2) [] [] (by simpa using K.1) (by simpa using K.2)
 obtain⟨q,rfl⟩:=bz h g x ((qK Wk S).subset hx)
 have u:=qC (n+1) O T S q
 have c:=Bw n O S.l ⟨q,rfl⟩
 have t1:getD (aJ os sts) (.int 1)=some (.tup (sts.map dO)):=by simp[aJ]
 have s0:getD (ao s) (.int 0)=some (aF s.1):=by simp[ao]
 have s1:getD (ao s) (.int 1)=some (.int s.2):=by simp[ao]
 have st:=jH S.j
 have gt:pK (.cH (gG (aV sts s.2)) (qx (aV sts s.2))) (.str q) (.int s.2)=some (.int ((lk (.str q) (aV sts s.2)).getD s.2)):=by
  show(if keyOk (.str q)then some ((cN (.str q) (gG (aV sts s.2)) (qx (aV sts s.2))).getD (.int s.2))else none)=_
  rw[Dn]
  cases lk (.str q) (aV sts s.2)<;>rfl
 have key:=DK O T Wk S hx
 rw[JB]
 rcases key with ⟨k1,k2⟩|⟨k1,k2⟩
 ·rw[k1]at u
  rw[k2]
  simp[nO,u,eV]
 ·rw[k1]at u
  rw[k2]
  simp[nO,u,t1,s0,s1,st,dO,d,Ob.d,c,pI,gt,aP,eV,sdE]
def Zh:S:=(.cons (.ite (.cmp .eq (.var 6) (.var 3)) ACr .nil) .nil)
abbrev Zak(a b c d e f g h):=([.val a,.val b,.val c,.val (.str d),e,.val f,g,h]:Ev)
theorem TQ(c:Cf)(a b e F:D)(N:Sl){q:Str}:∀(st:List (D×Nat))(s6 s7:Sl),cu (gG st)->bC s6->bC s7->
  (∀j,lk (.str q) st=some j->∃s6' s7',aY (.tup [6,7]) (ex c Zh) (st.map ie) (Zak a b e q N F s6 s7)=.ret (.val (.tup [F,.int j])) (Zak a b e q N F s6' s7'))/\
  (lk (.str q) st=none->∃s6' s7',aY (.tup [6,7]) (ex c Zh) (st.map ie) (Zak a b e q N F s6 s7)=.next (Zak a b e q N F s6' s7'))
 |[]=>fun s6 s7 _ _ _=>⟨fun j z=>(by cases z),fun _=>⟨s6,s7,rfl⟩⟩
 |m::st=>fun s6 s7 t h6 h7=>by
  obtain⟨u,eu⟩:=t m.1 QYz
  have tt:bw (.tup [6,7]) (ie m) (Zak a b e q N F s6 s7)=some (Zak a b e q N F (.val m.1) (.val (.int m.2))):=by
   rcases h6 with rfl|⟨d,rfl⟩<;>rcases h7 with rfl|⟨d,rfl⟩<;>simp[bw,dZ,bN,ie]
  have ih:=TQ c a b e F N (q:=q) st (.val m.1) (.val (.int m.2)) (fun x hx=>t x (QYq _ hx)) (.inr ⟨_,rfl⟩) (.inr ⟨_,rfl⟩)
  rw[Qyz,aY,tt]
  have e1:lk (.str q) (m::st)=if decide (u=q)then some m.2 else lk (.str q) st:=by rw[lk,eu];rfl
  rw[e1,eu]at*
  by_cases cq:u=q
  ·subst cq
   refine⟨fun j z=>?_,fun z=>by simp at z⟩
   simp at z
   subst z
   exact⟨.val (.str u),.val (.int m.2),by simp[Zh,aP]⟩
  ·have sk:(ex c Zh (Zak a b e q N F (.val (.str u)) (.val (.int m.2))))=.next (Zak a b e q N F (.val (.str u)) (.val (.int m.2))):=by simp[Zh,cq]
   simp only[sk]
   simp only[cq,decide_false,Qxq,if_false]
   exact ih
theorem Aq(n:Nat)(O:b8 h g ks ls)(T:bU h g os sts)(S:HW h g sts s)(hx:∃q,x=.str q):
  pg.fn (n+2) 47 (Zae h g ks ls os sts s (.val x))=.ok (.val (eV (wj h g os sts s x))) (Zae h g ks ls os sts s (.val x)):=by
 obtain⟨q,rfl⟩:=hx
 have K:=fD T O S.j
 have ln:=lN n O
 have n0:getD (aG h g ks ls) (.int 0)=some (.tup (hd h)):=by simp[aG]
 have t0:getD (aJ os sts) (.int 0)=some (.tup os):=by simp[aJ]
 have t1:getD (aJ os sts) (.int 1)=some (.tup (sts.map dO)):=by simp[aJ]
 have s1:getD (ao s) (.int 1)=some (.int s.2):=by simp[ao]
 have st:=jH S.j
 have i1:=(eG (q:=q) (gR h)).2.2
 have i2:=(eG (q:=q) (iU T)).2.2
 have fe:=Rg (n+1) O (aJ os sts) S (q:=q) .un .un .un
 have lg:=TQ (pg.cf (n+1)) (aG h g ks ls) (aJ os sts) (ao s) (aF (dB (names h g) s.1 (.str q))) (.own (.lst (names h g))) (q:=q) (aV sts s.2) .un .un K.1 (.inl rfl) (.inl rfl)
 have it:items (dO (aV sts s.2))=some ((aV sts s.2).map ie):=rfl
 have rd:D.tup ((dB (names h g) s.1 (.str q)).map D.bl)=aF (dB (names h g) s.1 (.str q)):=rfl
 have hb:o6=⟨4,8,(.cons (.set 4 AEU) (.cons (.set 5 (.bi .tuple fgC)) (.cons (.ite ACc ACx .nil) (.cons (.for_ (.tup [6,7]) ACQ Zh) AAv))))⟩:=rfl
 have qv:fgC.aB=none:=rfl
 rw[Gr,hb]
 unfold wj
 cases c1:aH (.str q) (hd h)with
 |false=>
  cases c2:aH (.str q) os with
  |false=>
   rw[c1]at i1
   rw[c2]at i2
   simp[ln,fe,qv,rd,n0,t0,i1,i2,s1,aP,eV,sdE]
  |true=>
   rw[c1]at i1
   rw[c2]at i2
   cases hj:lk (.str q) (aV sts s.2)with
   |none=>
    obtain⟨s6,s7,e⟩:=lg.2 hj
    simp[ln,fe,qv,rd,n0,t0,i1,i2,t1,s1,st,it,e,eV]
   |some j=>
    obtain⟨s6,s7,e⟩:=lg.1 j hj
    simp[ln,fe,qv,rd,n0,t0,i1,i2,t1,s1,st,it,e,eV,sdE]
 |true=>
  rw[c1]at i1
  cases hj:lk (.str q) (aV sts s.2)with
  |none=>
   obtain⟨s6,s7,e⟩:=lg.2 hj
   simp[ln,fe,qv,rd,n0,i1,t1,s1,st,it,e,eV]
  |some j=>
   obtain⟨s6,s7,e⟩:=lg.1 j hj
   simp[ln,fe,qv,rd,n0,i1,t1,s1,st,it,e,eV,sdE]
end
end Tx
end
section
open PySem Mini
namespace Tx
structure Cs where
 h:Nat
 g:Nat
 ks:List D
 ls:List Bool
 os:List D
 sts:List (List (D×Nat))
 W:List Bool->List D
namespace Cs
variable(C:Cs)
structure Ok:Prop where
 o:b8 C.h C.g C.ks C.ls
 t:bU C.h C.g C.os C.sts
 w:Wt C.h C.g C.ks C.ls C.W
def n:D:=aG C.h C.g C.ks C.ls
def t:D:=aJ C.os C.sts
abbrev nm:List D:=names C.h C.g
abbrev S(s:St):Prop:=HW C.h C.g C.sts s
def st(s:St):List D:=jG C.h C.sts C.W s
def led(s:St)(x:D):Option St:=wj C.h C.g C.os C.sts s x
end Cs
variable{x:D}
section
variable{C:Cs}{s:St}
namespace Cs.Ok
variable(K:C.Ok)
include K
def sub(S:C.S s):(C.st s).Sublist C.nm:=qK K.w S
def pQ(S:C.S s):cu (C.st s):=fun x hx=>bz C.h C.g x ((K.sub S).subset hx)
def RQ(S:C.S s):cu (C.W s.1):=fun x hx=>kj C.g x ((K.w.sub s.1 S.l).subset hx)
def yH{t:St}(S:C.S s)(e:C.led s x=some t):C.S t:=WL K.t S e
def fG(m:Nat)(S:C.S s):pg.fn (m+5) 21 (Zaw C.n C.t s)=.ok (.new (.lst (C.st s))) (Zaw C.n C.t s):=xR m K.o K.t K.w S
def iK(m:Nat)(S:C.S s):pg.fn (m+4) 46 (Zaw C.n C.t s)=.ok (.new (.lst (C.st s))) (Zaw C.n C.t s):=wk m K.o K.t K.w S
abbrev _root_.Zaj(a b c d):=([.val a,.val b,.val (ao c),.val d]:Ev)
def jN(m:Nat)(S:C.S s)(hx:x∈C.st s):pg.fn (m+3) 23 (Zaj C.n C.t s x)=.ok (.val (eV (C.led s x))) (Zaj C.n C.t s x):=G9 m K.o K.t K.w S hx
def gQ(m:Nat)(S:C.S s)(hx:∃q,x=.str q):pg.fn (m+2) 47 (Zaj C.n C.t s x)=.ok (.val (eV (C.led s x))) (Zaj C.n C.t s x):=Aq m K.o K.t S hx
def checked(m:Nat):pg.fn (m+9) 17 [.val C.n,.val C.t]=.ok (.val C.t) [.val C.n,.val C.t]:=p8 m K.o K.t
def wpr(m:Nat)(S:C.S s):pg.fn (m+4) 14 (Zau C.n s.1)=.ok (.new (.lst (C.W s.1))) (Zau C.n s.1):=K.w.pr s.1 S.l m
def wlw(m:Nat)(S:C.S s):pg.fn (m+3) 45 (Zau C.n s.1)=.ok (.new (.lst (C.W s.1))) (Zau C.n s.1):=K.w.lw s.1 S.l m
def unasked(m:Nat)(S:C.S s){q:Str}(hx:D.str q∈C.st s):pg.fn (m+1) 22 (ZaE C.t s q)=.ok (.val (.bl (C.led s (.str q)).isNone)) (ZaE C.t s q):=by
 have u:=qC m K.o K.t S q
 rcases DK K.o K.t K.w S hx with ⟨a,b⟩|⟨a,b⟩<;>rw[a]at u<;>rw[Cs.led,b]<;>exact u
end Cs.Ok
def Rr(m:Nat)(ns:List Int)(k:Int)(hk:0<=k):∃C:Cs,C.Ok/\pg.fn (m+9) 42 [.val (.lst (ns.map .int)),.val (.int k)]=.ok (.val (.tup [C.n,C.t])) [.val (.lst (ns.map .int)),.val (.int k)]:=by
 obtain⟨h,g,ks,ls,os,sts,O,T,e⟩:=Rq m ns k hk
 obtain⟨W,w⟩:=Z2 O
 exact⟨⟨h,g,ks,ls,os,sts,W⟩,⟨O,T,w⟩,e⟩
def Dh:getD C.n (.int 2)=some (aF C.ls):=by simp[Cs.n,aG];rfl
def zO:getD C.t (.int 0)=some (.tup C.os):=by simp[Cs.t,aJ]
def I9:getD C.t (.int 1)=some (.tup (C.sts.map dO)):=by simp[Cs.t,aJ]
def Ga(s:St):getD (ao s) (.int 0)=some (aF s.1):=by simp[ao]
def Vs(s:St):getD (ao s) (.int 1)=some (.int s.2):=by simp[ao]
end
abbrev Rs:=List (St×List D)
def kD(R:Rs):List D:=R.map fun p=>ao p.1
def vD(R:Rs):List D:=R.map fun p=>.lst p.2
def Av(R N:Rs):kD (R++N)=kD R++kD N:=List.map_append
def Va(R N:Rs):vD (R++N)=vD R++vD N:=List.map_append
def oR(R:Rs):(kD R).length=R.length:=QAq _
theorem CK:∀a b:List Bool,jc (a.map .bl) (b.map .bl)=decide (a=b)
 |[],[]=>rfl
 |[],_::_=>rfl
 |_::_,[]=>rfl
 |x::a,y::b=>by
  simp only[Qyz,jc,cL,CK a b,List.cons.injEq]
  by_cases e:x=y<;>by_cases e':a=b<;>simp[e,e']
def Cu(a b:St):cL (ao a) (ao b)=decide (a=b):=by
 obtain⟨a,i⟩:=a
 obtain⟨b,j⟩:=b
 simp only[ao,aF,cL,jc,CK,Bool.and_true,Prod.mk.injEq]
 by_cases e:a=b<;>by_cases e':i=j<;>simp[e,e']<;>omega
theorem Lf(t:St):∀R:Rs,aH (ao t) (kD R)=decide (t∈R.map (·.1))
 |[]=>by simp[kD,aH]
 |p::R=>by
  have:=Lf t R
  simp only[kD]at this
  simp only[kD,Qyz,aH,Cu,this,QCq]
  by_cases e:p.1=t
  ·simp[e]
  ·have:¬t=p.1:=fun z=>e z.symm
   simp[e,this]
def Kw(s:St):Rs->Option (List D)
 |[]=>none
 |p::R=>if p.1=s then some p.2 else Kw s R
theorem TJ(s:St):∀R:Rs,cN (ao s) (kD R) (vD R)=(Kw s R).map D.lst
 |[]=>rfl
 |p::R=>by
  have:=TJ s R
  simp only[kD,vD]at this
  simp only[kD,vD,Qyz,cN,Cu,this,Kw]
  by_cases e:p.1=s<;>simp[e]
theorem Dr{s:St}{r:List D}(N:Rs):∀{R:Rs},Kw s R=some r->Kw s (R++N)=some r
 |[]=>fun e=>by cases e
 |p::R=>fun e=>by
  simp only[QLz,Kw]at e⊢
  split
  ·rename_i z;rw[if_pos z]at e;exact e
  ·rename_i z;rw[if_neg z]at e;exact Dr N e
theorem rK{s:St}{r:List D}:∀{R:Rs}{k:Nat},(R.map (·.1)).Nodup->R[k]? =some (s,r)->Kw s R=some r
 |[],_=>fun _ e=>by cases e
 |p::R,0=>fun _ e=>by cases e;simp[Kw]
 |p::R,k+1=>fun nd e=>by
  have e':R[k]? =some (s,r):=e
  rw[Qyz,List.nodup_cons]at nd
  have ne:¬p.1=s:=fun z=>nd.1 (by rw[z];exact QTz (f:=(·.1)) (QBz e'))
  rw[Kw,if_neg ne]
  exact rK nd.2 e'
def jP(s:St):m8 (ao s)=true:=by
 have:∀bs:List Bool,(bools (bs.map .bl)).isSome=true:=fun bs=>by
  induction bs with
  |nil=>rfl
  |cons b bs ih=>simp only[Qyz,bools,Option.isSome_map,ih]
 exact this s.1
def CZ(t:St)(R:Rs):aK .notin (ao t) (.fZ (kD R) (vD R))=some (!decide (t∈R.map (·.1))):=by
 show(if m8 (ao t)then some (!aH (ao t) (kD R))else none)=_
 rw[jP,Lf]
 rfl
variable{R:Rs}{r:List D}
def Eh{s:St}(e:Kw s R=some r):getD (.fZ (kD R) (vD R)) (ao s)=some (.lst r):=by
 show(if m8 (ao s)then cN (ao s) (kD R) (vD R)else none)=_
 rw[jP,TJ,e]
 rfl
def Ti{t:St}(e:t∉R.map (·.1))(f:R.length+1<=1000):rn (ao t) (.lst r) (.sdt (kD R) (vD R))=some (.sdt (kD (R++[(t,r)])) (vD (R++[(t,r)]))):=by
 have f':fits ((kD R).length+1)=true:=by rw[oR];simp[fits];omega
 show(if m8 (ao t)&&fits ((kD R).length+1)then some (Ob.sdt (putD (ao t) (.lst r) (kD R) (vD R)).1 (putD (ao t) (.lst r) (kD R) (vD R)).2)else none)=_
 have i:aH (ao t) (kD R)=false:=by rw[Lf];simpa using e
 have p:putD (ao t) (.lst r) (kD R) (vD R)=(kD R++[ao t],vD R++[.lst r]):=by unfold putD;rw[i];rfl
 rw[jP,f',p,Av,Va]
 rfl
section
variable{C:Cs}
structure Cs.Ro(C:Cs)(R:Rs):Prop where
 nd:(R.map (·.1)).Nodup
 ok:∀p∈R,C.S p.1
 le:∀p∈R,p.2.length<=R.length
 wr:∀p∈R,∀x∈p.2,x∈C.nm
def Cs.new(C:Cs)(s:St)(r:List D):List D->Rs->Rs
 |[],_=>[]
 |x::xs,R=>match C.led s x with
  |none=>C.new s r xs R
  |some t=>if t∈R.map (·.1)then C.new s r xs R else(t,r++[x])::C.new s r xs (R++[(t,r++[x])])
def Ak(Y:C.Ro R){t:St}(S:C.S t)(hr:r.length<=R.length+1)(ht:t∉R.map (·.1))(hw:∀x∈r,x∈C.nm):C.Ro (R++[(t,r)]):=by
 refine⟨?_,fun p hp=>?_,fun p hp=>?_,fun p hp=>?_⟩
 ·rw[List.map_append,List.nodup_append]
  exact⟨Y.nd,by simp,fun a ha b hb e=>ht (by
   have:b=t:=by simpa using hb
   rw[<-this,<-e];exact ha)⟩
 ·rcases QXz.mp hp with z|z
  ·exact Y.ok p z
  ·rw[QDz.mp z];exact S
 ·rw[QTq]
  rcases QXz.mp hp with z|z
  ·exact Nat.le_succ_of_le (Y.le p z)
  ·rw[QDz.mp z];exact hr
 ·rcases QXz.mp hp with z|z
  ·exact Y.wr p z
  ·rw[QDz.mp z];exact hw
def qw(hw:∀x∈r,x∈C.nm)(hx:x∈C.nm):∀y∈r++[x],y∈C.nm:=fun y hy=>by
 rcases QXz.mp hy with z|z
 ·exact hw y z
 ·rw[QDz.mp z];exact hx
theorem lQ(K:C.Ok){s:St}(S:C.S s){r:List D}(hw:∀x∈r,x∈C.nm):∀(xs:List D){R:Rs},(∀x∈xs,x∈C.nm)->C.Ro R->r.length<=R.length->C.Ro (R++C.new s r xs R)
 |[],R,_,Y,_=>by simpa[Cs.new]using Y
 |x::xs,R,hx,Y,hr=>by
  have hx':∀y∈xs,y∈C.nm:=fun y hy=>hx y (QYq _ hy)
  rw[Cs.new]
  split
  ·exact lQ K S hw xs hx' Y hr
  ·rename_i t e
   split
   ·exact lQ K S hw xs hx' Y hr
   ·rename_i ht
    have:=lQ K S (r:=r) hw xs hx' (Ak Y (K.yH S e) (r:=r++[x]) (by simp;omega) ht (qw hw (hx x QYz))) (by simp;omega)
    rw[QLq]at this
    exact this
def allB:Nat->List (List Bool)
 |0=>[[]]
 |n+1=>(allB n).map (true:: ·)++(allB n).map (false:: ·)
theorem zx:∀n,(allB n).length=2 ^n
 |0=>rfl
 |n+1=>by rw[allB,QTq,QAq,QAq,zx n,Nat.pow_succ];omega
theorem tR:∀bs:List Bool,bs∈allB bs.length
 |[]=>by simp[allB]
 |b::bs=>by
  rw[QBq,allB,QXz]
  cases b
  ·exact .inr (QTz (tR bs))
  ·exact .inl (QTz (tR bs))
def Nh(n:Nat):List St:=(allB n).map (·,0)++((allB n).map (·,1)++((allB n).map (·,2)++(allB n).map (·,3)))
def Ng(n:Nat):(Nh n).length=4*2 ^n:=by
 simp only[Nh,QTq,QAq,zx]
 omega
def Nf{s:St}(h:s.2<4):s∈Nh s.1.length:=by
 obtain⟨bs,j⟩:=s
 have m:=tR bs
 simp only[Nh,QXz,QDq]
 rcases j with _|_|_|_|j
 ·exact .inl ⟨bs,m,rfl⟩
 ·exact .inr (.inl ⟨bs,m,rfl⟩)
 ·exact .inr (.inr (.inl ⟨bs,m,rfl⟩))
 ·exact .inr (.inr (.inr ⟨bs,m,rfl⟩))
 ·simp at h;omega
theorem yt:∀(l L:List St),l.Nodup->(∀x∈l,x∈L)->l.length<=L.length
 |[]=>fun _ _ _=>QIq _
 |x::l=>fun L nd m=>by
  rw[List.nodup_cons]at nd
  have mx:=m x QYz
  have:=yt l (L.erase x) nd.2 fun y hy=>(List.mem_erase_of_ne fun e=>nd.1 (by rw[<-e];exact hy)).mpr (m y (QYq _ hy))
  rw[List.length_erase_of_mem mx]at this
  have:=List.length_pos_of_mem mx
  rw[QBq]
  omega
def Cs.Ro.mZ(K:C.Ok)(X:C.Ro R):R.length<=512:=by
 have a:=yt (R.map (·.1)) (Nh (C.nm).length) X.nd fun s hs=>by
  obtain⟨p,hp,rfl⟩:=QDq.mp hs
  have S:=X.ok p hp
  rw[<-S.l]
  exact Nf (Qvq S.j K.t.s4)
 rw[QAq,Ng,dR K.o.h2 K.o.g5]at a
 have h2:=K.o.h2
 have g5:=K.o.g5
 have:2 ^(C.h+C.g)<=2 ^7:=Nat.pow_le_pow_right (by omega) (by omega)
 omega
def Cs.nJ(C:Cs):Nat->Nat->Rs->Rs
 |0,_,R=>R
 |f+1,k,R=>match R[k]? with
  |none=>R
  |some p=>C.nJ f (k+1) (R++C.new p.1 p.2 (C.st p.1) R)
theorem MP(K:C.Ok):∀(f k:Nat){R:Rs},C.Ro R->C.Ro (C.nJ f k R)
 |0,_,_,X=>X
 |f+1,k,R,X=>by
  rw[Cs.nJ]
  split
  ·exact X
  ·rename_i p e
   have m:=QBz e
   exact MP K f (k+1) (lQ K (X.ok p m) (X.wr p m) _ (fun x hx=>(K.sub (X.ok p m)).subset hx) X (X.le p m))
def sI(ls:List Bool):St:=(ls,0)
def Jq(K:C.Ok):C.S (sI C.ls):=⟨by rw[dR K.o.h2 K.o.g5];exact K.o.ll,K.t.s1⟩
def R0(ls:List Bool):Rs:=[(sI ls,[])]
def Ft(K:C.Ok):C.Ro (R0 C.ls):=⟨by simp[R0],fun p hp=>by rw[QDz.mp hp];exact Jq K,fun p hp=>by rw[QDz.mp hp];simp,fun p hp=>by rw[QDz.mp hp];simp⟩
end
end Tx
end
section
open PySem Mini
namespace Tx
section
variable{C:Cs}
def dW(s:St):bD (ao s)=false:=rfl
def LQ(n:Nat):pg.fn (n+1) 20 [.val C.n]=.ok (.val (ao (sI C.ls))) [.val C.n]:=by
 have n2:=Dh (C:=C)
 rw[uc]
 simp[il,n2,aP]
 rfl
def QF:S:=(.cons (.set 6 (.call 23 ABN)) (.cons (.ite (.and (.cons ADc ABb)) ABr .nil) .nil))
abbrev Zac(a b c d e f g):=([.val a,.val b,.val (ao c),.bor (.sdt (kD d) (vD d)),.own (.lst e),f,g]:Ev)
theorem De(n:Nat)(K:C.Ok){s:St}(S:C.S s){r:List D}:∀(xs:List D)(R:Rs)(M:List D)(s5 s6:Sl),(∀x∈xs,x∈C.st s)->C.Ro R->Kw s R=some r->r.length<=R.length->(∀x∈r,x∈C.nm)->M.length<=R.length->bC s5->bC s6->∃s5' s6',
  aY (.name 5) (ex (pg.cf (n+3)) QF) xs (Zac C.n C.t s R M s5 s6)=.next (Zac C.n C.t s (R++C.new s r xs R) (M++kD (C.new s r xs R)) s5' s6')
 |[]=>fun R M s5 s6 _ _ _ _ _ _ _ _=>⟨s5,s6,by simp[aY,Cs.new,kD]⟩
 |x::xs=>fun R M s5 s6 hx X lr rl rw_' ml h5 h6=>by
  have lt:=K.jN n S (hx x QYz)
  have hx':∀y∈xs,y∈C.st s:=fun y hy=>hx y (QYq _ hy)
  have tt:bw (.name 5) x (Zac C.n C.t s R M s5 s6)=some (Zac C.n C.t s R M (.val x) s6):=by
   rcases h5 with rfl|⟨d,rfl⟩<;>simp[bw,bN]
  rw[aY,tt]
  simp only[Cs.new]
  have c6:∀d,pR 6 (Zac C.n C.t s R M (.val x) s6) (.val d) (some s6)=some (Zac C.n C.t s R M (.val x) (.val d)):=fun d=>by
   rcases h6 with rfl|⟨d,rfl⟩<;>simp
  cases e:C.led s x with
  |none=>
   rw[e]at lt
   have go:ex (pg.cf (n+3)) QF (Zac C.n C.t s R M (.val x) s6)=.next (Zac C.n C.t s R M (.val x) (.val .non)):=by
    simp[QF,lt,c6,eV]
   simp only[go]
   exact De n K S xs R M (.val x) (.val .non) hx' X lr rl rw_' ml (.inr ⟨_,rfl⟩) (.inr ⟨_,rfl⟩)
  |some t=>
   rw[e]at lt
   have ni:=CZ t R
   by_cases ht:t∈R.map (·.1)
   ·have go:ex (pg.cf (n+3)) QF (Zac C.n C.t s R M (.val x) s6)=.next (Zac C.n C.t s R M (.val x) (.val (ao t))):=by
     rw[QFq ht]at ni
     simp[QF,lt,c6,eV,dW,ni,Ob.d]
    simp only[go,if_pos ht]
    exact De n K S xs R M (.val x) (.val (ao t)) hx' X lr rl rw_' ml (.inr ⟨_,rfl⟩) (.inr ⟨_,rfl⟩)
   ·have rb:=X.mZ K
    have pr:=Ti (t:=t) (r:=r++[x]) (R:=R) ht (by omega)
    have ge:=Eh lr
    have f1:fits (r.length+1)=true:=by simp[fits];omega
    have f2:fits (M.length+1)=true:=by simp[fits];omega
    have go:ex (pg.cf (n+3)) QF (Zac C.n C.t s R M (.val x) s6)=.next (Zac C.n C.t s (R++[(t,r++[x])]) (M++[ao t]) (.val x) (.val (ao t))):=by
     rw[QEz ht]at ni
     simp[QF,lt,c6,eV,dW,ni,Ob.d,ge,aP,f1,pr,f2,ue,dX]
    simp only[go,if_neg ht]
    obtain⟨a,b,z⟩:=De n K S (r:=r) xs (R++[(t,r++[x])]) (M++[ao t]) (.val x) (.val (ao t)) hx' (Ak X (K.yH S e) (by simp;omega) ht (qw rw_' ((K.sub S).subset (hx x QYz)))) (Dr _ lr) (by simp;omega) rw_' (by simp;omega) (.inr ⟨_,rfl⟩) (.inr ⟨_,rfl⟩)
    refine⟨a,b,?_⟩
    rw[show(Fl.next (Zac C.n C.t s (R++[(t,r++[x])]) (M++[ao t]) (.val x) (.val (ao t)))).turn (aY (.name 5) (ex (pg.cf (n+3)) QF) xs)=_ from z]
    simp only[QLq,QLz,List.nil_append]
    rfl
def Kd(n:Nat)(K:C.Ok){R:Rs}(X:C.Ro R){k:Nat}{s:St}{r:List D}(e:R[k]? =some (s,r)):
  pg.fn (n+6) 25 [.val C.n,.val C.t,.val (ao s),.bor (.sdt (kD R) (vD R))]=.ok (.new (.lst (kD (C.new s r (C.st s) R)))) [.val C.n,.val C.t,.val (ao s),.bor (.sdt (kD (R++C.new s r (C.st s) R)) (vD (R++C.new s r (C.st s) R)))]:=by
 have m:=QBz e
 have S:=X.ok _ m
 have st:=K.fG n S
 obtain⟨a,b,z⟩:=De (n+2) K S (r:=r) (C.st s) R [] .un .un (fun x hx=>hx) X (rK X.nd e) (X.le _ m) (X.wr _ m) (QIq _) (.inl rfl) (.inl rfl)
 have hb:jW=⟨4,7,(.cons (.set 4 AAa) (.cons (.for_ (.name 5) AEV QF) ACg))⟩:=rfl
 rw[xX,hb]
 simp[aP,st,items,z,Ob.d]
def Rk(x:D)(xs:List D):cut (x::xs) (some 1) none=xs:=by
 have a:clip (xs.length+1) 1=1:=by
  unfold clip
  simp
  intro z
  omega
 simp[cut,a]
def Fp(x:D)(xs:List D):at? (x::xs) 0=some x:=by
 unfold at? ix?
 simp
end
end Tx
end
section
open PySem Mini
namespace Tx
section
variable{C:Cs}
def QM:S:=(.cons ACR (.cons (.ite (.and (.cons ADc ABb)) ABc .nil) .nil))
def Up{R:Rs}{k:Nat}{s:St}{r:List D}(e:R[k]? =some (s,r)):at? (kD R) (k:Int)=some (ao s):=by
 have l:k<R.length:=(QCz.mp e).1
 rw[gD _ _ (by rw[oR];exact l)]
 simp[kD,e]
abbrev Zaa(a b c d e f):=([.val a,.val b,.own (.lst (kD c)),.own (.sdt (kD c) (vD c)),.val (.int d),e,f]:Ev)
theorem Dt(n:Nat)(K:C.Ok){k:Nat}{s:St}(S:C.S s){r:List D}:∀(xs:List D)(R:Rs)(s5 s6:Sl),(∀x∈xs,x∈C.nm)->C.Ro R->R[k]? =some (s,r)->bC s5->bC s6->∃s5' s6',bC s5'/\bC s6'/\
  aY (.name 5) (ex (pg.cf (n+2)) QM) xs (Zaa C.n C.t R k s5 s6)=.next (Zaa C.n C.t (R++C.new s r xs R) k s5' s6')
 |[]=>fun R s5 s6 _ _ _ h5 h6=>⟨s5,s6,h5,h6,by simp[aY,Cs.new]⟩
 |x::xs=>fun R s5 s6 hx X er h5 h6=>by
  have ld:=K.gQ n S (bz C.h C.g x (hx x QYz))
  have hx':∀y∈xs,y∈C.nm:=fun y hy=>hx y (QYq _ hy)
  have ak:=Up er
  have lr:=rK X.nd er
  have rl:=X.le _ (QBz er)
  have tt:bw (.name 5) x (Zaa C.n C.t R k s5 s6)=some (Zaa C.n C.t R k (.val x) s6):=by
   rcases h5 with rfl|⟨d,rfl⟩<;>simp[bw,bN]
  rw[aY,tt]
  simp only[Cs.new]
  have c6:∀d,pR 6 (Zaa C.n C.t R k (.val x) s6) (.val d) (some s6)=some (Zaa C.n C.t R k (.val x) (.val d)):=fun d=>by
   rcases h6 with rfl|⟨d,rfl⟩<;>simp
  cases e:C.led s x with
  |none=>
   rw[e]at ld
   have go:ex (pg.cf (n+2)) QM (Zaa C.n C.t R k (.val x) s6)=.next (Zaa C.n C.t R k (.val x) (.val .non)):=by
    simp[QM,ak,ld,c6,eV,Ob.d]
   simp only[go]
   exact Dt n K S xs R (.val x) (.val .non) hx' X er (.inr ⟨_,rfl⟩) (.inr ⟨_,rfl⟩)
  |some t=>
   rw[e]at ld
   have ni:=CZ t R
   by_cases ht:t∈R.map (·.1)
   ·have go:ex (pg.cf (n+2)) QM (Zaa C.n C.t R k (.val x) s6)=.next (Zaa C.n C.t R k (.val x) (.val (ao t))):=by
     rw[QFq ht]at ni
     simp[QM,ak,ld,c6,eV,dW,ni,Ob.d]
    simp only[go,if_pos ht]
    exact Dt n K S xs R (.val x) (.val (ao t)) hx' X er (.inr ⟨_,rfl⟩) (.inr ⟨_,rfl⟩)
   ·have rb:=X.mZ K
    have pr:=Ti (t:=t) (r:=r++[x]) (R:=R) ht (by omega)
    have ge:=Eh lr
    have f1:fits (r.length+1)=true:=by have:r.length<=R.length:=rl;simp[fits];omega
    have f2:fits ((kD R).length+1)=true:=by rw[oR];simp[fits];omega
    have ka:kD R++[ao t]=kD (R++[(t,r++[x])]):=by rw[Av];rfl
    have go:ex (pg.cf (n+2)) QM (Zaa C.n C.t R k (.val x) s6)=.next (Zaa C.n C.t (R++[(t,r++[x])]) k (.val x) (.val (ao t))):=by
     rw[QEz ht]at ni
     simp[QM,ak,ld,c6,eV,dW,ni,Ob.d,ge,aP,f1,pr,f2,ue,dX,ka]
    simp only[go,if_neg ht]
    have er':(R++[(t,r++[x])])[k]? =some (s,r):=by
     rw[Qwz (QCz.mp er).1];exact er
    obtain⟨a,b,ha,hb,z⟩:=Dt n K S (r:=r) xs (R++[(t,r++[x])]) (.val x) (.val (ao t)) hx' (Ak X (K.yH S e) (by have:r.length<=R.length:=rl;simp;omega) ht (qw (X.wr _ (QBz er)) (hx x QYz))) er' (.inr ⟨_,rfl⟩) (.inr ⟨_,rfl⟩)
    refine⟨a,b,ha,hb,?_⟩
    rw[show(Fl.next (Zaa C.n C.t (R++[(t,r++[x])]) k (.val x) (.val (ao t)))).turn (aY (.name 5) (ex (pg.cf (n+2)) QM) xs)=_ from z]
    simp only[QLq,QLz,List.nil_append]
def Wz:E:=(.cmp .lt (.var 4) ACL)
def Zb:S:=(.cons (.for_ (.name 5) ACb QM) ADi)
theorem Tz(n:Nat)(K:C.Ok):∀(f k:Nat)(R:Rs)(s5 s6:Sl),C.Ro R->k<=R.length->512<f+k->bC s5->bC s6->∃s4' s5' s6',
  bL (ev (pg.cf (n+4)) Wz) (ex (pg.cf (n+4)) Zb) f [.val C.n,.val C.t,.own (.lst (kD R)),.own (.sdt (kD R) (vD R)),.val (.int k),s5,s6]=.next [.val C.n,.val C.t,.own (.lst (kD (C.nJ f k R))),.own (.sdt (kD (C.nJ f k R)) (vD (C.nJ f k R))),s4',s5',s6']
 |0=>fun k R _ _ X hk hf _ _=>by have:=X.mZ K;omega
 |f+1=>fun k R s5 s6 X hk hf h5 h6=>by
  have rb:=X.mZ K
  have l:=oR R
  by_cases c:k<R.length
  ·obtain⟨p,e⟩:∃p,R[k]? =some p:=⟨_,QXq c⟩
   obtain⟨s,r⟩:=p
   have m:=QBz e
   have S:=X.ok _ m
   have st:=K.iK n S
   have ak:=Up e
   obtain⟨a,b,ha,hb,z⟩:=Dt (n+2) K S (C.st s) R s5 s6 (fun x hx=>(K.sub S).subset hx) X e h5 h6
   have X':=lQ K S (X.wr _ m) (C.st s) (fun x hx=>(K.sub S).subset hx) X (X.le _ m)
   obtain⟨q4,q5,q6,zz⟩:=Tz n K f (k+1) _ a b X' (by simp;omega) (by omega) ha hb
   refine⟨q4,q5,q6,?_⟩
   have go:ex (pg.cf (n+4)) Zb [.val C.n,.val C.t,.own (.lst (kD R)),.own (.sdt (kD R) (vD R)),.val (.int k),s5,s6]=.next [.val C.n,.val C.t,.own (.lst (kD (R++C.new s r (C.st s) R))),.own (.sdt (kD (R++C.new s r (C.st s) R)) (vD (R++C.new s r (C.st s) R))),.val (.int ((k+1:Nat):Int)),a,b]:=by
    simp[Zb,ak,st,Ob.d,items,z]
   have lt:(k:Int)< (R.length:Int):=by omega
   have te:ev (pg.cf (n+4)) Wz [.val C.n,.val C.t,.own (.lst (kD R)),.own (.sdt (kD R) (vD R)),.val (.int k),s5,s6]=.ok (.val (.bl true)) [.val C.n,.val C.t,.own (.lst (kD R)),.own (.sdt (kD R) (vD R)),.val (.int k),s5,s6]:=by
    simp[Wz,Ob.d,l,c]
   rw[bL,te]
   simp only[Cs.nJ,e]
   refine Eq.trans ?_ zz
   show(ex (pg.cf (n+4)) Zb _).turn _=_
   rw[go]
   rfl
  ·have ge:R[k]? =none:=List.getElem?_eq_none (by omega)
   have te:ev (pg.cf (n+4)) Wz [.val C.n,.val C.t,.own (.lst (kD R)),.own (.sdt (kD R) (vD R)),.val (.int k),s5,s6]=.ok (.val (.bl false)) [.val C.n,.val C.t,.own (.lst (kD R)),.own (.sdt (kD R) (vD R)),.val (.int k),s5,s6]:=by
    simp[Wz,Ob.d,l]
    omega
   refine⟨.val (.int k),s5,s6,?_⟩
   rw[bL,te,Cs.nJ,ge]
   rfl
def ul(n:Nat)(K:C.Ok):
  pg.fn (n+5) 48 [.val C.n,.val C.t]=.ok (.val (.tup [.lst (kD (C.nJ 1000 0 (R0 C.ls))),.fZ (kD (C.nJ 1000 0 (R0 C.ls))) (vD (C.nJ 1000 0 (R0 C.ls)))])) [.val C.n,.val C.t]:=by
 obtain⟨a,b,c,z⟩:=Tz n K 1000 0 (R0 C.ls) .un .un (Ft K) (QIq _) (by omega) (.inl rfl) (.inl rfl)
 have n2:=Dh (C:=C)
 have k1:kD (R0 C.ls)=[ao (sI C.ls)]:=rfl
 have v1:vD (R0 C.ls)=[.lst []]:=rfl
 rw[k1,v1]at z
 have z':bL (ev (pg.cf (n+4)) Wz) (ex (pg.cf (n+4)) Zb) 1000 [.val C.n,.val C.t,.own (.lst [ao (sI C.ls)]),.own (.sdt [ao (sI C.ls)] [.lst []]),.val (.int 0),.un,.un]=_:=z
 have tn:(pg.cf (n+4)).turns=1000:=rfl
 have ds:wJ [ao (sI C.ls),.lst []]=some (.new (.sdt [ao (sI C.ls)] [.lst []])):=by
  have:Hs [ao (sI C.ls),.lst []]=some (.new (.sdt [ao (sI C.ls)] [.lst []])):=by
   show(if m8 (ao (sI C.ls))then _ else none)=_
   rw[jP];rfl
  unfold wJ
  rw[this]
  rfl
 have se:D.tup [aF C.ls,.int 0]=ao (sI C.ls):=rfl
 have hb:ji=⟨2,7,(.cons ADT (.cons ADn (.cons (.set 4 AAH) (.cons (.while_ Wz Zb) (.cons (.ret (.tup ABT)) .nil)))))⟩:=rfl
 rw[vX,hb]
 simp[n2,aP,se,ds,Ob.d,tn,z']
end
end Tx
end
section
open PySem Mini
namespace Tx
section
variable{C:Cs}
def iJ{xs:List D}(t:∀x∈xs,x∈C.nm):lB xs=true/\jx xs=0:=by
 have ok:∀s∈Tq 3 5,sOk s=true:=by decide+kernel
 induction xs with
 |nil=>exact⟨rfl,rfl⟩
 |cons x xs ih=>
  have m:=t x QYz
  rw[Cs.nm,mY]at m
  obtain⟨s,hs,rfl⟩:=QDq.mp m
  have i:=ih fun y hy=>t y (QYq _ hy)
  exact⟨by simp[lB,nd,ok s (Dg hs),i.1],by simp[jx,dep,i.2]⟩
end
mutual
theorem Rh:∀d:D,nd d=true->cL d d=true
 |.non=>fun _=>rfl
 |.bl b=>fun _=>by cases b<;>rfl
 |.int i=>fun _=>by simp[cL]
 |.str s=>fun _=>by simp[cL]
 |.tup xs=>fun h=>by simpa[cL]using sO xs h
 |.lst xs=>fun h=>by simpa[cL]using sO xs h
 |.cH _ _=>fun h=>by simp[nd]at h
 |.fZ _ _=>fun h=>by simp[nd]at h
theorem sO:∀xs:List D,lB xs=true->jc xs xs=true
 |[]=>fun _=>rfl
 |x::xs=>fun h=>by
  simp only[lB,QUq]at h
  simp[jc,Rh x h.1,sO xs h.2]
end
end Tx
end
section
open PySem Mini
namespace Tx
variable{s:St}
section
variable{C:Cs}
def Cs.gone(C:Cs)(s t:St)(x:D):List D:=(C.W s.1).filter fun y=> !aH y (C.W t.1++[x])
def FQ(r:List D):List D->D
 |[]=>.non
 |y::_=>.tup [.str "taken",.lst r,y]
def Cs.sf(C:Cs)(s:St)(r:List D)(x:D):D:=
 match C.led s x with
 |none=>.tup [.str "unasked",.lst r]
 |some t=>FQ r (C.gone s t x)
def cV(f:D->D):List D->D
 |[]=>.non
 |x::xs=>if bD (f x)then cV f xs else f x
def rD(os:List D)(st:List (D×Nat)):Bool:=st.any fun m=>aH m.1 os
def Cs.flt(C:Cs)(s:St)(r:List D):D:=
 if (C.st s).isEmpty then(if rD C.os (aV C.sts s.2)then .tup [.str "stuck",.lst r]else .non)else cV (fun x=>C.sf s (r++[x]) x) (C.st s)
def Fv(s:Sl):Prop:=s=.un\/(∃d,s=.val d)\/∃o,s=.own o
def gj{q:Str}{xs:List D}(t:cu xs):aK .notin (.str q) (.lst xs)=some (!aH (.str q) xs):=by
 have o:eZ (.str q) xs=true:=by unfold eZ;rw[kZ t];rfl
 show(if eZ (.str q) xs then some (!aH (.str q) xs)else none)=_;rw[o];rfl
def Ui:S:=(.cons (.ite ACU ACk .nil) .nil)
def Ec(u q:Str)(ws:List D):aH (.str u) (ws++[.str q])=(aH (.str u) ws||decide (u=q)):=by
 rw[vg]
 congr 1
 simp[aH,cL]
 by_cases e:u=q
 ·simp[e]
 ·simp[e]
  exact fun z=>e z.symm
abbrev Zaf(a b c d e f g):=([a,b,c,.val (.str d),.val (.lst e),.own (.lst f),g]:Ev)
theorem Uh(c:Cf)(a b e:Sl)(q:Str)(r:List D){ws:List D}(tw:cu ws):∀(xs:List D)(s6:Sl),cu xs->bC s6->∃s6',
  aY (.name 6) (ex c Ui) xs (Zaf a b e q r ws s6)=match xs.filter (fun y=> !aH y (ws++[.str q]))with
   |[]=>.next (Zaf a b e q r ws s6')
   |y::ys=>.ret (.val (FQ r (y::ys))) (Zaf a b e q r ws s6')
 |[]=>fun s6 _ _=>⟨s6,rfl⟩
 |x::xs=>fun s6 t h6=>by
  obtain⟨u,rfl⟩:=t x QYz
  have tt:bw (.name 6) (.str u) (Zaf a b e q r ws s6)=some (Zaf a b e q r ws (.val (.str u))):=by
   rcases h6 with rfl|⟨d,rfl⟩<;>simp[bw,bN]
  obtain⟨s6',z⟩:=Uh c a b e q r tw xs (.val (.str u)) (fun y hy=>t y (QYq _ hy)) (.inr ⟨_,rfl⟩)
  have ni:=gj (q:=u) tw
  rw[aY,tt,List.filter_cons,Ec]
  cases c1:aH (.str u) ws with
  |true=>
   refine⟨s6',?_⟩
   rw[c1]at ni
   have go:ex c Ui (Zaf a b e q r ws (.val (.str u)))=.next (Zaf a b e q r ws (.val (.str u))):=by
    by_cases cq:u=q<;>simp[Ui,cq,ni,Ob.d]
   simp only[go]
   exact z
  |false=>
   rw[c1]at ni
   by_cases cq:u=q
   ·refine⟨s6',?_⟩
    have go:ex c Ui (Zaf a b e q r ws (.val (.str u)))=.next (Zaf a b e q r ws (.val (.str u))):=by
     simp[Ui,cq]
    simp only[go,QFq cq]
    exact z
   ·refine⟨.val (.str u),?_⟩
    have go:ex c Ui (Zaf a b e q r ws (.val (.str u)))=.ret (.val (.tup [.str "taken",.lst r,.str u])) (Zaf a b e q r ws (.val (.str u))):=by
     simp[Ui,cq,ni,Ob.d,aP]
    simp only[go,QEz cq]
    rfl
theorem X7(n:Nat)(K:C.Ok)(S:C.S s){x:D}(hx:x∈C.st s)(r:List D):
  pg.fn (n+5) 29 (ZaC C.n C.t (.val (ao s)) (.val x) (.val (.lst r)))=.ok (.val (C.sf s r x)) (ZaC C.n C.t (.val (ao s)) (.val x) (.val (.lst r))):=by
 have lt:=K.jN (n+1) S hx
 obtain⟨q,rfl⟩:=bz C.h C.g x ((K.sub S).subset hx)
 have u:=K.unasked (n+3) S hx
 have s0:=Ga s
 have hb:fW=⟨5,7,(.cons (.ite ACz ACw .nil) (.cons ABl (.cons (.for_ (.name 6) AEW Ui) ACa)))⟩:=rfl
 rw[pX,hb]
 unfold Cs.sf
 cases e:C.led s (.str q)with
 |none=>
  rw[e]at u
  simp[u,aP]
 |some t=>
  rw[e]at u lt
  have St:=K.yH S e
  have w1:=K.wpr n St
  have w2:=K.wpr n S
  have t0:=Ga t
  obtain⟨s6,z⟩:=Uh (pg.cf (n+4)) (.val C.n) (.val C.t) (.val (ao s)) q r (K.RQ St) (C.W s.1) .un (K.RQ S) (.inl rfl)
  show _=Res.ok (.val (FQ r ((C.W s.1).filter fun y=> !aH y (C.W t.1++[.str q])))) _
  cases hf:(C.W s.1).filter (fun y=> !aH y (C.W t.1++[.str q]))with
  |nil=>
   rw[hf]at z
   simp[u,lt,eV,t0,w1,w2,s0,Ob.d,items,z,FQ]
  |cons y ys=>
   rw[hf]at z
   simp[u,lt,eV,t0,w1,w2,s0,Ob.d,items,z]
def hoC:E:=.comp 1 (.name 0) (.idx AAc AAg) AAP ADN
theorem Az(n:Nat)(K:C.Ok)(S:C.S s):
  pg.fn (n+1) 28 [.val C.t,.val (ao s)]=.ok (.val (.bl (rD C.os (aV C.sts s.2)))) [.val C.t,.val (ao s)]:=by
 have Ky:=fD K.t K.o S.j
 have t0:=zO (C:=C)
 have t1:=I9 (C:=C)
 have s1:=Vs s
 have st:=jH S.j
 have e:=sW (c:=pg.cf n) (it:=.idx AAc AAg) (el:=.cmp .isin AAb AAr) (σ:=[.val C.t,.val (ao s)]) (τ:=[.val C.t,.val (ao s)]) (d:=dO (aV C.sts s.2)) (xs:=(aV C.sts s.2).map ie) (r:=.val (dO (aV C.sts s.2))) (fun d=>match d with|.tup (a::_)=>.bl (aH a C.os)|_=>.non) (by simp[t1,s1,st]) rfl rfl (fun x hx=>by
  obtain⟨m,hm,rfl⟩:=QDq.mp hx
  obtain⟨q,eq⟩:=Ky.1 m.1 (QTz hm)
  have i:=(eG (q:=q) (iU K.t)).2.1
  simp[ie,t0,eq,i])
 have e':ev (pg.cf n) hoC [.val C.t,.val (ao s)]=.ok (.new (.lst ((aV C.sts s.2).map fun m=>.bl (aH m.1 C.os)))) [.val C.t,.val (ao s)]:=by
  rw[List.map_map]at e
  exact e
 have bs:∀st:List (D×Nat),bools (st.map fun m=>D.bl (aH m.1 C.os))=some (st.map fun m=>aH m.1 C.os):=fun st=>by
  induction st with
  |nil=>rfl
  |cons m st ih=>simp only[Qyz,bools,ih,Option.map_some]
 have ba:b1 .any (.lst ((aV C.sts s.2).map fun m=>D.bl (aH m.1 C.os)))=some (.val (.bl (rD C.os (aV C.sts s.2)))):=by
  show(bools _).map _=_
  rw[bs]
  simp[rD,List.any_map]
 have hb:ph=⟨2,2,(.cons (.ret (.bi .any hoC)) .nil)⟩:=rfl
 have q:hoC.aB=none:=rfl
 rw[Gx,hb]
 simp[q,e',Ob.d,ba]
def Zr:S:=(.cons ABu (.cons (.ite ADc (.cons (.ret (.var 6)) .nil) .nil) .nil))
abbrev Zag(a b c d e f g):=([.val a,.val b,.val (ao c),.val (.lst d),e,f,g]:Ev)
theorem Uj(n:Nat)(K:C.Ok){s:St}(S:C.S s){r:List D}(hr:r.length<=512)(a4:Sl):∀(xs:List D)(s5 s6:Sl),(∀x∈xs,x∈C.st s)->bC s5->bC s6->∃s5' s6',
  aY (.name 5) (ex (pg.cf (n+5)) Zr) xs (Zag C.n C.t s r a4 s5 s6)=if bD (cV (fun x=>C.sf s (r++[x]) x) xs)then .next (Zag C.n C.t s r a4 s5' s6')
   else .ret (.val (cV (fun x=>C.sf s (r++[x]) x) xs)) (Zag C.n C.t s r a4 s5' s6')
 |[]=>fun s5 s6 _ _ _=>⟨s5,s6,rfl⟩
 |x::xs=>fun s5 s6 hx h5 h6=>by
  have fo:=X7 n K S (hx x QYz) (r++[x])
  have f1:fits (r.length+1)=true:=by simp[fits];omega
  have tt:bw (.name 5) x (Zag C.n C.t s r a4 s5 s6)=some (Zag C.n C.t s r a4 (.val x) s6):=by
   rcases h5 with rfl|⟨d,rfl⟩<;>simp[bw,bN]
  have c6:∀d,pR 6 (Zag C.n C.t s r a4 (.val x) s6) (.val d) (some s6)=some (Zag C.n C.t s r a4 (.val x) (.val d)):=fun d=>by
   rcases h6 with rfl|⟨d,rfl⟩<;>simp
  rw[aY,tt]
  simp only[cV]
  cases e:bD (C.sf s (r++[x]) x)with
  |true=>
   have en:C.sf s (r++[x]) x=.non:=by
    cases he:C.sf s (r++[x]) x<;>first|rfl|(rw[he]at e;cases e)
   rw[en]at fo
   have go:ex (pg.cf (n+5)) Zr (Zag C.n C.t s r a4 (.val x) s6)=.next (Zag C.n C.t s r a4 (.val x) (.val .non)):=by
    simp[Zr,aP,Ob.d,f1,fo,c6]
   simp only[go,if_true]
   exact Uj n K S hr a4 xs (.val x) (.val .non) (fun y hy=>hx y (QYq _ hy)) (.inr ⟨_,rfl⟩) (.inr ⟨_,rfl⟩)
  |false=>
   refine⟨.val x,.val (C.sf s (r++[x]) x),?_⟩
   have go:ex (pg.cf (n+5)) Zr (Zag C.n C.t s r a4 (.val x) s6)=.ret (.val (C.sf s (r++[x]) x)) (Zag C.n C.t s r a4 (.val x) (.val (C.sf s (r++[x]) x))):=by
    simp[Zr,aP,Ob.d,f1,fo,c6,e]
   simp only[go,Qxq,if_false,e]
   rfl
theorem yX(n:Nat)(K:C.Ok)(S:C.S s){r:List D}(hr:r.length<=512):
  pg.fn (n+6) 27 (Zaj C.n C.t s (.lst r))=.ok (.val (C.flt s r)) (Zaj C.n C.t s (.lst r)):=by
 have st:=K.fG n S
 have ho:=Az (n+4) K S
 obtain⟨a,b,z⟩:=Uj n K S hr (.val (.lst (C.st s))) (C.st s) .un .un (fun x hx=>hx) (.inl rfl) (.inl rfl)
 have hb:mz=⟨4,7,(.cons (.set 4 AEV) (.cons (.ite ADH ABJ .nil) (.cons (.for_ (.name 5) (.var 4) Zr) ACa)))⟩:=rfl
 rw[Ae,hb]
 unfold Cs.flt
 cases c:(C.st s).isEmpty with
 |true=>
  have en:C.st s=[]:=List.isEmpty_iff.mp c
  rw[en]at z
  cases co:rD C.os (aV C.sts s.2)with
  |true=>
   rw[co]at ho
   simp[st,Ob.d,c,ho,aP]
  |false=>
   rw[co]at ho
   simp[st,Ob.d,ho,en,items,aY]
 |false=>
  simp only[Qxq,if_false]
  cases cn:bD (cV (fun x=>C.sf s (r++[x]) x) (C.st s))with
  |true=>
   have en:cV (fun x=>C.sf s (r++[x]) x) (C.st s)=.non:=by
    cases he:cV (fun x=>C.sf s (r++[x]) x) (C.st s)<;>first|rfl|(rw[he]at cn;cases cn)
   rw[cn,if_pos rfl]at z
   rw[en]
   simp[st,Ob.d,c,items,z]
  |false=>
   rw[cn,if_neg (by simp)]at z
   simp[st,Ob.d,c,items,z]
end
end Tx
end
section
open PySem Mini
namespace Tx
section
variable{C:Cs}
def oG{d:D}(e:bD d=true):d=.non:=by
 cases d<;>first|rfl|cases e
theorem wX:∀(f k:Nat)(R:Rs),∃Z,C.nJ f k R=R++Z
 |0=>fun _ R=>⟨[],by simp[Cs.nJ]⟩
 |f+1=>fun k R=>by
  rw[Cs.nJ]
  split
  ·exact⟨[],by simp⟩
  ·rename_i p e
   obtain⟨Z,z⟩:=wX f (k+1) (R++C.new p.1 p.2 (C.st p.1) R)
   exact⟨_,by rw[z,QLq]⟩
def Cs.ff(C:Cs):Rs->D
 |[]=>.non
 |p::R=>if bD (C.flt p.1 p.2)then C.ff R else C.flt p.1 p.2
def Zq:S:=(.cons ACM (.cons (.ite (.cmp .notN (.var 4) ABL) ACg .nil) ABW))
abbrev Zap(a b c d e):=([.val a,.val b,.own (.sdt (kD c) (vD c)),.val (.lst d),e]:Ev)
theorem Ug(n:Nat)(K:C.Ok):∀(f k:Nat)(R:Rs)(s4:Sl),C.Ro R->k<=R.length->512<f+k->bC s4->∃a b c,
  bL (ev (pg.cf (n+6)) (.var 3)) (ex (pg.cf (n+6)) Zq) f (ZaC C.n C.t (.own (.sdt (kD R) (vD R))) (.own (.lst (kD (R.drop k)))) s4)=
   if bD (C.ff ((C.nJ f k R).drop k))then .next (ZaC C.n C.t a b c)else .ret (.val (C.ff ((C.nJ f k R).drop k))) (ZaC C.n C.t a b c)
 |0=>fun k R _ X hk hf _=>by have:=X.mZ K;omega
 |f+1=>fun k R s4 X hk hf h4=>by
  have rb:=X.mZ K
  by_cases c:k<R.length
  ·obtain⟨p,e⟩:∃p,R[k]? =some p:=⟨_,QXq c⟩
   obtain⟨s,r⟩:=p
   have m:=QBz e
   have S:=X.ok _ m
   have nw:=Kd n K X e
   have fa:=yX n K S (r:=r) (Nat.le_trans (X.le _ m) rb)
   have ge:=Eh (rK X.nd e)
   have dr:kD (R.drop k)=ao s::kD (R.drop (k+1)):=by
    rw[List.drop_eq_getElem_cons c]
    rw[QXq c]at e
    simp only[Option.some.injEq]at e
    simp[kD,e]
   have X':=lQ K S (X.wr _ m) (C.st s) (fun x hx=>(K.sub S).subset hx) X (X.le _ m)
   have rb':=X'.mZ K
   simp only[QTq]at rb'
   have fi:fits ((kD (R.drop (k+1))).length+(kD (C.new s r (C.st s) R)).length)=true:=by
    rw[oR,oR,List.length_drop];simp[fits];omega
   have az:=Fp (ao s) (kD (R.drop (k+1)))
   have c4:∀d,pR 4 (Zap C.n C.t R (ao s::kD (R.drop (k+1))) s4) (.val d) (some s4)=some (Zap C.n C.t R (ao s::kD (R.drop (k+1))) (.val d)):=fun d=>by
    rcases h4 with rfl|⟨d,rfl⟩<;>simp
   have bd:(C.nJ (f+1) k R).drop k=(s,r)::(C.nJ f (k+1) (R++C.new s r (C.st s) R)).drop (k+1):=by
    have b1:C.nJ (f+1) k R=C.nJ f (k+1) (R++C.new s r (C.st s) R):=by simp only[Cs.nJ,e]
    obtain⟨Z,z⟩:=wX (C:=C) f (k+1) (R++C.new s r (C.st s) R)
    have l:k< (R++(C.new s r (C.st s) R++Z)).length:=by simp;omega
    rw[b1,z,QLq,List.drop_eq_getElem_cons l,List.getElem_append_left c]
    rw[QXq c]at e
    simp only[Option.some.injEq]at e
    rw[e]
   rw[bd,dr,bL]
   simp only[Cs.ff,agd,Jw]
   cases cn:bD (C.flt s r)with
   |true=>
    have dd:kD ((R++C.new s r (C.st s) R).drop (k+1))=kD (R.drop (k+1))++kD (C.new s r (C.st s) R):=by
     rw[List.drop_append_of_le_length (by omega),Av]
    rw[oG cn]at fa
    have go:ex (pg.cf (n+6)) Zq (Zap C.n C.t R (ao s::kD (R.drop (k+1))) s4)=.next [.val C.n,.val C.t,.own (.sdt (kD (R++C.new s r (C.st s) R)) (vD (R++C.new s r (C.st s) R))),.own (.lst (kD ((R++C.new s r (C.st s) R).drop (k+1)))),.val .non]:=by
     rw[dd]
     simp[Zq,bZ,E.fQ,dM,Rk,az,nw,fi,Ob.d,ge,fa,c4]
    obtain⟨a,b,c',z⟩:=Ug n K f (k+1) _ (.val .non) X' (by simp;omega) (by omega) (.inr ⟨_,rfl⟩)
    refine⟨a,b,c',?_⟩
    simp only[if_true]
    rw[<-z]
    simp[Ob.d,go,Out.Bk]
    rfl
   |false=>
    have go:ex (pg.cf (n+6)) Zq (Zap C.n C.t R (ao s::kD (R.drop (k+1))) s4)=.ret (.val (C.flt s r)) (Zap C.n C.t R (ao s::kD (R.drop (k+1))) (.val (C.flt s r))):=by
     simp[Zq,az,Ob.d,ge,fa,c4,cn]
    refine⟨.own (.sdt (kD R) (vD R)),.val (.lst (ao s::kD (R.drop (k+1)))),.val (C.flt s r),?_⟩
    simp[Ob.d,go,Out.Bk,cn]
    rfl
  ·have dk:R.drop k=[]:=List.drop_eq_nil_of_le (by omega)
   have ge:R[k]? =none:=List.getElem?_eq_none (by omega)
   refine⟨.own (.sdt (kD R) (vD R)),.val (.lst []),s4,?_⟩
   rw[bL,Cs.nJ,ge]
   simp[kD,Ob.d,Out.Bk,dk,Cs.ff,bD]
   rfl
theorem LR(n:Nat)(K:C.Ok):
  pg.fn (n+10) 26 [.val C.n,.val C.t]=.ok (.val (C.ff (C.nJ 1000 0 (R0 C.ls)))) [.val C.n,.val C.t]:=by
 have c:=K.checked n
 have f:=LQ (n+8) (C:=C)
 obtain⟨q1,q2,q3,z⟩:=Ug (n+3) K 1000 0 (R0 C.ls) .un (Ft K) (QIq _) (by omega) (.inl rfl)
 have k0:kD ((R0 C.ls).drop 0)=[ao (sI C.ls)]:=rfl
 have k1:kD (R0 C.ls)=[ao (sI C.ls)]:=rfl
 have v1:vD (R0 C.ls)=[.lst []]:=rfl
 rw[k0,k1,v1,List.drop_zero]at z
 have tn:(pg.cf (n+9)).turns=1000:=rfl
 have ds:wJ [ao (sI C.ls),.lst []]=some (.new (.sdt [ao (sI C.ls)] [.lst []])):=by
  have:Hs [ao (sI C.ls),.lst []]=some (.new (.sdt [ao (sI C.ls)] [.lst []])):=by
   show(if m8 (ao (sI C.ls))then _ else none)=_
   rw[jP];rfl
  unfold wJ
  rw[this]
  rfl
 have hb:wY=⟨2,5,(.cons ADx (.cons ADK (.cons (.set 3 ADQ) (.cons (.while_ (.var 3) Zq) ACa))))⟩:=rfl
 have bl:∀ks vs:List D,b1 .list (.fZ ks vs)=some (.new (.lst ks)):=fun _ _=>rfl
 rw[PQ,hb]
 generalize C.ff (C.nJ 1000 0 (R0 C.ls))=d at*
 cases cn:bD d with
 |true=>
  rw[cn,if_pos rfl]at z
  rw[oG cn]
  simp[c,f,aP,ds,bl,Ob.d,tn,z]
 |false=>
  rw[cn,if_neg (by simp)]at z
  simp[c,f,aP,ds,bl,Ob.d,tn,z]
end
end Tx
end
section
open PySem Mini
namespace Tx
section
variable{C:Cs}
def gW{xs:List D}(a:lB xs=true)(b:jx xs<=49):aK .ne (.lst xs) (.lst [])=some (!xs.isEmpty)/\aK .eq (.lst xs) (.lst [])=some xs.isEmpty:=by
 have c:cL (.lst xs) (.lst [])=xs.isEmpty:=by cases xs<;>simp[cL,jc]
 have o:oZ (.lst xs) (.lst [])=true:=by simp[oZ,nd,lB,dep,a,b]
 constructor
 ·show(if oZ (.lst xs) (.lst [])then some (!cL (.lst xs) (.lst []))else none)=_
  rw[c,o];rfl
 ·show(if oZ (.lst xs) (.lst [])then some (cL (.lst xs) (.lst []))else none)=_
  rw[c,o];rfl
def lgC:E:=.comp 1 (.name 0) (.call 45 AAn) (.cmp .notin (.var 0) (.var 8)) (.var 0)
def TX:S:=(.cons (.set 6 (.call 47 ABN)) (.cons (.ite (.cmp .fQ (.var 6) ABL) ADL .nil) (.cons ACP (.cons (.set 8 lgC) (.cons (.ite (.cmp .ne (.var 8) AAa) ABy .nil) .nil)))))
abbrev Zab(a b c d e f g h i):=([.val a,.val b,.val (ao c),.val (.lst d),e,f,g,h,i]:Ev)
theorem TV(n:Nat)(K:C.Ok){s:St}(S:C.S s){r:List D}(hr:r.length<=512)(a4:Sl):∀(xs:List D)(s5 s6 s7 s8:Sl),(∀x∈xs,x∈C.nm)->Fv s5->Fv s6->Fv s7->Fv s8->∃s5' s6' s7' s8',
  aY (.name 5) (ex (pg.cf (n+3)) TX) xs (Zab C.n C.t s r a4 s5 s6 s7 s8)=if bD (cV (fun x=>C.sf s (r++[x]) x) xs)then .next (Zab C.n C.t s r a4 s5' s6' s7' s8')
   else .ret (.val (cV (fun x=>C.sf s (r++[x]) x) xs)) (Zab C.n C.t s r a4 s5' s6' s7' s8')
 |[]=>fun s5 s6 s7 s8 _ _ _ _ _=>⟨s5,s6,s7,s8,rfl⟩
 |x::xs=>fun s5 s6 s7 s8 hx h5 h6 h7 h8=>by
  have hn:=hx x QYz
  obtain⟨q,eq⟩:=bz C.h C.g x hn
  have ld:=K.gQ (n+1) S (x:=x) ⟨q,eq⟩
  have f1:fits (r.length+1)=true:=by simp[fits];omega
  have s0:=Ga s
  have tt:bw (.name 5) x (Zab C.n C.t s r a4 s5 s6 s7 s8)=some (Zab C.n C.t s r a4 (.val x) s6 s7 s8):=by
   rcases h5 with rfl|⟨d,rfl⟩|⟨d,rfl⟩<;>simp[bw,bN]
  have c6:∀d,pR 6 (Zab C.n C.t s r a4 (.val x) s6 s7 s8) (.val d) (some s6)=some (Zab C.n C.t s r a4 (.val x) (.val d) s7 s8):=fun d=>by
   rcases h6 with rfl|⟨d,rfl⟩|⟨d,rfl⟩<;>simp
  rw[aY,tt]
  simp only[cV]
  cases e:C.led s x with
  |none=>
   rw[e]at ld
   have sf:C.sf s (r++[x]) x=.tup [.str "unasked",.lst (r++[x])]:=by unfold Cs.sf;rw[e]
   refine⟨.val x,.val .non,s7,s8,?_⟩
   have go:ex (pg.cf (n+3)) TX (Zab C.n C.t s r a4 (.val x) s6 s7 s8)=.ret (.val (.tup [.str "unasked",.lst (r++[x])])) (Zab C.n C.t s r a4 (.val x) (.val .non) s7 s8):=by
    simp[TX,ld,eV,c6,aP,Ob.d,f1]
   simp only[go,sf]
   rfl
  |some t=>
   rw[e]at ld
   have St:=K.yH S e
   have t0:=Ga t
   have w1:=K.wlw n St
   have w2:=K.wlw n S
   have sf:C.sf s (r++[x]) x=FQ (r++[x]) (C.gone s t x):=by unfold Cs.sf;rw[e]
   have c7:∀(d:D)(o:Ob),pR 7 (Zab C.n C.t s r a4 (.val x) (.val d) s7 s8) (.own o) (some s7)=some (Zab C.n C.t s r a4 (.val x) (.val d) (.own o) s8):=fun d o=>by
    rcases h7 with rfl|⟨d,rfl⟩|⟨d,rfl⟩<;>simp
   have c8:∀(d:D)(o o2:Ob),pR 8 (Zab C.n C.t s r a4 (.val x) (.val d) (.own o) s8) (.own o2) (some s8)=some (Zab C.n C.t s r a4 (.val x) (.val d) (.own o) (.own o2)):=fun d o o2=>by
    rcases h8 with rfl|⟨d,rfl⟩|⟨d,rfl⟩<;>simp
   have wsub:=(K.w.sub t.1 St.l).length_le
   have rl:=dq K.o.g5
   have g5:=K.o.g5
   have f2:fits ((C.W t.1).length+1)=true:=by simp[fits];omega
   have tx:cu (C.W t.1++[x]):=fun y hy=>by
    rcases QXz.mp hy with z|z
    ·exact K.RQ St y z
    ·rw[QDz.mp z];exact⟨q,eq⟩
   have ec:ev (pg.cf (n+3)) lgC (Zab C.n C.t s r a4 (.val x) (.val (ao t)) (.own (.lst (C.W t.1++[x]))) s8)=.ok (.new (.lst (C.gone s t x))) (Zab C.n C.t s r a4 (.val x) (.val (ao t)) (.own (.lst (C.W t.1++[x]))) s8):=by
    have:=lV (c:=pg.cf (n+3)) (it:=.call 45 AAn) (co:=.cmp .notin (.var 0) (.var 8)) (el:=.var 0) (σ:=(Zab C.n C.t s r a4 (.val x) (.val (ao t)) (.own (.lst (C.W t.1++[x]))) s8)) (τ:=(Zab C.n C.t s r a4 (.val x) (.val (ao t)) (.own (.lst (C.W t.1++[x]))) s8)) (d:=.lst (C.W s.1)) (xs:=C.W s.1) (r:=.new (.lst (C.W s.1))) (fun x=>x) (fun y=> !aH y (C.W t.1++[x])) (by simp[s0,w2]) rfl rfl (fun y hy=>by
     obtain⟨u,rfl⟩:=K.RQ S y hy
     have i:=gj (q:=u) tx
     simp[i,Ob.d]) (fun x _ _=>by simp)
    rw[List.map_id']at this
    exact this
   have gs:∀y∈C.gone s t x,y∈C.nm:=fun y hy=>zW.subset ((K.w.sub s.1 S.l).subset (List.mem_filter.mp hy).1)
   have nn:=iJ gs
   have cn:=(gW nn.1 (by rw[nn.2];omega)).1
   cases hg:C.gone s t x with
   |nil=>
    rw[hg]at ec cn
    have go:ex (pg.cf (n+3)) TX (Zab C.n C.t s r a4 (.val x) s6 s7 s8)=.next (Zab C.n C.t s r a4 (.val x) (.val (ao t)) (.own (.lst (C.W t.1++[x]))) (.val (.lst []))):=by
     simp[TX,ld,eV,c6,dW,t0,w1,aP,Ob.d,f2,c7,ec,c8,cn]
    simp only[go,sf,hg]
    exact TV n K S hr a4 xs (.val x) (.val (ao t)) (.own (.lst (C.W t.1++[x]))) (.val (.lst [])) (fun y hy=>hx y (QYq _ hy)) (.inr (.inl ⟨_,rfl⟩)) (.inr (.inl ⟨_,rfl⟩)) (.inr (.inr ⟨_,rfl⟩)) (.inr (.inl ⟨_,rfl⟩))
   |cons y ys=>
    rw[hg]at ec cn
    have az:=Fp y ys
    refine⟨.val x,.val (ao t),.own (.lst (C.W t.1++[x])),.val (.lst (y::ys)),?_⟩
    have go:ex (pg.cf (n+3)) TX (Zab C.n C.t s r a4 (.val x) s6 s7 s8)=.ret (.val (.tup [.str "taken",.lst (r++[x]),y])) (Zab C.n C.t s r a4 (.val x) (.val (ao t)) (.own (.lst (C.W t.1++[x]))) (.val (.lst (y::ys)))):=by
     simp[TX,ld,eV,c6,dW,t0,w1,aP,Ob.d,f2,c7,ec,c8,cn,f1,az]
    simp only[go,sf,hg]
    rfl
def Tu(os:List D):D->Bool
 |.tup (a::_)=>aH a os
 |_=>false
def Di(os:List D)(L:List (D×Nat))(hL:∀m∈L,m.1∈C.nm):lB ((L.map ie).filter (Tu os))=true/\jx ((L.map ie).filter (Tu os))<=1/\((L.map ie).filter (Tu os)).isEmpty= !rD os L:=by
 induction L with
 |nil=>exact⟨rfl,QIq _,rfl⟩
 |cons m L ih=>
  have i:=ih fun y hy=>hL y (QYq _ hy)
  have hm:=iJ (C:=C) (xs:=[m.1]) fun y hy=>by rw[QDz.mp hy];exact hL m QYz
  simp only[lB,jx,Bool.and_true,Nat.max_zero]at hm
  rw[Qyz,List.filter_cons,show Tu os (ie m)=aH m.1 os from rfl]
  cases co:aH m.1 os with
  |true=>
   refine⟨?_,?_,?_⟩
   ·simp only[if_true,lB,i.1,Bool.and_true]
    simp[ie,nd,lB,hm.1]
   ·simp only[if_true,jx]
    have:dep (ie m)=1:=by simp[ie,dep,jx,hm.2]
    omega
   ·simp[rD,co]
  |false=>
   refine⟨i.1,i.2.1,?_⟩
   simp only[Qxq,if_false]
   rw[i.2.2]
   simp[rD,co]
def loC:E:=.comp 1 (.name 0) ACQ ADP (.var 0)
theorem fP(n:Nat)(K:C.Ok){s:St}(S:C.S s){r:List D}(hr:r.length<=512):
  pg.fn (n+5) 49 (Zaj C.n C.t s (.lst r))=.ok (.val (C.flt s r)) (Zaj C.n C.t s (.lst r)):=by
 have Ky:=fD K.t K.o S.j
 have st:=K.iK n S
 have sn:=iJ (xs:=C.st s) fun x hx=>(K.sub S).subset hx
 have ce:=(gW sn.1 (by rw[sn.2];omega)).2
 have t0:=zO (C:=C)
 have t1:=I9 (C:=C)
 have s1:=Vs s
 have sg:=jH S.j
 have hb:gB=⟨4,9,(.cons (.set 4 (.call 46 ABf)) (.cons (.ite (.cmp .eq (.var 4) AAa) (.cons (.ite (.cmp .ne loC AAa) ABJ .nil) ACa) .nil) (.cons (.for_ (.name 5) (.var 4) TX) ACa)))⟩:=rfl
 rw[qX,hb]
 unfold Cs.flt
 cases c:(C.st s).isEmpty with
 |true=>
  rw[c]at ce
  have eo:=lV (c:=pg.cf (n+4)) (it:=.idx AAg AAf) (co:=.cmp .isin AAb AAe) (el:=.var 0) (σ:=(Zab C.n C.t s r (.val (.lst (C.st s))) .un .un .un .un)) (τ:=(Zab C.n C.t s r (.val (.lst (C.st s))) .un .un .un .un)) (d:=dO (aV C.sts s.2)) (xs:=(aV C.sts s.2).map ie) (r:=.val (dO (aV C.sts s.2))) (fun x=>x) (Tu C.os) (by simp[t1,s1,sg]) rfl rfl (fun x hx=>by
   obtain⟨m,hm,rfl⟩:=QDq.mp hx
   obtain⟨q,eq⟩:=Ky.1 m.1 (QTz hm)
   have i:=(eG (q:=q) (iU K.t)).2.1
   simp[ie,Tu,t0,eq,i]) (fun x hx _=>by simp)
  rw[List.map_id']at eo
  have nm:=Di (C:=C) C.os (aV C.sts s.2) fun m hm=>K.t.sub.subset ((K.t.mv _ (iC S.j)).1.subset (QTz hm))
  have cz:=(gW nm.1 (by omega)).1
  rw[nm.2.2,Bool.not_not]at cz
  have eo':ev (pg.cf (n+4)) loC (Zab C.n C.t s r (.val (.lst (C.st s))) .un .un .un .un)=_:=eo
  cases co:rD C.os (aV C.sts s.2)<;>rw[co]at cz<;>simp[st,Ob.d,ce,eo',aP,cz]
 |false=>
  rw[c]at ce
  obtain⟨a,b,c',d,z⟩:=TV (n+1) K S hr (.val (.lst (C.st s))) (C.st s) .un .un .un .un (fun x hx=>(K.sub S).subset hx) (.inl rfl) (.inl rfl) (.inl rfl) (.inl rfl)
  simp only[Qxq,if_false]
  generalize cV (fun x=>C.sf s (r++[x]) x) (C.st s)=v at*
  cases cn:bD v with
  |true=>
   rw[cn,if_pos rfl]at z
   rw[oG cn]
   simp[st,Ob.d,ce,aP,items,z]
  |false=>
   rw[cn,if_neg (by simp)]at z
   simp[st,Ob.d,ce,aP,items,z]
def ltB:S:=(.cons (.set 5 (.call 49 (.cons (.var 0) (.cons (.var 1) (.cons (.var 4) (.cons (.idx (.var 3) (.var 4)) .nil)))))) (.cons (.ite (.cmp .notN (.var 5) ABL) (.cons (.ret (.var 5)) .nil) .nil) .nil))
end
end Tx
end
section
open PySem Mini
namespace Tx
section
variable{C:Cs}
def Cs.run(C:Cs):List D->St->Option St
 |[],s=>some s
 |w::ws,s=>if aH w (C.st s)then(C.led s w).bind (C.run ws)else none
theorem lJ:∀(a b:List D)(s:St),C.run (a++b) s=(C.run a s).bind (C.run b)
 |[]=>fun b s=>rfl
 |w::a=>fun b s=>by
  simp only[QLz,Cs.run]
  split
  ·cases C.led s w with
   |none=>rfl
   |some s'=>exact lJ a b s'
  ·rfl
end
end Tx
end
section
open PySem Mini
namespace Tx
section
variable{C:Cs}
def Fq(xs:List D)(w:D):at? (xs++[w]) (-1)=some w:=by
 unfold at? ix?
 simp
 split
 ·rename_i hh
  have:((-1:Int)+(xs.length+1)).toNat=xs.length:=by omega
  simp[this]
 ·omega
def Yo(xs:List D)(e:Int)(h0:0<xs.length):∃w∈xs,at? xs (e%(xs.length:Int))=some w:=by
 have a:=Int.emod_nonneg e (show(xs.length:Int)≠0 by omega)
 have b:=Int.emod_lt_of_pos e (show(0:Int)<xs.length by omega)
 generalize e%(xs.length:Int)=r at a b
 obtain⟨r,rfl⟩:=Int.eq_ofNat_of_zero_le a
 have hr:r<xs.length:=by omega
 exact⟨xs[r],List.getElem_mem hr,by rw[gD _ _ hr,QXq hr]⟩
def Zt:S:=(.cons (.ite ABz AEc .nil) .nil)
abbrev Zao(a b c d e f g h i j k l):=([a,b,.val c,.val d,e,f,.val (ao g),h,i,.own (.lst j),k,l]:Ev)
theorem Lg(n:Nat)(K:C.Ok){s:St}(S:C.S s)(a0 a1 a4 a5 a7 a8 a11:Sl):∀(xs acc:List D)(mO:Sl),(∀x∈xs,x∈C.nm)->acc.length+xs.length<=100->bC mO->∃s10',bC s10'/\
  aY (.name 10) (ex (pg.cf (n+2)) Zt) xs (Zao a0 a1 C.n C.t a4 a5 s a7 a8 acc mO a11)=.next [a0,a1,.val C.n,.val C.t,a4,a5,.val (ao s),a7,a8,.own (.lst (acc++xs.filter fun x=>(C.led s x).isSome)),s10',a11]
 |[]=>fun acc mO _ _ h10=>⟨mO,h10,by simp[aY]⟩
 |x::xs=>fun acc mO hx hl h10=>by
  have ld:=K.gQ n S (bz C.h C.g x (hx x QYz))
  have tt:bw (.name 10) x (Zao a0 a1 C.n C.t a4 a5 s a7 a8 acc mO a11)=some (Zao a0 a1 C.n C.t a4 a5 s a7 a8 acc (.val x) a11):=by
   rcases h10 with rfl|⟨d,rfl⟩<;>simp[bw,bN]
  have f:fits (acc.length+1)=true:=by simp at hl;simp[fits];omega
  have hx':∀y∈xs,y∈C.nm:=fun y hy=>hx y (QYq _ hy)
  rw[aY,tt]
  cases e:C.led s x with
  |none=>
   rw[e]at ld
   obtain⟨s10',b1,b2⟩:=Lg n K S a0 a1 a4 a5 a7 a8 a11 xs acc (.val x) hx' (by simp at hl;omega) (.inr ⟨_,rfl⟩)
   refine⟨s10',b1,?_⟩
   have go:ex (pg.cf (n+2)) Zt (Zao a0 a1 C.n C.t a4 a5 s a7 a8 acc (.val x) a11)=.next (Zao a0 a1 C.n C.t a4 a5 s a7 a8 acc (.val x) a11):=by simp[Zt,ld,eV]
   simp only[go]
   rw[List.filter_cons,e]
   exact b2
  |some s1=>
   rw[e]at ld
   obtain⟨s10',b1,b2⟩:=Lg n K S a0 a1 a4 a5 a7 a8 a11 xs (acc++[x]) (.val x) hx' (by simp at hl⊢;omega) (.inr ⟨_,rfl⟩)
   refine⟨s10',b1,?_⟩
   have go:ex (pg.cf (n+2)) Zt (Zao a0 a1 C.n C.t a4 a5 s a7 a8 acc (.val x) a11)=.next (Zao a0 a1 C.n C.t a4 a5 s a7 a8 (acc++[x]) (.val x) a11):=by simp[Zt,ld,eV,dW,dX,ue,f]
   simp only[go]
   rw[List.filter_cons,e]
   simpa using b2
def drB:S:=(.cons (.set 9 AAa) (.cons (.for_ (.name 10) ADY Zt) (.cons (.ite (.cmp .ne (.var 9) AAa) (.cons AAt AAp) .nil) .nil)))
abbrev Zal(a b c d e f g h i j k l):=([a,b,.val c,.val d,e,.val (.int f),.val (ao g),.own (.lst h),i,j,k,l]:Ev)
theorem Ri(n:Nat)(K:C.Ok)(a0 a1 a4:Sl)(seed t:Int)(t0:0<=t)(t1:t<100){s:St}(S:C.S s){run:List D}(hr:∀x∈run,x∈C.nm)(hl:run.length<=100){s9 mO zG:Sl}(h9:bC s9)(h10:bC mO)(h11:bC zG):
  ∃(s':St)(ws:List D)(s9' s10' s11':Sl),C.S s'/\(∀x∈ws,x∈C.nm)/\ws.length<=1/\C.run ws s=some s'/\bC s9'/\bC s10'/\bC s11'/\
   ex (pg.cf (n+4)) drB (Zal a0 a1 C.n C.t a4 seed s run (.val (.int t)) s9 mO zG)=.next (Zal a0 a1 C.n C.t a4 seed s' (run++ws) (.val (.int t)) s9' s10' s11'):=by
 have ls_:=K.iK n S
 have sub:∀x∈C.st s,x∈C.nm:=fun x hx=>(K.sub S).subset hx
 have sl:(C.st s).length<=(names C.h C.g).length:=(K.sub S).length_le
 have nl:=dR (g:=C.g) K.o.h2 K.o.g5
 have h2:=K.o.h2
 have g5:=K.o.g5
 obtain⟨s10',b1,b2⟩:=Lg (n+2) K S a0 a1 a4 (.val (.int seed)) (.own (.lst run)) (.val (.int t)) zG (C.st s) [] mO sub (by simp;omega) h10
 rw[List.nil_append]at b2
 have fm:∀x∈(C.st s).filter (fun x=>(C.led s x).isSome),x∈C.nm:=fun x hx=>sub x (List.mem_filter.mp hx).1
 have nn:=iJ fm
 have ne:=(gW nn.1 (by rw[nn.2];omega)).1
 clear nn
 generalize hL:(C.st s).filter (fun x=>(C.led s x).isSome)=L at b2 ne fm
 have m1:small 104729=true:=by decide
 have m2:small 7919=true:=by decide
 have m3:small 48271=true:=by decide
 have m4:small t=true:=by simp[small];omega
 have f:fits (run.length+1)=true:=by simp[fits];omega
 cases L with
 |nil=>
  refine⟨s,[],.val (.lst []),s10',zG,S,fun x hx=>(by cases hx),by simp,rfl,.inr ⟨_,rfl⟩,b1,h11,?_⟩
  rcases h9 with rfl|⟨d,rfl⟩<;>simp[drB,aP,ls_,items,b2,Ob.d,ne]
 |cons w0 L=>
  obtain⟨w,hw,ew⟩:=Yo (w0::L) ((seed+104729*t*t+7919*t)*48271%2147483647/13) (by simp)
  rw[<-hL]at hw
  obtain⟨hw1,hw2⟩:=List.mem_filter.mp hw
  obtain⟨s',es⟩:=Option.isSome_iff_exists.mp hw2
  have ld:=K.gQ (n+2) S (bz C.h C.g w (sub w hw1))
  rw[es]at ld
  have al:=Fq run w
  have ld':pg.fn (n+4) 47 (Zaj C.n C.t s w)=.ok (.val (ao s')) (Zaj C.n C.t s w):=ld
  have hwn:aH w (C.st s)=true:=gh hw1 fun x hx=>bz C.h C.g x (sub x hx)
  have ew':at? (w0::L) ((seed+104729*t*t+7919*t)*48271%2147483647/13%((L.length:Int)+1))=some w:=by
   rw[<-ew]
   simp
  refine⟨s',[w],.val (.lst (w0::L)),s10',.val (.int ((seed+104729*t*t+7919*t)*48271%2147483647)),K.yH S es,fun x hx=>?_,by simp,?_,.inr ⟨_,rfl⟩,b1,.inr ⟨_,rfl⟩,?_⟩
  ·rw[QDz.mp hx];exact sub w hw1
  ·simp[Cs.run,hwn,es]
  ·rcases h9 with rfl|⟨d,rfl⟩<;>rcases h11 with rfl|⟨d,rfl⟩<;>simp[drB,aP,ls_,items,b2,Ob.d,ne,m1,m2,m3,m4,dX,ue,f,ew',al,ld']
theorem Uk(n:Nat)(K:C.Ok)(a0 a1 a4:Sl)(seed:Int):∀(m:Nat)(t:Int)(s:St)(run:List D)(s8 s9 mO zG:Sl),0<=t->t+m<=100->C.S s->(∀x∈run,x∈C.nm)->run.length+m<=100->bC s8->bC s9->bC mO->bC zG->
  ∃(s':St)(ws:List D)(s8' s9' s10' s11':Sl),C.S s'/\(∀x∈ws,x∈C.nm)/\ws.length<=m/\C.run ws s=some s'/\
   aY (.name 8) (ex (pg.cf (n+4)) drB) (bJ t m) (Zal a0 a1 C.n C.t a4 seed s run s8 s9 mO zG)=.next (Zal a0 a1 C.n C.t a4 seed s' (run++ws) s8' s9' s10' s11')
 |0=>fun t s run s8 s9 mO zG _ _ S _ _ _ _ _ _=>⟨s,[],s8,s9,mO,zG,S,fun x hx=>(by cases hx),by simp,rfl,by simp[bJ,aY]⟩
 |m+1=>fun t s run s8 s9 mO zG t0 t1 S hr hl h8 h9 h10 h11=>by
  obtain⟨s1,w1,r9,r10,r11,c1,c2,c3,c4,c5,c6,c7,c8⟩:=Ri n K a0 a1 a4 seed t t0 (by omega) S hr (by omega) h9 h10 h11
  obtain⟨s',ws,q8,q9,q10,q11,d1,d2,d3,d4,d5⟩:=Uk n K a0 a1 a4 seed m (t+1) s1 (run++w1) (.val (.int t)) r9 r10 r11 (by omega) (by omega) c1 (fun x hx=>by
   rcases QXz.mp hx with z|z
   ·exact hr x z
   ·exact c2 x z) (by simp;omega) (.inr ⟨_,rfl⟩) c5 c6 c7
  refine⟨s',w1++ws,q8,q9,q10,q11,d1,fun x hx=>?_,by simp;omega,by rw[lJ,c4];exact d4,?_⟩
  ·rcases QXz.mp hx with z|z
   ·exact c2 x z
   ·exact d2 x z
  ·have tt:bw (.name 8) (.int t) (Zal a0 a1 C.n C.t a4 seed s run s8 s9 mO zG)=some (Zal a0 a1 C.n C.t a4 seed s run (.val (.int t)) s9 mO zG):=by
    rcases h8 with rfl|⟨d,rfl⟩<;>simp[bw,bN]
   rw[bJ,aY,tt]
   simp only[c8]
   rw[<-QLq]
   exact d5
def Mi(n:Nat)(ns:List Int)(K:C.Ok){k0:Int}(hk:0<=k0){M:Nat}(hM:M<=99):∃(run:List D)(s:St),(∀x∈run,x∈C.nm)/\run.length<=M/\C.S s/\C.run run (sI C.ls)=some s/\
  pg.fn (n+5) 50 (ZaC (sc ns) (.int k0) (.val C.n) (.val C.t) (.val (.int M)))=.ok (.val (.tup [.lst run,ao s])) (ZaC (sc ns) (.int k0) (.val C.n) (.val C.t) (.val (.int M))):=by
 obtain⟨sd,_,_,e1⟩:=rG (n+2) ns k0 1000000000 (by omega) (by omega)
 obtain⟨m,m1,m2,e2⟩:=rG (n+2) ns (k0+1) ((M:Int)+1) (by omega) (by omega)
 obtain⟨m,rfl⟩:=Int.eq_ofNat_of_zero_le m1
 obtain⟨s,run,q8,q9,q10,q11,d1,d2,d3,d4,d5⟩:=Uk n K (.val (sc ns)) (.val (.int k0)) (.val (.int M)) sd m 0 (sI C.ls) [] .un .un .un .un (by omega) (by omega) (Jq K) (fun x hx=>by cases hx) (by simp;omega) (.inl rfl) (.inl rfl) (.inl rfl) (.inl rfl)
 refine⟨run,s,d2,by omega,d1,d4,?_⟩
 rw[List.nil_append]at d5
 have pw:binop .pow (.int 10) (.int 9)=some (.val (.int 1000000000)):=rfl
 have n2:=Dh (C:=C)
 have se:D.tup [aF C.ls,.int 0]=ao (sI C.ls):=rfl
 have f1:fits m=true:=by simp[fits];omega
 have f2:zH m=true:=by simp[zH];omega
 have hb:fV=⟨5,12,(.cons ABk (.cons ADZ (.cons (.set 7 AAa) (.cons (.for_ (.name 8) ABs drB) ADa))))⟩:=rfl
 rw[pW,hb]
 simp[pw,e1,e2,n2,aP,se,f1,f2,items,d5,Ob.d]
end
end Tx
end
section
open PySem Mini
namespace Tx
section
variable{C:Cs}
theorem mW{s:St}{r:List D}{p:St×List D}:∀{xs:List D}{R:Rs},p∈C.new s r xs R->∃x∈xs,C.led s x=some p.1/\p.2=r++[x]
 |[],R,hp=>by cases hp
 |x::xs,R,hp=>by
  rw[Cs.new]at hp
  split at hp
  ·obtain⟨y,hy,z⟩:=mW hp
   exact⟨y,QYq _ hy,z⟩
  ·rename_i t e
   split at hp
   ·obtain⟨y,hy,z⟩:=mW hp
    exact⟨y,QYq _ hy,z⟩
   ·rcases QCq.mp hp with rfl|hp
    ·exact⟨x,QYz,e,rfl⟩
    ·obtain⟨y,hy,z⟩:=mW hp
     exact⟨y,QYq _ hy,z⟩
theorem qg{s t:St}{r:List D}{x:D}(e:C.led s x=some t):∀{xs:List D}{R:Rs},x∈xs->t∈(R++C.new s r xs R).map (·.1)
 |[],R,hx=>by cases hx
 |y::xs,R,hx=>by
  rw[Cs.new]
  split
  ·rename_i ey
   rcases QCq.mp hx with rfl|hx
   ·rw[e]at ey;cases ey
   ·exact qg e hx
  ·rename_i u ey
   split
   ·rename_i hu
    rcases QCq.mp hx with rfl|hx
    ·rw[e]at ey;cases ey
     rw[List.map_append];exact QWz _ hu
    ·exact qg e hx
   ·rcases QCq.mp hx with rfl|hx
    ·rw[e]at ey;cases ey
     simp
    ·have:=qg (r:=r) (R:=R++[(u,r++[y])]) e hx
     rw[QLq]at this
     exact this
structure Cs.Bf(C:Cs)(k:Nat)(R:Rs):Prop where
 run:∀p∈R,C.run p.2 (sI C.ls)=some p.1
 srt:∀(i j:Nat)(p q:St×List D),i<=j->R[i]? =some p->R[j]? =some q->p.2.length<=q.2.length
 clo:∀(j:Nat)(p:St×List D),j<k->R[j]? =some p->∀x∈C.st p.1,∀t,C.led p.1 x=some t->t∈R.map (·.1)
 lvl:∀q,R[k]? =some q->∀p∈R,p.2.length<=q.2.length+1
def wD{R N:Rs}{i:Nat}{p:St×List D}(e:(R++N)[i]? =some p):R[i]? =some p\/R.length<=i/\p∈N:=by
 by_cases c:i<R.length
 ·rw[Qwz c]at e;exact .inl e
 ·rw[QIz (by omega)]at e
  exact .inr ⟨by omega,QBz e⟩
def Rx(K:C.Ok){k:Nat}{R:Rs}(X:C.Ro R)(B:C.Bf k R){s:St}{r:List D}(e:R[k]? =some (s,r)):
  C.Bf (k+1) (R++C.new s r (C.st s) R):=by
 have m:=QBz e
 have S:=X.ok _ m
 have nl:∀p∈C.new s r (C.st s) R,p.2.length=r.length+1:=fun p hp=>by
  obtain⟨x,_,_,z⟩:=mW hp
  rw[z];simp
 have al:∀p∈R++C.new s r (C.st s) R,p.2.length<=r.length+1:=fun p hp=>by
  rcases QXz.mp hp with z|z
  ·exact B.lvl _ e p z
  ·rw[nl p z];exact QVz _
 have up:∀(i:Nat)p,R[i]? =some p->(R++C.new s r (C.st s) R)[i]? =some p:=fun i p ei=>by
  rw[Qwz (QCz.mp ei).1];exact ei
 refine⟨fun p hp=>?_,fun i j p q hij ei ej=>?_,fun j p hj ej x hx t et=>?_,fun q eq p hp=>?_⟩
 ·rcases QXz.mp hp with z|z
  ·exact B.run p z
  ·obtain⟨x,hx,ex_,z⟩:=mW z
   rw[z,lJ,B.run _ m]
   have i:aH x (C.st s)=true:=by
    obtain⟨q,rfl⟩:=K.pQ S x hx
    exact gh hx (K.pQ S)
   simp[Cs.run,i,ex_]
 ·rcases wD ej with z|⟨z1,z2⟩
  ·rcases wD ei with y|⟨y1,y2⟩
   ·exact B.srt i j p q hij y z
   ·have:=(QCz.mp z).1
    omega
  ·rw[nl q z2]
   exact al p (QBz ei)
 ·by_cases c:j=k
  ·subst c
   rw[up _ _ e]at ej
   cases ej
   exact qg et hx
  ·have jl:j<R.length:=by have:=(QCz.mp e).1;omega
   rw[Qwz jl]at ej
   rw[List.map_append]
   exact QWz _ (B.clo j p (by omega) ej x hx t et)
 ·have le:r.length<=q.2.length:=by
   rcases wD eq with z|⟨z1,z2⟩
   ·exact B.srt k (k+1) (s,r) q (by omega) e z
   ·rw[nl q z2];omega
  have:=al p hp
  omega
theorem Fo(K:C.Ok):∀(f k:Nat)(R:Rs),C.Ro R->k<=R.length->512<f+k->C.Bf k R->∃m,(C.nJ f k R).length<=m/\C.Bf m (C.nJ f k R)
 |0=>fun k R X hk hf _=>by have:=X.mZ K;omega
 |f+1=>fun k R X hk hf B=>by
  rw[Cs.nJ]
  split
  ·rename_i e
   exact⟨k,List.getElem?_eq_none_iff.mp e,B⟩
  ·rename_i p e
   obtain⟨s,r⟩:=p
   have m:=QBz e
   have S:=X.ok _ m
   have kl:=(QCz.mp e).1
   exact Fo K f (k+1) _ (lQ K S (X.wr _ m) _ (fun x hx=>(K.sub S).subset hx) X (X.le _ m)) (by simp;omega) (by omega) (Rx K X B e)
def Rw:C.Bf 0 (R0 C.ls):=by
 refine⟨fun p hp=>?_,fun i j p q _ ei ej=>?_,fun j p hj=>(by omega),fun q _ p hp=>?_⟩
 ·rw[QDz.mp hp];rfl
 ·have:p=(sI C.ls,[]):=QDz.mp (QBz ei)
  rw[this];exact QIq _
 ·rw[QDz.mp hp];exact QIq _
structure Cs.Fi(C:Cs)(F:Rs):Prop where
 ok:C.Ro F
 fst:sI C.ls∈F.map (·.1)
 run:∀p∈F,C.run p.2 (sI C.ls)=some p.1
 srt:∀(i j:Nat)(p q:St×List D),i<=j->F[i]? =some p->F[j]? =some q->p.2.length<=q.2.length
 clo:∀s∈F.map (·.1),∀x∈C.st s,∀t,C.led s x=some t->t∈F.map (·.1)
def X8(K:C.Ok):C.Fi (C.nJ 1000 0 (R0 C.ls)):=by
 have X:=MP K 1000 0 (Ft K)
 obtain⟨m,hm,B⟩:=Fo K 1000 0 (R0 C.ls) (Ft K) (QIq _) (by omega) (Rw (C:=C))
 refine⟨X,?_,B.run,B.srt,fun s hs x hx t et=>?_⟩
 ·obtain⟨Z,z⟩:=wX (C:=C) 1000 0 (R0 C.ls)
  rw[z]
  simp[R0]
 ·obtain⟨p,hp,rfl⟩:=QDq.mp hs
  obtain⟨j,ej⟩:=List.getElem?_of_mem hp
  exact B.clo j p (Qvq (QCz.mp ej).1 hm) ej x hx t et
theorem oY(f:D->D):∀xs:List D,bD (cV f xs)=xs.all fun x=>bD (f x)
 |[]=>rfl
 |x::xs=>by
  rw[cV,List.all_cons,<-oY f xs]
  cases e:bD (f x)
  ·simp[e]
  ·simp
def FZ(s:St)(r r':List D)(x:D):bD (C.sf s r x)=bD (C.sf s r' x):=by
 unfold Cs.sf
 split
 ·rfl
 ·unfold FQ
  split<;>rfl
def Ej(s:St)(r r':List D):bD (C.flt s r)=bD (C.flt s r'):=by
 unfold Cs.flt
 split
 ·split<;>rfl
 ·rw[oY,oY]
  congr 1
  funext x
  exact FZ s _ _ x
theorem sJ:∀{R:Rs},bD (C.ff R)=true->∀p∈R,bD (C.flt p.1 p.2)=true
 |[]=>fun _ p hp=>by cases hp
 |q::R=>fun e p hp=>by
  rw[Cs.ff]at e
  cases c:bD (C.flt q.1 q.2)with
  |false=>rw[c]at e;simp only[Qxq,if_false]at e;rw[c]at e;cases e
  |true=>
   rw[c]at e
   rcases QCq.mp hp with rfl|hp
   ·exact c
   ·exact sJ (by simpa using e) p hp
theorem nu:∀{R:Rs},bD (C.ff R)=false->∃(k:Nat)(s:St)(r:List D),R[k]? =some (s,r)/\(∀(j:Nat)(p:St×List D),j<k->R[j]? =some p->bD (C.flt p.1 p.2)=true)/\bD (C.flt s r)=false/\C.ff R=C.flt s r
 |[]=>fun e=>by cases e
 |q::R=>fun e=>by
  rw[Cs.ff]at e⊢
  cases c:bD (C.flt q.1 q.2)with
  |false=>exact⟨0,q.1,q.2,rfl,fun j p hj=>(by omega),c,by simp⟩
  |true=>
   rw[c]at e
   obtain⟨k,s,r,a,b,d1,d2⟩:=nu (R:=R) (by simpa using e)
   refine⟨k+1,s,r,a,fun j p hj ej=>?_,d1,by simpa using d2⟩
   cases j with
   |zero=>cases ej;exact c
   |succ j=>exact b j p (by omega) ej
theorem yW{f:D->D}:∀{xs:List D},bD (cV f xs)=false->∃x∈xs,cV f xs=f x/\bD (f x)=false
 |[]=>fun e=>by cases e
 |x::xs=>fun e=>by
  rw[cV]at e⊢
  cases c:bD (f x)with
  |false=>exact⟨x,QYz,by simp,c⟩
  |true=>
   rw[c]at e
   obtain⟨y,hy,a,b⟩:=yW (f:=f) (xs:=xs) (by simpa using e)
   exact⟨y,QYq _ hy,by simpa using a,b⟩
theorem vq(s:St)(r:List D)(e:bD (C.flt s r)=false):
  (C.st s=[]/\rD C.os (aV C.sts s.2)=true/\C.flt s r=.tup [.str "stuck",.lst r])\/
  (∃x∈C.st s,C.led s x=none/\C.flt s r=.tup [.str "unasked",.lst (r++[x])])\/
  (∃x∈C.st s,∃t y,C.led s x=some t/\y∈C.W s.1/\aH y (C.W t.1++[x])=false/\C.flt s r=.tup [.str "taken",.lst (r++[x]),y]):=by
 unfold Cs.flt at e⊢
 cases c:(C.st s).isEmpty with
 |true=>
  rw[c]at e
  cases co:rD C.os (aV C.sts s.2)with
  |true=>exact .inl ⟨List.isEmpty_iff.mp c,rfl,by simp⟩
  |false=>rw[co]at e;cases e
 |false=>
  rw[c]at e
  simp only[Qxq,if_false]at e⊢
  obtain⟨x,hx,a,b⟩:=yW e
  rw[a]
  unfold Cs.sf at b⊢
  cases el:C.led s x with
  |none=>exact .inr (.inl ⟨x,hx,el,rfl⟩)
  |some t=>
   rw[el]at b
   simp only at b⊢
   cases eg:C.gone s t x with
   |nil=>rw[eg]at b;cases b
   |cons y ys=>
    have hy:y∈C.gone s t x:=by rw[eg];exact QYz
    obtain⟨y1,y2⟩:=List.mem_filter.mp hy
    exact .inr (.inr ⟨x,hx,t,y,el,y1,by simpa using y2,rfl⟩)
end
end Tx
end
section
open PySem Mini
namespace Tx
variable{s:St}
section
variable{C:Cs}
def nfB:S:=(.cons (.ite (.cmp .notN AAq ABL) AAL .nil) AAZ)
def Kr{F:Rs}(X:C.Ro F)(hs:s∈F.map (·.1)):C.S s:=by
 obtain⟨p,hp,rfl⟩:=QDq.mp hs
 exact X.ok p hp
def Dj{F:Rs}(hn:∀p∈F,bD (C.flt p.1 p.2)=true)(hs:s∈F.map (·.1)):C.flt s []=.non:=by
 obtain⟨p,hp,rfl⟩:=QDq.mp hs
 exact oG ((Ej p.1 [] p.2).trans (hn p hp))
theorem Tr(K:C.Ok){F:Rs}(Z:C.Fi F)(hn:∀p∈F,bD (C.flt p.1 p.2)=true)(a0 a3 a4 a5 a6 a9 a10:Sl):∀(ws:List D)(s s':St)(s8:Sl),s∈F.map (·.1)->C.run ws s=some s'->bC s8->∃s8',s'∈F.map (·.1)/\
  aY (.name 8) (ex (pg.cf 59) nfB) ws [a0,.val C.n,.val C.t,a3,a4,a5,a6,.val (ao s),s8,a9,a10]=.next [a0,.val C.n,.val C.t,a3,a4,a5,a6,.val (ao s'),s8',a9,a10]
 |[]=>fun s s' s8 hs e _=>by cases e;exact⟨s8,hs,rfl⟩
 |w::ws=>fun s s' s8 hs e h8=>by
  have S:=Kr Z.ok hs
  rw[Cs.run]at e
  cases c:aH w (C.st s)with
  |false=>rw[c]at e;cases e
  |true=>
   rw[c]at e
   obtain⟨t,et,e⟩:=QJq.mp e
   obtain⟨q,eq⟩:∃q,w=.str q:=by
    cases cy:m7 .str w with
    |false=>rw[Ld cy (K.pQ S)]at c;cases c
    |true=>cases w<;>first|exact⟨_,rfl⟩|cases cy
   have hw:w∈C.st s:=by rw[eq]at c⊢;exact(lR (K.pQ S)).mp c
   have ht:=Z.clo s hs w hw t et
   have fa:=fP 54 K S (r:=[]) (by simp)
   rw[Dj hn hs]at fa
   have ld:=K.gQ 57 S (x:=w) ⟨q,eq⟩
   rw[et]at ld
   have tt:bw (.name 8) w [a0,.val C.n,.val C.t,a3,a4,a5,a6,.val (ao s),s8,a9,a10]=some [a0,.val C.n,.val C.t,a3,a4,a5,a6,.val (ao s),.val w,a9,a10]:=by
    rcases h8 with rfl|⟨d,rfl⟩<;>simp[bw,bN]
   obtain⟨s8',hs',z⟩:=Tr K Z hn a0 a3 a4 a5 a6 a9 a10 ws t s' (.val w) ht e (.inr ⟨_,rfl⟩)
   refine⟨s8',hs',?_⟩
   have go:ex (pg.cf 59) nfB [a0,.val C.n,.val C.t,a3,a4,a5,a6,.val (ao s),.val w,a9,a10]=.next [a0,.val C.n,.val C.t,a3,a4,a5,a6,.val (ao t),.val w,a9,a10]:=by
    simp[nfB,fa,ld,eV,aP,Ob.d]
   rw[aY,tt]
   simp only[go]
   exact z
def wkB:S:=(.cons (.ite ACS AAL .nil) AAZ)
abbrev ZaB(a b c d e f g h i j k):=([a,.val b,.val c,d,e,f,g,.val (ao h),i,j,k]:Ev)
theorem RT(K:C.Ok)(a0 a3 a4 a5 a6 a9 a10:Sl):∀(ws:List D)(s s':St)(s8:Sl),C.S s->C.run ws s=some s'->bC s8->∃s8',
  aY (.name 8) (ex (pg.cf 59) wkB) ws (ZaB a0 C.n C.t a3 a4 a5 a6 s s8 a9 a10)=.next (ZaB a0 C.n C.t a3 a4 a5 a6 s' s8' a9 a10)
 |[]=>fun s s' s8 _ e _=>by cases e;exact⟨s8,rfl⟩
 |w::ws=>fun s s' s8 S e h8=>by
  rw[Cs.run]at e
  cases c:aH w (C.st s)with
  |false=>rw[c]at e;cases e
  |true=>
   rw[c]at e
   obtain⟨t,et,e⟩:=QJq.mp e
   obtain⟨q,eq⟩:∃q,w=.str q:=by
    cases cy:m7 .str w with
    |false=>rw[Ld cy (K.pQ S)]at c;cases c
    |true=>cases w<;>first|exact⟨_,rfl⟩|cases cy
   have st:=K.iK 55 S
   have ld:=K.gQ 57 S (x:=w) ⟨q,eq⟩
   rw[et]at ld
   have ni:=gj (q:=q) (K.pQ S)
   rw[<-eq,c]at ni
   have tt:bw (.name 8) w (ZaB a0 C.n C.t a3 a4 a5 a6 s s8 a9 a10)=some (ZaB a0 C.n C.t a3 a4 a5 a6 s (.val w) a9 a10):=by
    rcases h8 with rfl|⟨d,rfl⟩<;>simp[bw,bN]
   obtain⟨s8',z⟩:=RT K a0 a3 a4 a5 a6 a9 a10 ws t s' (.val w) (K.yH S et) e (.inr ⟨_,rfl⟩)
   refine⟨s8',?_⟩
   have go:ex (pg.cf 59) wkB (ZaB a0 C.n C.t a3 a4 a5 a6 s (.val w) a9 a10)=.next (ZaB a0 C.n C.t a3 a4 a5 a6 t (.val w) a9 a10):=by
    simp[wkB,st,ld,eV,Ob.d,ni]
   rw[aY,tt]
   simp only[go]
   exact z
def shB:S:=(.cons (.ite (.and (.cons ACp (.cons (.cmp .notN ACe ABL) .nil))) AAL .nil) .nil)
theorem SM(K:C.Ok){F:Rs}(X:C.Ro F){r:List D}(hn:∀p∈F,p.2.length<r.length->bD (C.flt p.1 p.2)=true)(a0 a3 a4 a6 a7 a8:Sl):∀(R:Rs)(mO:Sl),(∀p∈R,p∈F)->bC mO->∃s10',
  aY (.name 10) (ex (pg.cf 59) shB) (kD R) [a0,.val C.n,.val C.t,a3,a4,.val (.fZ (kD F) (vD F)),a6,a7,a8,.val (.lst r),mO]=.next [a0,.val C.n,.val C.t,a3,a4,.val (.fZ (kD F) (vD F)),a6,a7,a8,.val (.lst r),s10']
 |[]=>fun mO _ _=>⟨mO,rfl⟩
 |p::R=>fun mO hp h10=>by
  obtain⟨s,u⟩:=p
  have m:=hp _ QYz
  obtain⟨k,e⟩:=List.getElem?_of_mem m
  have S:=X.ok _ m
  have ge:=Eh (rK X.nd e)
  have fa:=fP 54 K S (r:=[]) (by simp)
  have tt:bw (.name 10) (ao s) [a0,.val C.n,.val C.t,a3,a4,.val (.fZ (kD F) (vD F)),a6,a7,a8,.val (.lst r),mO]=some [a0,.val C.n,.val C.t,a3,a4,.val (.fZ (kD F) (vD F)),a6,a7,a8,.val (.lst r),.val (ao s)]:=by
   rcases h10 with rfl|⟨d,rfl⟩<;>simp[bw,bN]
  obtain⟨q,z⟩:=SM K X hn a0 a3 a4 a6 a7 a8 R (.val (ao s)) (fun y hy=>hp y (QYq _ hy)) (.inr ⟨_,rfl⟩)
  refine⟨q,?_⟩
  have go:ex (pg.cf 59) shB [a0,.val C.n,.val C.t,a3,a4,.val (.fZ (kD F) (vD F)),a6,a7,a8,.val (.lst r),.val (ao s)]=.next [a0,.val C.n,.val C.t,a3,a4,.val (.fZ (kD F) (vD F)),a6,a7,a8,.val (.lst r),.val (ao s)]:=by
   by_cases c:u.length<r.length
   ·have en:C.flt s []=.non:=oG ((Ej s [] u).trans (hn _ m c))
    rw[show C.flt (s,u).1 []=.non from en]at fa
    simp[shB,ge,fa,c,aP,Ob.d]
   ·simp[shB,ge,c]
  rw[show kD ((s,u)::R)=ao s::kD R from rfl,aY,tt]
  simp only[go]
  exact z
def saC:E:=.comp 1 (.name 0) (.idx AAg AEZ) ADP (.var 0)
def EY(a b:D):cut [a,b] none (some 2)=[a,b]:=rfl
def Hy(a b c:D):cut [a,b,c] none (some 2)=[a,b]:=rfl
def acw(r:List D)(x:D):at? (r++[x]) (-1)=some x:=Fq r x
def agm:j0=⟨4,8,(.cons ADt (.cons (.ite ADv (.cons (.set 6 saC) ABY) .nil) (.cons (.ite ABS AAL .nil) (.cons ABj (.cons (.ite (.cmp .eq (.var 4) ABw) (.cons (.ret (.cmp .fQ (.var 7) ABL)) .nil) .nil) (.cons (.ite (.or (.cons ADu (.cons (.cmp .fQ (.var 7) ABL) ACo))) AAL .nil) AAl))))))⟩:=rfl
def mX:(Str.ofString "unasked"=Str.ofString "stuck")=False/\(Str.ofString "taken"=Str.ofString "stuck")=False/\(Str.ofString "taken"=Str.ofString "unasked")=False:=by
 refine⟨eq_false ?_,eq_false ?_,eq_false ?_⟩<;>decide+kernel
abbrev Zan(a b c d):=([.val a,.val b,.val (.tup [.str "stuck",.lst c]),.val (ao d),.val (.str "stuck"),.val (.lst c),.un,.un]:Ev)
def Ji(n:Nat)(K:C.Ok)(S:C.S s){r:List D}(hr:∀x∈r,x∈C.nm)(e:bD (C.flt s r)=false):
  pg.fn (n+5) 51 [.val C.n,.val C.t,.val (C.flt s r),.val (ao s)]=.ok (.val (.bl true)) [.val C.n,.val C.t,.val (C.flt s r),.val (ao s)]:=by
 have Ky:=fD K.t K.o S.j
 have st:=K.iK n S
 have t0:=zO (C:=C)
 have t1:=I9 (C:=C)
 have s0:=Ga s
 have s1:=Vs s
 have sg:=jH S.j
 rw[yc,agm]
 rcases vq s r e with ⟨a,b,c⟩|⟨x,hx,a,c⟩|⟨x,hx,t,y,a,y1,y2,c⟩
 ·rw[c]
  rw[a]at st
  have eo:=lV (c:=pg.cf (n+4)) (it:=.idx AAg AEZ) (co:=.cmp .isin AAb AAe) (el:=.var 0) (σ:=(Zan C.n C.t r s)) (τ:=(Zan C.n C.t r s)) (d:=dO (aV C.sts s.2)) (xs:=(aV C.sts s.2).map ie) (r:=.val (dO (aV C.sts s.2))) (fun x=>x) (Tu C.os) (by simp[t1,s1,sg]) rfl rfl (fun x hx=>by
   obtain⟨m,hm,rfl⟩:=QDq.mp hx
   obtain⟨q,eq⟩:=Ky.1 m.1 (QTz hm)
   have i:=(eG (q:=q) (iU K.t)).2.1
   simp[ie,Tu,t0,eq,i]) (fun x hx _=>by simp)
  rw[List.map_id']at eo
  have nm:=Di (C:=C) C.os (aV C.sts s.2) fun m hm=>K.t.sub.subset ((K.t.mv _ (iC S.j)).1.subset (QTz hm))
  have cz:=(gW nm.1 (by omega)).1
  rw[nm.2.2,Bool.not_not,b]at cz
  have eo':ev (pg.cf (n+4)) saC (Zan C.n C.t r s)=_:=eo
  have ce:=(gW (xs:=[]) rfl (by simp[jx])).2
  simp[bZ,E.fQ,dM,EY,bw,dZ,bN,eo',st,aP,Ob.d,cz,ce]
 ·rw[c]
  obtain⟨q,rfl⟩:=K.pQ S x hx
  have ld:=K.gQ (n+2) S (x:=.str q) ⟨q,rfl⟩
  rw[a]at ld
  have ni:=gj (q:=q) (K.pQ S)
  rw[gh hx (K.pQ S)]at ni
  have wr:=iJ (qw hr ((K.sub S).subset hx))
  have ce:=(gW wr.1 (by rw[wr.2];omega)).2
  have em:(r++[D.str q]).isEmpty=false:=by cases r<;>rfl
  rw[em]at ce
  have al:=acw r (.str q)
  simp[bZ,E.fQ,dM,EY,bw,dZ,bN,st,aP,Ob.d,ce,al,ni,ld,eV,mX]
 ·rw[c]
  obtain⟨q,rfl⟩:=K.pQ S x hx
  have St:=K.yH S a
  obtain⟨v,rfl⟩:=K.RQ S y y1
  have ld:=K.gQ (n+2) S (x:=.str q) ⟨q,rfl⟩
  rw[a]at ld
  have ni:=gj (q:=q) (K.pQ S)
  rw[gh hx (K.pQ S)]at ni
  have wr:=iJ (qw hr ((K.sub S).subset hx))
  have ce:=(gW wr.1 (by rw[wr.2];omega)).2
  have em:(r++[D.str q]).isEmpty=false:=by cases r<;>rfl
  rw[em]at ce
  have al:=acw r (.str q)
  rw[Ec]at y2
  have y3:aH (.str v) (C.W t.1)=false:=(Bool.or_eq_false_iff.mp y2).1
  have y4:¬v=q:=by simpa using (Bool.or_eq_false_iff.mp y2).2
  have w1:=K.wlw (n+1) S
  have w2:=K.wlw (n+1) St
  have i1:=(eG (q:=v) (K.RQ S)).1
  rw[gh y1 (K.RQ S)]at i1
  have i2:=gj (q:=v) (K.RQ St)
  rw[y3]at i2
  have tt0:=Ga t
  simp[bZ,E.fQ,dM,Hy,bw,dZ,bN,st,aP,Ob.d,ce,al,ni,ld,eV,mX,dW,y4,s0,w1,i1,tt0,w2,i2]
end
end Tx
end
section
open PySem Mini
namespace Tx
def Rm(r:List D):cut r none (some (r.length:Int))=r:=by
 have a:clip r.length (r.length:Int)=r.length:=by
  have h0:¬((r.length:Int)<0):=by omega
  unfold clip
  simp only[h0,if_false]
  rw[if_neg (by omega),Int.toNat_natCast]
 simp[cut,a]
def zg(r:List D)(x:D):cut (r++[x]) none (some (r.length:Int))=r:=by
 have a:clip (r.length+1) (r.length:Int)=r.length:=by
  have h0:¬((r.length:Int)<0):=by omega
  unfold clip
  simp only[h0,if_false]
  rw[if_neg (by omega),Int.toNat_natCast]
 simp[cut,a]
def lwT:S:=(.cons ABZ (.cons ABX (.cons (.for_ (.name 8) (.var 9) wkB) (.cons (.for_ (.name 10) (.var 4) shB) ABv))))
def lwN:S:=(.cons ABg (.cons ABX (.cons (.for_ (.name 8) (.var 6) nfB) (.cons (.ret (.cmp .fQ AAq ABL)) .nil))))
def agn:M4=⟨1,11,(.cons ADe (.cons (.set 3 (.call 26 AAR)) (.cons (.setT [4,5] (.call 48 AAR)) (.cons (.ite (.cmp .fQ (.var 3) ABL) lwN .nil) lwT))))⟩:=rfl
def math(ns:List Int)(hl:ns.length<=63):∃qs,pg.fn 60 52 [.val (.lst (ns.map .int))]=.ok (.val (.bl true)) qs:=by
 obtain⟨C,K,e'⟩:=Rr 50 ns 4 (by omega)
 have a:=LR 49 K
 have b:=ul 54 K
 have Z:=X8 K
 generalize C.nJ 1000 0 (R0 C.ls)=F at*
 have X:=Z.ok
 have n2:=Dh (C:=C)
 have se:D.tup [aF C.ls,.int 0]=ao (sI C.ls):=rfl
 refine⟨[.val (.lst (ns.map .int))],?_⟩
 rw[show(60:Nat)=59+1 from rfl,aaY,agn]
 cases c:bD (C.ff F)with
 |true=>
  have hn:=sJ c
  rw[oG c]at a
  obtain⟨run,s,q1,q2,q3,q4,q5⟩:=Mi 54 ns K (k0:=0) (by omega) (M:=60) (by omega)
  have q5':pg.fn 59 50 [.val (.lst (ns.map .int)),.val (.int 0),.val C.n,.val C.t,.val (.int 60)]=.ok (.val (.tup [.lst run,ao s])) [.val (.lst (ns.map .int)),.val (.int 0),.val C.n,.val C.t,.val (.int 60)]:=q5
  obtain⟨s8,hs,z⟩:=Tr K Z hn (.val (.lst (ns.map .int))) (.val .non) (.val (.lst (kD F))) (.val (.fZ (kD F) (vD F))) (.val (.lst run)) .un .un run (sI C.ls) s .un Z.fst q4 (.inl rfl)
  have fa:=fP 54 K (Kr X hs) (r:=[]) (by simp)
  rw[Dj hn hs]at fa
  have q:∀x y,(E.cmp .fQ x y).aB=none:=fun _ _=>rfl
  simp[e',a,b,bw,dZ,bN,lwN,q5',n2,aP,se,items,z,fa,q,Ob.d]
 |false=>
  obtain⟨k,s,r,r1,r2,r3,r4⟩:=nu c
  have m:=QBz r1
  have S:=X.ok _ m
  have hr:=X.wr _ m
  have sh:=Ji 54 K S (r:=r) hr r3
  have rb:r.length<=512:=Nat.le_trans (X.le _ m) (X.mZ K)
  rw[r4]at a
  have hn:∀p∈F,p.2.length<r.length->bD (C.flt p.1 p.2)=true:=fun p hp hl=>by
   obtain⟨j,ej⟩:=List.getElem?_of_mem hp
   by_cases cj:j<k
   ·exact r2 j p cj ej
   ·have:=Z.srt k j (s,r) p (by omega) r1 ej
    have:r.length<=p.2.length:=this
    omega
  obtain⟨q8,z1⟩:=RT K (.val (.lst (ns.map .int))) (.val (C.flt s r)) (.val (.lst (kD F))) (.val (.fZ (kD F) (vD F))) .un (.val (.lst r)) .un r (sI C.ls) s .un (Jq K) (Z.run _ m) (.inl rfl)
  obtain⟨q10,z2⟩:=SM K X (r:=r) hn (.val (.lst (ns.map .int))) (.val (C.flt s r)) (.val (.lst (kD F))) .un (.val (ao s)) q8 F .un (fun p hp=>hp) (.inl rfl)
  have q:∀x y,(E.call x y).aB=none:=fun _ _=>rfl
  have go:∀d0 L,(getD (C.flt s r) (.int 0)=some d0)->(getD (C.flt s r) (.int 1)=some (.lst L))->(∃v,d0=.str v/\cut L none (some ((L.length:Int)-b2i (!decide (v=Str.ofString "stuck"))))=r)->
    ex (pg.cf 59) lwT [.val (.lst (ns.map .int)),.val C.n,.val C.t,.val (C.flt s r),.val (.lst (kD F)),.val (.fZ (kD F) (vD F)),.un,.un,.un,.un,.un]=.ret (.val (.bl true)) [.val (.lst (ns.map .int)),.val C.n,.val C.t,.val (C.flt s r),.val (.lst (kD F)),.val (.fZ (kD F) (vD F)),.un,.val (ao s),q8,.val (.lst r),q10]:=fun d0 L e0 e1⟨v,ev_,ec⟩=>by
   subst ev_
   simp[lwT,e0,e1,bZ,E.fQ,dM,ec,n2,aP,se,items,z1,z2,sh,q,Ob.d,b1]
  have fin:ex (pg.cf 59) lwT [.val (.lst (ns.map .int)),.val C.n,.val C.t,.val (C.flt s r),.val (.lst (kD F)),.val (.fZ (kD F) (vD F)),.un,.un,.un,.un,.un]=.ret (.val (.bl true)) [.val (.lst (ns.map .int)),.val C.n,.val C.t,.val (C.flt s r),.val (.lst (kD F)),.val (.fZ (kD F) (vD F)),.un,.val (ao s),q8,.val (.lst r),q10]:=by
   rcases vq s r r3 with ⟨_,_,w⟩|⟨x,_,_,w⟩|⟨x,_,t,y,_,_,_,w⟩
   ·exact go (.str "stuck") r (by rw[w];rfl) (by rw[w];rfl) ⟨_,rfl,by
     simp[b2i]
     exact Rm r⟩
   ·exact go (.str "unasked") (r++[x]) (by rw[w];rfl) (by rw[w];rfl) ⟨_,rfl,by
     rw[show(!decide (Str.ofString "unasked"=Str.ofString "stuck"))=true by simp[mX]]
     have:((r++[x]).length:Int)-b2i true=(r.length:Int):=by simp[b2i]
     rw[this]
     exact zg r x⟩
   ·exact go (.str "taken") (r++[x]) (by rw[w];rfl) (by rw[w];rfl) ⟨_,rfl,by
     rw[show(!decide (Str.ofString "taken"=Str.ofString "stuck"))=true by simp[mX]]
     have:((r++[x]).length:Int)-b2i true=(r.length:Int):=by simp[b2i]
     rw[this]
     exact zg r x⟩
  simp[e',a,b,bw,dZ,bN,r3,fin]
end Tx
end
namespace Tx
open PySem PySem.W L2 Mini
def bQ{K:QQq}{x:Str}{st:Stmt}(m:Value)(f c:Addr)(a:PySem.W.nsIn K mainGlobals x=some (some (.ref f)):=by kernel_rfl)(l:K.lookup f=some (fO x st m c):=by kernel_rfl)(q:PySem.W.codeIn K (.ref c) x=true:=by kernel_rfl):Nv K x st:=Mini.dIn a l q (by unfold PySem.W.keepIn;dsimp only;rw[l];rfl)
end Tx
open PySem PySem.W PyProof.Rows
theorem PySem.Challenge.cw_anywait_k07_whole_fault_walked_holds : PySem.Challenge.rw_anywait_k07_whole_fault_walked.Holds := by
 w_on
 refine PySem.W.holds_law Tx.w0w fun said => ?_
 refine PySem.W.holds_open (q := Tx.qV) (loose := Tx.lo) (Xt := fun s => recOk [] s) (XP := fun _ _ => True) (Yf := Hook.obs Tx.Kh) (Ya := Hook.val Tx.Kh) (YP := Hook.says Tx.Kh) (N := 4774) Tx.hl (Hook.of Tx.Kh) (Hook.keeps Tx.Kh) (fun _ _ => trivial) (fun _ _ _ _ _ => trivial) (by rfl) (by rfl) (by rfl) (fun s e => recFacts_of e) (by rfl) said (by decide +kernel) ⟨rfl, rfl, rfl, rfl, rfl, by decide +kernel⟩ ?hw ?hc
 case hw => w_witness2
 case hc =>
  refine Mini.Ig (p := Tx.pg) (L := 52) (y := "_law_script") (l := PySem.Challenge.rw_anywait_k07_whole_fault_walked) rfl rfl (fun w h Y => PySem.W.kIn_of Y) Tx.math ?qF
  intro w mg fa h KX G hmg
  refine Mini.RG (dL := Tx.d52) KX G hmg rfl rfl rfl Tx.bd Tx.scp Tx.mD ?qA ?qB ?qZ
  case qA =>
   show Mini.AllIn _ Tx.nms
   exact ⟨Tx.bQ Tx.kJ 59 58, Tx.bQ Tx.kJ 64 63, Tx.bQ Tx.kJ 69 68, Tx.bQ Tx.kJ 76 75, Tx.bQ Tx.kJ 83 82, Tx.bQ Tx.kJ 88 87, Tx.bQ Tx.kJ 93 92, Tx.bQ Tx.kJ 98 97, Tx.bQ Tx.kJ 105 104, Tx.bQ Tx.kJ 110 109, Tx.bQ Tx.kJ 115 114, Tx.bQ Tx.kJ 122 121, Tx.bQ Tx.kJ 129 128, Tx.bQ Tx.kJ 134 133, Tx.bQ Tx.kJ 139 138, Tx.bQ Tx.kJ 144 143, Tx.bQ Tx.kJ 151 150, Tx.bQ Tx.Za 158 157, Tx.bQ Tx.Za 163 162, Tx.bQ Tx.Za 168 167, Tx.bQ Tx.HS 175 174, Tx.bQ Tx.HS 180 179, Tx.bQ Tx.HS 187 186, Tx.bQ Tx.HS 194 193, Tx.bQ Tx.HS 199 198, Tx.bQ Tx.HS 206 205, Tx.bQ Tx.Tw 213 212, Tx.bQ Tx.Tw 220 219, Tx.bQ Tx.Tw 225 224, Tx.bQ Tx.Tw 232 231, Tx.bQ Tx.gF 239 238, Tx.bQ Tx.gF 246 245, Tx.bQ Tx.gF 253 252, Tx.bQ Tx.gF 260 259, Tx.bQ Tx.gF 265 264, Tx.bQ Tx.gF 272 271, Tx.bQ Tx.gF 277 276, Tx.bQ Tx.gF 282 281, Tx.bQ Tx.gF 287 286, Tx.bQ Tx.gF 294 293, Tx.bQ Tx.gF 301 300, Tx.bQ Tx.gF 306 305, Tx.bQ Tx.gF 313 312, Tx.bQ Tx.gF 318 317, Tx.bQ Tx.gF 323 322, Tx.bQ Tx.gF 328 327, Tx.bQ Tx.gF 333 332, Tx.bQ Tx.gF 338 337, Tx.bQ Tx.gF 345 344, Tx.bQ Tx.gF 350 349, Tx.bQ Tx.gF 357 356, Tx.bQ Tx.gF 362 361, Tx.bQ Tx.gF 369 368, trivial⟩
  case qB => exact ⟨.v (u := .str "abcdefghijklmnopqrstuvwxyz" 241) (by kernel_rfl) (by decide +kernel), .v (u := .int 6 243) (by kernel_rfl) (by decide +kernel), .t (a := 52) (o := Tx.o52) (by kernel_rfl) (by kernel_rfl) (by decide +kernel), .v (u := .int 3 260) (by kernel_rfl) (by decide +kernel), .v (u := .int 5 262) (by kernel_rfl) (by decide +kernel), .v (u := .int 4 264) (by kernel_rfl) (by decide +kernel), .v (u := .int 8 266) (by kernel_rfl) (by decide +kernel), .v (u := .int 3 268) (by kernel_rfl) (by decide +kernel), .v (u := .int 12 396) (by kernel_rfl) (by decide +kernel), trivial⟩
  case qZ => exact ⟨by kernel_rfl, by kernel_rfl, by kernel_rfl, by kernel_rfl, by kernel_rfl, by kernel_rfl, by kernel_rfl, by kernel_rfl, by kernel_rfl, by kernel_rfl, by kernel_rfl, by kernel_rfl, by kernel_rfl, by kernel_rfl, trivial⟩