import PyProof.Rows.All
import Wide.All
import OpenK.AllK
import Wide.FinOn
import PySem.Syntax
import Lean
import PyProof.EqAt
import PyProof.EqKinds
import PyProof.TupleCall
import PyProof.TupleKey
import PyProof.DictRoadsH
import PyProof.P3Eq
import Wide.Seal
import KE.KDictList
import KE.KSortAsk
import PyProof.ListMulAny
import PyProof.FactsAll.tuple_2
import PyProof.NeData
import PyProof.P3In
import KE.KSortTup
import PyProof.DictUpdate
import PyProof.DictCopy
import PyProof.EnumFor
import PyProof.EnumMake
import PyProof.Rows.EnumRows
import PyProof.CompFree
import PySem.Challenge.RW_anywait_k19_needed
set_option linter.all false
set_option Elab.async false
set_option maxRecDepth 100000
set_option maxHeartbeats 0
set_option compiler.extract_closed false
set_option bootstrap.genMatcherCode false
abbrev QQq:=PySem.W.Frag
abbrev QQz:=List (PySem.Addr×PySem.Obj)
abbrev QZq:=PySem.Value→PySem.Shared→Prop
abbrev QZz:=PySem.Str→Option PySem.Value
def QJq:=@Option.bind_eq_some_iff
def QJz:=@Option.map_eq_some_iff
def QYq:=@List.mem_cons_of_mem
def QYz:=@List.mem_cons_self
def QXq:=@List.getElem?_eq_getElem
def QXz:=@List.mem_append
def QWq:=@PySem.Heap.get?_push_of_some
def QWz:=@List.mem_append_left
def QVq:=@List.mem_append_right
def QVz:=@Nat.le_refl
def QUq:=@Bool.and_eq_true
def QUz:=@decide_eq_true_eq
def QTq:=@List.length_append
def QTz:=@List.mem_map_of_mem
def QKq:=@PySem.wpAny_bind
def QKz:=@PySem.wpAny_pure
def QGq:=@PySem.wpAny_mono
def QGz:=@PySem.wpAny_field
def Qqq:=@PySem.wpAny_holding
def Qqz:=@PySem.Heap.lt_size
def Qzq:=@PySem.Heap.get?_push_size
def Qzz:=@PySem.wpAny_call_entry
def Qjq:=@PySem.wpAny_newObj_type
def Qjz:=@Bool.false_ne_true
def Qyq:=@List.size_toArray
def Qyz:=@List.map_cons
def Qxq:=@Bool.false_eq_true
def Qxz:=@List.getElem?_set_ne
def Qwq:=@List.getElem?_set_self
def Qwz:=@List.getElem?_append_left
def Qvq:=@Nat.lt_of_lt_of_le
def Qvz:=@Nat.ne_of_lt
def QAq:=@List.length_map
def QAz:=@List.not_mem_nil
def QBq:=@List.length_cons
def QBz:=@List.mem_of_getElem?
def QCq:=@List.mem_cons
def QCz:=@List.getElem?_eq_some_iff
def QDq:=@List.mem_map
def QDz:=@List.mem_singleton
def QEq:=@Option.some.inj
def QEz:=@decide_eq_false
def QFq:=@decide_eq_true
def QFz:=@List.getElem?_map
def QHq:=@Option.bind_some
def QHz:=@List.lookup_cons
def QIq:=@Nat.zero_le
def QIz:=@List.getElem?_append_right
def QLq:=@List.append_assoc
def QLz:=@List.cons_append
noncomputable section
section
namespace L2
open PySem
noncomputable def dZ(s:Stmt):Arguments:=match s with
 |.FunctionDef _ a _ _ _ _ _ _ _ _=>a
 |_=>{posonlyargs:=[],args:=[],vararg:=none,kwonlyargs:=[],kw_defaults:=[],kwarg:=none,defaults:=[]}
def dY(s:Stmt):List Stmt:=match s with
 |.FunctionDef _ _ b _ _ _ _ _ _ _=>b
 |_=>[]
noncomputable def bf(s:Stmt):Scope:=match s with
 |.FunctionDef _ _ _ _ _ _ sc _ _ _=>sc
 |_=>{kind:=.function,names:=[],isGenerator:=false,isCoroutine:=false}
end L2
end
section
namespace Tx
open PySem PySem.W L2 PyProof.Rows
theorem w0w:PySem.Challenge.rw_anywait_k19_needed.wellSaid=true:=by kernel_rfl
def top(i:Nat):Stmt:=PySem.Challenge.pw_anywait_k19_needed.main.body.getD i (.Pass ⟨0,0,0,0⟩)
abbrev s0:Stmt:=top 15
abbrev s1:Stmt:=top 16
abbrev s2:Stmt:=top 17
abbrev s3:Stmt:=top 18
abbrev s4:Stmt:=top 19
abbrev s5:Stmt:=top 20
abbrev s6:Stmt:=top 21
abbrev s7:Stmt:=top 22
abbrev s8:Stmt:=top 23
abbrev s9:Stmt:=top 24
abbrev vZ:Stmt:=top 25
abbrev vY:Stmt:=top 26
abbrev s12:Stmt:=top 27
abbrev jm:Stmt:=top 28
abbrev fH:Stmt:=top 29
abbrev s15:Stmt:=top 30
abbrev s16:Stmt:=top 31
abbrev s17:Stmt:=top 34
abbrev s18:Stmt:=top 35
abbrev s19:Stmt:=top 36
abbrev s20:Stmt:=top 38
abbrev s21:Stmt:=top 39
abbrev s22:Stmt:=top 40
abbrev s23:Stmt:=top 41
abbrev s24:Stmt:=top 42
abbrev s25:Stmt:=top 43
abbrev s26:Stmt:=top 44
abbrev s27:Stmt:=top 47
abbrev s28:Stmt:=top 48
abbrev s29:Stmt:=top 49
abbrev s30:Stmt:=top 50
abbrev s31:Stmt:=top 51
abbrev s32:Stmt:=top 53
abbrev s33:Stmt:=top 54
abbrev s34:Stmt:=top 55
abbrev s35:Stmt:=top 56
abbrev s36:Stmt:=top 57
abbrev s37:Stmt:=top 58
abbrev s38:Stmt:=top 59
abbrev s39:Stmt:=top 60
abbrev s40:Stmt:=top 61
abbrev s41:Stmt:=top 62
abbrev s42:Stmt:=top 63
abbrev s43:Stmt:=top 64
abbrev s44:Stmt:=top 65
abbrev s45:Stmt:=top 66
abbrev s46:Stmt:=top 67
abbrev s47:Stmt:=top 68
abbrev s48:Stmt:=top 69
abbrev s49:Stmt:=top 70
abbrev s50:Stmt:=top 71
abbrev s51:Stmt:=top 72
def gE(P:Params)(x:Str)(i:Nat)(v:Value):DictEntry:=⟨PyData.keyHash P x,.str x i,v⟩
noncomputable def fO(x:Str)(st:Stmt)(m:Value)(c:Addr):Obj:=⟨.type "function",none,.func (PySem.W.fnOf x x (dZ st) (dY st) (bf st) .none .none .none m none (.ref c) .none), #[]⟩
noncomputable def cO(x:Str)(a:Nat)(l n:Int)(r s:Nat)(u v:Value)(t:Nat)(q:Int)(z:Nat):Obj:=⟨.type "code",none,.fields #[.str x a,.str x (a+1),.str "/claim/cut.py" (a+2),.int l 0,.int n 0,.int 0 0,.int 0 0,.int 3 0,.ref r,.bool true,.int 181 0,.ref s,.none,u,v,.ref t,.int q 0,.int l 0,.str "/claim/cut.py" z], #[]⟩
def O3:Value:=.str "anywait.needs" 514
def j6:Value:=.str "anywait.nets" 271
def DW:Value:=.str "anywait.stands" 450
def Zh:Value:=.str "anywait.talks" 426
def iM:Value:=.str "law_anywait_k19_needed" 548
noncomputable def o76:Obj:=⟨.type "tuple",none,.seq #[.str "input" 277,.str "gate" 278,.str "start" 279,.str "out" 280,.str "state" 281,.str "same" 282,.str "not" 283,.str "and" 284,.str "or" 285,.str "both" 286,.str "held" 287,.str "table" 288,.str "on" 289,.str "off" 290], #[]⟩
noncomputable def Kf(P:Params):QQq:=[(3,⟨.type "dict",none,.dict #[gE P "__name__" 165 (.str "law_anywait_k19_needed" 548),gE P "__doc__" 166 .none,gE P "__package__" 167 .none,gE P "__loader__" 168 (.builtin "__main__.__loader__#opaque"),gE P "__spec__" 169 .none,gE P "__annotations__" 170 (.ref 6),gE P "__builtins__" 171 (.ref 4),gE P "__file__" 173 (.str "/claim/cut.py" 172),gE P "__cached__" 174 .none,gE P "WaitError" 206 (.ref 24),gE P "NoNet" 222 (.ref 37),gE P "NoTalk" 238 (.ref 49),gE P "NoRun" 254 (.ref 61),gE P "NoNumber" 270 (.ref 73),gE P "LETTERS" 274 (.str "abcdefghijklmnopqrstuvwxyz" 273),gE P "LONGEST_NAME" 276 (.int 6 275),gE P "WORDS" 291 (.ref 76),gE P "MOST_INPUTS" 293 (.int 3 292),gE P "MOST_GATES" 295 (.int 5 294),gE P "MOST_WIRES" 297 (.int 4 296),gE P "MOST_TABLE_WIRES" 299 (.int 8 298),gE P "DEEPEST_HELD" 301 (.int 3 300),gE P "checked" 308 (.ref 83),gE P "is_net" 314 (.ref 88),gE P "has_parts" 320 (.ref 93),gE P "is_tuple" 329 (.ref 100),gE P "is_number" 338 (.ref 107),gE P "is_name" 344 (.ref 112),gE P "are_unlike" 350 (.ref 117),gE P "is_row" 356 (.ref 122),gE P "is_wire" 364 (.ref 129),gE P "are_wires" 370 (.ref 134),gE P "are_rows" 376 (.ref 139),gE P "is_kind" 387 (.ref 146),gE P "is_held" 396 (.ref 153),gE P "wire_names" 402 (.ref 158),gE P "waiting_gates" 408 (.ref 163),gE P "told" 414 (.ref 168),gE P "told_held" 425 (.ref 175),gE P "MOST_STATES" 429 (.int 12 428),gE P "checked_talk" 437 (.ref 182),gE P "is_talk" 443 (.ref 187),gE P "is_state" 449 (.ref 192),gE P "stands" 461 (.ref 199),gE P "first_stand" 468 (.ref 206),gE P "steps_at" 474 (.ref 211),gE P "is_unasked" 483 (.ref 218),gE P "led_to" 494 (.ref 225),gE P "changed" 500 (.ref 230),gE P "newly_met" 513 (.ref 237),gE P "MOST_NEEDED" 517 (.int 20 516),gE P "needed" 523 (.ref 242),gE P "ways_of" 529 (.ref 247),gE P "ways_at" 535 (.ref 252),gE P "least_ahead" 541 (.ref 257),gE P "places_behind" 547 (.ref 262),gE P "_law_cell_at" 557 (.ref 269),gE P "_law_mixed" 567 (.ref 276),gE P "_law_next" 576 (.ref 283),gE P "_law_some" 588 (.ref 290),gE P "_law_table" 594 (.ref 295),gE P "_law_kind" 606 (.ref 302),gE P "_law_net" 612 (.ref 307),gE P "_law_talk" 618 (.ref 312),gE P "_law_ring" 624 (.ref 317),gE P "_law_chain" 638 (.ref 324),gE P "_law_meeting" 652 (.ref 331),gE P "_law_spoilt_kind" 658 (.ref 336),gE P "_law_case" 670 (.ref 343),gE P "_law_names" 676 (.ref 348),gE P "_law_tells" 682 (.ref 353),gE P "_law_waiting" 688 (.ref 358),gE P "_law_steps" 694 (.ref 363),gE P "_law_led" 700 (.ref 368),gE P "_law_comes" 721 (.ref 375),gE P "law" 736 (.ref 382)] 76, #[]⟩),
 (83,fO "checked" s0 j6 82),
 (82,cO "checked" 302 21 1 77 78 (.ref 79) (.ref 80) 81 306 307),
 (88,fO "is_net" s1 j6 87),
 (87,cO "is_net" 309 25 1 84 85 .none .none 86 312 313),
 (93,fO "has_parts" s2 j6 92),
 (92,cO "has_parts" 315 32 1 89 90 .none .none 91 318 319),
 (100,fO "is_tuple" s3 j6 99),
 (99,cO "is_tuple" 321 36 3 94 95 (.ref 96) (.ref 97) 98 327 328),
 (107,fO "is_number" s4 j6 106),
 (106,cO "is_number" 330 38 3 101 102 (.ref 103) (.ref 104) 105 336 337),
 (112,fO "is_name" s5 j6 111),
 (111,cO "is_name" 339 40 1 108 109 .none .none 110 342 343),
 (117,fO "are_unlike" s6 j6 116),
 (116,cO "are_unlike" 345 44 1 113 114 .none .none 115 348 349),
 (122,fO "is_row" s7 j6 121),
 (121,cO "is_row" 351 46 2 118 119 .none .none 120 354 355),
 (129,fO "is_wire" s8 j6 128),
 (128,cO "is_wire" 357 48 2 123 124 (.ref 125) (.ref 126) 127 362 363),
 (134,fO "are_wires" s9 j6 133),
 (133,cO "are_wires" 365 50 4 130 131 .none .none 132 368 369),
 (139,fO "are_rows" vZ j6 138),
 (138,cO "are_rows" 371 54 2 135 136 .none .none 137 374 375),
 (146,fO "is_kind" vY j6 145),
 (145,cO "is_kind" 377 58 3 140 141 (.ref 142) (.ref 143) 144 385 386),
 (153,fO "is_held" s12 j6 152),
 (152,cO "is_held" 388 74 3 147 148 (.ref 149) (.ref 150) 151 394 395),
 (158,fO "wire_names" jm j6 157),
 (157,cO "wire_names" 397 76 1 154 155 .none .none 156 400 401),
 (163,fO "waiting_gates" fH j6 162),
 (162,cO "waiting_gates" 403 78 2 159 160 .none .none 161 406 407),
 (168,fO "told" s15 j6 167),
 (167,cO "told" 409 81 3 164 165 .none .none 166 412 413),
 (175,fO "told_held" s16 j6 174),
 (174,cO "told_held" 415 97 3 169 170 (.ref 171) (.ref 172) 173 423 424),
 (182,fO "checked_talk" s17 Zh 181),
 (181,cO "checked_talk" 430 103 2 176 177 (.ref 178) (.ref 179) 180 435 436),
 (187,fO "is_talk" s18 Zh 186),
 (186,cO "is_talk" 438 107 2 183 184 .none .none 185 441 442),
 (192,fO "is_state" s19 Zh 191),
 (191,cO "is_state" 444 115 3 188 189 .none .none 190 447 448),
 (199,fO "stands" s20 DW 198),
 (198,cO "stands" 452 122 2 193 194 (.ref 195) (.ref 196) 197 459 460),
 (206,fO "first_stand" s21 DW 205),
 (205,cO "first_stand" 462 129 1 200 201 (.ref 202) (.ref 203) 204 466 467),
 (211,fO "steps_at" s22 DW 210),
 (210,cO "steps_at" 469 131 3 207 208 .none .none 209 472 473),
 (218,fO "is_unasked" s23 DW 217),
 (217,cO "is_unasked" 475 134 3 212 213 (.ref 214) (.ref 215) 216 481 482),
 (225,fO "led_to" s24 DW 224),
 (224,cO "led_to" 484 136 4 219 220 (.ref 221) (.ref 222) 223 492 493),
 (230,fO "changed" s25 DW 229),
 (229,cO "changed" 495 141 3 226 227 .none .none 228 498 499),
 (237,fO "newly_met" s26 DW 236),
 (236,cO "newly_met" 501 143 4 231 232 (.ref 233) (.ref 234) 235 511 512),
 (242,fO "needed" s27 O3 241),
 (241,cO "needed" 518 153 4 238 239 .none .none 240 521 522),
 (247,fO "ways_of" s28 O3 246),
 (246,cO "ways_of" 524 163 2 243 244 .none .none 245 527 528),
 (252,fO "ways_at" s29 O3 251),
 (251,cO "ways_at" 530 167 4 248 249 .none .none 250 533 534),
 (257,fO "least_ahead" s30 O3 256),
 (256,cO "least_ahead" 536 170 4 253 254 .none .none 255 539 540),
 (262,fO "places_behind" s31 O3 261),
 (261,cO "places_behind" 542 189 3 258 259 .none .none 260 545 546),
 (269,fO "_law_cell_at" s32 iM 268),
 (268,cO "_law_cell_at" 550 193 2 263 264 (.ref 265) (.ref 266) 267 555 556),
 (276,fO "_law_mixed" s33 iM 275),
 (275,cO "_law_mixed" 558 199 3 270 271 (.ref 272) (.ref 273) 274 565 566),
 (283,fO "_law_next" s34 iM 282),
 (282,cO "_law_next" 568 202 3 277 278 (.ref 279) (.ref 280) 281 574 575),
 (290,fO "_law_some" s35 iM 289),
 (289,cO "_law_some" 577 205 5 284 285 (.ref 286) (.ref 287) 288 586 587),
 (295,fO "_law_table" s36 iM 294),
 (294,cO "_law_table" 589 210 3 291 292 .none .none 293 592 593),
 (302,fO "_law_kind" s37 iM 301),
 (301,cO "_law_kind" 595 216 4 296 297 (.ref 298) (.ref 299) 300 604 605),
 (307,fO "_law_net" s38 iM 306),
 (306,cO "_law_net" 607 226 4 303 304 .none .none 305 610 611),
 (312,fO "_law_talk" s39 iM 311),
 (311,cO "_law_talk" 613 232 4 308 309 .none .none 310 616 617),
 (317,fO "_law_ring" s40 iM 316),
 (316,cO "_law_ring" 619 240 2 313 314 .none .none 315 622 623),
 (324,fO "_law_chain" s41 iM 323),
 (323,cO "_law_chain" 625 246 2 318 319 (.ref 320) (.ref 321) 322 636 637),
 (331,fO "_law_meeting" s42 iM 330),
 (330,cO "_law_meeting" 639 257 2 325 326 (.ref 327) (.ref 328) 329 650 651),
 (336,fO "_law_spoilt_kind" s43 iM 335),
 (335,cO "_law_spoilt_kind" 653 271 3 332 333 .none .none 334 656 657),
 (343,fO "_law_case" s44 iM 342),
 (342,cO "_law_case" 659 277 2 337 338 (.ref 339) (.ref 340) 341 668 669),
 (348,fO "_law_names" s45 iM 347),
 (347,cO "_law_names" 671 297 1 344 345 .none .none 346 674 675),
 (353,fO "_law_tells" s46 iM 352),
 (352,cO "_law_tells" 677 299 3 349 350 .none .none 351 680 681),
 (358,fO "_law_waiting" s47 iM 357),
 (357,cO "_law_waiting" 683 317 2 354 355 .none .none 356 686 687),
 (363,fO "_law_steps" s48 iM 362),
 (362,cO "_law_steps" 689 320 3 359 360 .none .none 361 692 693),
 (368,fO "_law_led" s49 iM 367),
 (367,cO "_law_led" 695 324 4 364 365 .none .none 366 698 699),
 (375,fO "_law_comes" s50 iM 374),
 (374,cO "_law_comes" 701 333 6 369 370 (.ref 371) (.ref 372) 373 719 720),
 (382,fO "law" s51 iM 381),
 (381,cO "law" 722 350 1 376 377 (.ref 378) (.ref 379) 380 734 735),
 (76,o76)]
noncomputable def Ka:List Addr:=[3,83,82,88,87,93,92,100,99,107,106,112,111,117,116,122,121,129,128,134,133,139,138,146,145,153,152,158,157,163,162,168,167,175,174,182,181,187,186,192,191,199,198,206,205,211,210,218,217,225,224,230,229,237,236,242,241,247,246,252,251,257,256,262,261,269,268,276,275,283,282,290,289,295,294,302,301,307,306,312,311,317,316,324,323,331,330,336,335,343,342,348,347,353,352,358,357,363,362,368,367,375,374,382,381,76]
def Ke(P:Params):Ka=(Kf P).map (·.1):=rfl
abbrev Kh:PySem.W.Hook:=PySem.W.kHook Kf Ka Ke
noncomputable def lo:List Str:="__name__"::"WaitError"::"NoNet"::"NoTalk"::"NoRun"::"NoNumber"::"LETTERS"::"LONGEST_NAME"::"WORDS"::"MOST_INPUTS"::"MOST_GATES"::"MOST_WIRES"::"MOST_TABLE_WIRES"::"DEEPEST_HELD"::"checked"::"is_net"::"has_parts"::"is_tuple"::"is_number"::"is_name"::"are_unlike"::"is_row"::"is_wire"::"are_wires"::"are_rows"::"is_kind"::"is_held"::"wire_names"::"waiting_gates"::"told"::"told_held"::"MOST_STATES"::"checked_talk"::"is_talk"::"is_state"::"stands"::"first_stand"::"steps_at"::"is_unasked"::"led_to"::"changed"::"newly_met"::"MOST_NEEDED"::"needed"::"ways_of"::"ways_at"::"least_ahead"::"places_behind"::"_law_cell_at"::"_law_mixed"::"_law_next"::"_law_some"::"_law_table"::"_law_kind"::"_law_net"::"_law_talk"::"_law_ring"::"_law_chain"::"_law_meeting"::"_law_spoilt_kind"::"_law_case"::"_law_names"::"_law_tells"::"_law_waiting"::"_law_steps"::"_law_led"::"_law_comes"::[]
def qV:Program:=view PySem.Challenge.pw_anywait_k19_needed [72]
def hl:LeftO PySem.Challenge.pw_anywait_k19_needed qV lo (fun s=>recOk [] s) (Hook.obs Kh) (Hook.val Kh) 5538:=fun w=>by
 rw[PySem.W.Fast.te4187177175401517315,PySem.W.Fast.te5923862056798008813,PySem.W.Fast.te14364793385576792824]
 kernel_rfl
end Tx
end
section
namespace L2
open PySem PySem.Spec PyProof.Rows
abbrev Key:=Sum Int Str
def uR:Key->Value->Bool
 |.inl k,v=>Value.isInt k v
 |.inr x,v=>Value.isStrOf x v
def abL(w:World):Key->Int
 |.inl k=>hashInt k
 |.inr x=>hashStr w x
theorem bU:∀{k:Key}{v:Value},uR k v=true->(∃i t,k=Sum.inl i/\v=Value.int i t)\/(∃x t,k=Sum.inr x/\v=Value.str x t)
 |.inl i,v,h=>by
  obtain⟨t,e⟩:=Value.isInt_shape h
  exact .inl ⟨i,t,rfl,e⟩
 |.inr x,v,h=>by
  obtain⟨t,e⟩:=Value.isStrOf_shape h
  exact .inr ⟨x,t,rfl,e⟩
def Hu i t:uR (.inl i) (.int i t)=true:=by simp[uR,Value.isInt]
def Ht x t:uR (.inr x) (.str x t)=true:=by simp[uR,Value.isStrOf]
def Xj a b:decide ((Sum.inl a:Key)=Sum.inl b)=(a==b):=by
 by_cases e:a=b
 ·subst e;simp
 ·rw[QEz (fun q=>e (Sum.inl.inj q))]
  exact(beq_eq_false_iff_ne.mpr e).symm
def Xg a b:decide ((Sum.inr a:Key)=Sum.inr b)=decide (a=b):=by
 by_cases e:a=b
 ·subst e;simp
 ·rw[QEz (fun q=>e (Sum.inr.inj q)),QEz e]
def Xi a b:decide ((Sum.inl a:Key)=Sum.inr b)=false:=QEz (fun q=>nomatch q)
def Xh a b:decide ((Sum.inr a:Key)=Sum.inl b)=false:=QEz (fun q=>nomatch q)
noncomputable def dH(prog:Program)(w:World):PySem.KeyKind prog w Key where
 is:=uR
 hash:=abL w
 inj:=fun v a b ha hb=>by
  rcases bU ha with ⟨i,t,rfl,rfl⟩|⟨x,t,rfl,rfl⟩
  ·rcases bU hb with ⟨j,u,rfl,e⟩|⟨y,u,rfl,e⟩
   ·injection e with e1 _;rw[e1]
   ·exact nomatch e
  ·rcases bU hb with ⟨j,u,rfl,e⟩|⟨y,u,rfl,e⟩
   ·exact nomatch e
   ·injection e with e1 _;rw[e1]
 byValue:=fun k v h=>by
  rcases bU h with ⟨i,t,rfl,rfl⟩|⟨x,t,rfl,rfl⟩<;>rfl
 pyHash:=fun hv h=>by
  rcases bU hv with ⟨i,t,rfl,rfl⟩|⟨x,t,rfl,rfl⟩
  ·exact wpAny_pyHash_int h
  ·exact wpAny_pyHash_str h
 eqBool:=fun hu hv h=>by
  rcases bU hu with ⟨i,t,rfl,rfl⟩|⟨x,t,rfl,rfl⟩
  ·rcases bU hv with ⟨j,u,rfl,rfl⟩|⟨y,u,rfl,rfl⟩
   ·rw[Xj]at h;exact wpAny_eqBool_int h
   ·rw[Xi]at h;exact SeqAt.EqAt.int_str i t y u _ _ _ _ h
  ·rcases bU hv with ⟨j,u,rfl,rfl⟩|⟨y,u,rfl,rfl⟩
   ·rw[Xh]at h;exact SeqAt.EqAt.str_int x t j u _ _ _ _ h
   ·rw[Xg]at h;exact wpAny_eqBool_str h
 «strs»:=fun k x t v h=>by
  rcases bU h with ⟨i,u,rfl,e⟩|⟨y,u,rfl,e⟩
  ·exact nomatch e
  ·injection e with e1 _
   subst e1
   cases v<;>rfl
def yN prog w i t:(dH prog w).is (.inl i) (.int i t)=true:=Hu i t
def yM prog w x t:(dH prog w).is (.inr x) (.str x t)=true:=Ht x t
inductive V where
 |non|bl (b:Bool)|int (i:Int)|str (x:Str)|ref (a:Addr)|ty (n:String)
 deriving DecidableEq
noncomputable def RelV:V->Value->Prop
 |.non,u=>u=Value.none
 |.bl b,u=>u=Value.bool b
 |.int i,u=>∃t,u=Value.int i t
 |.str x,u=>∃t,u=Value.str x t
 |.ref a,u=>u=Value.ref a
 |.ty n,u=>u=Value.type n
abbrev Vals:List V->List Value->Prop:=Paired RelV
theorem Vals.length{us:List Value}(r:Vals xs us):xs.length=us.length:=Paired.length r
theorem Vals.get:∀{xs:List V}{us:List Value}{i:Nat}{x:V},Vals xs us->xs[i]? =some x->∃u,us[i]? =some u/\RelV x u
 |_,_,_,_,.nil=>fun e=>by simp at e
 |_,_,0,_,.cons r _=>fun e=>by simp at e;subst e;exact⟨_,rfl,r⟩
 |_,_,i+1,x,.cons _ t=>fun e=>by
  obtain⟨u,h1,h2⟩:=Vals.get t (by simpa using e)
  exact⟨u,by simpa using h1,h2⟩
theorem Vals.set{u:Value}(r:RelV x u):∀{xs:List V}{us:List Value}(i:Nat),Vals xs us->Vals (xs.set i x) (us.set i u)
 |_,_,_,.nil=>.nil
 |_,_,0,.cons _ t=>.cons r t
 |_,_,i+1,.cons q t=>.cons q (Vals.set r i t)
theorem Vals.append:∀{xs ys:List V}{us ws:List Value},Vals xs us->Vals ys ws->Vals (xs++ys) (us++ws)
 |_,_,_,_,.nil=>fun s=>s
 |_,_,_,_,.cons r t=>fun s=>.cons r (Vals.append t s)
theorem Vals.take:∀{xs:List V}{us:List Value}(n:Nat),Vals xs us->Vals (xs.take n) (us.take n)
 |_,_,0,_=>.nil
 |_,_,_+1,.nil=>.nil
 |_,_,n+1,.cons r t=>.cons r (Vals.take n t)
theorem Vals.drop:∀{xs:List V}{us:List Value}(n:Nat),Vals xs us->Vals (xs.drop n) (us.drop n)
 |_,_,0,r=>r
 |_,_,_+1,.nil=>.nil
 |_,_,n+1,.cons _ t=>Vals.drop n t
def tB:Option V->Option Value->Prop
 |some v,some u=>RelV v u
 |none,none=>True
 |_,_=>False
noncomputable def KV{κ:Type}:List (κ×V)->List (κ×Value)->Prop:=Paired fun(p:κ×V)(q:κ×Value)=>p.1=q.1/\RelV p.2 q.2
def kV:Key->V
 |.inl i=>.int i
 |.inr x=>.str x
abbrev SK:=PyData
noncomputable instance skDec:DecidableEq PyData:=fun a b=>Classical.propDecidable (a=b)
abbrev SV:=SK×Addr×V
mutual
def hH(w:World):PyData->Int
 |.int i=>hashInt i
 |.str x=>abL w (.inr x)
 |.tuple xs=>reduceHash (Builtin.Tuple.tupleHashOf (hHs w xs))
 |_=>0
def hHs(w:World):List PyData->List Int
 |[]=>[]
 |x::xs=>hH w x::hHs w xs
end
abbrev Oo:SV->SK×Addr×Value->Prop:=fun p q=>p.1=q.1/\p.2.1=q.2.1/\RelV p.2.2 q.2.2
inductive HO where
 |lst (xs:List V)
 |tup (xs:List V)
 |dK (kvs:List (Key×V))|dS (xs:List SV)
 |ins (C dx:Addr) (fs:List (Str×V))
 |own (x:Addr)
 |met (f x:Addr)
 |frz (o:Obj) (u:HO)
 |tbl (ps:Array Value)
abbrev Hp:=Addr->Option HO
def upd(H:Hp)(a:Addr)(o:HO):Hp:=fun b=>if b=a then some o else H b
def aN{a:Addr}:upd H a o a=some o:=by unfold upd;rw[if_pos rfl]
def aC{a b:Addr}(h:b≠a):upd H a o b=H b:=by unfold upd;rw[if_neg h]
def fZ{H:Hp}{o:HO}(h:H a=some o)(h':H b=none):a≠b:=by
 intro e;subst e;rw[h]at h';cases h'
def TupOk(h:Heap)(a:Addr)(items:Array Value):Prop:=∃o,h.get? a=some o/\o.cls=.type "tuple"/\o.dict=none/\∃n,o.data=.seq items n
def TupOk.is{a:Addr}(x:TupOk h a items):IsTup h a items:=let ⟨o,e,c,_,d⟩:=x;⟨o,e,c,d⟩
def TupOk.new(h:Heap)items:TupOk (h.push {cls:=.type "tuple",data:=.seq items}) h.objs.size items:=⟨_,Qzq _ rfl,rfl,rfl,_,rfl⟩
section
variable(P:Program)(w:World)
noncomputable def bY(H:Hp)(h:Heap)(a:Addr):HO->Prop
 |.lst xs=>xs.length<=sizeLine/\∃(its:List Value)(n:Nat),Vals xs its/\h.get? a=some {cls:=.type "list",data:=.seq its.toArray n}
 |.tup xs=>xs.length<=sizeLine/\∃its:List Value,Vals xs its/\TupOk h a its.toArray
 |.dK kvs=>kvs.length<=sizeLine/\(a==sysModules)=false/\∃vs,KV kvs vs/\h.DictOf (dH P w) a vs
 |.dS xs=>xs.length<=sizeLine/\(a==sysModules)=false/\(xs.map (·.1)).Nodup/\∃(ys:List (SK×Addr×Value))(o:Obj)(es:Array DictEntry)(ep:Nat),Paired Oo xs ys/\h.get? a=some o/\o.ExactDict/\o.data=.dict es ep/\es.toList=ys.map fun y=>⟨hH w y.1,.ref y.2.1,y.2.2⟩
 |.ins C dx fs=>H dx=some (.own a)/\fs.length<=1000/\dx≠a/\h.get? a=some (PySem.W.instObj C dx)/\
   ∃mA,h.Ns1 dx mA/\(∀f,tB (fs.lookup f) (mA f))/\PySem.Within mA (fs.map (·.1))
 |.own _=>∃o,h.get? a=some o
 |.frz o u=>h.get? a=some o/\bY H h a u
 |.tbl ps=>h.get? a=some {cls:=.none,data:=.fields ps}
 |.met f x=>h.get? a=some (PySem.W.methodObj (.ref f) (.ref x))
def nF(H:Hp)(h:Heap):Prop:=∀a o,H a=some o->bY P w H h a o
end
section
variable{P:Program}{w:World}{H H':Hp}{h h':Heap}{a:Addr}{o:HO}
theorem bY.lt(x:bY P w H h a o):a<h.objs.size:=by
 cases o with
 |lst xs=>obtain⟨_,_,_,_,e⟩:=x;exact Qqz e
 |tup xs=>obtain⟨_,_,_,p⟩:=x;exact p.is.lt
 |dK kvs=>obtain⟨_,_,_,_,o,_,_,e,_⟩:=x;exact Qqz e
 |dS xs=>obtain⟨_,_,_,_,o,_,_,_,e,_⟩:=x;exact Qqz e
 |ins C dx fs=>obtain⟨_,_,_,e,_⟩:=x;exact Qqz e
 |own y=>obtain⟨_,e⟩:=x;exact Qqz e
 |frz ob u=>obtain⟨e,_⟩:=x;exact Qqz e
 |tbl ps=>exact Qqz (x)
 |met f y=>exact Qqz (x)
theorem bY.stay(x:bY P w H h a o)(k:∀b u,(b=a\/H b=some (.own a))->h.get? b=some u->h'.get? b=some u)
  (ho:∀b,H b=some (.own a)->H' b=some (.own a))(ht:∀b xs,H b=some (.tup xs)->H' b=some (.tup xs)):bY P w H' h' a o:=by
 induction o with
 |lst xs=>obtain⟨z,its,n,r,e⟩:=x;exact⟨z,its,n,r,k _ _ (.inl rfl) e⟩
 |tup xs=>obtain⟨z,its,r,ob,e,c⟩:=x;exact⟨z,its,r,ob,k _ _ (.inl rfl) e,c⟩
 |dK kvs=>obtain⟨z,y,vs,r,ob,es,ep,e,c⟩:=x;exact⟨z,y,vs,r,ob,es,ep,k _ _ (.inl rfl) e,c⟩
 |dS xs=>obtain⟨z,y,nd,ys,ob,es,ep,pr,e,c⟩:=x;exact⟨z,y,nd,ys,ob,es,ep,pr,k _ _ (.inl rfl) e,c⟩
 |ins C dx fs=>
  obtain⟨d,z,ne,e,mA,⟨od,es,ep,e2,c⟩,r⟩:=x
  exact⟨ho _ d,z,ne,k _ _ (.inl rfl) e,mA,⟨od,es,ep,k _ _ (.inr d) e2,c⟩,r⟩
 |own y=>obtain⟨ob,e⟩:=x;exact⟨ob,k _ _ (.inl rfl) e⟩
 |frz ob u ih=>obtain⟨e,q⟩:=x;exact⟨k _ _ (.inl rfl) e,ih q⟩
 |tbl ps=>
  exact k a _ (.inl rfl) x
 |met f y=>
  exact k a _ (.inl rfl) x
theorem nF.lt(x:nF P w H h)(e:H a=some o):a<h.objs.size:=(x a o e).lt
def nF.fresh(x:nF P w H h)(e:h.objs.size<=a):H a=none:=by
 cases q:H a with
 |none=>rfl
 |some u=>exact absurd (Qvq (x.lt q) e) (Nat.lt_irrefl _)
def nF.kept(x:nF P w H h)(k:∀b u,h.get? b=some u->h'.get? b=some u):nF P w H h':=fun a o e=>
 (x a o e).stay (fun b u _ q=>k b u q) (fun _ q=>q) fun _ _ q=>q
def nF.laid(x:nF P w H h)(k:∀b u,h.get? b=some u->h'.get? b=some u)(hp:h.objs.size<=a)(new:bY P w (upd H a o) h' a o):nF P w (upd H a o) h':=fun b u e=>by
 have hn:=x.fresh hp
 by_cases hb:b=a
 ·subst hb;rw[aN]at e;cases e;exact new
 ·rw[aC hb]at e
  exact(x b u e).stay (fun c v _ q=>k c v q) (fun c q=>by rw[aC (fZ q hn)];exact q) fun c xs q=>by rw[aC (fZ q hn)];exact q
end
def Rd(H:Hp)(a:Addr)(u:HO):Prop:=H a=some u\/∃o,H a=some (.frz o u)
def Rd.ok{w:World}{h:Heap}{u:HO}(r:Rd H a u)(x:nF P w H h):bY P w H h a u:=by
 rcases r with r|⟨o,r⟩
 ·exact x a u r
 ·obtain⟨_,q⟩:=x a _ r
  exact q
noncomputable def Mut:Option HO->Prop
 |some (.lst _)=>True
 |some (.dK _)=>True
 |some (.dS _)=>True
 |some (.ins _ _ _)=>True
 |_=>False
section
variable{P:Program}{w:World}{H:Hp}{h h':Heap}{x e:Addr}{o':HO}
def nF.write(ok:nF P w H h)(mu:Mut (H x))(he:e=x\/H e=some (.own x))(k:∀b u,b≠e->h.get? b=some u->h'.get? b=some u)(heo:∃u,h'.get? e=some u)
  (new:bY P w (upd H x o') h' x o'):nF P w (upd H x o') h':=fun b u q=>by
 have nown:∀c y,H c=some (.own y)->c≠x:=fun c y r z=>by subst z;rw[r]at mu;exact mu
 by_cases hb:b=x
 ·subst hb;rw[aN]at q;cases q;exact new
 ·rw[aC hb]at q
  by_cases hbe:b=e
  ·have q':H b=some (.own x):=by
    rcases he with z|z
    ·exact absurd (hbe.trans z) hb
    ·rw[hbe];exact z
   rw[q]at q';cases q'
   obtain⟨v,hv⟩:=heo
   exact⟨v,by rw[hbe];exact hv⟩
  ·refine(ok b u q).stay (fun c v hc r=>k c v ?_ r) (fun c r=>by rw[aC (nown c b r)];exact r) fun c xs r=>by rw[aC ((fun c xs r z=>by subst z;rw[r]at mu;exact mu) c xs r)];exact r
   rcases hc with rfl|hc
   ·exact hbe
   ·rintro rfl
    rcases he with z|z
    ·exact nown c b hc z
    ·rw[hc]at z;cases z;exact hb rfl
end
structure Un(fs ex:List Addr)(H H':Hp)(h h':Heap):Prop where
 keep:∀b o,h.get? b=some o->H b=none->b∉fs->b∉ex->h'.get? b=some o
 slot:∀b o,h.get? b=some o->H b=none->b∈fs->b∉ex->∃sl,h'.get? b=some {o with slots:=sl}
 free:∀b o,h.get? b=some o->H b=none->b∉ex->H' b=none
 there:∀b o,h.get? b=some o->b∉ex->∃o',h'.get? b=some o'
 tups:∀b xs,H b=some (.tup xs)->H' b=some (.tup xs)
 frzs:∀b o u,H b=some (.frz o u)->H' b=some (.frz o u)
 tbls:∀b ps,H b=some (.tbl ps)->∃more,H' b=some (.tbl (ps++more))
section
variable{fs fs' ex ex':List Addr}{H H1 H2:Hp}{h h1 h2 h':Heap}{a x e:Addr}{o:HO}
def Un.any(u:Un fs ex H H1 h h1){ob:Obj}(q:h.get? b=some ob)(n:H b=none)(hx:b∉ex):∃sl,h1.get? b=some {ob with slots:=sl}:=by
 by_cases hb:b∈fs
 ·exact u.slot b ob q n hb hx
 ·exact⟨ob.slots,u.keep b ob q n hb hx⟩
def Un.kept(k:∀b u,h.get? b=some u->h'.get? b=some u):Un fs ex H H h h':=
 ⟨fun b ob q _ _ _=>k b ob q,fun b ob q _ _ _=>⟨ob.slots,k b ob q⟩,fun _ _ _ n _=>n,fun b ob q _=>⟨ob,k b ob q⟩,fun _ _ q=>q,fun _ _ _ q=>q,fun _ ps q=>⟨#[],by rw[q];simp⟩⟩
def Un.refl:Un fs ex H H h h:=Un.kept fun _ _ q=>q
theorem Un.laid(k:∀b u,h.get? b=some u->h'.get? b=some u)(hp:h.objs.size<=a)(hn:H a=none):Un fs ex H (upd H a o) h h' where
 keep:=fun b u q _ _ _=>k b u q
 slot:=fun b u q _ _ _=>⟨u.slots,k b u q⟩
 free:=fun b u q n _=>by rw[aC (Qvz (Qvq (Qqz q) hp))];exact n
 there:=fun b u q _=>⟨u,k b u q⟩
 tups:=fun b xs q=>by rw[aC (fZ q hn)];exact q
 frzs:=fun b u xs q=>by rw[aC (fZ q hn)];exact q
 tbls:=fun b ps q=>⟨#[],by rw[aC (fZ q hn),q];simp⟩
def Un.write(mu:Mut (H x))(he:e=x\/H e=some (.own x))(k:∀b u,b≠e->h.get? b=some u->h'.get? b=some u)(heo:∃u,h'.get? e=some u):Un fs ex H (upd H x o) h h':=by
 have hx:∀b,H b=none->b≠x:=fun b n z=>by subst z;rw[n]at mu;exact mu
 have hb:∀b,H b=none->b≠e:=fun b n z=>by
  subst z
  rcases he with r|r
  ·exact hx b n r
  ·rw[n]at r;cases r
 have hm:∀b u,H b=some u->¬Mut (some u)->b≠x:=fun b u q nm z=>by subst z;rw[q]at mu;exact nm mu
 refine⟨fun b u q n _ _=>k b u (hb b n) q,fun b u q n _ _=>⟨u.slots,k b u (hb b n) q⟩,fun b u q n _=>by rw[aC (hx b n)];exact n,fun b u q _=>?_,
  fun b xs q=>by rw[aC (hm b _ q fun z=>z)];exact q,fun b u xs q=>by rw[aC (hm b _ q fun z=>z)];exact q,fun b ps q=>⟨#[],by rw[aC (hm b _ q fun z=>z),q];simp⟩⟩
 by_cases hbe:b=e
 ·subst hbe;exact heo
 ·exact⟨u,k b u hbe q⟩
end
def trk(h:Heap)(H:Hp):List Addr:=(List.range h.objs.size).filter fun a=>(H a).isSome
def HB(h:Heap)(H:Hp):Heap:=PySem.W.hideAll h (trk h H)
def Hz h H:(HB h H).objs.size=h.objs.size:=PySem.W.hideAll_size _ _
def Mi{H:Hp}{o:Obj}(e:h.get? b=some o)(n:H b=none):(HB h H).get? b=some o:=
 PySem.W.hideAll_get _ e fun hm=>by
  have q:=(List.mem_filter.mp hm).2
  rw[n]at q;simp at q
def QZ{H:Hp}{o:Obj}(e:(HB h H).get? b=some o):h.get? b=some o/\H b=none:=by
 have e':=PySem.W.of_hideAll _ e
 refine⟨e',?_⟩
 cases q:H b with
 |none=>rfl
 |some x=>
  have z:(HB h H).get? b=none:=PySem.W.hideAll_none _ (List.mem_filter.mpr ⟨List.mem_range.mpr (Qqz e'),by simp[q]⟩)
  rw[z]at e;cases e
noncomputable def SM(g h:Heap)(L:Addr):List (Addr×Obj):=(List.range h.objs.size).filterMap fun a=>if a=L\/(g.get? a).isSome=true then none else(h.get? a).map fun o=>(a,o)
def rest(g h:Heap)(L d:Addr):List (Addr×Obj):=(SM g h L).filter fun p=>decide (p.1≠d)
structure Mod(K:QQq)(mg:QZz)(base:Heap):Prop where
 kin:K.In base
 glob:base.Ns mainGlobals mg
 blt:∃mb,base.Ns builtinsNs mb/\∀x:Str,x≠"__name__"->mb x=bootBuiltins x
 nolimit:base.NoLimit
structure Cx where
 prog:Program
 w:World
 K:QQq
 mg:Str->Option Value
 base:Heap
 A:Around
 N:List Str
 s₀:Shared
 H₀:Hp
 env:Env
 outer:List Env
 stack:List Env
 ex:List Addr
 fn:Str->Bool
 calm:Bool
 pn:List (Addr×Obj)
 xe:Value->Shared->Prop
def frs(l:List Env):List Addr:=l.filterMap (·.frame)
abbrev Cx.fs(X:Cx):List Addr:=frs X.outer
def YF(sc:Scope)(x:Str):Prop:=sc.names.lookup x=some .local\/sc.names.lookup x=some .cell\/sc.names.lookup x=some .free
def Loc(sc:Scope)(x:Str):Prop:=sc.names.lookup x=some .local\/sc.names.lookup x=some .cell
def Look(env:Env)(h:Heap)(m:QZz)(x:Str)(u:Value):Prop:=
 (env.kindOf x=some .local/\m x=some u)\/((env.kindOf x=some .cell\/env.kindOf x=some .free)/\∃c,env.cells.lookup x=some c/\h.IsCell c (some u))
structure Cx.Ok(X:Cx):Prop where
 mod:Mod X.K X.mg X.base
 kind:X.env.scope.kind=.function
 glob:X.env.globals=mainGlobals
 blt:X.env.builtins=builtinsNs
 above:X.s₀.heap.objs.size<=X.env.locals
 inj:∀x y c,X.env.cells.lookup x=some c->X.env.cells.lookup y=some c->x=y
 has:∀x,(X.env.kindOf x=some .cell\/X.env.kindOf x=some .free)->∃c,X.env.cells.lookup x=some c
 cab:∀x c,X.fn x=true->X.env.cells.lookup x=some c->X.s₀.heap.objs.size<=c
 hd:X.calm=true->X.A.handled=none
 frames:X.A.frames=some X.stack
 stk:X.stack=X.outer\/(X.stack=X.env::X.outer/\X.env.frame=some X.env.locals)
 exf:∀b∈X.ex,b≠X.env.locals/\∀x c,X.env.cells.lookup x=some c->c≠b
 bs:∀b o,X.base.get? b=some o->X.s₀.heap.get? b=some o/\X.H₀ b=none
 bsz:X.base.objs.size<=X.s₀.heap.objs.size
 noex:∀b o,X.base.get? b=some o->b∉X.ex
 exfs:∀b∈X.ex,b∉X.fs
 lM:X.s₀.heap.FunFrames X.base X.outer
 frf:∀b∈X.fs,X.H₀ b=none
structure Inv(X:Cx)(γ:QQz)(σ:List (Option V))(H:Hp)(s:Shared):Prop where
 ok:X.Ok
 os:s.os=X.s₀.os
 bare:AllBare s.gens
 base:Un X.fs X.ex X.H₀ H X.s₀.heap s.heap
 loc:∃m,s.heap.Ns X.env.locals m/\∀(i:Nat)(x:Str)(v:V),X.N[i]? =some x->σ[i]? =some (some v)->YF X.env.scope x->∃u,RelV v u/\Look X.env s.heap m x u
 cell:∀x c,X.env.cells.lookup x=some c->∃v,s.heap.IsCell c v
 free:H X.env.locals=none
 freeC:∀x c,X.env.cells.lookup x=some c->H c=none
 pin:∀p∈X.pn++γ,s.heap.get? p.1=some p.2/\H p.1=none/\p.1≠X.env.locals/\p.1∉X.fs/\∀v,p.2.data≠ .cell v
 hok:nF X.prog X.w H s.heap
 len:σ.length=X.N.length
section
variable{X:Cx}{γ:QQz}{σ:List (Option V)}{H H':Hp}{s:Shared}{h':Heap}
def Cx.Ok.aeW(ok:X.Ok){o:Obj}(e:X.base.get? b=some o):b∉X.fs:=fun hb=>by
 have:=(ok.lM.mem hb).1
 rw[e]at this;cases this
theorem Inv.bs(I:Inv X γ σ H s):∀b o,X.base.get? b=some o->s.heap.get? b=some o/\H b=none:=fun b o e=>
 ⟨I.base.keep b o (I.ok.bs b o e).1 (I.ok.bs b o e).2 (I.ok.aeW e) (I.ok.noex b o e),I.base.free b o (I.ok.bs b o e).1 (I.ok.bs b o e).2 (I.ok.noex b o e)⟩
def Inv.bk(I:Inv X γ σ H s):∀b o,X.base.get? b=some o->s.heap.get? b=some o:=fun b o e=>(I.bs b o e).1
theorem Inv.mod(I:Inv X γ σ H s):Mod X.K X.mg X.base:=I.ok.mod
def Inv.Zm(I:Inv X γ σ H s):X.K.In s.heap:=I.ok.mod.kin.keeps I.bk
theorem Inv.lt(I:Inv X γ σ H s):X.env.locals<s.heap.objs.size:=let ⟨_,hn,_⟩:=I.loc;hn.lt
def Inv.sz(I:Inv X γ σ H s):X.s₀.heap.objs.size<=s.heap.objs.size:=Nat.le_trans I.ok.above (Nat.le_of_lt I.lt)
def Inv.aeV(I:Inv X γ σ H s){a:Addr}(h:s.heap.objs.size<=a):a∉X.fs:=fun hb=>by
 obtain⟨_,o,ho,_⟩:=I.ok.lM.mem hb
 exact absurd (Qvq (Qqz ho) (Nat.le_trans I.sz h)) (Nat.lt_irrefl _)
def Inv.Yw(I:Inv X γ σ H s):∀x c,X.env.cells.lookup x=some c->c≠X.env.locals:=fun x c e z=>by
 obtain⟨v,o,ho,hd⟩:=I.cell x c e
 obtain⟨m,⟨o',es,ep,ho',hd',_⟩,_⟩:=I.loc
 rw[z,ho']at ho;cases ho;rw[hd']at hd;cases hd
theorem Inv.lM(I:Inv X γ σ H s):s.heap.FunFrames X.base X.outer:=by
 have all:∀l,(∀b∈frs l,b∈X.fs)->X.s₀.heap.FunFrames X.base l->s.heap.FunFrames X.base l:=by
  intro l
  induction l with
  |nil=>intro _ _;trivial
  |cons env r ih=>
   intro hs hl
   obtain⟨hk,⟨L,o,hf,hn,ho,hd⟩,hr⟩:=hl
   have hL:=hs L (by unfold frs;rw[List.filterMap_cons,hf];exact QYz)
   obtain⟨sl,e⟩:=I.base.slot L o ho (I.ok.frf L hL) hL fun z=>I.ok.exfs L z hL
   exact⟨hk,⟨L,_,hf,hn,e,hd⟩,ih (fun b hb=>hs b (by unfold frs;rw[List.filterMap_cons,hf];exact QYq _ hb)) hr⟩
 exact all X.outer (fun _ hb=>hb) I.ok.lM
theorem Inv.stack(I:Inv X γ σ H s):s.heap.FunFrames X.base X.stack:=by
 rcases I.ok.stk with e|⟨e,hf⟩
 ·rw[e];exact I.lM
 ·rw[e]
  obtain⟨m,hn,_⟩:=I.loc
  exact .cons (by rw[I.ok.kind];decide) hf hn (Heap.get?_none_of_le (Nat.le_trans I.ok.bsz I.ok.above)) I.lM
def Inv.Ab(I:Inv X γ σ H s):∀b∈frs X.stack,b∈X.env.locals::X.fs:=fun b hb=>by
 rcases I.ok.stk with e|⟨e,hf⟩
 ·rw[e]at hb;exact QYq _ hb
 ·rw[e]at hb
  unfold frs at hb
  rw[List.filterMap_cons,hf]at hb
  exact hb
def Inv.Dh(I:Inv X γ σ H s):∀b∈frs X.stack,H b=none:=fun b hb=>by
 rcases QCq.mp (I.Ab b hb)with e|hb
 ·rw[e];exact I.free
 ·obtain⟨_,o,ho,_⟩:=I.ok.lM.mem hb
  exact I.base.free b o ho (I.ok.frf b hb) fun z=>I.ok.exfs b z hb
def Inv.step{t':Nat}{ch:List Addr}(I:Inv X γ σ H s)
  (hch:∀b∈ch,(b∈X.ex\/X.s₀.heap.objs.size<=b)/\b≠X.env.locals/\(∀x c,X.env.cells.lookup x=some c->c≠b)/\∀p∈X.pn++γ,p.1≠b)
  (keep:∀b o,b≠X.env.locals->b∉X.fs->b∉ch->s.heap.get? b=some o->H b=none->h'.get? b=some o)
  (slot:∀b o,b≠X.env.locals->b∈X.fs->b∉ch->s.heap.get? b=some o->H b=none->∃sl,h'.get? b=some {o with slots:=sl})(free:∀b o,b∉ch->s.heap.get? b=some o->H b=none->H' b=none)
  (there:∀b o,b∉ch->s.heap.get? b=some o->∃o',h'.get? b=some o')
  (tups:∀b xs,H b=some (.tup xs)->H' b=some (.tup xs))(frzs:∀b o u,H b=some (.frz o u)->H' b=some (.frz o u))(tbls:∀b ps,H b=some (.tbl ps)->∃more,H' b=some (.tbl (ps++more)))
  (ns:∀m,s.heap.Ns X.env.locals m->h'.Ns X.env.locals m)(hok:nF X.prog X.w H' h')(hg:AllBare g'):
  Inv X γ σ H' {s with heap:=h',gens:=g',drawn:=d',toks:=t'}:=by
 have neL:∀b o,X.s₀.heap.get? b=some o->b≠X.env.locals:=fun b o e=>Qvz (Qvq (Qqz e) I.ok.above)
 have neC:∀b o,X.s₀.heap.get? b=some o->b∉X.ex->b∉ch:=fun b o e hx hb=>by
  rcases (hch b hb).1 with z|z
  ·exact hx z
  ·exact absurd (Qvq (Qqz e) z) (Nat.lt_irrefl _)
 have cellK:∀x c,X.env.cells.lookup x=some c->∀v,s.heap.IsCell c v->h'.IsCell c v:=fun x c e v⟨o,ho,hd⟩=>by
  have nch:=fun z=>(hch c z).2.2.1 x c e rfl
  by_cases hc:c∈X.fs
  ·obtain⟨sl,q⟩:=slot c o (I.Yw x c e) hc nch ho (I.freeC x c e)
   exact⟨_,q,hd⟩
  ·exact⟨o,keep c o (I.Yw x c e) hc nch ho (I.freeC x c e),hd⟩
 refine⟨I.ok,I.os,hg,⟨fun b o e n hb hx=>?_,fun b o e n hb hx=>?_,fun b o e n hx=>?_,fun b o e hx=>?_,fun b xs e=>tups b xs (I.base.tups b xs e),fun b o xs e=>frzs b o xs (I.base.frzs b o xs e),fun b ps e=>?_⟩,?_,fun x c e=>?_,?_,fun x c e=>?_,fun p hp=>?_,hok,I.len⟩
 ·exact keep b o (neL b o e) hb (neC b o e hx) (I.base.keep b o e n hb hx) (I.base.free b o e n hx)
 ·obtain⟨sl,e1⟩:=I.base.slot b o e n hb hx
  obtain⟨sl',e2⟩:=slot b _ (neL b o e) hb (neC b o e hx) e1 (I.base.free b o e n hx)
  exact⟨sl',e2⟩
 ·obtain⟨o',e1⟩:=I.base.there b o e hx
  exact free b o' (neC b o e hx) e1 (I.base.free b o e n hx)
 ·obtain⟨o',e1⟩:=I.base.there b o e hx
  exact there b o' (neC b o e hx) e1
 ·obtain⟨m1,e1⟩:=I.base.tbls b ps e
  obtain⟨m2,e2⟩:=tbls b _ e1
  exact⟨m1++m2,by rw[e2,Array.append_assoc]⟩
 ·obtain⟨m,hn,hl⟩:=I.loc
  refine⟨m,ns m hn,fun i x v e1 e2 e3=>?_⟩
  obtain⟨u,r,l⟩:=hl i x v e1 e2 e3
  refine⟨u,r,?_⟩
  rcases l with l|⟨k,c,e,z⟩
  ·exact .inl l
  ·exact .inr ⟨k,c,e,cellK x c e _ z⟩
 ·obtain⟨v,z⟩:=I.cell x c e
  exact⟨v,cellK x c e v z⟩
 ·obtain⟨m,⟨o,_,_,ho,_⟩,_⟩:=I.loc
  exact free _ o (fun z=>(hch _ z).2.1 rfl) ho I.free
 ·obtain⟨v,o,ho,hd⟩:=I.cell x c e
  exact free c o (fun z=>(hch c z).2.2.1 x c e rfl) ho (I.freeC x c e)
 ·obtain⟨e,n,ne,nf,d⟩:=I.pin p hp
  have nch:=fun z=>(hch p.1 z).2.2.2 p hp rfl
  exact⟨keep p.1 p.2 ne nf nch e n,free p.1 p.2 nch e n,ne,nf,d⟩
def Inv.un(I:Inv X γ σ H s)(u:Un X.fs [] H H' s.heap h')(hok:nF X.prog X.w H' h'):Inv X γ σ H' {s with heap:=h',toks:=t'}:=by
 obtain⟨m,⟨o,es,ep,ho,r⟩,_⟩:=id I.loc
 obtain⟨sl,hL⟩:=u.any ho I.free (by simp)
 exact I.step (ch:=[]) (fun _ z=>nomatch z) (fun b o _ hb _ e n=>u.keep b o e n hb (by simp)) (fun b o _ hb _ e n=>u.slot b o e n hb (by simp)) (fun b o _ e n=>u.free b o e n (by simp)) (fun b o _ e=>u.there b o e (by simp)) u.tups u.frzs u.tbls (fun m' hm=>by
  obtain⟨o',es',ep',ho',r'⟩:=hm
  rw[ho]at ho';cases ho'
  exact⟨_,es',ep',hL,r'⟩) hok I.bare
def Inv.call{t':Nat}{ch:List Addr}(I:Inv X γ σ H s)(u:Un (frs X.stack) ch H H' s.heap h')(hok:nF X.prog X.w H' h')(hg:AllBare g')
  (hch:∀b∈ch,(b∈X.ex\/X.s₀.heap.objs.size<=b)/\b≠X.env.locals/\(∀x c,X.env.cells.lookup x=some c->c≠b)/\∀p∈X.pn++γ,p.1≠b):
  Inv X γ σ H' {s with heap:=h',gens:=g',drawn:=d',toks:=t'}:=by
 obtain⟨m,⟨o,es,ep,ho,r⟩,_⟩:=id I.loc
 obtain⟨sl,hL⟩:=u.any ho I.free fun z=>(hch _ z).2.1 rfl
 exact I.step hch (fun b o hL hb hc e n=>u.keep b o e n (fun z=>(QCq.mp (I.Ab b z)).elim hL hb) hc) (fun b o _ _ hc e n=>u.any e n hc) (fun b o hc e n=>u.free b o e n hc) (fun b o hc e=>u.there b o e hc) u.tups u.frzs u.tbls (fun m' hm=>by
  obtain⟨o',es',ep',ho',r'⟩:=hm
  rw[ho]at ho';cases ho'
  exact⟨_,es',ep',hL,r'⟩) hok hg
def Inv.turned{it:Addr}(I:Inv X γ σ H s)(k:∀b o,b≠it->s.heap.get? b=some o->h'.get? b=some o)(hn:H it=none)(hL:it≠X.env.locals)
  (h1:it∈X.ex\/X.s₀.heap.objs.size<=it)(h2:∀x c,X.env.cells.lookup x=some c->c≠it)(h3:∀p∈X.pn++γ,p.1≠it):Inv X γ σ H {s with heap:=h',toks:=t'}:=by
 have nit:∀b u,H b=some u->b≠it:=fun b u e z=>by rw[z,hn]at e;cases e
 refine I.step (ch:=[it]) (fun b hb=>?_) (fun b o _ _ hc e _=>k b o (fun z=>hc (by simp[z])) e) (fun b o _ _ hc e _=>⟨o.slots,k b o (fun z=>hc (by simp[z])) e⟩) (fun _ _ _ _ n=>n)
  (fun b o hc e=>⟨o,k b o (fun z=>hc (by simp[z])) e⟩) (fun _ _ e=>e) (fun _ _ _ e=>e) (fun b ps e=>⟨#[],by rw[e];simp⟩) (fun m hm=>?_) (fun b u e=>?_) I.bare
 ·have e:b=it:=by simpa using hb
  subst e
  exact⟨h1,hL,h2,h3⟩
 ·obtain⟨o,es,ep,ho,r⟩:=hm
  exact⟨o,es,ep,k _ o (Ne.symm hL) ho,r⟩
 ·refine(I.hok b u e).stay (fun c v hc q=>k c v ?_ q) (fun _ q=>q) fun _ _ q=>q
  rcases hc with z|z
  ·rw[z];exact nit b u e
  ·exact nit c _ z
def Inv.tok(I:Inv X γ σ H s)t:Inv X γ σ H {s with toks:=t}:=I.un Un.refl I.hok
theorem Inv.kept(I:Inv X γ σ H s)(k:∀b u,s.heap.get? b=some u->h'.get? b=some u):Inv X γ σ H {s with heap:=h',toks:=t'}:=I.un (Un.kept k) (I.hok.kept k)
theorem Inv.laid{a:Addr}{o:HO}(I:Inv X γ σ H s)(k:∀b u,s.heap.get? b=some u->h'.get? b=some u)(hp:s.heap.objs.size<=a)(new:bY X.prog X.w (upd H a o) h' a o):
  Inv X γ σ (upd H a o) {s with heap:=h',toks:=t'}:=I.un (Un.laid k hp (I.hok.fresh hp)) (I.hok.laid k hp new)
theorem Inv.write{o:HO}(I:Inv X γ σ H s)(mu:Mut (H x))(he:e=x\/H e=some (.own x))(k:∀b u,b≠e->s.heap.get? b=some u->h'.get? b=some u)(heo:∃u,h'.get? e=some u)
  (new:bY X.prog X.w (upd H x o) h' x o):Inv X γ σ (upd H x o) {s with heap:=h',toks:=t'}:=I.un (Un.write mu he k heo) (I.hok.write mu he k heo new)
def Inv.Dz(I:Inv X γ σ H s)(h:∀p∈pins',s.heap.get? p.1=some p.2/\H p.1=none/\p.1≠X.env.locals/\p.1∉X.fs/\∀v,p.2.data≠ .cell v):Inv X pins' σ H s:=
 ⟨I.ok,I.os,I.bare,I.base,I.loc,I.cell,I.free,I.freeC,fun p hp=>(QXz.mp hp).elim (fun z=>I.pin p (QWz _ z)) (h p),I.hok,I.len⟩
def yL{N:List Str}(hN:N.Nodup){i j:Nat}(a:N[i]? =some x)(b:N[j]? =some x):i=j:=by
 obtain⟨h1,e1⟩:=QCz.mp a
 obtain⟨h2,e2⟩:=QCz.mp b
 exact(List.getElem_inj hN).mp (e1.trans e2.symm)
def ut{A:Around}{i:Nat}{v:V}{u:Value}(I:Inv X γ σ H s)(hN:X.N.Nodup)(hi:X.N[i]? =some x)(hx:Loc X.env.scope x)(r:RelV v u)
  (h:∀s',Inv X γ (σ.set i (some v)) H s'->(∃a,Heap.SameBut a s.heap s'.heap/\(a=X.env.locals\/X.env.cells.lookup x=some a))->Q () s')(hf:X.fn x=true\/X.env.scope.names.lookup x=some .local:=by first|exact .inl rfl|exact .inr rfl|assumption):wpAny M A (storeName X.env x u) Q E s:=by
 obtain⟨m,hn,hl⟩:=id I.loc
 have hiσ:i<σ.length:=by rw[I.len];exact(QCz.mp hi).1
 have Yw:=I.Yw
 have tracked:∀{a:Addr}{h':Heap},(∃o,s.heap.get? a=some o/\H a=none)->Heap.SameBut a s.heap h'->nF X.prog X.w H h':=fun{a h'}ha hs b ob e=>by
  obtain⟨_,_,hfree⟩:=ha
  refine(I.hok b ob e).stay (fun c w' hc q=>(hs.2 c ?_).trans q) (fun _ q=>q) fun _ _ q=>q
  rintro rfl
  rcases hc with rfl|hc
  ·rw[hfree]at e;cases e
  ·rw[hfree]at hc;cases hc
 rcases hx with hk|hk
 ·refine wpAny_storeName_local hk hn (fun h' hn' hs=>?_) (by rw[I.ok.kind];rfl)
  obtain⟨oL,_,_,hoL,_⟩:=id hn
  refine h _ ⟨I.ok,I.os,I.bare,⟨fun b o e n hb hx=>?_,fun b o e n hb hx=>?_,I.base.free,fun b o e hx=>?_,I.base.tups,I.base.frzs,I.base.tbls⟩,⟨_,hn',fun j y v' e1 e2 e3=>?_⟩,fun y c e=>?_,I.free,I.freeC,fun p hp=>?_,tracked ⟨oL,hoL,I.free⟩ hs,by simpa using I.len⟩ ⟨_,hs,.inl rfl⟩
  ·exact(hs.2 b (Qvz (Qvq (Qqz e) I.ok.above))).trans (I.base.keep b o e n hb hx)
  ·obtain⟨sl,e1⟩:=I.base.slot b o e n hb hx
   exact⟨sl,(hs.2 b (Qvz (Qvq (Qqz e) I.ok.above))).trans e1⟩
  ·obtain⟨o',e1⟩:=I.base.there b o e hx
   exact⟨o',(hs.2 b (Qvz (Qvq (Qqz e) I.ok.above))).trans e1⟩
  ·by_cases hj:j=i
   ·subst hj
    rw[hi]at e1;cases e1
    rw[Qwq hiσ]at e2
    cases e2
    exact⟨u,r,.inl ⟨hk,by simp⟩⟩
   ·rw[Qxz (Ne.symm hj)]at e2
    obtain⟨u',r',q⟩:=hl j y v' e1 e2 e3
    refine⟨u',r',?_⟩
    rcases q with ⟨k,e⟩|⟨k,c,e,z⟩
    ·refine .inl ⟨k,?_⟩
     have:y≠x:=fun e=>hj (yL hN e1 (e▸hi))
     simp[this,e]
    ·exact .inr ⟨k,c,e,z.sameBut hs (Yw y c e)⟩
  ·obtain⟨w',z⟩:=I.cell y c e
   exact⟨w',z.sameBut hs (Yw y c e)⟩
  ·obtain⟨e,n,ne,nf,d⟩:=I.pin p hp
   exact⟨(hs.2 p.1 ne).trans e,n,ne,nf,d⟩
 ·have hfn:X.fn x=true:=by
   rcases hf with z|z
   ·exact z
   ·rw[z]at hk;cases hk
  obtain⟨c,hc⟩:=I.ok.has x (.inl hk)
  obtain⟨w',z⟩:=I.cell x c hc
  refine wpAny_storeName_cell I.ok.kind hk hc z (fun h' hc' hs=>?_)
  obtain⟨oc,hoc,hocd⟩:=id z
  refine h {s with heap:=h'} ⟨I.ok,I.os,I.bare,⟨fun b o e n hb hx=>?_,fun b o e n hb hx=>?_,I.base.free,fun b o e hx=>?_,I.base.tups,I.base.frzs,I.base.tbls⟩,⟨m,hn.sameBut hs (Ne.symm (Yw x c hc)),fun j y v' e1 e2 e3=>?_⟩,fun y c' e=>?_,I.free,I.freeC,fun p hp=>?_,tracked ⟨oc,hoc,I.freeC x c hc⟩ hs,by simpa using I.len⟩ ⟨c,hs,.inr hc⟩
  ·exact(hs.2 b (Qvz (Qvq (Qqz e) (I.ok.cab x c hfn hc)))).trans (I.base.keep b o e n hb hx)
  ·obtain⟨sl,e1⟩:=I.base.slot b o e n hb hx
   exact⟨sl,(hs.2 b (Qvz (Qvq (Qqz e) (I.ok.cab x c hfn hc)))).trans e1⟩
  ·obtain⟨o',e1⟩:=I.base.there b o e hx
   exact⟨o',(hs.2 b (Qvz (Qvq (Qqz e) (I.ok.cab x c hfn hc)))).trans e1⟩
  ·by_cases hj:j=i
   ·subst hj
    rw[hi]at e1;cases e1
    rw[Qwq hiσ]at e2
    cases e2
    exact⟨u,r,.inr ⟨.inl hk,c,hc,hc'⟩⟩
   ·rw[Qxz (Ne.symm hj)]at e2
    obtain⟨u',r',q⟩:=hl j y v' e1 e2 e3
    refine⟨u',r',?_⟩
    rcases q with q|⟨k,c',e,z'⟩
    ·exact .inl q
    ·refine .inr ⟨k,c',e,z'.sameBut hs ?_⟩
     rintro rfl
     exact hj (yL hN e1 (I.ok.inj _ _ _ e hc▸hi))
  ·by_cases hcc:c'=c
   ·subst hcc;exact⟨_,hc'⟩
   ·obtain⟨w2,z2⟩:=I.cell y c' e
    exact⟨w2,z2.sameBut hs hcc⟩
  ·obtain⟨e,n,ne,nf,d⟩:=I.pin p hp
   refine⟨(hs.2 p.1 ?_).trans e,n,ne,nf,d⟩
   intro q
   rw[q,hoc]at e
   exact d w' (by rw[<- (QEq e)];exact hocd)
def qp{A:Around}{i:Nat}{v:V}{u:Value}(I:Inv X γ σ H s)(hN:X.N.Nodup)(hi:X.N[i]? =some x)(hx:Loc X.env.scope x)(r:RelV v u)
  (h:∀s',Inv X γ (σ.set i (some v)) H s'->Q () s')(hf:X.fn x=true\/X.env.scope.names.lookup x=some .local:=by first|exact .inl rfl|exact .inr rfl|assumption):wpAny M A (storeName X.env x u) Q E s:=
 ut I hN hi hx r (fun s' I' _=>h s' I') hf
def Inv.call'{ch:List Addr}(I:Inv X γ σ H s)(ho:s'.os=s.os)(u:Un (frs X.stack) ch H H' s.heap s'.heap)(hok:nF X.prog X.w H' s'.heap)(hg:AllBare s'.gens)
  (hch:∀b∈ch,(b∈X.ex\/X.s₀.heap.objs.size<=b)/\b≠X.env.locals/\(∀x c,X.env.cells.lookup x=some c->c≠b)/\∀p∈X.pn++γ,p.1≠b):Inv X γ σ H' s':=by
 obtain⟨h',g',d',t',o'⟩:=s'
 subst ho
 exact I.call u hok hg hch
end
abbrev XK:=Value->Option Addr->Hp->Prop
abbrev St:=List (Option V)
abbrev VK:=V->Hp->Prop
abbrev TE:=St->Hp->VK->Prop
abbrev TT:=St->Hp->(Bool->Hp->Prop)->Prop
abbrev TA:=St->Hp->(List V->Hp->Prop)->Prop
structure Ends where
 nx:St->Hp->Prop
 rt:VK
 bk:St->Hp->Prop:=fun _ _=>False
 ct:St->Hp->Prop:=fun _ _=>False
abbrev TS:=Ends->St->Hp->Prop
def EP(X:Cx)(γ:QQz)(σ:St)(Q:VK)(u:Value)(s':Shared):Prop:=∃v H',Inv X γ σ H' s'/\RelV v u/\Q v H'
def TP(X:Cx)(γ:QQz)(σ:St)(Q:Bool->Hp->Prop)(b:Bool)(s':Shared):Prop:=∃H',Inv X γ σ H' s'/\Q b H'
def AP(X:Cx)(γ:QQz)(σ:St)(Q:List V->Hp->Prop)(us:List Value)(s':Shared):Prop:=∃vs H',Inv X γ σ H' s'/\Vals vs us/\Q vs H'
def SP(X:Cx)(γ:QQz)(D:Ends)(f:Flow)(s':Shared):Prop:=
 match f with
 |.next=>∃ζ H',Inv X γ ζ H' s'/\D.nx ζ H'
 |.brk=>∃ζ H',Inv X γ ζ H' s'/\D.bk ζ H'
 |.cont=>∃ζ H',Inv X γ ζ H' s'/\D.ct ζ H'
 |.ret u=>∃v ζ H',Inv X γ ζ H' s'/\RelV v u/\D.rt v H'
def PE(X:Cx)(e:Expr)(t:TE):Prop:=
 ∀(γ:QQz)(s:Shared)(σ:St)(H:Hp)(Q:VK),Inv X γ σ H s->t σ H Q->wpAny (model X.prog X.w) X.A (eval e X.env) (EP X γ σ Q) X.xe s
def PT(X:Cx)(e:Expr)(t:TT):Prop:=
 ∀(γ:QQz)(s:Shared)(σ:St)(H:Hp)(Q:Bool->Hp->Prop),Inv X γ σ H s->t σ H Q->wpAny (model X.prog X.w) X.A (isTrue e X.env (eval e X.env)) (TP X γ σ Q) X.xe s
def PW(X:Cx)(e:Expr)(t:TT):Prop:=
 ∀(whole:Sem Value)(γ:QQz)(s:Shared)(σ:St)(H:Hp)(Q:Bool->Hp->Prop),Inv X γ σ H s->t σ H Q->wpAny (model X.prog X.w) X.A (isTrue e X.env whole) (TP X γ σ Q) X.xe s
def PW.pt{e:Expr}(h:PW X e t):PT X e t:=h _
def PA(X:Cx)(es:List Expr)(t:TA):Prop:=
 ∀(pos:Pos)(γ:QQz)(s:Shared)(σ:St)(H:Hp)(Q:List V->Hp->Prop),Inv X γ σ H s->t σ H Q->wpAny (model X.prog X.w) X.A (spliced (backTo pos (starEach es X.env))) (AP X γ σ Q) X.xe s
def PS(X:Cx)(st:Stmt)(t:TS):Prop:=
 ∀(γ:QQz)(s:Shared)(σ:St)(H:Hp)(D:Ends),Inv X γ σ H s->t D σ H->wpAny (model X.prog X.w) X.A (exec st X.env) (SP X γ D) X.xe s
def xH(X:Cx)(st:List Stmt)(t:TS):Prop:=
 ∀(γ:QQz)(s:Shared)(σ:St)(H:Hp)(D:Ends),Inv X γ σ H s->t D σ H->wpAny (model X.prog X.w) X.A (execs st X.env) (SP X γ D) X.xe s
def bZ{t:Sem α}{Q Q':α->Shared->Prop}{A:Around}{s:Shared}(h:wpAny M A t Q E s)(hQ:∀a s,Q a s->Q' a s):wpAny M A t Q' E s:=QGq h hQ fun _ _ x=>x
section
variable{X:Cx}
def bin{ta tb:TE}(ha:PE X a ta)(hb:PE X b tb){s:Shared}{σ:St}{R:V->V->Hp->Prop}(I:Inv X γ σ H s)(h:ta σ H fun x H1=>tb σ H1 fun y H2=>R x y H2)
{Q:α->Shared->Prop} {f:Value->Value->Sem α}
  (hf:∀v u s2 x y H2,Inv X γ σ H2 s2->RelV x v->RelV y u->R x y H2->wpAny (model X.prog X.w) X.A (f v u) Q X.xe s2):
  wpAny (model X.prog X.w) X.A (eval a X.env) (fun v ι=>wpAny (model X.prog X.w) X.A (eval b X.env) (fun u Φ=>wpAny (model X.prog X.w) X.A (f v u) Q X.xe Φ) X.xe ι) X.xe s:=by
 refine bZ (ha γ s σ H _ I h) fun v s1⟨x,H1,I1,r1,q1⟩=>?_
 refine bZ (hb γ s1 σ H1 _ I1 q1) fun u s2⟨y,H2,I2,r2,q2⟩=>?_
 exact hf v u s2 x y H2 I2 r1 r2 q2
def Jr(i:Nat):TE:=fun σ H Q=>∃v,σ[i]? =some (some v)/\Q v H
def tC(v:V):TE:=fun _ H Q=>Q v H
def Ko{x:Str}{pos:Pos}(hN:X.N[i]? =some x)(hv:YF X.env.scope x)(hd:(x==("__debug__":Str))=false:=by decide)(hcd:(x==("__classdict__":Str))=false:=by decide):PE X (.Name x pos) (Jr i):=by
 intro γ s σ H Q I h
 obtain⟨v,e,h⟩:=h
 obtain⟨m,hn,hl⟩:=I.loc
 obtain⟨u,r,l⟩:=hl i x v hN e hv
 have fin:EP X γ σ Q u s:=⟨v,H,I,r,h⟩
 rcases l with ⟨hk,hm⟩|⟨hk,c,hc,hcell⟩
 ·exact wpAny_Name (wpAny_loadName_local I.ok.kind hk hn hm fin) hd
 ·rcases hk with hk|hk
  ·exact wpAny_Name (wpAny_loadName_cell I.ok.kind hk hc hcell fin) hd
  ·exact wpAny_Name (wpAny_loadName_free I.ok.kind hk hc hcell fin hcd) hd
def Wv{i j pos}:PE X (.Constant (.int i) j pos) (tC (.int i)):=fun _ _ _ H _ I h=>wpAny_Constant_int ⟨.int i,H,I.tok _,⟨_,rfl⟩,h⟩
def abo{b j pos}:PE X (.Constant (.bool b) j pos) (tC (.bl b)):=fun _ _ _ H _ I h=>Constant_bool ⟨.bl b,H,I,rfl,h⟩
def Ws{j pos}:PE X (.Constant .none j pos) (tC .non):=fun _ _ _ H _ I h=>Constant_none ⟨.non,H,I,rfl,h⟩
def Wr{x j pos}:PE X (.Constant (.str x) j pos) (tC (.str x)):=fun _ _ _ H _ I h=>Calls.Constant_str ⟨.str x,H,I.tok _,⟨_,rfl⟩,h⟩
def Gl(X:Cx)(x:Str):Prop:=X.env.kindOf x=some .globalImplicit
def Ek{γ:QQz}{σ:St}{x:Str}{pos:Pos}(I:Inv X γ σ H s)(hg:Gl X x)(hm:X.mg x=some u)(h:Q u s)
  (hd:(x==("__debug__":Str))=false:=by decide):wpAny (model X.prog X.w) X.A (eval (.Name x pos) X.env) Q E s:=
 Calls.Name_function_global I.ok.kind hg (Calls.loadGlobal_global (by rw[I.ok.glob];exact I.mod.glob.keeps I.bk) hm h) hd
def jb{E:QZq}{s:Shared}{σ:St}{x:Str}{pos:Pos}(I:Inv X γ σ H s)(hg:Gl X x)(hm:X.mg x=none)(hv:bootBuiltins x=some u)(h:Q u s)
  (hn:x≠"__name__":=by decide)(hd:(x==("__debug__":Str))=false:=by decide):wpAny (model X.prog X.w) X.A (eval (.Name x pos) X.env) Q E s:=by
 obtain⟨mb,h1,h2⟩:=I.mod.blt
 exact Calls.Name_function_global I.ok.kind hg (Calls.loadGlobal_builtin (by rw[I.ok.glob];exact I.mod.glob.keeps I.bk) hm (by rw[I.ok.blt];exact h1.keeps I.bk) ((h2 x hn).trans hv) h) hd
def QF{v:V}{pos:Pos}(hg:Gl X x)(hm:X.mg x=some u)(r:RelV v u)(hd:(x==("__debug__":Str))=false:=by decide):PE X (.Name x pos) (tC v):=
 fun _ _ _ H _ I h=>Ek I hg hm ⟨v,H,I,r,h⟩ hd
def QK{v:V}{pos:Pos}(hg:Gl X x)(hm:X.mg x=none)(hv:bootBuiltins x=some u)(r:RelV v u)(hn:x≠"__name__":=by decide)(hd:(x==("__debug__":Str))=false:=by decide):PE X (.Name x pos) (tC v):=
 fun _ _ _ H _ I h=>jb I hg hm hv ⟨v,H,I,r,h⟩ hn hd
variable{a b:Expr}{ta tb:TE}{pos:Pos}
variable{tA tB':TT}{rest:List Expr}
def ad4(t u:TT):TT:=fun σ H Q=>t σ H fun c H1=>if c=true then u σ H1 Q else Q false H1
def tOr(t u:TT):TT:=fun σ H Q=>t σ H fun c H1=>if c=true then Q true H1 else u σ H1 Q
def adX(t:TT):TT:=fun σ H Q=>t σ H fun c H1=>Q (!c) H1
def Qt(ha:PT X a tA):PW X (.BoolOp .And [a] pos) tA:=by
 intro wh γ s σ H Q I h
 refine isTrue_and (bZ (ha γ s σ H Q I h) fun c s1 e=>?_)
 cases c with
 |true=>exact isTrue_and_nil e
 |false=>exact e
def We(ha:PT X a tA):PW X (.BoolOp .Or [a] pos) tA:=by
 intro wh γ s σ H Q I h
 refine isTrue_or (bZ (ha γ s σ H Q I h) fun c s1 e=>?_)
 cases c with
 |false=>exact isTrue_or_nil e
 |true=>exact e
def Wf(ha:PT X a tA)(hb:PW X (.BoolOp .And (b::rest) pos) tB'):PW X (.BoolOp .And (a::b::rest) pos) (ad4 tA tB'):=by
 intro wh γ s σ H Q I h
 refine isTrue_and (bZ (ha γ s σ H _ I h) fun c s1⟨H1,I1,q1⟩=>?_)
 cases c with
 |true=>exact hb wh γ s1 σ H1 Q I1 q1
 |false=>exact⟨H1,I1,q1⟩
def abf(ha:PT X a tA)(hb:PW X (.BoolOp .Or (b::rest) pos) tB'):PW X (.BoolOp .Or (a::b::rest) pos) (tOr tA tB'):=by
 intro wh γ s σ H Q I h
 refine isTrue_or (bZ (ha γ s σ H _ I h) fun c s1⟨H1,I1,q1⟩=>?_)
 cases c with
 |true=>exact⟨H1,I1,q1⟩
 |false=>exact hb wh γ s1 σ H1 Q I1 q1
def Wh(ha:PT X a tA):PT X (.UnaryOp .Not a pos) (adX tA):=by
 intro γ s σ H Q I h
 exact isTrue_not (ha γ s σ H _ I h)
noncomputable def aaC(ta tb:TE):TE:=fun σ H Q=>ta σ H fun x H1=>∃c,x=.bl c/\if c=true then tb σ H1 Q else Q (.bl false) H1
noncomputable def adW(ta tb:TE):TE:=fun σ H Q=>ta σ H fun x H1=>∃c,x=.bl c/\if c=true then Q (.bl true) H1 else tb σ H1 Q
def Kr{op}(h:PE X a t):PE X (.BoolOp op [a] pos) t:=fun γ s σ H Q I hw=>BoolOp_one (h γ s σ H Q I hw)
def Wy(ha:PE X a ta)(hb:PE X (.BoolOp .And (b::rest) pos) tb):PE X (.BoolOp .And (a::b::rest) pos) (aaC ta tb):=by
 intro γ s σ H Q I h
 refine BoolOp_and (bZ (ha γ s σ H _ I h) fun v s1⟨x,H1,I1,r1,q1⟩=>?_)
 obtain⟨c,rfl,q1⟩:=q1
 cases r1
 refine wpAny_truthy_bool ?_
 cases c with
 |true=>exact hb γ s1 σ H1 Q I1 q1
 |false=>exact⟨.bl false,H1,I1,rfl,q1⟩
def abm(ha:PE X a ta)(hb:PE X (.BoolOp .Or (b::rest) pos) tb):PE X (.BoolOp .Or (a::b::rest) pos) (adW ta tb):=by
 intro γ s σ H Q I h
 refine BoolOp_or (bZ (ha γ s σ H _ I h) fun v s1⟨x,H1,I1,r1,q1⟩=>?_)
 obtain⟨c,rfl,q1⟩:=q1
 cases r1
 refine wpAny_truthy_bool ?_
 cases c with
 |false=>exact hb γ s1 σ H1 Q I1 q1
 |true=>exact⟨.bl true,H1,I1,rfl,q1⟩
noncomputable def tIf(t:TT)(ta tb:TE):TE:=fun σ H Q=>t σ H fun c H1=>if c=true then ta σ H1 Q else tb σ H1 Q
def Ku(hc:PT X c tA)(ha:PE X a ta)(hb:PE X b tb):PE X (.IfExp c a b pos) (tIf tA ta tb):=by
 intro γ s σ H Q I h
 refine wpAny_IfExp (bZ (hc γ s σ H _ I h) fun d s1⟨H1,I1,q1⟩=>?_)
 cases d with
 |true=>exact ha γ s1 σ H1 Q I1 q1
 |false=>exact hb γ s1 σ H1 Q I1 q1
end
def jx(K:QQq)(H:Hp)(a:Addr)(xs:List V):Prop:=
 Rd H a (.lst xs)\/
  ∃(o:Obj)(its:Array Value)(n:Nat),K.lookup a=some o/\o.cls=.type "list"/\o.dict=none/\o.data=.seq its n/\its.size<=sizeLine/\Vals xs its.toList
def jq(K:QQq)(H:Hp)(a:Addr)(xs:List V):Prop:=
 Rd H a (.tup xs)\/
  ∃(o:Obj)(its:Array Value)(n:Nat),K.lookup a=some o/\o.cls=.type "tuple"/\o.dict=none/\o.data=.seq its n/\its.size<=sizeLine/\Vals xs its.toList
noncomputable def af8:Value->Option V
 |.none=>some .non
 |.bool b=>some (.bl b)
 |.int i _=>some (.int i)
 |.str x _=>some (.str x)
 |.ref a=>some (.ref a)
 |.type n=>some (.ty n)
 |_=>none
def RelV.abs{u:Value}(r:RelV x u):af8 u=some x:=by
 cases x with
 |non=>cases r;rfl
 |bl _=>cases r;rfl
 |int _=>obtain⟨t,rfl⟩:=r;rfl
 |str _=>obtain⟨t,rfl⟩:=r;rfl
 |ref _=>cases r;rfl
 |ty _=>cases r;rfl
def RelV.inj{x y:V}{u:Value}(r:RelV x u)(q:RelV y u):x=y:=QEq (r.abs.symm.trans q.abs)
theorem Vals.inj:∀{xs ys:List V}{us:List Value},Vals xs us->Vals ys us->xs=ys
 |_,_,_,.nil,.nil=>rfl
 |_,_,_,.cons r t,.cons r' t'=>by rw[r.inj r',Vals.inj t t']
section
variable{X:Cx}{γ:QQz}{σ:St}{H:Hp}{s:Shared}{a:Addr}{xs ys:List V}
def Inv.list(I:Inv X γ σ H s)(h:jx X.K H a xs):∃its:List Value,Vals xs its/\PlainL s.heap a its.toArray/\xs.length<=sizeLine:=by
 rcases h with h|⟨o,its,n,hk,hc,hd,hs,hz,r⟩
 ·obtain⟨z,its,n,r,e⟩:=h.ok I.hok
  exact⟨its,r,⟨_,n,e,rfl,rfl,rfl⟩,z⟩
 ·refine⟨its.toList,r,⟨o,n,I.Zm a o hk,hc,hd,by simpa using hs⟩,?_⟩
  have e:=r.length
  simp only[Array.length_toList]at e
  omega
def Inv.z8(I:Inv X γ σ H s)(h:jq X.K H a xs):∃its:List Value,Vals xs its/\TupOk s.heap a its.toArray/\xs.length<=sizeLine:=by
 rcases h with h|⟨o,its,n,hk,hc,hn,hs,hz,r⟩
 ·obtain⟨z,its,r,p⟩:=h.ok I.hok
  exact⟨its,r,p,z⟩
 ·refine⟨its.toList,r,⟨o,I.Zm a o hk,hc,hn,n,by simpa using hs⟩,?_⟩
  have e:=r.length
  simp only[Array.length_toList]at e
  omega
def Inv.tuple(I:Inv X γ σ H s)(h:jq X.K H a xs):∃its:List Value,Vals xs its/\IsTup s.heap a its.toArray/\xs.length<=sizeLine:=by
 obtain⟨its,r,p,z⟩:=I.z8 h
 exact⟨its,r,p.is,z⟩
def Inv.yR(I:Inv X γ σ H s)(h:jx X.K H a xs)(h':jx X.K H a ys):xs=ys:=by
 obtain⟨its,r,⟨o,n,e,_,_,d⟩,_⟩:=I.list h
 obtain⟨its',r',⟨o',n',e',_,_,d'⟩,_⟩:=I.list h'
 rw[e]at e';cases e'
 rw[d]at d'
 injection d' with d1 _
 have:its=its':=by simpa using congrArg Array.toList d1
 subst this
 exact r.inj r'
def Inv.uq(I:Inv X γ σ H s)(h:jq X.K H a xs)(h':jq X.K H a ys):xs=ys:=by
 obtain⟨its,r,⟨o,e,_,n,d⟩,_⟩:=I.tuple h
 obtain⟨its',r',⟨o',e',_,n',d'⟩,_⟩:=I.tuple h'
 rw[e]at e';cases e'
 rw[d]at d'
 injection d' with d1 _
 have:its=its':=by simpa using congrArg Array.toList d1
 subst this
 exact r.inj r'
end
abbrev Cx.wish(X:Cx)(E:QZq):Cx:={X with xe:=E}
abbrev Cx.nox(X:Cx):Cx:=X.wish fun _ _=>False
theorem Cx.Ok.wish{X:Cx}(ok:X.Ok)E:(X.wish E).Ok:=
 ⟨ok.mod,ok.kind,ok.glob,ok.blt,ok.above,ok.inj,ok.has,ok.cab,ok.hd,ok.frames,ok.stk,ok.exf,ok.bs,ok.bsz,ok.noex,ok.exfs,ok.lM,ok.frf⟩
def Cx.Ok.jB{X:Cx}(ok:(X.wish E).Ok):X.Ok:=
 ⟨ok.mod,ok.kind,ok.glob,ok.blt,ok.above,ok.inj,ok.has,ok.cab,ok.hd,ok.frames,ok.stk,ok.exf,ok.bs,ok.bsz,ok.noex,ok.exfs,ok.lM,ok.frf⟩
section
variable{X:Cx}{γ:QQz}{σ:St}{H:Hp}{s:Shared}{E:QZq}
theorem Inv.wish(I:Inv X γ σ H s)E:Inv (X.wish E) γ σ H s:=⟨I.ok.wish E,I.os,I.bare,I.base,I.loc,I.cell,I.free,I.freeC,I.pin,I.hok,I.len⟩
theorem Inv.jB(I:Inv (X.wish E) γ σ H s):Inv X γ σ H s:=⟨I.ok.jB,I.os,I.bare,I.base,I.loc,I.cell,I.free,I.freeC,I.pin,I.hok,I.len⟩
theorem SP.jB{f:Flow}(h:SP (X.wish E) γ D f s'):SP X γ D f s':=by
 cases f with
 |next=>obtain⟨ζ,H',I,q⟩:=h;exact⟨ζ,H',I.jB,q⟩
 |brk=>obtain⟨ζ,H',I,q⟩:=h;exact⟨ζ,H',I.jB,q⟩
 |cont=>obtain⟨ζ,H',I,q⟩:=h;exact⟨ζ,H',I.jB,q⟩
 |ret u=>obtain⟨v,ζ,H',I,r,q⟩:=h;exact⟨v,ζ,H',I.jB,r,q⟩
theorem xH.nox{st:List Stmt}(h:xH X.nox st t):xH X st t:=fun γ s σ H D I hw=>
 QGq (h γ s σ H D (I.wish _) hw) (fun _ _ q=>q.jB) fun _ _ z=>False.elim z
end
section
variable{X:Cx}{st:Stmt}{rest:List Stmt}{t u:TS}{e:Expr}{te:TE}{pos:Pos}
def aav:TS:=fun D σ H=>D.nx σ H
def aap(t u:TS):TS:=fun D σ H=>t {D with nx:=u D} σ H
def Qv:xH X [] aav:=fun _ _ σ H _ I h=>wpAny_execs_nil ⟨σ,H,I,h⟩
def J7(h1:PS X st t)(h2:xH X rest u):xH X (st::rest) (aap t u):=by
 intro γ s σ H D I h
 refine wpAny_execs_cons (bZ (h1 γ s σ H {D with nx:=u D} I h) fun f s1 q=>?_)
 cases f with
 |next=>
  obtain⟨ζ,H',I',q⟩:=q
  exact h2 γ s1 ζ H' D I' q
 |ret v=>exact q
 |brk=>exact q
 |cont=>exact q
def Inv.quiet{σ:St}{H:Hp}(I:Inv X γ σ H s):interactive X.env=false:=by simp[interactive,I.ok.kind]
def aay(te:TE):TS:=fun D σ H=>te σ H fun _ H1=>D.nx σ H1
def v8(he:PE X e te)(hs:swapsWith e none pos.line X.env=pure false:=by rfl):PS X (.Expr e pos) (aay te):=by
 intro γ s σ H D I h
 exact wpAny_Expr_any (bZ (he γ s σ H _ I h) fun v s1⟨x,H1,I1,r1,q1⟩=>⟨σ,H1,I1,q1⟩) I.quiet hs
def aar(te:TE):TS:=fun D σ H=>te σ H D.rt
def nT(he:PE X e te):PS X (.Return (some e) pos) (aar te):=by
 intro γ s σ H D I h
 exact wpAny_Return_some (bZ (he γ s σ H _ I h) fun v s1⟨x,H1,I1,r1,q1⟩=>⟨x,σ,H1,I1,r1,q1⟩)
def aaq:TS:=fun D _ H=>D.rt .non H
def Qw:PS X (.Return none pos) aaq:=fun _ _ σ H _ I h=>wpAny_Return_none ⟨.non,σ,H,I,rfl,h⟩
def adZ(c:TT)(t u:TS):TS:=fun D σ H=>c σ H fun b H1=>if b=true then t D σ H1 else u D σ H1
def abk{a b:List Stmt}(hc:PT X c tc)(ha:xH X a t)(hb:xH X b u):PS X (.If c a b pos) (adZ tc t u):=by
 intro γ s σ H D I h
 refine wpAny_If (bZ (hc γ s σ H _ I h) fun d s1⟨H1,I1,q1⟩=>?_)
 cases d with
 |true=>exact ha γ s1 σ H1 D I1 q1
 |false=>exact hb γ s1 σ H1 D I1 q1
end
abbrev TG:=V->St->Hp->(St->Hp->Prop)->Prop
abbrev YG:=List V->St->Hp->(St->Hp->Prop)->Prop
def PG(X:Cx)(target:Expr)(t:TG):Prop:=
 ∀(γ:QQz)(s:Shared)(σ:St)(H:Hp)(v:V)(u:Value)(Q:St->Hp->Prop),Inv X γ σ H s->RelV v u->t v σ H Q->
  wpAny (model X.prog X.w) X.A (assign target X.env u) (fun _ s'=>∃ζ H',Inv X γ ζ H' s'/\Q ζ H') X.xe s
def PGs(X:Cx)(ts:List Expr)(t:YG):Prop:=
 ∀(γ:QQz)(s:Shared)(σ:St)(H:Hp)(vs:List V)(us:List Value)(Q:St->Hp->Prop),Inv X γ σ H s->Vals vs us->t vs σ H Q->
  wpAny (model X.prog X.w) X.A (assignInOrder ((assignEach ts X.env).map (·.2)) us) (fun _ s'=>∃ζ H',Inv X γ ζ H' s'/\Q ζ H') X.xe s
abbrev acI:=V->V->V->Hp->(Hp->Prop)->Prop
def Il(X:Cx)(t:acI):Prop:=
 ∀(γ:QQz)(s:Shared)(σ:St)(H:Hp)(o i v:V)(ov iv u:Value)(Q:Hp->Prop),Inv X γ σ H s->RelV o ov->RelV i iv->RelV v u->t o i v H Q->
  wpAny (model X.prog X.w) X.A (setItem ov iv u) (fun _ s'=>∃H',Inv X γ σ H' s'/\Q H') X.xe s
abbrev TIp:=V->V->Hp->VK->Prop
def PIp(X:Cx)(op:Operator)(t:TIp):Prop:=
 ∀(γ:QQz)(s:Shared)(σ:St)(H:Hp)(x y:V)(v u:Value)(Q:VK),Inv X γ σ H s->RelV x v->RelV y u->t x y H Q->
  wpAny (model X.prog X.w) X.A (inplaceOp op v u) (EP X γ σ Q) X.xe s
section
variable{X:Cx}{pos:Pos}
def UG(i:Nat):TG:=fun v σ H Q=>Q (σ.set i (some v)) H
def QC{x:Str}(hN:X.N.Nodup)(hi:X.N[i]? =some x)(hx:Loc X.env.scope x)(hf:X.fn x=true\/X.env.scope.names.lookup x=some .local:=by first|exact .inl rfl|exact .inr rfl|assumption):PG X (.Name x pos) (UG i):=by
 intro γ s σ H v u Q I r h
 exact wpAny_assign_Name (qp I hN hi hx r (fun s' I'=>⟨_,H,I',h⟩) hf)
def afI:YG:=fun vs σ H Q=>vs=[]/\Q σ H
def acf(t:TG)(u:YG):YG:=fun vs σ H Q=>∃v r,vs=v::r/\t v σ H fun ζ H'=>u r ζ H' Q
def QB:PGs X [] afI:=by
 intro γ s σ H vs us Q I r h
 obtain⟨e,h⟩:=h
 subst e
 cases r
 exact assignInOrder_nil ⟨σ,H,I,h⟩
theorem Kl{es:List Expr}{u:YG}(h1:PG X e t)(h2:PGs X es u)
  (hs:(assignEach (e::es) X.env).map (·.2)=assign e X.env::(assignEach es X.env).map (·.2):=by rfl):PGs X (e::es) (acf t u):=by
 intro γ s σ H vs us Q I r h
 obtain⟨v,vr,e1,h⟩:=h
 subst e1
 cases r with
 |cons r rr=>
  rw[hs]
  exact assignInOrder_cons (bZ (h1 γ s σ H _ _ _ I r h) fun _ s1⟨ξ,H1,I1,q1⟩=>h2 γ s1 ξ H1 _ _ Q I1 rr q1)
noncomputable def afG(K:QQq)(n:Nat)(t:YG):TG:=fun v σ H Q=>∃a xs,v=.ref a/\jq K H a xs/\xs.length=n/\t xs σ H Q
def Wn{k:Nat}{t:YG}(hc:X.calm=true)(h:PGs X es t)
  (hn:(assignEach es X.env).length=n:=by rfl)(hst:(assignEach es X.env).findIdx? (·.1)=none:=by rfl):PG X (.Tuple es k pos) (afG X.K n t):=by
 intro γ s σ H v u Q I r hw
 obtain⟨a,xs,e1,hq,hl,hw⟩:=hw
 subst e1
 cases r
 obtain⟨its,rv,ht,hz⟩:=I.tuple hq
 exact assign_Tuple_tuple (I.ok.hd hc) ht (by simp[hn,<-hl,rv.length]) hst fun h' hx=>h γ _ σ H xs _ Q (I.kept (t':=s.toks) fun b o e=>hx b o (Qvz (Qqz e)) e) (by simpa using rv) hw
noncomputable def afH(to ti:TE)(t:acI):TG:=fun v σ H Q=>to σ H fun o H1=>ti σ H1 fun i H2=>t o i v H2 fun H3=>Q σ H3
def Wo{to ti:TE}(ho:PE X o to)(hi:PE X i ti)(hs:Il X t)
  (ha:∀v,assign (.Subscript o i pos) X.env v=(do
   let ov<-holding [v] (eval o X.env)
   let iv<-holding [v,ov] (eval i X.env)
   standAt pos
   holding [v,ov,iv] (setItem ov iv v)
   release [v,ov,iv] []):=by intro _;rfl):PG X (.Subscript o i pos) (afH to ti t):=by
 intro γ s σ H v u Q I r h
 refine QKq (Qqq (bZ (ho γ s σ H _ I h) fun ov s1⟨x,H1,I1,r1,q1⟩=>?_))
 exact QKq (Qqq (bZ (hi γ s1 σ H1 _ I1 q1) fun iv s2⟨y,H2,I2,r2,q2⟩=>QKq (wpAny_standAt (QKq (Qqq (bZ (hs γ s2 σ H2 x y v ov iv u _ I2 r1 r2 r q2) fun _ s3⟨H3,I3,q3⟩=>wpAny_release ⟨σ,H3,I3,q3⟩))))))
def aaB(te:TE)(g:TG):TS:=fun D σ H=>te σ H fun x H1=>g x σ H1 D.nx
def Kc{te:TE}(he:PE X e te)(hg:PG X tg g)(hs:swapsWithSole [tg] e pos.line X.env=pure false:=by rfl)(hw:swappedStores [tg] e X.env=pure none:=by rfl)
  (h1:(assignEach [tg] X.env).map (·.2)=[assign tg X.env]:=by rfl):PS X (.Assign [tg] e pos) (aaB te g):=by
 intro γ s σ H D I h
 refine wpAny_Assign_stores (bZ (he γ s σ H _ I h) fun v s1⟨x,H1,I1,r1,q1⟩=>?_) hs hw
 rw[h1]
 exact bZ (hg γ s1 σ H1 x v _ I1 r1 q1) fun _ s2 q=>q
def J9{x:Str}{te:TE}(hN:X.N.Nodup)(hi:X.N[i]? =some x)(hx:Loc X.env.scope x)(he:PE X e te)(hs:swapsWith e (some (.Name x pos')) pos.line X.env=pure false:=by rfl)(hf:X.fn x=true\/X.env.scope.names.lookup x=some .local:=by first|exact .inl rfl|exact .inr rfl|assumption):
  PS X (.Assign [.Name x pos'] e pos) (aaB te (UG i)):=by
 intro γ s σ H D I h
 exact wpAny_Assign_Name (bZ (he γ s σ H _ I h) fun v s1⟨y,H1,I1,r1,q1⟩=>qp I1 hN hi hx r1 (fun s2 I2=>⟨_,H1,I2,q1⟩) hf) hs
noncomputable def ad3(i:Nat)(te:TE)(ti:TIp):TS:=fun D σ H=>∃x,σ[i]? =some (some x)/\te σ H fun y H1=>ti x y H1 fun z H2=>D.nx (σ.set i (some z)) H2
def Wm{i:Nat}{x:Str}{e:Expr}{te:TE}{op:Operator}{ti:TIp}{pos':Pos}(hN:X.N.Nodup)(hi:X.N[i]? =some x)(hx:Loc X.env.scope x)(he:PE X e te)(ho:PIp X op ti)(hf:X.fn x=true\/X.env.scope.names.lookup x=some .local:=by first|exact .inl rfl|exact .inr rfl|assumption):
  PS X (.AugAssign (.Name x pos') op e pos) (ad3 i te ti):=by
 intro γ s σ H D I h
 obtain⟨v,e1,h⟩:=h
 obtain⟨m,hn,hl⟩:=I.loc
 have vis:YF X.env.scope x:=by rcases hx with k|k;exact .inl k;exact .inr (.inl k)
 obtain⟨u,r,l⟩:=hl i x v hi e1 vis
 refine wpAny_AugAssign_Name ?_
 have go:wpAny (model X.prog X.w) X.A (eval e X.env) (fun w Φ=>wpAny (model X.prog X.w) X.A (inplaceOp op u w) (fun r s₃=>wpAny (model X.prog X.w) X.A (storeName X.env x r) (fun _=>SP X γ D .next) X.xe s₃) X.xe Φ) X.xe s:=by
  refine bZ (he γ s σ H _ I h) fun w s1⟨y,H1,I1,r1,q1⟩=>?_
  refine bZ (ho γ s1 σ H1 v y u w _ I1 r r1 q1) fun z s2⟨zv,H2,I2,r2,q2⟩=>?_
  exact qp I2 hN hi hx r2 (fun s3 I3=>⟨_,H2,I3,q2⟩) hf
 rcases l with ⟨hk,hm⟩|⟨hk,c,hc,hcell⟩
 ·exact wpAny_loadName_local I.ok.kind hk hn hm go
 ·rcases hk with hk|hk
  ·exact wpAny_loadName_cell I.ok.kind hk hc hcell go
  ·rcases hx with k|k
   ·have:X.env.scope.names.lookup x=some .free:=hk
    rw[k]at this;cases this
   ·have:X.env.scope.names.lookup x=some .free:=hk
    rw[k]at this;cases this
noncomputable def ipI(f:Int->Int->Int):TIp:=fun x y H Q=>∃i j,x=.int i/\y=.int j/\Q (.int (f i j)) H
def Xu:PIp X .Add (ipI fun i j=>i+j):=by
 intro γ s σ H x y v u Q I r1 r2 h
 obtain⟨i,j,e1,e2,q⟩:=h
 subst e1;subst e2
 obtain⟨t,rfl⟩:=r1
 obtain⟨t',rfl⟩:=r2
 exact iadd_int ⟨.int _,H,I.tok _,⟨_,rfl⟩,q⟩
end
section
variable{X:Cx}{pos:Pos}
noncomputable def Vv(c:TT)(tb:TS):TS:=fun D σ H=>∃W:Nat->St->Hp->Prop,(∃m,W m σ H)/\∀m σ H,W m σ H->
 c σ H fun b H1=>if b=true then∃N:St->Hp->Prop,(∀ζ H',N ζ H'->∃m',m'<m/\W m' ζ H')/\tb {D with nx:=N,ct:=N,bk:=D.nx} σ H1 else D.nx σ H1
def J8{body:List Stmt}{tb:TS}(hp:PassesOwn (model X.prog X.w) X.A X.env X.xe)(hc:PT X c tc)(hb:xH X body tb):PS X (.While c body [] pos) (Vv tc tb):=by
 intro γ s σ H D I h
 obtain⟨W,⟨m0,w0⟩,turn⟩:=h
 refine wpAny_While (codeAny_whileLoop (fun n s'=>∃ζ H',Inv X γ ζ H' s'/\W n ζ H') ?_ m0 ⟨σ,H,I,w0⟩)
 rintro n s1 ⟨ξ,H1,I1,w1⟩
 refine wpAny_passesOwn hp (bZ (hc γ s1 ξ H1 _ I1 (turn n ξ H1 w1)) fun b s2⟨H2,I2,q2⟩=>?_)
 cases b with
 |true=>
  obtain⟨N,hN,q2⟩:=q2
  refine wpAny_passesOwn hp (bZ (hb γ s2 ξ H2 _ I2 q2) fun f s3 q3=>?_)
  cases f with
  |next=>
   obtain⟨σ3,H3,I3,n3⟩:=q3
   obtain⟨m',hm,w3⟩:=hN σ3 H3 n3
   exact⟨m',hm,σ3,H3,I3,w3⟩
  |cont=>
   obtain⟨σ3,H3,I3,n3⟩:=q3
   obtain⟨m',hm,w3⟩:=hN σ3 H3 n3
   exact⟨m',hm,σ3,H3,I3,w3⟩
  |brk=>exact q3
  |ret v=>exact q3
 |false=>
  exact wpAny_execs_nil ⟨ξ,H2,I2,q2⟩
end
structure It where
 go:Nat->Hp->Prop
 yld:Nat->Hp->V->Hp->Prop
 stop:Nat->Hp->Prop
def fM(X:Cx)(γ:QQz)(H:Hp)(b:Addr):Prop:=
 H b=none/\b≠X.env.locals/\b∉X.fs/\(b∈X.ex\/X.s₀.heap.objs.size<=b)/\(∀x c,X.env.cells.lookup x=some c->c≠b)/\∀p∈X.pn++γ,p.1≠b
def Inv.ue{X:Cx}{σ:St}{H H':Hp}{b:Addr}(I:Inv X γ σ H s)(hb:s.heap.objs.size<=b)(hn:H' b=none):fM X γ H' b:=by
 refine⟨hn,Nat.ne_of_gt (Qvq I.lt hb),I.aeV hb,.inr (Nat.le_trans I.sz hb),fun x c e z=>?_,fun p hp z=>?_⟩
 ·obtain⟨v,q⟩:=I.cell x c e
  exact absurd (Qvq q.lt (by rw[z];exact hb)) (Nat.lt_irrefl _)
 ·exact absurd (Qvq (Qqz (I.pin p hp).1) (by rw[z];exact hb)) (Nat.lt_irrefl _)
structure Turn(P:Program)(w:World)(K:QQq)(tg:Expr)(J:It)(fp:List Addr)(it:Addr)(tn:Nat->Heap->Prop):Prop where
 mem:it∈fp
 obj:∀i h,tn i h->∀b∈fp,∃o,h.get? b=some o/\∀v,o.data≠ .cell v
 keep:∀i h h',tn i h->(∀b∈fp,∀o,h.get? b=some o->h'.get? b=some o)->tn i h'
 item:∀(X:Cx),X.prog=P->X.w=w->X.K=K->X.calm=true->∀(i:Nat)(γ:QQz)(s:Shared)(σ:St)(H:Hp)(E:QZq),Inv X γ σ H s->(∀b∈fp,fM X γ H b)->tn i s.heap->J.go i H->
  wpAny (model P w) X.A (pyNext (.ref it)) (fun r s1=>∃u,r=some u/\
   wpAny (model P w) X.A (letOwnedTupleGo tg (.ref it) u) (fun _ s2=>∃x H',Inv X γ σ H' s2/\RelV x u/\J.yld i H x H'/\tn (i+1) s2.heap/\∀b∈fp,H' b=none) E s1) E s
 done:∀(X:Cx),X.prog=P->X.w=w->X.K=K->X.calm=true->∀(i:Nat)(γ:QQz)(s:Shared)(σ:St)(H:Hp)(E:QZq),Inv X γ σ H s->(∀b∈fp,fM X γ H b)->tn i s.heap->J.stop i H->
  wpAny (model P w) X.A (pyNext (.ref it)) (fun r s1=>r=none/\Inv X γ σ H s1) E s
 self:∀(A:Around)(i:Nat)(s:Shared)(Q:QZq)(E:QZq),tn i s.heap->Q (.ref it) s->wpAny (model P w) A (pyIter (.ref it)) Q E s
abbrev TI:=St->Hp->(It->Hp->Prop)->Prop
def PIE(X:Cx)(γ:QQz)(σ:St)(tg:Expr)(R:It->Hp->Prop)(itv:Value)(s2:Shared):Prop:=
 ∃(it:Addr)(fp:List Addr)(tn:Nat->Heap->Prop)(J:It)(H':Hp),itv=.ref it/\Inv X γ σ H' s2/\Turn X.prog X.w X.K tg J fp it tn/\tn 0 s2.heap/\(∀b∈fp,fM X γ H' b)/\R J H'
def PI(X:Cx)(tg iter:Expr)(wi:TI):Prop:=
 ∀(γ:QQz)(s:Shared)(σ:St)(H:Hp)(R:It->Hp->Prop),Inv X γ σ H s->wi σ H R->
  wpAny (model X.prog X.w) X.A (eval iter X.env) (fun v s1=>wpAny (model X.prog X.w) X.A (pyIter v) (PIE X γ σ tg R) X.xe s1) X.xe s
def uY {A : Around} {s : Shared} {it : Addr} {o : Obj} {vs : Array Value} (ho : s.heap.get? it = some o) (hc : o.cls = .type n) (hd : o.data = .fields vs)
    (hn : ["enumerate", "zip", "dict_itemiterator", "dict_reverseitemiterator", "odict_iterator", "itertools.zip_longest", "itertools.pairwise"].contains n = false) (hQ : Q () s) : wpAny M A (letOwnedTupleGo tg (.ref it) u) Q E s := by
  cases tg <;> first
    | exact QKz hQ
    | (cases u <;> first
        | exact QKz hQ
        | (refine QKq (wpAny_load ho ?_)
           rw [hc, hd]
           show wpAny M A (if _ = true then _ else _) Q E s
           rw [if_neg (by intro h; rw [hn, Bool.false_and] at h; cases h)]
           exact QKz hQ))
noncomputable def Itl(K:QQq)(a:Addr):It:=
 ⟨fun i H=>∃xs x,jx K H a xs/\xs[i]? =some x,fun i H x H'=>H'=H/\∀xs,jx K H a xs->xs[i]? =some x,fun i H=>∃xs,jx K H a xs/\xs.length<=i⟩
noncomputable def Itt(K:QQq)(a:Addr):It:=
 ⟨fun i H=>∃xs x,jq K H a xs/\xs[i]? =some x,fun i H x H'=>H'=H/\∀xs,jq K H a xs->xs[i]? =some x,fun i H=>∃xs,jq K H a xs/\xs.length<=i⟩
noncomputable def Itr(lo:Int)(n:Nat):It:=⟨fun i _=>i<n,fun i H x H'=>H'=H/\x=.int (lo+i),fun i _=>n<=i⟩
theorem Gf{w:World}{K:QQq}a it:Turn P w K tg (Itl K a) [it] it (fun i h=>h.IsListIter it a i) where
 mem:=by simp
 obj:=fun i h st b hb=>by
  have e:b=it:=by simpa using hb
  subst e
  obtain⟨o,e,c,d⟩:=st
  exact⟨o,e,fun v z=>by rw[d]at z;cases z⟩
 keep:=fun i h h' st k=>st.at fun o e=>k it (by simp) o e
 item:=by
  intro X hP hw hK hc i γ s σ H E I hf st hg
  subst hP hw hK
  obtain⟨xs,x,hq,hx⟩:=hg
  obtain⟨its,rv,p,hz⟩:=I.list hq
  obtain⟨u,hu,ru⟩:=rv.get hx
  obtain⟨f0,f1,f2,f3,f4,f5⟩:=hf it (by simp)
  refine wpAny_pyNext_list_item st p.isList (by simpa using hu) fun h' st' sb=>?_
  obtain⟨o,e,c,d⟩:=id st'
  exact⟨u,rfl,uY e c d (by decide) ⟨x,H,I.turned (t':=s.toks) (fun b o hb e=>(sb.2 b hb).trans e) f0 f1 f3 f4 f5,ru,⟨rfl,fun ys hy=>by rw[I.yR hy hq];exact hx⟩,st',fun b hb=>(hf b hb).1⟩⟩
 done:=by
  intro X hP hw hK hc i γ s σ H E I hf st hg
  subst hP hw hK
  obtain⟨xs,hq,hx⟩:=hg
  obtain⟨its,rv,p,hz⟩:=I.list hq
  obtain⟨f0,f1,f2,f3,f4,f5⟩:=hf it (by simp)
  have hl:=rv.length
  exact wpAny_pyNext_list_end (I.ok.hd hc) st p.isList (by simp;omega) fun h' eb=>⟨rfl,I.turned (fun b o hb e=>eb b o hb e) f0 f1 f3 f4 f5⟩
 self:=fun _ _ _ _ _ st h=>wpAny_pyIter_listiter st h
theorem z6{w:World}{K:QQq}a it:Turn P w K tg (Itt K a) [it] it (fun i h=>h.IsTupleIter it a i) where
 mem:=by simp
 obj:=fun i h st b hb=>by
  have e:b=it:=by simpa using hb
  subst e
  obtain⟨o,e,c,d⟩:=st
  exact⟨o,e,fun v z=>by rw[d]at z;cases z⟩
 keep:=fun i h h' st k=>st.at fun o e=>k it (by simp) o e
 item:=by
  intro X hP hw hK hc i γ s σ H E I hf st hg
  subst hP hw hK
  obtain⟨xs,x,hq,hx⟩:=hg
  obtain⟨its,rv,p,hz⟩:=I.tuple hq
  obtain⟨u,hu,ru⟩:=rv.get hx
  obtain⟨f0,f1,f2,f3,f4,f5⟩:=hf it (by simp)
  refine wpAny_pyNext_tuple_item st (p) (by simpa using hu) fun h' st' sb=>?_
  obtain⟨o,e,c,d⟩:=id st'
  exact⟨u,rfl,uY e c d (by decide) ⟨x,H,I.turned (t':=s.toks) (fun b o hb e=>(sb.2 b hb).trans e) f0 f1 f3 f4 f5,ru,⟨rfl,fun ys hy=>by rw[I.uq hy hq];exact hx⟩,st',fun b hb=>(hf b hb).1⟩⟩
 done:=by
  intro X hP hw hK hc i γ s σ H E I hf st hg
  subst hP hw hK
  obtain⟨xs,hq,hx⟩:=hg
  obtain⟨its,rv,p,hz⟩:=I.tuple hq
  obtain⟨f0,f1,f2,f3,f4,f5⟩:=hf it (by simp)
  have hl:=rv.length
  exact wpAny_pyNext_tuple_end (I.ok.hd hc) st (p) (by simp;omega) fun h' eb=>⟨rfl,I.turned (fun b o hb e=>eb b o hb e) f0 f1 f3 f4 f5⟩
 self:=fun _ _ _ _ _ st h=>wpAny_pyIter_tupleiter st h
theorem z7{w:World}{K:QQq}it lo n:Turn P w K tg (Itr lo n) [it] it (fun i h=>IsRangeIter h it (lo+(i:Nat)*1) ((n:Int)- (i:Nat)) 1) where
 mem:=by simp
 obj:=fun i h st b hb=>by
  have e:b=it:=by simpa using hb
  subst e
  exact⟨_,st,fun v z=>by
   cases z⟩
 keep:=fun i h h' st k=>k it (by simp) _ st
 item:=by
  intro X hP hw hK hc i γ s σ H E I hf st hg
  subst hP hw hK
  obtain⟨f0,f1,f2,f3,f4,f5⟩:=hf it (by simp)
  refine(Walks.range (prog:=X.prog) (w:=X.w) (I.ok.hd hc) it lo 1 n).item i s _ _ hg st fun v h' tk hv st' kk=>?_
  obtain⟨t,rfl⟩:=hv
  refine⟨_,rfl,uY st' rfl rfl (by decide) ⟨.int _,H,(I.turned (fun b o hb e=>kk b o (by simpa using hb) e) f0 f1 f3 f4 f5),⟨t,?_⟩,⟨rfl,rfl⟩,st',fun b hb=>(hf b hb).1⟩⟩
  rw[Int.mul_one]
 done:=by
  intro X hP hw hK hc i γ s σ H E I hf st hg
  obtain⟨f0,f1,f2,f3,f4,f5⟩:=hf it (by simp)
  exact wpAny_pyNext_range_end (I.ok.hd hc) st (by have:n<=i:=hg;omega) fun h' eb=>⟨rfl,I.turned (fun b o hb e=>eb b o hb e) f0 f1 f3 f4 f5⟩
 self:=fun _ _ _ _ _ st h=>wpAny_pyIter_rangeiter st h
section
variable{X:Cx}{tg:Expr}
def JV{σ:St}{H:Hp}{R:It->Hp->Prop}{lo hi:Int}{tk:Nat}(I:Inv X γ σ H s)(h1: -(2 ^62)<=lo)(h2:lo<2 ^62)(h3: -(2 ^62)<=hi)(h4:hi<2 ^62)
  (q:R (Itr lo (hi-lo).toNat) H):wpAny (model X.prog X.w) X.A (pyIter (.ref s.heap.objs.size)) (PIE X γ σ tg R) E {s with heap:=s.heap.push {cls:=.type "range",data:=.fields #[.int lo t,.int hi u,.int 1 v]},toks:=tk}:=by
 refine wpAny_pyIter_range (IsRange.new ..) (small_one h1 h2 h3 h4) ?_
 have I1:Inv X γ σ H {s with heap:=s.heap.push {cls:=.type "range",data:=.fields #[.int lo t,.int hi u,.int 1 v]},toks:=tk}:=I.kept fun b o e=>QWq _ e
 refine⟨(s.heap.push {cls:=.type "range",data:=.fields #[.int lo t,.int hi u,.int 1 v]}).objs.size,[(s.heap.push {cls:=.type "range",data:=.fields #[.int lo t,.int hi u,.int 1 v]}).objs.size],_,_,H,rfl,
  I1.kept fun b o e=>QWq _ e,z7 _ lo (hi-lo).toNat,?_,fun b hb=>?_,q⟩
 ·have e1:lo+((0:Nat))*1=lo:=by simp
  have e2:(((hi-lo).toNat:Nat))- ((0:Nat))=Builtin.Range.rangeSize lo hi 1:=by rw[rangeSize_one];split<;>omega
  rw[e1,e2]
  exact Qzq _ rfl
 ·have e:b=(s.heap.push {cls:=.type "range",data:=.fields #[.int lo t,.int hi u,.int 1 v]}).objs.size:=by simpa using hb
  subst e
  exact I1.ue (QVz _) (I1.hok.fresh (QVz _))
noncomputable def ab4(ta:TA):TI:=fun σ H R=>ta σ H fun vs H1=>∃j:Int,vs=[.int j]/\ -(2 ^62)<=j/\j<2 ^62/\R (Itr 0 j.toNat) H1
def G6{ta:TA}(hg:Gl X "range")(hm:X.mg "range"=none)(ha:PA X [a] ta)(hs:starEach [a] X.env=[(false,eval a X.env)]:=by rfl):PI X tg (.Call (.Name "range" p) [a] [] pos) (ab4 ta):=by
 intro γ s σ H R I h
 refine Call_ (jb I hg hm boot_range (PyProof.Rows.callWith_type1 (bZ (ha pos γ s σ H _ I h) fun us s1⟨vs,H1,I1,r1,q1⟩=>?_) hs rfl))
 obtain⟨j,e,q1,q2,q⟩:=q1
 subst e
 cases r1 with
 |cons r rr=>
  cases rr
  obtain⟨t,rfl⟩:=r
  exact call_range_1 (JV I1 (by omega) (by omega) q1 q2 (by simpa using q))
noncomputable def ad0(wi:TI)(g:TG)(tb:TS):TS:=fun D σ H=>wi σ H fun J H1=>∃W:Nat->Nat->St->Hp->Prop,(∃m,W 0 m σ H1)/\∀i m σ H,W i m σ H->
 (J.stop i H/\D.nx σ H)\/(J.go i H/\∃N:St->Hp->Prop,(∀ζ H',N ζ H'->∃m',m'<m/\W (i+1) m' ζ H')/\∀x H',J.yld i H x H'->g x σ H' fun υ H2=>tb {D with nx:=N,ct:=N,bk:=D.nx} υ H2)
noncomputable def qL(fp:List Addr)(h:Heap):List (Addr×Obj):=fp.filterMap fun b=>(h.get? b).map fun o=>(b,o)
def iZ{h:Heap}{o:Obj}(hb:b∈fp)(e:h.get? b=some o):(b,o)∈qL fp h:=List.mem_filterMap.mpr ⟨b,hb,by rw[e];rfl⟩
def Hb{h:Heap}(hp:p∈qL fp h):p.1∈fp/\h.get? p.1=some p.2:=by
 obtain⟨b,hb,e⟩:=List.mem_filterMap.mp hp
 cases q:h.get? b with
 |none=>rw[q]at e;cases e
 |some o=>
  rw[q]at e
  have e':=QEq e
  subst e'
  exact⟨hb,q⟩
def Inv.pinned{σ:St}{s:Shared}(I:Inv X γ σ H s)(hf:∀b∈fp,fM X γ H b)(ho:∀b∈fp,∃o,s.heap.get? b=some o/\∀v,o.data≠ .cell v):Inv X (γ++qL fp s.heap) σ H s:=
 I.Dz fun p hp=>(QXz.mp hp).elim (fun z=>I.pin p (QVq _ z)) fun z=>by
  obtain⟨hb,e⟩:=Hb z
  obtain⟨f0,f1,f2,_⟩:=hf p.1 hb
  obtain⟨o,e',d⟩:=ho p.1 hb
  rw[e]at e';cases e'
  exact⟨e,f0,f1,f2,d⟩
def Inv.my{σ:St}{H:Hp}(I:Inv X (γ++pl) σ H s):Inv X γ σ H s:=I.Dz fun p hp=>I.pin p (QVq _ (QWz _ hp))
theorem Wl{body:List Stmt}{g:TG}{pos:Pos}(hp:PassesOwn (model X.prog X.w) X.A X.env X.xe)(hc:X.calm=true)(hi:PI X tg iter wi)(hg:PG X tg g)(hb:xH X body tb)
  (hs:∀x,foldedSetIterable iter X.env x=pure x:=by intro _;rfl):PS X (.For tg iter body [] pos) (ad0 wi g tb):=by
 intro γ s σ H D I h
 refine wpAny_For (bZ (hi γ s σ H _ I h) fun v s1 h1=>bZ h1 fun itv s2 h2=>?_) hs
 obtain⟨it,fp,tn,J,H2,e,I2,T,st2,f2,W,⟨m0,w0⟩,turn⟩:=h2
 subst e
 have stat:∀{H':Hp},(∀b∈fp,H' b=none)->∀b∈fp,fM X γ H' b:=fun hn b hb=>⟨hn b hb,(f2 b hb).2⟩
 refine codeAny_forLoop_any (fun n s'=>∃i ζ H',Inv X γ ζ H' s'/\tn i s'.heap/\(∀b∈fp,H' b=none)/\W i n ζ H') ?_ m0 ⟨0,σ,H2,I2,st2,fun b hb=>(f2 b hb).1,w0⟩
 rintro n s3 ⟨i,σ3,H3,I3,st3,fr3,w3⟩
 rcases turn i n σ3 H3 w3 with ⟨stop,qn⟩|⟨go,N,hN,step⟩
 ·refine wpAny_passesOwn hp (bZ (T.done X rfl rfl rfl hc i γ s3 σ3 H3 X.xe I3 (stat fr3) st3 stop) fun r s4⟨hr,I4⟩=>?_)
  subst hr
  exact wpAny_execs_nil ⟨σ3,H3,I4,qn⟩
 ·refine wpAny_passesOwn hp (bZ (T.item X rfl rfl rfl hc i γ s3 σ3 H3 X.xe I3 (stat fr3) st3 go) fun r s4⟨u,hr,h4⟩=>?_)
  subst hr
  refine wpAny_passesOwn hp (bZ h4 fun _ s5⟨x,H5,I5,r5,y5,st5,fr5⟩=>?_)
  refine wpAny_passesOwn hp (bZ (hg _ s5 σ3 H5 x u _ (I5.pinned (stat fr5) (T.obj _ _ st5)) r5 (step x H5 y5)) fun _ s6⟨σ6,H6,I6,q6⟩=>?_)
  refine wpAny_passesOwn hp (bZ (hb _ s6 σ6 H6 _ I6 q6) fun f s7 q7=>?_)
  have again:∀{σ7:St}{H7:Hp},Inv X _ σ7 H7 s7->N σ7 H7->∃m,m<n/\∃i ζ H',Inv X γ ζ H' s7/\tn i s7.heap/\(∀b∈fp,H' b=none)/\W i m ζ H':=fun{σ7 H7}I7 n7=>by
   obtain⟨m',hm,w7⟩:=hN σ7 H7 n7
   refine⟨m',hm,i+1,σ7,H7,I7.my,T.keep _ _ _ st5 fun b hb o e=>(I7.pin (b,o) (QVq _ (QVq _ (iZ hb e)))).1,fun b hb=>?_,w7⟩
   obtain⟨o,e,d⟩:=T.obj _ _ st5 b hb
   exact(I7.pin (b,o) (QVq _ (QVq _ (iZ hb e)))).2.1
  cases f with
  |next=>obtain⟨σ7,H7,I7,n7⟩:=q7;exact again I7 n7
  |cont=>obtain⟨σ7,H7,I7,n7⟩:=q7;exact again I7 n7
  |brk=>obtain⟨σ7,H7,I7,q7⟩:=q7;exact⟨σ7,H7,I7.my,q7⟩
  |ret v=>obtain⟨x7,σ7,H7,I7,r7,q7⟩:=q7;exact⟨x7,σ7,H7,I7.my,r7,q7⟩
end
abbrev R2:=V->V->Hp->VK->Prop
def fL(X:Cx)(f:Value->Value->Sem Value)(r:R2):Prop:=
 ∀(γ:QQz)(s:Shared)(σ:St)(H:Hp)(x y:V)(v u:Value)(Q:VK),Inv X γ σ H s->RelV x v->RelV y u->r x y H Q->
  wpAny (model X.prog X.w) X.A (f v u) (EP X γ σ Q) X.xe s
def UnR(X:Cx)(f:Value->Sem Value)(r:V->Hp->VK->Prop):Prop:=
 ∀(γ:QQz)(s:Shared)(σ:St)(H:Hp)(x:V)(v:Value)(Q:VK),Inv X γ σ H s->RelV x v->r x H Q->
  wpAny (model X.prog X.w) X.A (f v) (EP X γ σ Q) X.xe s
def fG(X:Cx)(f:Value)(r:List V->Hp->VK->Prop):Prop:=
 ∀(γ:QQz)(s:Shared)(σ:St)(H:Hp)(xs:List V)(us:List Value)(Q:VK),Inv X γ σ H s->Vals xs us->r xs H Q->
  wpAny (model X.prog X.w) X.A (call f us) (EP X γ σ Q) X.xe s
def agb(X:Cx)(r:V->Hp->(Bool->Hp->Prop)->Prop):Prop:=
 ∀(γ:QQz)(s:Shared)(σ:St)(H:Hp)(x:V)(v:Value)(Q:Bool->Hp->Prop),Inv X γ σ H s->RelV x v->r x H Q->
  wpAny (model X.prog X.w) X.A (truthy v) (TP X γ σ Q) X.xe s
def Ze(r:R2)(ta tb:TE):TE:=fun σ H Q=>ta σ H fun x H1=>tb σ H1 fun y H2=>r x y H2 Q
def tUn(r:V->Hp->VK->Prop)(ta:TE):TE:=fun σ H Q=>ta σ H fun x H1=>r x H1 Q
noncomputable def rI(C:Int->Int->Prop)(g:Int->Int->V):R2:=fun x y H Q=>∃i j,x=.int i/\y=.int j/\C i j/\Q (g i j) H
def OJ(g:Int->Int->V):R2:=fun x y H Q=>∃i j,x=.int i/\y=.int j/\Q (g i j) H
def rU(g:Int->V):V->Hp->VK->Prop:=fun x H Q=>∃i,x=.int i/\Q (g i) H
section
variable{X:Cx}{a b c:Expr}{ta tb tc:TE}{pos:Pos}
def Yx(ha:PE X a ta)(hb:PE X b tb){s:Shared}{σ:St}{R:V->V->Hp->Prop}(I:Inv X γ σ H s)
  (h:ta σ H fun x H1=>tb σ H1 fun y H2=>R x y H2){f:Value->Value->Sem Value}
  (hf:∀v u s2 x y H2,Inv X γ σ H2 s2->RelV x v->RelV y u->R x y H2->wpAny (model X.prog X.w) X.A (f v u) Q X.xe s2):
  wpAny (model X.prog X.w) X.A (eval a X.env) (fun v ι=>wpAny (model X.prog X.w) X.A (eval b X.env) (fun u Φ=>wpAny (model X.prog X.w) X.A (f v u) Q X.xe Φ) X.xe ι) X.xe s:=by
 exact bZ (ha γ s σ H _ I h) fun v s1⟨x,H1,I1,r1,q1⟩=>bZ (hb γ s1 σ H1 _ I1 q1) fun u s2⟨y,H2,I2,r2,q2⟩=>hf v u s2 x y H2 I2 r1 r2 q2
def DG{r:R2}(ho:fL X (binaryOp op) r)(ha:PE X a ta)(hb:PE X b tb):PE X (.BinOp a op b pos) (Ze r ta tb):=by
 intro γ s σ H Q I h
 exact wpAny_BinOp (Yx ha hb I h fun v u s2 x y H2 I2 rx ry q=>ho γ s2 σ H2 x y v u Q I2 rx ry q)
def abl{r:V->Hp->VK->Prop}(ho:UnR X (unaryOp op) r)(ha:PE X a ta):PE X (.UnaryOp op a pos) (tUn r ta):=by
 intro γ s σ H Q I h
 exact UnaryOp_ (bZ (ha γ s σ H _ I h) fun v s1⟨x,H1,I1,r1,q1⟩=>ho γ s1 σ H1 x v Q I1 r1 q1)
def opI{C:Int->Int->Prop}{g:Int->Int->Int}
  (rule:∀(i j:Int)(t u:Tok)(s:Shared)(Q:QZq)(E:QZq),C i j->Q (.int (g i j) s.toks) {s with toks:=s.toks+1}->wpAny (model X.prog X.w) X.A (f (.int i t) (.int j u)) Q E s):
  fL X f (rI C fun i j=>.int (g i j)):=by
 intro γ s σ H x y v u Q I rx ry h
 obtain⟨i,j,rfl,rfl,hc,q⟩:=h
 obtain⟨t,rfl⟩:=rx
 obtain⟨t',rfl⟩:=ry
 exact rule i j t t' s _ _ hc ⟨.int _,H,I.tok _,⟨_,rfl⟩,q⟩
def abx{g:Int->Int->Int}
  (rule:∀(i j:Int)(t u:Tok)(s:Shared)(Q:QZq)(E:QZq),Q (.int (g i j) s.toks) {s with toks:=s.toks+1}->wpAny (model X.prog X.w) X.A (f (.int i t) (.int j u)) Q E s):
  fL X f (OJ fun i j=>.int (g i j)):=by
 intro γ s σ H x y v u Q I rx ry h
 obtain⟨i,j,rfl,rfl,q⟩:=h
 obtain⟨t,rfl⟩:=rx
 obtain⟨t',rfl⟩:=ry
 exact rule i j t t' s _ _ ⟨.int _,H,I.tok _,⟨_,rfl⟩,q⟩
def WY{g:Int->Int->Bool}
  (rule:∀(i j:Int)(t u:Tok)(s:Shared)(Q:QZq)(E:QZq),Q (.bool (g i j)) s->wpAny (model X.prog X.w) X.A (f (.int i t) (.int j u)) Q E s):
  fL X f (OJ fun i j=>.bl (g i j)):=by
 intro γ s σ H x y v u Q I rx ry h
 obtain⟨i,j,rfl,rfl,q⟩:=h
 obtain⟨t,rfl⟩:=rx
 obtain⟨t',rfl⟩:=ry
 exact rule i j t t' s _ _ ⟨.bl _,H,I,rfl,q⟩
def S7(i j:Int):Prop:=(-(2 ^64)<i/\i<2 ^64)\/(-(2 ^64)<j/\j<2 ^64)
def S7.ok(h:S7 i j):IntMulOk i j:=by
 rcases h with ⟨h1,h2⟩|⟨h1,h2⟩
 ·exact .of_left (intBits_le_64 h1 h2)
 ·exact .of_right (intBits_le_64 h1 h2)
def WW:fL X (binaryOp .Add) (OJ fun i j=>.int (i+j)):=abx fun _ _ _ _ _ _ _ q=>add_int q
def WD:fL X (binaryOp .Sub) (OJ fun i j=>.int (i-j)):=abx fun _ _ _ _ _ _ _ q=>sub_int q
def WK:fL X (binaryOp .Mult) (rI S7 fun i j=>.int (i*j)):=opI fun _ _ _ _ _ _ _ hc q=>mul_int q hc.ok
def WL:fL X (binaryOp .Mod) (rI (fun _ j=>0<j) fun i j=>.int (i%j)):=opI fun i j _ _ _ _ _ hc q=>by
 have h1:=hc
 exact mod_int' (by omega) (by rw[Int.fmod_eq_emod_of_nonneg i (by omega)];exact q)
def unI{g:Int->Int}
  (rule:∀(i:Int)(t:Tok)(s:Shared)(Q:QZq)(E:QZq),Q (.int (g i) s.toks) {s with toks:=s.toks+1}->wpAny (model X.prog X.w) X.A (f (.int i t)) Q E s):
  UnR X f (rU fun i=>.int (g i)):=by
 intro γ s σ H x v Q I rx h
 obtain⟨i,rfl,q⟩:=h
 obtain⟨t,rfl⟩:=rx
 exact rule i t s _ _ ⟨.int (g i),H,I.tok _,⟨_,rfl⟩,q⟩
def Vs:UnR X (unaryOp .USub) (rU fun i=>.int (-i)):=unI fun _ _ _ _ _ q=>neg_int q
end
noncomputable def Qa:V->V->Bool
 |.non,.non=>true|.non,.int _=>true|.int _,.non=>true|.non,.bl _=>true|.bl _,.non=>true|.non,.str _=>true|.str _,.non=>true
 |.int _,.int _=>true|.bl _,.bl _=>true|.str _,.str _=>true
 |.int _,.str _=>true|.str _,.int _=>true|.bl _,.str _=>true|.str _,.bl _=>true
 |_,_=>false
def rEq:R2:=fun x y H Q=>Qa x y=true/\Q (.bl (decide (x=y))) H
def rNe:R2:=fun x y H Q=>Qa x y=true/\Q (.bl (!decide (x=y))) H
def Fv:decide (V.int i=V.int j)=(i==j):=by
 rw[Bool.eq_iff_iff]
 simp
def M8:decide (V.bl i=V.bl j)=(i==j):=by
 rw[Bool.eq_iff_iff]
 simp
def Ft:decide (V.str i=V.str j)=(i==j):=by
 rw[Bool.eq_iff_iff]
 simp
section
variable{X:Cx}{a b c:Expr}{ta tb tc:TE}{pos:Pos}
def bz{σ:St}{H:Hp}{Q:VK}(I:Inv X γ σ H s)(q:Q (.bl k) H)(e:k=k'):EP X γ σ Q (.bool k') s:=by
 subst e
 exact⟨.bl k,H,I,rfl,q⟩
def abv:fL X (compareOp .Eq) rEq:=by
 intro γ s σ H x y v u Q I rx ry h
 obtain⟨hs,q⟩:=h
 cases x with
 |non=>
  cases rx
  cases y with
  |non=>cases ry;exact PySem.EqNone.eq_none_none (bz I q (by simp))
  |bl j=>cases ry;exact PySem.EqNone.eq_none_bool (bz I q (by simp))
  |int j=>obtain⟨t',rfl⟩:=ry;exact PySem.EqNone.eq_none_int (bz I q (by simp))
  |str j=>obtain⟨t',rfl⟩:=ry;exact PySem.EqNone.eq_none_str (bz I q (by simp))
  |_=>exact absurd (hs) Qjz
 |bl i=>
  cases rx
  cases y with
  |non=>cases ry;exact PySem.EqNone.eq_bool_none (bz I q (by simp))
  |bl j=>cases ry;exact eq_bool (bz I q M8)
  |str j=>obtain⟨t',rfl⟩:=ry;exact PySem.EqMixed.eq_bool_str (bz I q (by simp))
  |_=>exact absurd (hs) Qjz
 |int i=>
  obtain⟨t,rfl⟩:=rx
  cases y with
  |non=>cases ry;exact PySem.EqNone.eq_int_none (bz I q (by simp))
  |int j=>obtain⟨t',rfl⟩:=ry;exact eq_int (bz I q Fv)
  |str j=>obtain⟨t',rfl⟩:=ry;exact PySem.EqMixed.eq_int_str (bz I q (by simp))
  |_=>exact absurd (hs) Qjz
 |str i=>
  obtain⟨t,rfl⟩:=rx
  cases y with
  |non=>cases ry;exact PySem.EqNone.eq_str_none (bz I q (by simp))
  |bl j=>cases ry;exact PySem.EqMixed.eq_str_bool (bz I q (by simp))
  |int j=>obtain⟨t',rfl⟩:=ry;exact PySem.EqMixed.eq_str_int (bz I q (by simp))
  |str j=>obtain⟨t',rfl⟩:=ry;exact eq_str (bz I q Ft)
  |_=>exact absurd (hs) Qjz
 |_=>cases y<;>exact absurd (hs) Qjz
def abq:fL X (compareOp .NotEq) rNe:=by
 intro γ s σ H x y v u Q I rx ry h
 obtain⟨hs,q⟩:=h
 cases x with
 |non=>
  cases rx
  cases y with
  |non=>cases ry;exact PySem.EqNone.ne_none_none (bz I q (by simp))
  |bl j=>cases ry;exact PySem.EqNone.ne_none_bool (bz I q (by simp))
  |int j=>obtain⟨t',rfl⟩:=ry;exact PySem.EqNone.ne_none_int (bz I q (by simp))
  |str j=>obtain⟨t',rfl⟩:=ry;exact PySem.EqNone.ne_none_str (bz I q (by simp))
  |_=>exact absurd (hs) Qjz
 |bl i=>
  cases rx
  cases y with
  |non=>cases ry;exact PySem.EqNone.ne_bool_none (bz I q (by simp))
  |bl j=>cases ry;exact ne_bool (bz I q (congrArg not M8))
  |str j=>obtain⟨t',rfl⟩:=ry;exact PySem.EqMixed.ne_bool_str (bz I q (by simp))
  |_=>exact absurd (hs) Qjz
 |int i=>
  obtain⟨t,rfl⟩:=rx
  cases y with
  |non=>cases ry;exact PySem.EqNone.ne_int_none (bz I q (by simp))
  |int j=>obtain⟨t',rfl⟩:=ry;exact ne_int (bz I q (congrArg not Fv))
  |str j=>obtain⟨t',rfl⟩:=ry;exact PySem.EqMixed.ne_int_str (bz I q (by simp))
  |_=>exact absurd (hs) Qjz
 |str i=>
  obtain⟨t,rfl⟩:=rx
  cases y with
  |non=>cases ry;exact PySem.EqNone.ne_str_none (bz I q (by simp))
  |bl j=>cases ry;exact PySem.EqMixed.ne_str_bool (bz I q (by simp))
  |int j=>obtain⟨t',rfl⟩:=ry;exact PySem.EqMixed.ne_str_int (bz I q (by simp))
  |str j=>obtain⟨t',rfl⟩:=ry;exact ne_str (bz I q (congrArg not Ft))
  |_=>exact absurd (hs) Qjz
 |_=>cases y<;>exact absurd (hs) Qjz
def abr:fL X (compareOp .Lt) (OJ fun i j=>.bl (decide (i<j))):=WY fun _ _ _ _ _ _ _ q=>lt_int q
def abt:fL X (compareOp .LtE) (OJ fun i j=>.bl (decide (i<=j))):=WY fun _ _ _ _ _ _ _ q=>le_int q
def abu:fL X (compareOp .Gt) (OJ fun i j=>.bl (decide (j<i))):=WY fun _ _ _ _ _ _ _ q=>gt_int q
def G9:fL X (compareOp .In) (fun x y H Q=>∃i j,x=.str i/\y=.str j/\Q (.bl (!(Builtin.Str.occurrences j i 0 j.length 1).isEmpty)) H):=by
 intro γ s σ H x y v u Q I rx ry h
 obtain⟨i,j,rfl,rfl,q⟩:=h
 obtain⟨t,rfl⟩:=rx
 obtain⟨t',rfl⟩:=ry
 exact in_str (bz I q rfl)
def WN:fL X (compareOp .Is) (fun x y H Q=>y=.non/\Q (.bl (decide (x=.non))) H):=by
 intro γ s σ H x y v u Q I rx ry h
 obtain⟨rfl,q⟩:=h
 cases ry
 refine is_none_gen (bz I q ?_)
 cases x<;>first
  |(cases rx;rfl)
  |(obtain⟨t,rfl⟩:=rx;rfl)
def QQ:fL X (compareOp .IsNot) (fun x y H Q=>y=.non/\Q (.bl (!decide (x=.non))) H):=by
 intro γ s σ H x y v u Q I rx ry h
 obtain⟨rfl,q⟩:=h
 cases ry
 refine isnot_none_gen (bz I q ?_)
 cases x<;>first
  |(cases rx;rfl)
  |(obtain⟨t,rfl⟩:=rx;rfl)
def fL.or{f:Value->Value->Sem Value}{r r':R2}(h:fL X f r)(h':fL X f r'):fL X f (fun x y H Q=>r x y H Q\/r' x y H Q):=by
 intro γ s σ H x y v u Q I rx ry q
 rcases q with q|q
 ·exact h γ s σ H x y v u Q I rx ry q
 ·exact h' γ s σ H x y v u Q I rx ry q
def QH{r:R2}(ho:fL X (compareOp op) r)(ha:PE X a ta)(hb:PE X b tb)(hm:behindInMarks op b=false):PE X (.Compare a [op] [b] pos) (Ze r ta tb):=by
 intro γ s σ H Q I h
 exact wpAny_Compare1 (Yx ha hb I h fun v u s2 x y H2 I2 rx ry q=>ho γ s2 σ H2 x y v u Q I2 rx ry q) hm
def Tz(t:TE):TT:=fun σ H Q=>t σ H fun x H'=>∃k,x=.bl k/\Q k H'
def Qu{r:R2}(ho:fL X (compareOp op) r)(ha:PE X a ta)(hb:PE X b tb)(hm:behindInMarks op b=false):PT X (.Compare a [op] [b] pos) (Tz (Ze r ta tb)):=by
 intro γ s σ H Q I h
 refine wpAny_isTrue_Compare1 (bZ (ha γ s σ H _ I h) fun v s1⟨x,H1,I1,r1,q1⟩=>bZ (hb γ s1 σ H1 _ I1 q1) fun u s2⟨y,H2,I2,r2,q2⟩=>
  bZ (ho γ s2 σ H2 x y v u _ I2 r1 r2 q2) fun c s3⟨z,H3,I3,r3,k,e,q3⟩=>?_) hm
 subst e
 cases r3
 exact wpAny_truthy_bool ⟨H3,I3,q3⟩
noncomputable def z9(r r':R2)(ta tb tc:TE):TE:=fun σ H Q=>ta σ H fun x H1=>tb σ H1 fun y H2=>r x y H2 fun z H3=>∃k,z=.bl k/\
 (if k=true then tc σ H3 fun w' H4=>r' y w' H4 Q else Q (.bl false) H3)
theorem Kz{r r':R2}(ho:fL X (compareOp op) r)(ho':fL X (compareOp op') r')(ha:PE X a ta)(hb:PE X b tb)(hc:PE X c tc)
  (hm:lastMarks [op,op'] [b,c]=false:=by with_unfolding_all rfl):PE X (.Compare a [op,op'] [b,c] pos) (z9 r r' ta tb tc):=by
 intro γ s σ H Q I h
 refine Compare_chain (bZ (ha γ s σ H _ I h) fun v s1⟨x,H1,I1,r1,q1⟩=>chain_link (bZ (hb γ s1 σ H1 _ I1 q1) fun u s2⟨y,H2,I2,r2,q2⟩=>
  bZ (ho γ s2 σ H2 x y v u _ I2 r1 r2 q2) fun d s3⟨z,H3,I3,r3,k,e,q3⟩=>?_)) hm
 subst e
 cases r3
 refine wpAny_truthy_bool ?_
 cases k with
 |false=>exact ite_ff ⟨.bl false,H3,I3,rfl,q3⟩
 |true=>exact ite_tt (chain_last (bZ (hc γ s3 σ H3 _ I3 q3) fun w' s4⟨z',H4,I4,r4,q4⟩=>ho' γ s4 σ H4 y z' u w' Q I4 r2 r4 q4))
theorem J6{r r':R2}(ho:fL X (compareOp op) r)(ho':fL X (compareOp op') r')(ha:PE X a ta)(hb:PE X b tb)(hc:PE X c tc)
  (hm:lastMarks [op,op'] [b,c]=false:=by with_unfolding_all rfl):PT X (.Compare a [op,op'] [b,c] pos) (Tz (z9 r r' ta tb tc)):=by
 intro γ s σ H Q I h
 refine isTrue_chain (bZ (ha γ s σ H _ I h) fun v s1⟨x,H1,I1,r1,q1⟩=>test_link (bZ (hb γ s1 σ H1 _ I1 q1) fun u s2⟨y,H2,I2,r2,q2⟩=>
  bZ (ho γ s2 σ H2 x y v u _ I2 r1 r2 q2) fun d s3⟨z,H3,I3,r3,k,e,q3⟩=>?_)) hm
 subst e
 cases r3
 refine wpAny_truthy_bool ?_
 cases k with
 |false=>
  obtain⟨k',e',q'⟩:=q3
  cases e'
  exact ite_ff ⟨H3,I3,q'⟩
 |true=>
  refine ite_tt (test_last (bZ (hc γ s3 σ H3 _ I3 q3) fun w' s4⟨z',H4,I4,r4,q4⟩=>bZ (ho' γ s4 σ H4 y z' u w' _ I4 r2 r4 q4) fun d' s5⟨z2,H5,I5,r5,k2,e2,q5⟩=>?_))
  subst e2
  cases r5
  exact wpAny_truthy_bool ⟨H5,I5,q5⟩
def Oi(K:QQq)(x:V)(H:Hp)(k:Bool):Prop:=
 match x with
 |.non=>k=false
 |.bl b=>k=b
 |.int i=>k=(i !=0)
 |.str y=>y.length<=sizeLine/\k=((y.length:Int) !=0)
 |.ref p=>(∃xs,jx K H p xs/\k= !xs.isEmpty)\/(∃xs,jq K H p xs/\k= !xs.isEmpty)\/∃kvs,H p=some (.dK kvs)/\k= !kvs.isEmpty
 |_=>False
def Bq{kvs:List (κ×V)}{vs:List (κ×Value)}(r:KV kvs vs):(!vs.isEmpty)= !kvs.isEmpty:=by
 cases r<;>rfl
def rA{its:List Value}(r:Vals xs its):(!its.toArray.isEmpty)= !xs.isEmpty:=by
 cases r<;>simp
def wB:(sizeLine:Nat)<2 ^63:=by rw[sizeLine_eq];decide
def Jk:agb X (fun x H Q=>∃k,Oi X.K x H k/\Q k H):=by
 intro γ s σ H x v Q I rx h
 obtain⟨k,e,q⟩:=h
 have hs:=sizeLine_eq
 cases x with
 |non=>
  cases rx
  subst e
  exact truthy_none ⟨H,I,q⟩
 |bl b=>
  cases rx
  subst e
  exact wpAny_truthy_bool ⟨H,I,q⟩
 |int i=>
  obtain⟨t,rfl⟩:=rx
  subst e
  exact PySem.P.truthy_int ⟨H,I,q⟩
 |str y=>
  obtain⟨t,rfl⟩:=rx
  obtain⟨hy,e'⟩:y.length<=sizeLine/\k=((y.length:Int) !=0):=e
  subst e'
  exact PySem.P.truthy_str (by omega) ⟨H,I.tok _,q⟩
 |ref p=>
  cases rx
  have e':=e
  rcases e' with ⟨xs,hx,e'⟩|⟨xs,hx,e'⟩|⟨kvs,hx,e'⟩
  ·subst e'
   obtain⟨its,r,pl,hz⟩:=I.list hx
   have hlen:=r.length
   exact wpAny_truthy_list pl.isList (by simp only[Qyq];omega) ⟨H,I.tok _,by rw[rA r];exact q⟩
  ·subst e'
   obtain⟨its,r,pl,hz⟩:=I.tuple hx
   have hlen:=r.length
   exact truthy_tuple pl (by simp only[Qyq];omega) ⟨H,I.tok _,by rw[rA r];exact q⟩
  ·subst e'
   obtain⟨hz,hS,vs,r,m⟩:kvs.length<=sizeLine/\(p==sysModules)=false/\∃vs,KV kvs vs/\s.heap.DictOf _ p vs:=I.hok p _ hx
   have hlen:=Paired.length r
   exact wpAny_truthy_dict hS m (by omega) ⟨H,I.tok _,by rw[Bq r];exact q⟩
 |_=>exact(e).elim
def yG(ha:PE X a ta)(he:∀whole,isTrue a X.env whole=(do let v<-whole;standAt a.pos;holding [v] (truthy v))):
  PT X a (fun σ H Q=>ta σ H fun x H'=>∃k,Oi X.K x H' k/\Q k H'):=by
 intro γ s σ H Q I h
 exact isTrue_plain (bZ (ha γ s σ H _ I h) fun v s1⟨x,H1,I1,r1,q1⟩=>Jk γ s1 σ H1 x v Q I1 r1 q1) (he _)
def vals1{us:List Value}(r:Vals [x] us):∃u,us=[u]/\RelV x u:=by
 cases r with
 |cons r1 r2=>cases r2;exact⟨_,rfl,r1⟩
def Ie:fG X (.type "int") (fun xs H Q=>(∃i,xs=[.int i]/\Q (.int i) H)\/∃k,xs=[.bl k]/\Q (.int (if k then 1 else 0)) H):=by
 intro γ s σ H xs us Q I r h
 rcases h with ⟨i,rfl,q⟩|⟨k,rfl,q⟩
 ·obtain⟨u,rfl,t,rfl⟩:=vals1 r
  exact call_int_int ⟨.int i,H,I,⟨_,rfl⟩,q⟩
 ·obtain⟨u,rfl,r1⟩:=vals1 r
  cases r1
  exact call_int_bool ⟨.int _,H,I.tok _,⟨_,rfl⟩,q⟩
def YK(K:QQq)(x:V)(H:Hp)(n:Nat):Prop:=
 match x with
 |.str y=>y.length<=sizeLine/\n=y.length
 |.ref p=>(∃xs,jx K H p xs/\n=xs.length)\/∃xs,jq K H p xs/\n=xs.length
 |_=>False
def Nr:fG X (.builtin "len") (fun xs H Q=>∃x n,xs=[x]/\YK X.K x H n/\Q (.int n) H):=by
 intro γ s σ H xs us Q I r h
 obtain⟨x,n,rfl,e,q⟩:=h
 obtain⟨u,rfl,rx⟩:=vals1 r
 have hs:=sizeLine_eq
 cases x with
 |str y=>
  obtain⟨t,rfl⟩:=rx
  obtain⟨hy,e'⟩:y.length<=sizeLine/\n=y.length:=e
  subst e'
  exact len_str (by omega) ⟨.int _,H,I.tok _,⟨_,rfl⟩,q⟩
 |ref p=>
  cases rx
  have e':=e
  rcases e' with ⟨xs,hx,e'⟩|⟨xs,hx,e'⟩
  ·subst e'
   obtain⟨its,r',pl,hz⟩:=I.list hx
   have hlen:=r'.length
   exact Calls.call_len_list pl.isList (by simp only[Qyq];omega) ⟨.int xs.length,H,I.tok _,⟨_,by simp only[Qyq];rw[hlen]⟩,q⟩
  ·subst e'
   obtain⟨its,r',pl,hz⟩:=I.tuple hx
   have hlen:=r'.length
   exact len_tuple pl (by simp only[Qyq];omega) ⟨.int xs.length,H,I.tok _,⟨_,by simp only[Qyq];rw[hlen]⟩,q⟩
 |_=>exact(e).elim
end
section
variable{prog:Program}{w:World}{A:Around}{E:QZq}{s:Shared}{K:QQq}{x dx C f:Addr}{mA:QZz}{name:Str}{v:Value}
end
def tB.some_of{o:Option Value}(r:tB (some v) o):∃u,o=some u/\RelV v u:=by
 cases o with
 |none=>exact(r).elim
 |some u=>exact⟨u,rfl,r⟩
section
variable{P:Program}{w:World}{H H':Hp}{h h':Heap}{a C dx:Addr}{fs fs':List (Str×V)}
end
section
variable{X:Cx}{γ:QQz}{σ:St}{H:Hp}{s:Shared}{a C dx:Addr}{fs:List (Str×V)}{f:Str}{v:V}{A:Around}{E:QZq}
end
section
variable{X:Cx}{o e value:Expr}{f:Str}{pos pos' tpos:Pos}{ta tv:TE}
end
section
variable{X:Cx}{γ:QQz}{σ:St}{H:Hp}{s:Shared}{A:Around}{E:QZq}{Q:QZq}{c:Value}{b:Bool}
end
structure ju(k:Nat)(A:Around):Prop where
 hd:A.handled=none
 dp:A.depth+3*k+5<recursionLimit
 un:A.units+16*k+200<cLine
theorem ju.deeper{A:Around}(r:ju (k+1) A)env:ju k (A.deeper env):=
 ⟨r.hd,by have:=r.dp;show A.depth+1+3*k+5<_;omega,by have:=r.un;show A.units+3+16*k+200<_;omega⟩
theorem ju.in1{k:Nat}{A:Around}(r:ju (k+1) A):ju k A.in1:=
 ⟨r.hd,by have:=r.dp;show A.depth+3*k+5<_;omega,by have:=r.un;show A.units+1+16*k+200<_;omega⟩
theorem ju.depth{A:Around}(r:ju k A):A.depth<recursionLimit:=by have:=r.dp;omega
def aau:TA:=fun _ H Q=>Q [] H
def Jw(ta:TE)(tr:TA):TA:=fun σ H Q=>ta σ H fun x H1=>tr σ H1 fun xs H2=>Q (x::xs) H2
section
variable{X:Cx}{e:Expr}{es:List Expr}{te:TE}{t:TA}{pos:Pos}
def eO:PA X [] aau:=fun _ _ _ _ H Q I h=>Calls.spliced_nil ⟨[],H,I,.nil,h⟩
def cD(ha:PE X e te)(hr:PA X es t)(hs:starEach (e::es) X.env=(false,eval e X.env)::starEach es X.env:=by rfl):PA X (e::es) (Jw te t):=by
 intro pos γ s σ H Q I h
 rw[hs]
 exact Calls.spliced_cons (bZ (ha γ s σ H _ I h) fun u s1⟨x,H1,I1,r1,q1⟩=>bZ (hr pos γ s1 σ H1 _ I1 q1) fun us s2⟨xs,H2,I2,r2,q2⟩=>⟨x::xs,H2,I2,.cons r1 r2,q2⟩)
noncomputable def adV(t:TA):TE:=fun σ H Q=>t σ H fun xs H1=>xs.length<=sizeLine/\∀p,H1 p=none->Q (.ref p) (upd H1 p (.tup xs))
noncomputable def adY(t:TA):TE:=fun σ H Q=>t σ H fun xs H1=>xs.length<=sizeLine/\∀p,H1 p=none->Q (.ref p) (upd H1 p (.lst xs))
def Wq{x1}(h:PA X es t):PE X (.Tuple es x1 pos) (adV t):=by
 intro γ s σ H Q I hq
 refine wpAny_Tuple_spliced (bZ (h pos γ s σ H _ I hq) fun us s1⟨xs,H1,I1,r,z,q⟩=>⟨by rw[<-r.length];exact z,?_⟩)
 refine⟨.ref s1.heap.objs.size,upd H1 s1.heap.objs.size _,I1.laid (fun b u e=>QWq _ e) (QVz _) ?_,rfl,q _ (I1.hok.fresh (QVz _))⟩
 exact⟨z,us,r,TupOk.new _ _⟩
def Wu(h:PA X es t):PE X (.List es pos) (adY t):=by
 intro γ s σ H Q I hq
 refine wpAny_List_spliced (bZ (h pos γ s σ H _ I hq) fun us s1⟨xs,H1,I1,r,z,q⟩=>⟨by rw[<-r.length];exact z,?_⟩)
 refine⟨.ref s1.heap.objs.size,upd H1 s1.heap.objs.size _,I1.laid (fun b u e=>QWq _ e) (QVz _) ?_,rfl,q _ (I1.hok.fresh (QVz _))⟩
 exact⟨z,us,0,r,Qzq _ rfl⟩
end
abbrev Sp:=List V->Hp->VK->XK->Prop
abbrev Ow:=List Env->Hp->Shared->XK->Value->Shared->Prop
structure Io(P:Program)(w:World)(K:QQq)(mg:QZz)(base:Heap)(A:Around)(outer:List Env)(s:Shared)(H:Hp):Prop where
 frames:A.frames=some outer
 mod:Mod K mg base
 bs:∀b o,base.get? b=some o->s.heap.get? b=some o/\H b=none
 bsz:base.objs.size<=s.heap.objs.size
 lM:s.heap.FunFrames base outer
 frf:∀b∈frs outer,H b=none
 hok:nF P w H s.heap
 bare:AllBare s.gens
def CE(outer:List Env)(P:Program)(w:World)(H:Hp)(s:Shared)(Q:VK)(u:Value)(s':Shared):Prop:=
 ∃v H',s'.os=s.os/\AllBare s'.gens/\Un (frs outer) [] H H' s.heap s'.heap/\nF P w H' s'.heap/\RelV v u/\Q v H'
def CR(CX:Ow)(outer:List Env)(P:Program)(w:World)(H:Hp)(s:Shared)(Q:VK)(E:XK)(r:Result)(s':Shared):Prop:=
 match r with
 |.ok (.ret u)=>CE outer P w H s Q u s'
 |.ok _=>False
 |.error e=>CX outer H s E e s'
structure o6(P:Program)(w:World)(K:QQq)(mg:QZz)(base:Heap)(CX:Ow)(k:Nat)(f:Addr)(fd:FuncData)(ps:List Str)(sp:Sp):Prop where
 len:∀vs H Q E,sp vs H Q E->vs.length=ps.length
 run:∀(A:Around)(outer:List Env)(s:Shared)(H:Hp)(args:Args)(us:List Value)(vs:List V)(Q:VK)(E:XK),ju k A->Io P w K mg base A outer s H->BindsTo s fd args (ps.zip us)->Vals vs us->sp vs H Q E->
  codeAny (model P w) A (.call (.ref f) args) (CR CX outer P w H s Q E) s
theorem Io.in1{P:Program}{w:World}{K:QQq}{mg:QZz}{base:Heap}{A:Around}{outer:List Env}{s:Shared}{H:Hp}(e:Io P w K mg base A outer s H):
  Io P w K mg base A.in1 outer s H:=⟨e.frames,e.mod,e.bs,e.bsz,e.lM,e.frf,e.hok,e.bare⟩
section
variable{X:Cx}{γ:QQz}{σ:St}{H:Hp}{s s':Shared}
def Inv.env0(I:Inv X γ σ H s):Io X.prog X.w X.K X.mg X.base X.A X.stack s H:=
 ⟨I.ok.frames,I.ok.mod,I.bs,Nat.le_trans I.ok.bsz I.sz,I.stack,I.Dh,I.hok,I.bare⟩
def Inv.after{u:Value}(I:Inv X γ σ H s)(h:CE X.stack X.prog X.w H s Q u s'):EP X γ σ Q u s':=by
 obtain⟨v,H',os,bare,un,hok,r,q⟩:=h
 obtain⟨hh,g,d,t,os'⟩:=s'
 obtain rfl:os'=s.os:=os
 exact⟨v,H',I.call un hok bare (fun b z=>absurd z (by simp)),r,q⟩
end
noncomputable def aaA(sp:Sp)(dvs:List V)(E:XK)(t:TA):TE:=fun σ H Q=>t σ H fun vs H1=>sp (vs++dvs) H1 Q E
def Binds(K:QQq)(fd:FuncData)(ps:List Str)(ds:List Value):Prop:=
 ∀(s:Shared)(us:List Value),K.In s.heap->(us++ds).length=ps.length->BindsTo s fd ⟨us,[]⟩ (ps.zip (us++ds))
def Binds.all{K:QQq}{fd:FuncData}(h:∀us:List Value,us.length=ps.length->bindArgs fd ⟨us,[]⟩=pure (ps.zip us)):Binds K fd ps []:=fun s us _ hl=>by
 rw[List.append_nil]at hl⊢
 exact .of_eq (h us hl)
def CP(CX:Ow)(X:Cx)(E:XK):Prop:=∀(γ:QQz)(σ:St)(H:Hp)(s:Shared)(e:Value)(s':Shared),Inv X γ σ H s->CX X.stack H s E e s'->X.xe e s'
section
variable{X:Cx}{CX:Ow}{k:Nat}{f C:Addr}{fd:FuncData}{ps:List Str}{sp:Sp}{dvs:List V}{ds:List Value}{E:XK}{x m:Str}{p pos apos:Pos}{e o:Expr}{es:List Expr}{ta:TE}{t:TA}
theorem V4{σ:St}{H:Hp}{Q:VK}{vs:List V}(F:o6 X.prog X.w X.K X.mg X.base CX k f fd ps sp)(hr:ju k X.A)(hb:Binds X.K fd ps ds)(hd:Vals dvs ds)(hx:CP CX X E)
  (I:Inv X γ σ H s)(r:Vals vs us)(h:sp (vs++dvs) H Q E):wpAny (model X.prog X.w) X.A (call (.ref f) us) (EP X γ σ Q) X.xe s:=by
 have r2:=r.append hd
 refine wpAny_call (codeAny_mono (F.run X.A X.stack s H ⟨us,[]⟩ _ _ Q E hr I.env0 (hb s us I.Zm (by rw[<-r2.length];exact F.len _ _ _ _ h)) r2 h) fun r s' hq=>?_)
 cases r with
 |error e=>exact hx γ σ H s e s' I hq
 |ok fl=>
  cases fl with
  |ret u=>exact I.after hq
  |next=>exact False.elim hq
  |brk=>exact False.elim hq
  |cont=>exact False.elim hq
def QJ(F:o6 X.prog X.w X.K X.mg X.base CX k f fd ps sp)(hr:ju k X.A)(hg:Gl X x)(hm:X.mg x=some (.ref f))(hk:PySem.W.keepIn X.K (.ref f)=true)(hb:Binds X.K fd ps ds)(hd:Vals dvs ds)(hx:CP CX X E)
  (ha:PA X (e::es) t)(hdb:(x==("__debug__":Str))=false:=by decide)(he:starEach (e::es) X.env=(false,eval e X.env)::starEach es X.env:=by rfl)(hpl:(backTo pos (starEach es X.env)).any (·.1)=false:=by rfl):
  PE X (.Call (.Name x p) (e::es) [] pos) (aaA sp dvs E t):=by
 intro γ s σ H Q I h
 exact wpAny_Call_Name_kw (Ek I hg hm (PySem.W.callWith_K I.ok.mod.kin hk (bZ (ha pos γ s σ H _ I h) fun us s1⟨vs,H1,I1,r,q⟩=>⟨I1.Zm,V4 F hr hb hd hx I1 r q⟩) he hpl) hdb)
end
section
variable{X:Cx}{CX:Ow}{k:Nat}{f C:Addr}{fd:FuncData}{ps ks:List Str}{sp:Sp}{E:XK}{x m:Str}{p pos apos kpos:Pos}{e o:Expr}{es:List Expr}{kws:List Keyword}{te ta:TE}{t tk:TA}{nm:Option Str}
variable{g:List Value->List Value->List Value}{gV:List V->List V->List V}
end
structure kW(N P:List Str)(sc:Scope):Prop where
 kind:sc.kind=.function
 co:sc.isCoroutine=false
 gen:sc.isGenerator=false
 nd:N.Nodup
 pre:N.take P.length=P
 par:∀x∈P,sc.names.lookup x=some .local\/sc.names.lookup x=some .cell
 nofree:∀y∈sc.names,y.2≠ .free
theorem vy{kindOf:Str->Option NameKind}:∀{binds:List (Str×Value)}{m:QZz},(∀v,(x,v)∉binds)->bindL kindOf binds m x=m x
 |[],_,_=>rfl
 |(n,v)::r,m,h=>by
  unfold bindL
  rw[vy fun w hw=>h w (QYq _ hw)]
  split
  ·have:x≠n:=by rintro rfl;exact h v QYz
   simp[this]
  ·rfl
theorem vA{kindOf:Str->Option NameKind}:∀{binds:List (Str×Value)}{m:QZz},(∀v,(x,v)∉binds)->bindC kindOf binds m x=m x
 |[],_,_=>rfl
 |(n,v)::r,m,h=>by
  unfold bindC
  rw[vA fun w hw=>h w (QYq _ hw)]
  split
  ·rfl
  ·have:x≠n:=by rintro rfl;exact h v QYz
   simp[this]
theorem vz{kindOf:Str->Option NameKind}{x:Str}{v:Value}:∀{P:List Str}{vs:List Value}{i:Nat}{m:QZz},P.Nodup->P[i]? =some x->vs[i]? =some v->kindOf x=some .local->
  bindL kindOf (P.zip vs) m x=some v
 |[],_,_,_,_,h,_,_=>by simp at h
 |_::_,[],_,_,_,_,h,_=>by simp at h
 |p::P,w::vs,0,m,nd,h1,h2,hk=>by
  simp at h1 h2;subst h1;subst h2
  show bindL kindOf ((p,w)::P.zip vs) m p=_
  unfold bindL
  rw[vy fun v hv=>(List.nodup_cons.mp nd).1 (List.of_mem_zip hv).1,if_pos hk]
  simp
 |p::P,w::vs,i+1,m,nd,h1,h2,hk=>by
  unfold bindL
  exact vz (List.nodup_cons.mp nd).2 (by simpa using h1) (by simpa using h2) hk
theorem vB{kindOf:Str->Option NameKind}{x:Str}{v:Value}:∀{P:List Str}{vs:List Value}{i:Nat}{m:QZz},P.Nodup->P[i]? =some x->vs[i]? =some v->kindOf x≠some .local->
  bindC kindOf (P.zip vs) m x=some v
 |[],_,_,_,_,h,_,_=>by simp at h
 |_::_,[],_,_,_,_,h,_=>by simp at h
 |p::P,w::vs,0,m,nd,h1,h2,hk=>by
  simp at h1 h2;subst h1;subst h2
  show bindC kindOf ((p,w)::P.zip vs) m p=_
  unfold bindC
  rw[vA fun v hv=>(List.nodup_cons.mp nd).1 (List.of_mem_zip hv).1,if_neg hk]
  simp
 |p::P,w::vs,i+1,m,nd,h1,h2,hk=>by
  unfold bindC
  exact vB (List.nodup_cons.mp nd).2 (by simpa using h1) (by simpa using h2) hk
def start(N:List Str)(vs:List V):St:=vs.map some++List.replicate (N.length-vs.length) none
noncomputable def Cd(CX:Ow)(P:Program)(w:World)(K:QQq)(mg:QZz)(base:Heap)(N:List Str)(qual:Str)(scope:Scope)(f:Addr)(cd:Value)(A:Around)(outer:List Env)(s:Shared)(H:Hp)(E:XK):Cx where
 prog:=P
 w:=w
 K:=K
 mg:=mg
 base:=base
 A:=A.deeper (envOfC qual scope s.heap.objs.size f cd)
 N:=N
 s₀:=s
 H₀:=H
 env:=envOfC qual scope s.heap.objs.size f cd
 outer:=outer
 stack:=envOfC qual scope s.heap.objs.size f cd::outer
 ex:=[]
 calm:=true
 fn:=fun _=>true
 pn:=[]
 xe:=fun e s'=>wpAny (model P w) (A.deeper (envOfC qual scope s.heap.objs.size f cd)) (leaving (envOfC qual scope s.heap.objs.size f cd) e) (fun _ s''=>CX outer H s E e s'') (fun e' s''=>CX outer H s E e' s'') s'
def zE{sc:Scope}{n:Nat}(h:sc.names.lookup x=some .cell):∃c,(cellsFrom n sc.names []).lookup x=some c:=by
 exact Option.isSome_iff_exists.mp (PySem.W.cellsFrom_some sc.names n [] (.inl h))
def Hx{CX:Ow}{w:World}{K:QQq}{base:Heap}{qual:Str}{f:Addr}{A:Around}{s s1:Shared}{E:XK}
  (S:kW N ps scope)(hd:A.handled=none)(e0:Io P w K mg base A outer s H)(hl:vs.length=ps.length)(r:Vals vs us)
  (x:InCallC s s.heap.objs.size (bindL (envOfC qual scope s.heap.objs.size f cd).kindOf (ps.zip us) fun _=>none) (cellsFrom (s.heap.objs.size+1) scope.names []) (bindC (envOfC qual scope s.heap.objs.size f cd).kindOf (ps.zip us) fun _=>none) s1):
  Inv (Cd CX P w K mg base N qual scope f cd A outer s H E) [] (start N vs) H s1:=by
 have hpl:ps.length<=N.length:=by have:=congrArg List.length S.pre;rw[List.length_take]at this;omega
 obtain⟨h1,tk,rfl,hk⟩:=x.done
 have noA:∀b:Addr,b∉(Cd CX P w K mg base N qual scope f cd A outer s H E).ex:=fun b z=>absurd (show b∈([])from z) (by simp)
 refine⟨⟨e0.mod,S.kind,rfl,rfl,QVz _,fun y z c h1 h2=>?_,fun y hy=>?_,fun y c _ h=>?_,fun _=>hd,Around.frames_deeper e0.frames,.inr ⟨rfl,rfl⟩,fun b z=>absurd z (noA b),e0.bs,e0.bsz,fun b _ _=>noA b,fun b z=>absurd z (noA b),e0.lM,e0.frf⟩,
  rfl,e0.bare,Un.kept hk,⟨_,x.toInCall.ns,fun i y v h1 h2 h3=>?_⟩,fun y c h=>⟨_,x.cell y c h⟩,e0.hok.fresh (QVz _),fun y c h=>?_,fun p hp=>absurd (show p∈([])from hp) (by simp),e0.hok.kept hk,?_⟩
 ·exact name_of_addr x.apart (PySem.mem_of_lookup h1) (PySem.mem_of_lookup h2)
 ·have hy:=hy
  rcases hy with hy|hy
  ·exact zE hy
  ·exact absurd rfl (S.nofree _ (PySem.mem_of_lookup hy))
 ·exact Nat.le_of_lt (x.above y c (PySem.mem_of_lookup h))
 ·have hi:i<vs.length:=by
   unfold start at h2
   by_cases hi:i<vs.length
   ·exact hi
   ·rw[QIz (by simpa using hi)]at h2
    rw[List.getElem?_replicate]at h2
    split at h2<;>cases h2
  have ha:vs[i]? =some v:=by
   unfold start at h2
   rw[Qwz (by simpa using hi),QFz]at h2
   cases e:vs[i]? with
   |none=>rw[e]at h2;cases h2
   |some a=>rw[e]at h2;cases h2;rfl
  obtain⟨u,hu,rv⟩:=r.get ha
  have hp:ps[i]? =some y:=by
   rw[<-S.pre,List.getElem?_take_of_lt (by omega)];exact h1
  have ndP:ps.Nodup:=by rw[<-S.pre];exact S.nd.sublist (List.take_sublist _ _)
  refine⟨u,rv,?_⟩
  rcases S.par y (QBz hp)with k|k
  ·exact .inl ⟨k,vz ndP hp hu k⟩
  ·obtain⟨c,e⟩:=zE k
   refine .inr ⟨.inl k,c,e,?_⟩
   have q:=x.cell y c e
   rw[vB ndP hp hu (by show scope.names.lookup y≠_;rw[k];decide)]at q
   exact q
 ·exact e0.hok.fresh (Nat.le_of_lt (x.above y c (PySem.mem_of_lookup h)))
 ·unfold start
  show _=N.length
  rw[QTq,QAq,List.length_replicate]
  omega
def acg{CX:Ow}{w:World}{K:QQq}{base:Heap}{k:Nat}{name qual:Str}{body:List Stmt}{dV kV doc pm cdv ct oc:Value}
{N ps:List Str} (lk:K.lookup f=some ⟨oc,od,.func (PySem.W.fnOf name qual params body scope dV kV doc pm an cdv ct),osl⟩) (hcd:PySem.W.codeIn K cdv qual=true) (S:kW N ps scope)
  (len:∀vs H Q E,sp vs H Q E->vs.length=ps.length)
  (hbody:∀(A:Around)(outer:List Env)(s:Shared)(H:Hp)(vs:List V)(Q:VK)(E:XK),ju k (A.deeper (envOfC qual scope s.heap.objs.size f cdv))->sp vs H Q E->
   ∃t,xH (Cd CX P w K mg base N qual scope f cdv A outer s H E) body t/\t {nx:=fun _ H'=>Q .non H',rt:=Q} (start N vs) H):
  o6 P w K mg base CX (k+1) f (PySem.W.fnOf name qual params body scope dV kV doc pm an cdv ct) ps sp:=by
 refine⟨len,fun A outer s H args us vs Q E hr e0 hb r hsp=>?_⟩
 have hl:=len _ _ _ _ hsp
 have KX:=e0.mod.kin.keeps fun b o e=>(e0.bs b o e).1
 have lim:=e0.mod.nolimit.keeps fun b o e=>(e0.bs b o e).1
 have hkind:∀y∈ps.zip us,scope.names.lookup y.1=some .local\/(scope.names.lookup y.1=some .cell/\((cellsFrom (s.heap.objs.size+1) scope.names []).lookup y.1).isSome=true):=fun⟨n,v⟩hy=>by
  rcases S.par n (List.of_mem_zip hy).1 with q|q
  ·exact .inl q
  ·exact .inr ⟨q,PySem.W.cellsFrom_some _ _ _ (.inl q)⟩
 refine codeAny_call_function hr.depth (KX _ _ lk) rfl S.co S.gen rfl (PySem.W.codeRec_of KX hcd) (hb _ _ _ _ ?_)
 refine wpAny_newFunctionEnv_cells S.kind hkind fun env he s1 x=>?_
 subst he
 refine⟨lim.keeps x.toInCall.keep,codeAny_func ?_⟩
 obtain⟨t,ht,hq⟩:=hbody A outer s H vs Q E (hr.deeper _) hsp
 have I:Inv (Cd CX P w K mg base N qual scope f cdv A outer s H E) [] _ H s1:=Hx S hr.hd e0 hl r x
 refine QGq (ht [] s1 _ H _ I hq) (fun fl s' hs=>?_) fun e s' hs=>hs
 have fin:∀{ζ:St}{H':Hp}{v:V}{u:Value},Inv (Cd CX P w K mg base N qual scope f cdv A outer s H E) [] ζ H' s'->RelV v u->Q v H'->CE outer P w H s Q u s':=
  fun{ζ H' v u}J rv q=>⟨v,H',J.os,J.bare,J.base,J.hok,rv,q⟩
 cases fl with
 |ret u=>
  obtain⟨v,ζ,H',J,rv,q⟩:=hs
  exact fin J rv q
 |next=>
  obtain⟨ζ,H',J,q⟩:=hs
  exact fin (v:=V.non) J rfl q
 |brk=>
  obtain⟨_,_,_,q⟩:=hs
  exact False.elim q
 |cont=>
  obtain⟨_,_,_,q⟩:=hs
  exact False.elim q
section
variable{X:Cx}{x:Str}{p pos:Pos}{e:Expr}{es:List Expr}{t:TA}{id T:String}{r:List V->Hp->VK->Prop}
def tCB(r:List V->Hp->VK->Prop)(t:TA):TE:=fun σ H Q=>t σ H fun vs H1=>r vs H1 Q
def qM(hc:fG X (.builtin id) r)(hg:Gl X x)(hm:X.mg x=none)(hv:bootBuiltins x=some (.builtin id))(ha:PA X (e::es) t)(hn:x≠"__name__":=by decide)(hdb:(x==("__debug__":Str))=false:=by decide)
  (he:starEach (e::es) X.env=(false,eval e X.env)::starEach es X.env:=by rfl)(hpl:(backTo pos (starEach es X.env)).any (·.1)=false:=by rfl):PE X (.Call (.Name x p) (e::es) [] pos) (tCB r t):=by
 intro γ s σ H Q I h
 exact wpAny_Call_Name_kw (jb I hg hm hv (PyProof.Rows.callWith_builtin1 (bZ (ha pos γ s σ H _ I h) fun us s1⟨vs,H1,I1,r1,q1⟩=>hc γ s1 σ H1 vs us Q I1 r1 q1) he hpl) hn hdb)
def nU(hc:fG X (.type T) r)(hg:Gl X x)(hm:X.mg x=none)(hv:bootBuiltins x=some (.type T))(ha:PA X (e::es) t)(hn:x≠"__name__":=by decide)(hdb:(x==("__debug__":Str))=false:=by decide)
  (he:starEach (e::es) X.env=(false,eval e X.env)::starEach es X.env:=by rfl)(hpl:(backTo pos (starEach es X.env)).any (·.1)=false:=by rfl):PE X (.Call (.Name x p) (e::es) [] pos) (tCB r t):=by
 intro γ s σ H Q I h
 exact wpAny_Call_Name_kw (jb I hg hm hv (PyProof.Rows.callWith_type1 (bZ (ha pos γ s σ H _ I h) fun us s1⟨vs,H1,I1,r1,q1⟩=>hc γ s1 σ H1 vs us Q I1 r1 q1) he hpl) hn hdb)
end
end L2
namespace HT
open PySem PyProof.Rows
section
open PySem.SeqAt
open PySem.AutoSeq1 (wpAny_loadPart')
open PySem.MeetsSeq PySem.MeetsSeq2 PySem.MeetsSeq3
end
section
variable{prog:Program}{w:World}{A:Around}{E:QZq}{s:Shared}
def R9{vs ws:List Value}(ht:IsTup s.heap t vs.toArray)(hb:IsTup s.heap b ws.toArray)(hv:vs≠[])
  (h1:ws=[]->Q (.ref t) s)(h2:ws≠[]->Q (.ref s.heap.objs.size) {s with heap:=s.heap.push {cls:=.type "tuple",data:=.seq (vs++ws).toArray}})
  (hsz:vs.length+ws.length<=sizeLine):wpAny (model prog w) A (binaryOp .Add (.ref t) (.ref b)) Q E s:=by
 obtain⟨⟨cls,dd,data,sl⟩,ho,hc,n,hd⟩:=id ht
 obtain⟨⟨cls2,dd2,data2,sl2⟩,ho2,hc2,n2,hd2⟩:=id hb
 subst hc hd hc2 hd2
 have e:vs.toArray++ws.toArray=(vs++ws).toArray:=by simp
 by_cases hw:ws=[]
 ·exact concat_meets ⟨_,ho,rfl⟩ ⟨_,ho2,rfl⟩ noFill_tuple_add seq_tuple_add PySem.F.slot_tuple_add PySem.F.entry_tuple_add (PySem.F.args_tuple_add_2 _ _)
   (tuple_addW1 t b vs.toArray ws.toArray n n2 dd dd2 sl sl2 (by simpa using hv) (by simp[hw])) ⟨ho,ho2,h1 hw⟩
 ·refine concat_meets ⟨_,ho,rfl⟩ ⟨_,ho2,rfl⟩ noFill_tuple_add seq_tuple_add PySem.F.slot_tuple_add PySem.F.entry_tuple_add (PySem.F.args_tuple_add_2 _ _)
   (tuple_addW2 t b vs.toArray ws.toArray n n2 dd dd2 sl sl2 (by simpa using hv) (by simpa using hw) (by rw[Qyq,Qyq];exact hsz)) ⟨ho,ho2,?_⟩
  rw[e]
  exact h2 hw
noncomputable def fD(n d:Nat):Option Int->Nat
 |none=>d
 |some v=>if v<0 then(v+(n:Int)).toNat else min v.toNat n
def mD n d:fD n d none=d:=rfl
def Fz v(n d:Nat):(if v<0 then max (v+(n:Int)) 0 else min v (n:Int))=((fD n d (some v):Nat):Int):=by
 show(if v<0 then max (v+n) 0 else min v n)=(((if v<0 then(v+(n:Int)).toNat else min v.toNat n):Nat))
 by_cases hv:v<0
 ·simp only[if_pos hv];omega
 ·simp only[if_neg hv];omega
def CN lo hi(n:Nat):Builtin.Slice.sliceAdjust lo hi 1 (n:Int)=(((fD n 0 lo:Nat):Int),((fD n n hi:Nat):Int)):=by
 have h1:¬(1<0):=by omega
 unfold Builtin.Slice.sliceAdjust
 refine Prod.ext ?_ ?_
 ·cases lo with
  |none=>rfl
  |some v=>exact Fz v n 0
 ·cases hi with
  |none=>rfl
  |some v=>exact Fz v n n
def Ay(i j:Nat):Builtin.Slice.slicePlaces (i:Int) (j:Int) 1=j-i:=by
 unfold Builtin.Slice.slicePlaces
 split<;>omega
def qC{o:Option Int}(p:IsPart v o)(h:Q o s):wpAny (model prog w) A (Builtin.Slice.slicePartIndex v) Q E s:=by
 cases p with
 |none=>exact slicePart_none h
 |int i t=>exact slicePart_int h
def ir{sl:Addr}{lo hi:Option Int}{n:Nat}(hs:s.heap.IsSliceOf sl vl vu .none)(pl:IsPart vl lo)(pu:IsPart vu hi)
  (h:Q (((fD n 0 lo:Nat):Int),1,fD n n hi-fD n 0 lo) s):wpAny (model prog w) A (Builtin.Slice.sliceApplied (.ref sl) (pure (n:Int))) Q E s:=by
 obtain⟨os,hos,hcs,hds⟩:=id hs
 refine QKq (QKq (QGz hos hds rfl (QKq (QGz hos hds rfl (QKq (QGz hos hds rfl (QKz ?_)))))))
 refine QKq (slicePart_none ?_)
 refine QKq (qC pl (QKq (qC pu (QKq (QKz ?_)))))
 show wpAny _ _ (match Builtin.Slice.sliceAdjust lo hi 1 n with|(lo,hi)=>pure (lo,(1:Int),Builtin.Slice.slicePlaces lo hi 1)) _ _ s
 rw[CN lo hi n]
 show wpAny _ _ (pure ((fD n 0 lo:Int),1,Builtin.Slice.slicePlaces ((fD n 0 lo:Nat)) ((fD n n hi:Nat)) 1)) _ _ s
 rw[Ay]
 exact QKz h
def Kg(xs:Array Value)(i k:Nat):((List.range k).filterMap fun(m:Nat)=>xs[((i:Int)+(m:Int)*1).toNat]?).toArray=((xs.toList.drop i).take k).toArray:=by
 have e:(fun(m:Nat)=>xs[(i+(m:Int)*1).toNat]?)=fun m=>xs[i+m]? :=by
  funext m
  have:(i+(m:Int)*1).toNat=i+m:=by omega
  rw[this]
 rw[e]
 have:=pick_run xs i k
 rw[List.filterMap_map]at this
 have e2:((fun x=>xs[x]?)∘fun x=>i+x)=fun m=>xs[i+m]? :=rfl
 rw[e2]at this
 rw[this]
theorem mX{t sl:Addr}{vl vu:Value}{lo hi:Option Int}(ht:IsTup s.heap t items)(hs:s.heap.IsSliceOf sl vl vu .none)(pl:IsPart vl lo)(pu:IsPart vu hi)
  (hw:¬(fD items.size 0 lo=0/\fD items.size items.size hi=items.size))
  (h:Q (.ref s.heap.objs.size) {s with heap:=s.heap.push {cls:=.type "tuple",data:=.seq ((items.toList.drop (fD items.size 0 lo)).take (fD items.size items.size hi-fD items.size 0 lo)).toArray}})
  (hsz:items.size<=sizeLine):wpAny (model prog w) A (getItem (.ref t) (.ref sl)) Q E s:=by
 have htake:sizeOk (.seq ((items.toList.drop (fD items.size 0 lo)).take (fD items.size items.size hi-fD items.size 0 lo)).toArray):=by
  show((items.toList.drop _).take _).toArray.size<=sizeLine
  rw[Qyq,List.length_take,List.length_drop,Array.length_toList]
  omega
 obtain⟨os,hos,hcs,hds⟩:=id hs
 unfold getItem
 try with_reducible refine Qqq ?_
 first|refine QKq _|skip
 refine QKq (wpAny_sequenceKey ht.typeIs (by decide) ?_)
 refine QKq (wpAny_callSpecial?_slot ht.typeIs PyProof.Rows.slot_tuple_getitem
  (Qzz PyProof.Rows.slot_tuple_getitem ht.typeIs entry_tuple_getitem ?_ (args_tuple_getitem _ _)))
 show wpAny _ _ (Builtin.Tuple.tupleItemsOf _>>=_) _ _ s
 refine QKq (tupleItemsOf_ ht ?_)
 refine QKq (wpAny_typeOf ⟨os,hos,hcs⟩ ?_)
 refine QKq (ir hs pl pu ?_)
 have hno:¬((((fD items.size 0 lo):Int)==0&&(1:Int)==1&&(fD items.size items.size hi-fD items.size 0 lo)==items.size)=true):=by
  intro q
  rw[QUq,QUq]at q
  have q1:=eq_of_beq q.1.1
  have q2:=eq_of_beq q.2
  exact hw ⟨by omega,by omega⟩
 show wpAny _ _ (if (((fD items.size 0 lo):Int)==0&&1==1&&_==items.size)=true then _ else _) _ _ s
 rw[if_neg hno,Kg]
 first
  |exact QKq (Qjq (QKz ⟨_,rfl,QKz h⟩) htake)
  |exact QKq _
  |exact QKq (QKq _)
  |exact QKq (QKq _)
end
end HT
namespace L2
open PySem PySem.Spec PyProof.Rows
abbrev TO:=St->Hp->(Option Int->Hp->Prop)->Prop
def PO(X:Cx)(e:Option Expr)(t:TO):Prop:=
 ∀(γ:QQz)(s:Shared)(σ:St)(H:Hp)(Q:Option Int->Hp->Prop),Inv X γ σ H s->t σ H Q->
  wpAny (model X.prog X.w) X.A (evalPart e X.env) (fun u s'=>∃o H',Inv X γ σ H' s'/\IsPart u o/\Q o H') X.xe s
def Py:TO:=fun _ H Q=>Q none H
def aas(t:TE):TO:=fun σ H Q=>t σ H fun x H1=>∃i,x=.int i/\Q (some i) H1
section
variable{X:Cx}{e:Expr}{te:TE}{lo hi:Option Expr}{tl th:TO}{pos p2:Pos}
def Qz:PO X none Py:=by
 intro γ s σ H Q I h
 exact QKz ⟨none,H,I,.none,h⟩
def Qy(h:PE X e te):PO X (some e) (aas te):=by
 intro γ s σ H Q I hw
 refine bZ (h γ s σ H _ I hw) fun u s1⟨x,H1,I1,r1,q1⟩=>?_
 obtain⟨i,rfl,q⟩:=q1
 obtain⟨t,rfl⟩:=r1
 exact⟨some i,H1,I1,.int i t,q⟩
def SQ(X:Cx)(r:V->Option Int->Option Int->Hp->VK->Prop):Prop:=
 ∀(γ:QQz)(s:Shared)(σ:St)(H:Hp)(x:V)(v vl vu:Value)(lo hi:Option Int)(sl:Addr)(Q:VK),Inv X γ σ H s->RelV x v->s.heap.IsSliceOf sl vl vu .none->IsPart vl lo->IsPart vu hi->r x lo hi H Q->
  ∃T id,typeLookup (.type T) "__getitem__"=pure (some (.builtin id))/\s.TypeIs v T/\wpAny (model X.prog X.w) X.A (getItem v (.ref sl)) (EP X γ σ Q) X.xe s
def SQ.or{r r':V->Option Int->Option Int->Hp->VK->Prop}(h:SQ X r)(h':SQ X r'):SQ X (fun x lo hi H Q=>r x lo hi H Q\/r' x lo hi H Q):=by
 intro γ s σ H x v vl vu lo hi sl Q I rx hs pl pu q
 rcases q with q|q
 ·exact h γ s σ H x v vl vu lo hi sl Q I rx hs pl pu q
 ·exact h' γ s σ H x v vl vu lo hi sl Q I rx hs pl pu q
noncomputable def tSl(r:V->Option Int->Option Int->Hp->VK->Prop)(te:TE)(tl th:TO):TE:=fun σ H Q=>te σ H fun x H1=>tl σ H1 fun l H2=>th σ H2 fun u H3=>r x l u H3 Q
def Kq(hr:SQ X r)(he:PE X e te)(hl:PO X lo tl)(hu:PO X hi th):PE X (.Subscript e (.Slice lo hi none p2) pos) (tSl r te tl th):=by
 intro γ s σ H Q I h
 refine Subscript_ (bZ (he γ s σ H _ I h) fun v s1⟨x,H1,I1,r1,q1⟩=>?_)
 refine wpAny_Slice (bZ (hl γ s1 σ H1 _ I1 q1) fun vl s2⟨l,H2,I2,pl,q2⟩=>bZ (hu γ s2 σ H2 _ I2 q2) fun vu s3⟨u,H3,I3,pu,q3⟩=>?_)
 refine QKz ?_
 obtain⟨T,id,hT,ht,hg⟩:=hr γ {s3 with heap:=s3.heap.push {cls:=.type "slice",data:=.fields #[vl,vu,.none]}} σ H3 x v vl vu l u s3.heap.objs.size Q (I3.kept fun b ob q=>QWq _ q) r1 (Heap.IsSliceOf.new ..) pl pu q3
 exact tail_any ht hT hg (by with_unfolding_all rfl)
noncomputable def w6(xs:List V)(lo hi:Option Int):List V:=(xs.drop (HT.fD xs.length 0 lo)).take (HT.fD xs.length xs.length hi-HT.fD xs.length 0 lo)
def pI xs lo hi:(w6 xs lo hi).length<=xs.length:=by
 unfold w6
 rw[List.length_take,List.length_drop]
 omega
noncomputable def aa3(K:QQq):V->Option Int->Option Int->Hp->VK->Prop:=fun x lo hi H Q=>∃a xs,x=.ref a/\jq K H a xs/\
 ¬(HT.fD xs.length 0 lo=0/\HT.fD xs.length xs.length hi=xs.length)/\∀p,H p=none->Q (.ref p) (upd H p (.tup (w6 xs lo hi)))
def VR:SQ X (aa3 X.K):=by
 intro γ s σ H x v vl vu lo hi sl Q I rx hs pl pu h
 obtain⟨a,xs,rfl,hx,hw,q⟩:=h
 cases rx
 obtain⟨its,r,ht,hz⟩:=I.tuple hx
 have hlen:its.toArray.size=xs.length:=by rw[Qyq];exact r.length.symm
 refine⟨"tuple",_,PyProof.Rows.slot_tuple_getitem.lookup,ht.typeIs,?_⟩
 refine HT.mX ht hs pl pu (by rw[hlen];exact hw) ?_ (by rw[hlen];exact hz)
 rw[hlen]
 refine⟨.ref s.heap.objs.size,_,I.laid (fun b ob q=>QWq _ q) (QVz _) ?_,rfl,q _ (I.hok.fresh (QVz _))⟩
 exact⟨Nat.le_trans (pI xs lo hi) hz,_,(r.drop _).take _,TupOk.new _ _⟩
noncomputable def abe(K:QQq):R2:=fun x y H Q=>∃a b xs ys,x=.ref a/\y=.ref b/\jq K H a xs/\jq K H b ys/\xs≠[]/\xs.length+ys.length<=sizeLine/\
 (ys=[]->Q (.ref a) H)/\(ys≠[]->∀p,H p=none->Q (.ref p) (upd H p (.tup (xs++ys))))
def Vals.bC{us:List Value}(r:Vals xs us):us=[]↔xs=[]:=by
 cases r with
 |nil=>simp
 |cons _ _=>simp
def QT:fL X (binaryOp .Add) (abe X.K):=by
 intro γ s σ H x y v u Q I rx ry h
 obtain⟨a,b,xs,ys,rfl,rfl,ha,hb,hx,hz,q1,q2⟩:=h
 cases rx
 cases ry
 obtain⟨its,r1,p1,_⟩:=I.tuple ha
 obtain⟨its2,r2,p2,_⟩:=I.tuple hb
 refine HT.R9 p1 p2 (fun z=>hx (r1.bC.mp z)) (fun z=>⟨.ref a,H,I,rfl,q1 (r2.bC.mp z)⟩) (fun z=>?_) (by rw[<-r1.length,<-r2.length];exact hz)
 refine⟨.ref s.heap.objs.size,_,I.laid (fun b ob q=>QWq _ q) (QVz _) ?_,rfl,q2 (fun w=>z (r2.bC.mpr w)) _ (I.hok.fresh (QVz _))⟩
 exact⟨by rw[QTq];exact hz,_,r1.append r2,TupOk.new _ _⟩
end
noncomputable def Rt(n:Nat)(i:Int):Option Nat:=if 0<=i then(if i<n then some i.toNat else none)else if-(n:Int)<=i then some (i+n).toNat else none
def Yz{α:Type}(xs:List α)(i:Int):Option α:=(Rt xs.length i).bind fun j=>xs[j]?
def Ew{i:Int}(h:Rt n i=some j):seqIndex? i n=some j/\j<n/\ -(n:Int)<=i/\i<n:=by
 unfold Rt at h
 by_cases h0:0<=i
 ·rw[if_pos h0]at h
  by_cases h1:i<n
  ·rw[if_pos h1]at h
   have e:=QEq h
   exact⟨by rw[seqIndex_of h0 h1,e],by omega,by omega,h1⟩
  ·rw[if_neg h1]at h;cases h
 ·rw[if_neg h0]at h
  by_cases h1: -n<=i
  ·rw[if_pos h1]at h
   have e:=QEq h
   exact⟨by rw[seqIndex_neg (by omega) h1,e],by omega,h1,by omega⟩
  ·rw[if_neg h1]at h;cases h
def xx{xs:List α}{v:α}(h:Yz xs i=some v):∃j,seqIndex? i xs.length=some j/\xs[j]? =some v/\j<xs.length/\ -(xs.length:Int)<=i/\i<xs.length:=by
 unfold Yz at h
 cases e:Rt xs.length i with
 |none=>rw[e]at h;cases h
 |some j=>
  rw[e]at h
  obtain⟨h1,h2,h3,h4⟩:=Ew e
  exact⟨j,h1,h,h2,h3,h4⟩
def xG(b:Expr):Prop:=∀o i,subscripted b false o i=operate [o,i] (getItem o i)
def Iz(X:Cx)(r:R2):Prop:=
 ∀(value slice:Expr)(γ:QQz)(s:Shared)(σ:St)(H:Hp)(x y:V)(v u:Value)(Q:VK),Inv X γ σ H s->RelV x v->RelV y u->r x y H Q->
  subscripted slice false v u=operate [v,u] (getItem v u)->wpAny (model X.prog X.w) X.A (subscriptTail value slice v u) (EP X γ σ Q) X.xe s
def YJ(X:Cx)(id:String)(r:V->List V->Hp->VK->Prop):Prop:=
 ∀(γ:QQz)(s:Shared)(σ:St)(H:Hp)(x:V)(xs:List V)(v:Value)(us:List Value)(Q:VK),Inv X γ σ H s->RelV x v->Vals xs us->r x xs H Q->
  wpAny (model X.prog X.w) X.A (call (.builtin id) (v::us)) (EP X γ σ Q) X.xe s
section
variable{X:Cx}{a b:Expr}{ta tb:TE}{pos:Pos}
def Iz.or{r r':R2}(h:Iz X r)(h':Iz X r'):Iz X (fun x y H Q=>r x y H Q\/r' x y H Q):=by
 intro value slice γ s σ H x y v u Q I rx ry q hs
 rcases q with q|q
 ·exact h value slice γ s σ H x y v u Q I rx ry q hs
 ·exact h' value slice γ s σ H x y v u Q I rx ry q hs
def Ui(hr:Iz X r)(ha:PE X a ta)(hb:PE X b tb)(hs:xG b):PE X (.Subscript a b pos) (Ze r ta tb):=by
 intro γ s σ H Q I h
 exact Subscript_ (Yx ha hb I h fun v u s2 x y H2 I2 rx ry q=>hr a b γ s2 σ H2 x y v u Q I2 rx ry q (hs _ _))
noncomputable def Wc(K:QQq):R2:=fun x y H Q=>∃p xs i v,x=.ref p/\y=.int i/\jx K H p xs/\Yz xs i=some v/\Q v H
noncomputable def Wb(K:QQq):R2:=fun x y H Q=>∃p xs i v,x=.ref p/\y=.int i/\jq K H p xs/\Yz xs i=some v/\Q v H
noncomputable def J3:R2:=fun x y H Q=>∃z i c,x=.str z/\y=.int i/\z.length<=sizeLine/\Yz z.cps.toList i=some c/\Q (.str ⟨#[c]⟩) H
def Eu:Iz X (Wc X.K):=by
 intro value slice γ s σ H x y v u Q I rx ry h hs
 obtain⟨p,xs,i,z,rfl,rfl,hq,he,q⟩:=h
 cases rx
 obtain⟨t,rfl⟩:=ry
 obtain⟨its,r,pl,hz⟩:=I.list hq
 obtain⟨j,h1,h2,h3,h4,h5⟩:=xx he
 obtain⟨w,ew,rw'⟩:=r.get h2
 have hl:=r.length
 have hn:=wB
 have fin:EP X γ σ Q w s:=⟨z,H,I,rw',q⟩
 by_cases h0:0<=i
 ·have hj:i.toNat=j:=by
   rw[seqIndex_of h0 h5]at h1
   exact QEq h1
  exact item_listR pl.isList h0 (by omega) (by rw[hj];simpa using ew) fin hs
 ·have hj:(i+its.toArray.size).toNat=j:=by
   rw[seqIndex_neg (by omega) h4]at h1
   rw[Qyq,<-hl]
   exact QEq h1
  exact subscriptTail_builtinR pl.isList.typeIs slot_list_getitem.lookup
   (wpAny_getItem_list_neg pl.isList (by omega) (by rw[Qyq]<;>omega) (by omega) (by rw[hj];simpa using ew) ⟨rfl,fin⟩) hs
def Lx:Iz X (Wb X.K):=by
 intro value slice γ s σ H x y v u Q I rx ry h hs
 obtain⟨p,xs,i,z,rfl,rfl,hq,he,q⟩:=h
 cases rx
 obtain⟨t,rfl⟩:=ry
 obtain⟨its,r,pl,hz⟩:=I.tuple hq
 obtain⟨j,h1,h2,h3,h4,h5⟩:=xx he
 obtain⟨w,ew,rw'⟩:=r.get h2
 have hn:=wB
 exact subscriptTail_builtinR pl.typeIs slot_tuple_getitem.lookup
  (getItem_tuple pl (by omega) (by omega) (by rw[Qyq,<-r.length];exact h1) (by simpa using ew) ⟨rfl,⟨z,H,I,rw',q⟩⟩) hs
def Xo:Iz X J3:=by
 intro value slice γ s σ H x y v u Q I rx ry h hs
 obtain⟨z,i,c,rfl,rfl,hz,he,q⟩:=h
 obtain⟨t,rfl⟩:=rx
 obtain⟨t',rfl⟩:=ry
 obtain⟨j,h1,h2,h3,h4,h5⟩:=xx he
 have hl:z.cps.toList.length=z.length:=by simp[Str.length]
 rw[hl]at h1 h4 h5
 have hn:=wB
 exact tail_any (typeIs_str s z t) slot_str_getitem.lookup (getItem_str (c:=c) (by
  have e1:decide (i< -(2 ^63:Int))=false:=QEz (by omega)
  have e2:decide (i>=2 ^63)=false:=QEz (by omega)
  rw[e1,e2,Bool.or_false]) (by rw[h1];simpa using h2) ⟨.str ⟨#[c]⟩,H,I.tok _,⟨_,rfl⟩,q⟩) hs
def rIx(K:QQq):R2:=fun x y H Q=>Wc K x y H Q\/Wb K x y H Q\/J3 x y H Q
def Ly:Iz X (rIx X.K):=Eu.or (Lx.or Xo)
def Bg(its:List Value)n j u:Obj.mapSeq (·.setIfInBounds j u) {cls:=.type "list",data:=.seq its.toArray n}={cls:=.type "list",data:=.seq (its.set j u).toArray n}:=by
 simp[Obj.mapSeq]
theorem Inv.lst{γ:QQz}{σ:St}{H:Hp}{s:Shared}{p:Addr}{xs:List V}(I:Inv X γ σ H s)(h:H p=some (.lst xs)):
  ∃(its:List Value)(n:Nat),Vals xs its/\s.heap.get? p=some {cls:=.type "list",data:=.seq its.toArray n}/\xs.length<=sizeLine:=by
 obtain⟨z,its,n,r,e⟩:=I.hok p _ h
 exact⟨its,n,r,e,z⟩
def Inv.W8{σ:St}{H:Hp}{p:Addr}{its its':List Value}{n n':Nat}(I:Inv X γ σ H s)(h:H p=some (.lst xs))
  (ho:s.heap.get? p=some {cls:=.type "list",data:=.seq its.toArray n})(hf:f {cls:=.type "list",data:=.seq its.toArray n}={cls:=.type "list",data:=.seq its'.toArray n'})(r:Vals ys its')(hz:ys.length<=sizeLine)t:
  Inv X γ σ (upd H p (.lst ys)) {s with heap:=s.heap.update p f,toks:=t}:=by
 have e:(s.heap.update p f).get? p=some {cls:=.type "list",data:=.seq its'.toArray n'}:=by
  rw[Heap.get?_update_self f ho (by rw[hf]<;>rfl),hf]
 refine I.write (by rw[h];trivial) (.inl rfl) (fun b u hb q=>(Heap.get?_update_other _ _ (Ne.symm hb)).trans q) ⟨_,e⟩ ?_
 exact⟨hz,its',n',r,e⟩
noncomputable def T9:V->V->V->Hp->(Hp->Prop)->Prop:=fun o i v H Q=>∃p xs k j,o=.ref p/\i=.int k/\H p=some (.lst xs)/\Rt xs.length k=some j/\Q (upd H p (.lst (xs.set j v)))
def set_list:Il X T9:=by
 intro γ s σ H o i v ov iv u Q I ro ri rv h
 obtain⟨p,xs,k,j,rfl,rfl,hp,hj,q⟩:=h
 cases ro
 obtain⟨t,rfl⟩:=ri
 obtain⟨its,n,r,ho,hz⟩:=I.lst hp
 obtain⟨h1,h2,h3,h4⟩:=Ew hj
 have hl:=r.length
 have hn:=wB
 have I':=
  I.W8 hp ho (Bg its n j u) (r.set rv j) (by rw[List.length_set];exact hz) s.toks
 by_cases h0:0<=k
 ·have hk:k.toNat=j:=by
   rw[seqIndex_of h0 h4]at h1
   exact QEq h1
  exact PySem.W.ki_setAt ho h0 (by omega) (by rw[Qyq,<-hl];exact h4) (by rw[hk];exact⟨_,I',q⟩)
 ·have hk:(k+its.toArray.size).toNat=j:=by
   rw[seqIndex_neg (by omega) h3]at h1
   rw[Qyq,<-hl]
   exact QEq h1
  exact PySem.W.ki_setBack ho (by omega) (by rw[Qyq,<-hl];exact h3) (by omega) (by rw[hk];exact⟨_,I',q⟩)
def vU lo hi n:(sliceBounds lo hi none n).1=((HT.fD n 0 lo:Nat):Int)/\(sliceBounds lo hi none n).2.1=((HT.fD n n hi:Nat):Int)/\(sliceBounds lo hi none n).2.2=1:=by
 refine⟨?_,?_,rfl⟩
 ·cases lo with
  |none=>simp[sliceBounds,HT.fD]
  |some i=>
   simp only[sliceBounds,HT.fD,Option.getD_none,show 1>0 by decide,if_true]
   by_cases h:i<0
   ·simp only[h,if_true]<;>omega
   ·simp only[h,if_false]<;>omega
 ·cases hi with
  |none=>simp[sliceBounds,HT.fD]
  |some i=>
   simp only[sliceBounds,HT.fD,Option.getD_none,show 1>0 by decide,if_true]
   by_cases h:i<0
   ·simp only[h,if_true]<;>omega
   ·simp only[h,if_false]<;>omega
def tO(its:List Value)lo hi:slicePick its.toArray lo hi none=((its.drop (HT.fD its.length 0 lo)).take (HT.fD its.length its.length hi-HT.fD its.length 0 lo)).toArray:=by
 obtain⟨h1,h2,h3⟩:=vU lo hi its.toArray.size
 unfold slicePick
 rw[h1,h2,h3]
 simp only[sliceRange_one,pick_run,Qyq]<;>rfl
noncomputable def aa4(K:QQq):V->Option Int->Option Int->Hp->VK->Prop:=fun x lo hi H Q=>∃a xs,x=.ref a/\jx K H a xs/\∀p,H p=none->Q (.ref p) (upd H p (.lst (w6 xs lo hi)))
def PK:SQ X (aa4 X.K):=by
 intro γ s σ H x v vl vu lo hi sl Q I rx hs pl pu h
 obtain⟨a,xs,rfl,hx,q⟩:=h
 cases rx
 obtain⟨its,r,ht,hz⟩:=I.list hx
 have hlen:=r.length
 refine⟨"list",_,slot_list_getitem.lookup,ht.isList.typeIs,?_⟩
 refine wpAny_getItem_list_slice ht.isList hs pl pu .none (by simp) ?_ (by rw[Qyq]<;>omega)
 rw[tO,<-hlen]
 refine⟨.ref s.heap.objs.size,_,I.laid (fun b ob q=>QWq _ q) (QVz _) ?_,rfl,q _ (I.hok.fresh (QVz _))⟩
 exact⟨Nat.le_trans (pI xs lo hi) hz,_,0,(r.drop _).take _,Qzq _ rfl⟩
def jo:V->Bool
 |.non=>true
 |.bl _=>true
 |.int _=>true
 |.str _=>true
 |_=>false
noncomputable def MN:V->V->Bool
 |.non,.non=>true
 |.bl a,.bl b=>a==b
 |.bl a,.int b=>(if a then 1 else 0)==b
 |.int a,.bl b=>a==(if b then 1 else 0)
 |.int a,.int b=>a==b
 |.str a,.str b=>a==b
 |_,_=>false
def Yq{s:Shared}{u v:Value}(ry:RelV y u)(rx:RelV x v)(fy:jo y=true)(fx:jo x=true):SeqAt.EqAt A s u v (MN y x):=by
 cases y with
 |non=>
  cases ry
  cases x with
  |non=>cases rx;exact SeqAt.EqAt.same _
  |bl b=>cases rx;exact SeqAt.EqAt.none_bool b
  |int b=>obtain⟨t,rfl⟩:=rx;exact SeqAt.EqAt.none_int b t
  |str b=>obtain⟨t,rfl⟩:=rx;exact SeqAt.EqAt.none_str b t
  |_=>exact absurd (fx) Qjz
 |bl a=>
  cases ry
  cases x with
  |non=>cases rx;exact SeqAt.EqAt.bool_none a
  |bl b=>cases rx;exact SeqAt.EqAt.bool_bool a b
  |int b=>obtain⟨t,rfl⟩:=rx;exact SeqAt.EqAt.bool_int a b t
  |str b=>obtain⟨t,rfl⟩:=rx;exact SeqAt.EqAt.bool_str a b t
  |_=>exact absurd (fx) Qjz
 |int a=>
  obtain⟨t',rfl⟩:=ry
  cases x with
  |non=>cases rx;exact SeqAt.EqAt.int_none a t'
  |bl b=>cases rx;exact SeqAt.EqAt.int_bool a t' b
  |int b=>obtain⟨t,rfl⟩:=rx;exact SeqAt.EqAt.int_int a t' b t
  |str b=>obtain⟨t,rfl⟩:=rx;exact SeqAt.EqAt.int_str a t' b t
  |_=>exact absurd (fx) Qjz
 |str a=>
  obtain⟨t',rfl⟩:=ry
  cases x with
  |non=>cases rx;exact SeqAt.EqAt.str_none a t'
  |bl b=>cases rx;exact SeqAt.EqAt.str_bool a t' b
  |int b=>obtain⟨t,rfl⟩:=rx;exact SeqAt.EqAt.str_int a t' b t
  |str b=>obtain⟨t,rfl⟩:=rx;exact SeqAt.EqAt.str_str a t' b t
  |_=>exact absurd (fx) Qjz
 |_=>exact absurd (fy) Qjz
noncomputable def UJ(x:V)(u:Value):Bool:=match u with
 |.none=>MN .non x
 |.bool b=>MN (.bl b) x
 |.int i _=>MN (.int i) x
 |.str z _=>MN (.str z) x
 |_=>false
def BR{u:Value}(r:RelV y u)(f:jo y=true):UJ x u=MN y x:=by
 cases y with
 |non=>cases r;rfl
 |bl b=>cases r;rfl
 |int i=>obtain⟨t,rfl⟩:=r;rfl
 |str z=>obtain⟨t,rfl⟩:=r;rfl
 |_=>exact absurd (f) Qjz
theorem nA{x:V}:∀{xs:List V}{us:List Value},Vals xs us->xs.all jo=true->us.any (UJ x)=xs.any fun y=>MN y x
 |_,_,.nil=>fun _=>rfl
 |y::xs,u::us,.cons r t=>fun f=>by
  rw[List.all_cons,QUq]at f
  rw[List.any_cons,List.any_cons,BR r f.1,nA t f.2]
theorem f9{A:Around}{s:Shared}{x:V}{v:Value}(rx:RelV x v)(fx:jo x=true):∀{xs:List V}{us:List Value},Vals xs us->xs.all jo=true->∀u∈us,SeqAt.EqAt A s u v (UJ x u)
 |_,_,.nil=>fun _=>fun u hu=>by cases hu
 |y::xs,u::us,.cons r t=>fun f=>fun u' hu=>by
  rw[List.all_cons,QUq]at f
  rcases QCq.mp hu with rfl|hu
  ·rw[BR r f.1];exact Yq r rx f.1 fx
  ·exact f9 rx fx t f.2 u' hu
def inV(x:V)(xs:List V):Bool:=xs.any fun y=>MN y x
noncomputable def rIn(K:QQq)(neg:Bool):R2:=fun x y H Q=>∃p xs,y=.ref p/\(jx K H p xs\/jq K H p xs)/\jo x=true/\xs.all jo=true/\Q (.bl (if neg then !inV x xs else inV x xs)) H
def Ha:fL X (compareOp .In) (rIn X.K false):=by
 intro γ s σ H x y v u Q I rx ry h
 obtain⟨p,xs,rfl,hq,fx,fs,q⟩:=h
 cases ry
 rcases hq with hq|hq
 ·obtain⟨its,r,pl,hz⟩:=I.list hq
  refine SeqAt.in_listAt _ pl.isList (fun w hw=>f9 rx fx r fs w (by simpa using hw)) ⟨.bl _,H,I,rfl,?_⟩
  rw[show its.toArray.any _=its.any (UJ x) by simp,nA r fs]
  exact q
 ·obtain⟨its,r,pl,hz⟩:=I.tuple hq
  refine SeqAt.in_tupleAt _ pl (fun w hw=>f9 rx fx r fs w (by simpa using hw)) ⟨.bl _,H,I,rfl,?_⟩
  rw[show its.toArray.any _=its.any (UJ x) by simp,nA r fs]
  exact q
def wj:fL X (compareOp .NotIn) (rIn X.K true):=by
 intro γ s σ H x y v u Q I rx ry h
 obtain⟨p,xs,rfl,hq,fx,fs,q⟩:=h
 cases ry
 rcases hq with hq|hq
 ·obtain⟨its,r,pl,hz⟩:=I.list hq
  refine SeqAt.notIn_listAt _ pl.isList (fun w hw=>f9 rx fx r fs w (by simpa using hw)) ⟨.bl _,H,I,rfl,?_⟩
  rw[show its.toArray.any _=its.any (UJ x) by simp,nA r fs]
  exact q
 ·obtain⟨its,r,pl,hz⟩:=I.tuple hq
  refine SeqAt.notIn_tupleAt _ pl (fun w hw=>f9 rx fx r fs w (by simpa using hw)) ⟨.bl _,H,I,rfl,?_⟩
  rw[show its.toArray.any _=its.any (UJ x) by simp,nA r fs]
  exact q
def xn:fG X (.type "list") (fun xs H Q=>∃p ys,xs=[.ref p]/\(jx X.K H p ys\/jq X.K H p ys)/\∀l,H l=none->Q (.ref l) (upd H l (.lst ys))):=by
 intro γ s σ H xs us Q I r h
 obtain⟨p,ys,rfl,hq,q⟩:=h
 obtain⟨u,rfl,rx⟩:=vals1 r
 cases rx
 have fin:∀its,Vals ys its->ys.length<=sizeLine->∀h' c',_->
   h'.get? s.heap.objs.size=some {cls:=.type "list",dict:=none,data:=.seq its.toArray c',slots:= #[]}->EP X γ σ Q _ {s with heap:=h'}:=fun its r' hz h' c' kp e=>
  ⟨.ref s.heap.objs.size,_,I.laid kp (QVz _) (show bY X.prog X.w _ h' _ (.lst ys)from⟨hz,its,c',r',e⟩),rfl,q _ (I.hok.fresh (QVz _))⟩
 rcases hq with hq|hq
 ·obtain⟨its,r',pl,hz⟩:=I.list hq
  have hlen:=r'.length
  obtain⟨o,ho,hc,n,hd⟩:=pl.isList
  exact call_list_seq p (.inl rfl) ho hc hd (fun h' c' kp e=>fin its r' hz h' c' kp e) (by simp only[Qyq]<;>omega)
 ·obtain⟨its,r',pl,hz⟩:=I.tuple hq
  have hlen:=r'.length
  obtain⟨o,ho,hc,n,hd⟩:=pl
  exact call_list_seq p (.inr rfl) ho hc hd (fun h' c' kp e=>fin its r' hz h' c' kp e) (by simp only[Qyq]<;>omega)
def ug:fG X (.type "tuple") (fun xs H Q=>∃p ys,xs=[.ref p]/\((jx X.K H p ys/\∀l,H l=none->Q (.ref l) (upd H l (.tup ys)))\/(jq X.K H p ys/\Q (.ref p) H))):=by
 intro γ s σ H xs us Q I r h
 obtain⟨p,ys,rfl,h⟩:=h
 obtain⟨u,rfl,rx⟩:=vals1 r
 cases rx
 rcases h with ⟨hq,q⟩|⟨hq,q⟩
 ·obtain⟨its,r',pl,hz⟩:=I.list hq
  have hlen:=r'.length
  refine call_tuple_list pl.isList (fun h' kp=>?_) (by simp only[Qyq]<;>omega)
  have I1:=I.kept (t':=s.toks) kp
  have I2:=
   I1.laid (t':=s.toks) (fun b o e=>QWq _ e) (QVz _) (show bY X.prog X.w _ _ _ (.tup ys)from⟨hz,its,r',TupOk.new _ _⟩)
  exact⟨.ref h'.objs.size,_,I2,rfl,q _ (I1.hok.fresh (QVz _))⟩
 ·obtain⟨its,r',pl,hz⟩:=I.tuple hq
  exact call_tuple_same pl ⟨.ref p,H,I,rfl,q⟩
def tyV(K:QQq)(T:String)(x:V)(H:Hp):Prop:=match x with
 |.str _=>T="str"
 |.int _=>T="int"
 |.ref p=>(T="list"/\∃xs,jx K H p xs)\/(T="tuple"/\∃o,K.lookup p=some o/\o.cls=.type "tuple"/\o.dict=none)
 |_=>False
theorem Jf{σ:St}{H:Hp}{T:String}{x:V}(I:Inv X γ σ H s)(r:RelV x v)(ty:tyV X.K T x H):
  s.TypeIs v T/\∀a,v=.ref a->∃ob,s.heap.get? a=some ob/\ob.dict=none:=by
 cases x with
 |str z=>
  obtain⟨t,rfl⟩:=r
  cases (ty)
  exact⟨typeIs_str s z t,fun _ e=>nomatch e⟩
 |int i=>
  obtain⟨t,rfl⟩:=r
  cases (ty)
  exact⟨typeIs_int s i t,fun _ e=>nomatch e⟩
 |ref p=>
  cases r
  rcases ty with ⟨rfl,xs,hq⟩|⟨rfl,o,hk,hc,hd⟩
  ·obtain⟨its,_,pl,_⟩:=I.list hq
   refine⟨pl.isList.typeIs,fun a e=>?_⟩
   cases e
   obtain⟨o,n,e,c,hd,_⟩:=pl
   exact⟨o,e,hd⟩
  ·refine⟨⟨o,I.Zm p o hk,hc⟩,fun a e=>?_⟩
   cases e
   exact⟨o,I.Zm _ o hk,hd⟩
 |_=>exact False.elim ty
noncomputable def ad2(K:QQq)(T:String)(r:V->List V->Hp->VK->Prop)(to:TE):TE:=fun σ H Q=>to σ H fun x H1=>tyV K T x H1/\r x [] H1 Q
noncomputable def tBM(K:QQq)(T:String)(r:V->List V->Hp->VK->Prop)(to:TE)(t:TA):TE:=fun σ H Q=>to σ H fun x H1=>tyV K T x H1/\t σ H1 fun xs H2=>r x xs H2 Q
variable{o e:Expr}{es:List Expr}{to:TE}{t:TA}{name:Str}{apos cpos:Pos}{T id:String}{r:V->List V->Hp->VK->Prop}
def Wx(pa:PlainAttrs T)(slot:Slot T name id)(hty:typeOf (.builtin id)=pure (.type "method_descriptor"))(hm:YJ X id r)(ho:PE X o to)
  (hbase:attributeBase o name X.env (eval o X.env)=eval o X.env:=by rfl)(hline:(apos.endLine==cpos.line)=true:=by rfl):PE X (.Call (.Attribute o name apos) [] [] cpos) (ad2 X.K T r to):=by
 intro γ s σ H Q I h
 refine wpAny_Call_method0_late hbase hline (bZ (ho γ s σ H _ I h) fun v s1⟨x,H1,I1,r1,ty,q1⟩=>?_)
 obtain⟨h1,h2⟩:=Jf I1 r1 ty
 exact⟨T,id,pa,slot,hty,h1,h2,Calls.callWith_builtin rfl (PySem.evalArgs_none (hm γ s1 σ H1 x [] v [] Q I1 r1 .nil q1))⟩
def abn(pa:PlainAttrs T)(slot:Slot T name id)(hty:typeOf (.builtin id)=pure (.type "method_descriptor"))(hm:YJ X id r)(ho:PE X o to)(ha:PA X (e::es) t)
  (hbase:attributeBase o name X.env (eval o X.env)=eval o X.env:=by rfl)
  (hfew:((backTo cpos (starEach (e::es) X.env)).all (fun x=> !x.1)&&(backToKw cpos (keywordEach [] X.env)).all (fun x=>x.1.isSome)
   &&decide ((e::es).length+([]:List Keyword).length+(if ([]:List Keyword).isEmpty then 0 else 1)<30))=true:=by rfl)
  (hline:(apos.endLine==cpos.line)=true:=by rfl)(hs:starEach (e::es) X.env=(false,eval e X.env)::starEach es X.env:=by rfl)(hplain:(backTo cpos (starEach es X.env)).any (·.1)=false:=by rfl):
  PE X (.Call (.Attribute o name apos) (e::es) [] cpos) (tBM X.K T r to t):=by
 intro γ s σ H Q I h
 refine wpAny_Call_method_late hbase hfew hline rfl (bZ (ho γ s σ H _ I h) fun v s1⟨x,H1,I1,r1,ty,q1⟩=>?_)
 obtain⟨h1,h2⟩:=Jf I1 r1 ty
 refine⟨T,id,pa,slot,hty,h1,h2,?_⟩
 have hA:=ha cpos γ s1 σ H1 _ I1 q1
 rw[hs]at hA⊢
 exact Calls.callWith_builtin (by show(false||(backTo cpos _).any (·.1))=false;rw[hplain]<;>rfl) (Calls.evalArgs_plain (bZ hA fun us s2⟨vs,H2,I2,r2,q2⟩=>hm γ s2 σ H2 x vs v us Q I2 r1 r2 q2))
end
def MtM(X:Cx)(id:String)(r:V->List V->Hp->VK->Prop):Prop:=
 ∀(γ:QQz)(s:Shared)(σ:St)(H:Hp)(x:V)(xs:List V)(v:Value)(us:List Value)(Q:VK),Inv X γ σ H s->RelV x v->Vals xs us->r x xs H Q->
  wpAny (model X.prog X.w) X.A (call (.builtin id) (v::us)) (EP X γ σ Q) X.xe s
theorem Vals.one:∀{x:V}{us:List Value},Vals [x] us->∃u,us=[u]/\RelV x u
 |_,_,.cons r .nil=>⟨_,rfl,r⟩
theorem Vals.two:∀{x y:V}{us:List Value},Vals [x,y] us->∃u v,us=[u,v]/\RelV x u/\RelV y v
 |_,_,_,.cons r (.cons q .nil)=>⟨_,_,rfl,r,q⟩
theorem Vals.zero:∀{us:List Value},Vals [] us->us=[]
 |_,.nil=>rfl
theorem Vals.dropLast{xs:List V}{us:List Value}(h:Vals xs us):Vals xs.dropLast us.dropLast:=by
 induction h with
 |nil=>exact .nil
 |cons r t ih=>
  cases t with
  |nil=>exact .nil
  |cons q t'=>exact .cons r ih
theorem Vals.eraseIdx:∀{xs:List V}{us:List Value}(i:Nat),Vals xs us->Vals (xs.eraseIdx i) (us.eraseIdx i)
 |_,_,_,.nil=>.nil
 |_,_,0,.cons _ t=>t
 |_,_,i+1,.cons r t=>.cons r (Vals.eraseIdx i t)
def BK{α:Type}(l:List α):l.eraseIdx (l.length-1)=l.dropLast:=by
 induction l with
 |nil=>rfl
 |cons a r ih=>
  cases r with
  |nil=>rfl
  |cons b r=>
   have e:(a::b::r).length-1=((b::r).length-1)+1:=by
    have h1:(a::b::r).length=r.length+2:=rfl
    have h2:(b::r).length=r.length+1:=rfl
    omega
   rw[e,List.eraseIdx_cons_succ,ih]
   all_goals rfl
theorem uN{α:Type}:∀(l:List α)(i:Nat),(l.eraseIdx i).length<=l.length
 |[],_=>QVz _
 |_::_,0=>Nat.le_succ _
 |_::r,i+1=>Nat.succ_le_succ (uN r i)
section
variable{X:Cx}{γ:QQz}{σ:St}{H:Hp}{s:Shared}{l b:Addr}{xs ys zs:List V}
def Inv.Rf{its its':List Value}{n:Nat}{t':Nat}(I:Inv X γ σ H s)(hH:H l=some (.lst xs))
  (e:s.heap.get? l=some {cls:=.type "list",data:=.seq its.toArray n})(hf:f its.toArray=its'.toArray)(hv:Vals ys its')(hz:ys.length<=sizeLine):
  Inv X γ σ (upd H l (.lst ys)) {s with heap:=s.heap.update l (Obj.mapSeq f),toks:=t'}:=by
 have q:=PySem.IsL.update e f
 rw[hf]at q
 refine I.write (by rw[hH];exact trivial) (.inl rfl) (fun b' u hb hu=>(Heap.get?_update_other s.heap _ (Ne.symm hb)).trans hu) ⟨_,q⟩ ?_
 exact⟨hz,its',_,hv,q⟩
def Inv.ae0{t':Nat}(I:Inv X γ σ H s)(hv:Vals ys its)(hz:ys.length<=sizeLine):
  Inv X γ σ (upd H s.heap.objs.size (.lst ys)) {s with heap:=s.heap.push {cls:=.type "list",data:=.seq its.toArray},toks:=t'}:=
 I.laid (fun _ _ q=>QWq _ q) (QVz _) ⟨hz,its,0,hv,Qzq _ rfl⟩
theorem Inv.fresh(I:Inv X γ σ H s):H s.heap.objs.size=none:=I.hok.fresh (QVz _)
def Inv.Rc(I:Inv X γ σ H s)(hH:H l=some (.lst xs)):xs.length<=sizeLine/\∃(its:List Value)(n:Nat),Vals xs its/\xs.length=its.length/\s.heap.get? l=some {cls:=.type "list",data:=.seq its.toArray n}:=by
 obtain⟨z,its,n,r,e⟩:=I.hok l _ hH
 exact⟨z,its,n,r,r.length,e⟩
def KR{n:Nat}(h:n<=sizeLine):Builtin.List.listTooLong n=false:=by
 unfold Builtin.List.listTooLong
 exact QEz (by omega)
end
section
variable{X:Cx}
noncomputable def Qs:V->List V->Hp->VK->Prop:=fun x vs H Q=>∃l xs y,x=.ref l/\vs=[y]/\H l=some (.lst xs)/\xs.length<sizeLine/\Q .non (upd H l (.lst (xs++[y])))
def uJ:MtM X "list.append" Qs:=by
 intro γ s σ H x vs v us Q I rx rv h
 obtain⟨l,xs,y,rfl,rfl,hH,hz,q⟩:=h
 cases rx
 obtain⟨u,rfl,ru⟩:=rv.one
 obtain⟨z,its,n,r,hl,e⟩:=I.Rc hH
 refine call_meets F.slot_list_append ⟨_,e,rfl⟩ F.entry_list_append (F.args_list_append_2 _ _) (PySem.list_append l its.toArray n u (by rw[Qyq];omega)) ⟨e,?_⟩
 refine⟨.non,_,I.Rf hH e (by simp) (r.append (.cons ru .nil)) ?_,rfl,q⟩
 rw[QTq,List.length_singleton]
 omega
noncomputable def aeP:V->List V->Hp->VK->Prop:=fun x vs H Q=>∃l xs y,x=.ref l/\vs=[]/\H l=some (.lst xs)/\xs[xs.length-1]? =some y/\Q y (upd H l (.lst xs.dropLast))
def W4:MtM X "list.pop" aeP:=by
 intro γ s σ H x vs v us Q I rx rv h
 obtain⟨l,xs,y,rfl,rfl,hH,hy,q⟩:=h
 cases rx
 have hus:=rv.zero
 subst hus
 obtain⟨z,its,n,r,hl,e⟩:=I.Rc hH
 obtain⟨u,hu,ru⟩:=r.get hy
 have hy':its.toArray[its.toArray.size-1]? =some u:=by
  show its.toArray[its.length-1]? =some u
  rw[<-Array.getElem?_toList,<-hl]
  exact hu
 refine call_meets F.slot_list_pop ⟨_,e,rfl⟩ F.entry_list_pop (F.args_list_pop_1 _) (MeetsSeq.list_pop_last l its.toArray n u hy' (by rw[Qyq];omega)) ⟨e,?_⟩
 refine⟨y,_,I.Rf (its':=its.dropLast) hH e ?_ r.dropLast ?_,ru,q⟩
 ·show its.toArray.eraseIdxIfInBounds (its.toArray.size-1)=its.dropLast.toArray
  rw[Qyq,List.eraseIdxIfInBounds_toArray,BK]
 ·rw[List.length_dropLast]
  omega
noncomputable def V9:V->List V->Hp->VK->Prop:=fun x vs H Q=>∃l xs i k y,x=.ref l/\vs=[.int i]/\H l=some (.lst xs)/\ -(2 ^63)<=i/\i<2 ^63/\seqIndex? i xs.length=some k/\xs[k]? =some y/\Q y (upd H l (.lst (xs.eraseIdx k)))
def K8:MtM X "list.pop" V9:=by
 intro γ s σ H x vs v us Q I rx rv h
 obtain⟨l,xs,i,k,y,rfl,rfl,hH,h1,h2,hk,hy,q⟩:=h
 cases rx
 obtain⟨u,rfl,ru⟩:=rv.one
 obtain⟨t,rfl⟩:=ru
 obtain⟨z,its,n,r,hl,e⟩:=I.Rc hH
 obtain⟨w,hw,rw'⟩:=r.get hy
 refine call_meets F.slot_list_pop ⟨_,e,rfl⟩ F.entry_list_pop (F.args_list_pop_2 _ _)
  (MeetsSeq.list_pop_at l its.toArray n i t k w (fitsIndex_both h1 h2) (by rw[Qyq,<-hl];exact hk) (by rw[<-Array.getElem?_toList];exact hw) (by rw[Qyq];omega)) ⟨e,?_⟩
 refine⟨y,_,I.Rf hH e ?_ (r.eraseIdx k) ?_,rw',q⟩
 ·show its.toArray.eraseIdxIfInBounds k=(its.eraseIdx k).toArray
  rw[List.eraseIdxIfInBounds_toArray]
 ·have:=uN xs k
  omega
end
section
variable{prog:Program}{w:World}{A:Around}{E:QZq}{s:Shared}
end
section
variable{X:Cx}
end
section
variable{κ:Type}[DecidableEq κ]
def jA(kvs:List (κ×V))(k:κ):Option V:=(kvs.find? fun kv=>decide (kv.1=k)).map (·.2)
noncomputable def putK(kvs:List (κ×V))(k:κ)(v:V):List (κ×V):=
 if (kvs.any fun kv=>decide (kv.1=k))=true then kvs.map (fun kv=>if kv.1=k then(kv.1,v)else kv)else kvs++[(k,v)]
def mj{p:κ×V}{k:κ}(e:p.1=k):jA (p::r) k=some p.2:=by simp[jA,List.find?_cons,e]
def mq{p:κ×V}{k:κ}(e:¬p.1=k):jA (p::r) k=jA r k:=by simp[jA,List.find?_cons,e]
theorem xR(k:κ):∀kvs:List (κ×V),(kvs.any fun kv=>decide (kv.1=k))=(jA kvs k).isSome
 |[]=>rfl
 |p::r=>by
  rw[List.any_cons]
  by_cases e:p.1=k
  ·simp only[mj e,QFq e,Bool.true_or,Option.isSome_some]
  ·rw[mq e,QEz e,Bool.false_or];exact xR k r
def pF(kvs:List (κ×V))(k:κ)v:(putK kvs k v).length<=kvs.length+1:=by
 unfold putK
 split
 ·rw[QAq];omega
 ·rw[QTq,QBq,List.length_nil];omega
def tB.iH{u:Option Value}(r:tB o u):o.isSome=u.isSome:=by
 cases o with
 |none=>cases u with
  |none=>rfl
  |some _=>exact(r).elim
 |some _=>cases u with
  |none=>exact(r).elim
  |some _=>rfl
theorem tB.getD{u:Option Value}{d':Value}(r:tB o u)(rd:RelV d d'):RelV (o.getD d) (u.getD d'):=by
 cases o with
 |none=>cases u with
  |none=>exact rd
  |some _=>exact(r).elim
 |some _=>cases u with
  |none=>exact(r).elim
  |some _=>exact r
def KV.val{vs:List (κ×Value)}(r:KV kvs vs)(k:κ):tB (jA kvs k) (valueAt vs k):=by
 induction r with
 |nil=>exact True.intro
 | @cons p q ps qs h t ih=>
  obtain⟨h1,h2⟩:=h
  by_cases e:p.1=k
  ·have b:valueAt (q::qs) k=some q.2:=by simp[valueAt,List.find?_cons,h1.symm.trans e]
   rw[mj e,b];exact h2
  ·have e':¬q.1=k:=fun z=>e (h1.trans z)
   have b:valueAt (q::qs) k=valueAt qs k:=by simp[valueAt,List.find?_cons,e']
   rw[mq e,b];exact ih
theorem KV.any{vs:List (κ×Value)}(r:KV kvs vs)(k:κ):(kvs.any fun kv=>decide (kv.1=k))=vs.any fun kv=>decide (kv.1=k):=by
 induction r with
 |nil=>rfl
 |cons h t ih=>rw[List.any_cons,List.any_cons,ih,h.1]
theorem KV.repl{vs:List (κ×Value)}(r:KV kvs vs)(k:κ){u:Value}(ry:RelV y u):
  KV (kvs.map fun kv=>if kv.1=k then(kv.1,y)else kv) (vs.map fun kv=>if kv.1=k then(kv.1,u)else kv):=by
 induction r with
 |nil=>exact .nil
 | @cons p q ps qs h t ih=>
  rw[Qyz,Qyz]
  refine .cons ?_ ih
  obtain⟨h1,h2⟩:=h
  by_cases e:p.1=k
  ·rw[if_pos e,if_pos (h1.symm.trans e)];exact⟨h1,ry⟩
  ·rw[if_neg e,if_neg (fun z=>e (h1.trans z))];exact⟨h1,h2⟩
def KV.put{vs:List (κ×Value)}(r:KV kvs vs)(k:κ){u:Value}(ry:RelV y u):KV (putK kvs k y) (stored vs k u):=by
 unfold putK stored
 rw[r.any k]
 by_cases e:(vs.any fun kv=>decide (kv.1=k))=true
 ·rw[if_pos e,if_pos e];exact r.repl k ry
 ·rw[if_neg e,if_neg e];exact Paired.snoc r ⟨rfl,ry⟩
theorem KV.length{kvs:List (κ×V)}(r:KV kvs vs):kvs.length=vs.length:=Paired.length r
end
def uU{w:World}{u:Value}(r:RelV (kV k) u):(dH P w).is k u=true:=by
 cases k with
 |inl i=>obtain⟨t,e⟩:=(r);subst e;exact yN P w i t
 |inr x=>obtain⟨t,e⟩:=(r);subst e;exact yM P w x t
section
variable{P:Program}{w:World}{H:Hp}{h:Heap}{a:Addr}
def Dr(ok:nF P w H h)(e:Rd H a u):bY P w H h a u:=e.ok ok
def m7(ok:nF P w H h)(e:Rd H a (.dK kvs)):kvs.length<=sizeLine/\(a==sysModules)=false/\∃vs,KV kvs vs/\h.DictOf (dH P w) a vs:=
 show bY P w H h a _ from Dr ok e
def M4(ok:nF P w H h)(e:H a=some (.dK kvs)):kvs.length<=sizeLine/\(a==sysModules)=false/\∃vs,KV kvs vs/\h.DictOf (dH P w) a vs:=m7 ok (.inl e)
end
def uh(H:Hp)(a:Addr)(y:V)(r:Option V):Prop:=
 ∃kvs k,Rd H a (.dK kvs)/\y=kV k/\r=jA kvs k
def Ot(H:Hp)(a:Addr)(y v:V)(H':Hp):Prop:=
 ∃kvs k,H a=some (.dK kvs)/\y=kV k/\kvs.length<sizeLine/\H'=upd H a (.dK (putK kvs k v))
theorem uh.k{a:Addr}{k:Key}(e:H a=some (.dK kvs)):uh H a (kV k) (jA kvs k):=⟨kvs,k,.inl e,rfl,rfl⟩
theorem Ot.k{a:Addr}{k:Key}(e:H a=some (.dK kvs))(hl:kvs.length<sizeLine):Ot H a (kV k) v (upd H a (.dK (putK kvs k v))):=⟨kvs,k,e,rfl,hl,rfl⟩
section
variable{X:Cx}{γ:QQz}{σ:St}{H:Hp}{s:Shared}{a:Addr}{y v:V}{u r:Value}{o:Option V}{A:Around}{E:QZq}
def Inv.big(I:Inv X γ σ H s):sysModules<s.heap.objs.size:=by
 exact Nat.lt_trans (by decide) ((I.mod.glob.keeps I.bk).lt)
def H9(hu:A.units+1<cLine)(I:Inv X γ σ H s)(g:uh H a y (some v))(ry:RelV y u)(h:∀w' s',Inv X γ σ H s'->RelV v w'->Q w' s'):
  wpAny (model X.prog X.w) A (getItem (.ref a) u) Q E s:=by
 obtain⟨kvs,k,e,ey,l⟩:=g
 subst ey
 obtain⟨z,hd,vs,rel,dd⟩:=m7 I.hok e
 obtain⟨w',hw,rw'⟩:=tB.some_of (by rw[l];exact rel.val k)
 exact wpAny_getItem_of (uU ry) dd.mapOf hw (h w' _ (I.tok _) rw')
def afZ(hu:A.units+1<cLine)(I:Inv X γ σ H s)(g:uh H a y o)(ry:RelV y u)(h:∀s',Inv X γ σ H s'->Q (.bool o.isSome) s'):
  wpAny (model X.prog X.w) A (compareOp .In u (.ref a)) Q E s:=by
 obtain⟨kvs,k,e,ey,l⟩:=g
 subst ey
 obtain⟨z,hd,vs,rel,dd⟩:=m7 I.hok e
 refine wpAny_in_of (uU ry) hd dd.mapOf ?_
 rw[<- (rel.val k).iH,<-l]
 exact h _ (I.tok _)
def R6(hu:A.units+1<cLine)(I:Inv X γ σ H s)(g:uh H a y o)(ry:RelV y u)(h:∀s',Inv X γ σ H s'->Q (.bool (!o.isSome)) s'):
  wpAny (model X.prog X.w) A (compareOp .NotIn u (.ref a)) Q E s:=by
 obtain⟨kvs,k,e,ey,l⟩:=g
 subst ey
 obtain⟨z,hd,vs,rel,dd⟩:=m7 I.hok e
 refine wpAny_notIn_of (uU ry) hd dd.mapOf ?_
 rw[<- (rel.val k).iH,<-l]
 exact h _ (I.tok _)
def kJ{t':Nat}(I:Inv X γ σ H s)(mu:Mut (H a))(hs:Heap.SameBut a s.heap h')(he:∃q,h'.get? a=some q)(new:bY X.prog X.w (upd H a ob) h' a ob):
  Inv X γ σ (upd H a ob) {s with heap:=h',toks:=t'}:=
 I.write mu (.inl rfl) (fun b q hb z=>(hs.2 b hb).trans z) he new
def M5{w:World}{h':Heap}{vs:List (Key×Value)}(z:kvs.length<=sizeLine)(hd:(a==sysModules)=false)(rel:KV kvs vs)(dd:h'.DictOf (dH P w) a vs):
  bY P w H' h' a (.dK kvs):=⟨z,hd,vs,rel,dd⟩
def H8{Q:Unit->Shared->Prop}(hu:A.units+1<cLine)(I:Inv X γ σ H s)(g:Ot H a y v H')(ry:RelV y u)(rv:RelV v r)(h:∀s',Inv X γ σ H' s'->Q () s'):
  wpAny (model X.prog X.w) A (setItem (.ref a) u r) Q E s:=by
 obtain⟨kvs,k,e,ey,l,eH⟩:=g
 subst ey eH
 obtain⟨z,hd,vs,rel,dd⟩:=M4 I.hok e
 have hz:vs.length<=sizeLine:=by rw[<-rel.length];exact z
 refine wpAny_setItem_pairs (uU ry) dd fun h' dd' hs=>h _ ?_
 exact kJ I (by rw[e];exact True.intro) hs (let ⟨q,_,_,hq,_⟩:=dd';⟨q,hq⟩) (M5 (by have:=pF kvs k v;omega) hd (rel.put k rv) dd')
end
section
variable{X:Cx}{γ:QQz}{σ:St}{H:Hp}{s:Shared}{a:Addr}{kvs:List (Key×V)}{k:Key}{u:Value}{A:Around}{E:QZq}
def ack(I:Inv X γ σ H s)(e:Rd H a (.dK kvs))(h:∀t s',Inv X γ σ H s'->Q (.int kvs.length t) s'):wpAny (model X.prog X.w) A (call (.builtin "len") [.ref a]) Q E s:=by
 obtain⟨z,hd,vs,rel,dd⟩:=m7 I.hok e
 refine call_len_dict hd dd (by rw[<-rel.length];rw[sizeLine_eq]at z;omega) ?_
 rw[<-rel.length]
 exact h _ _ (I.tok _)
end
def zx{X:Cx}{σ:St}{H:Hp}{a:Addr}{y:V}(I:Inv X γ σ H s)(g:uh H a y o):s.TypeIs (.ref a) "dict":=by
 obtain⟨kvs,k,e,_,_⟩:=g
 obtain⟨_,_,vs,_,dd⟩:=m7 I.hok e
 exact dd.typeIs
section
variable{X:Cx}{o i e value:Expr}{pos pos' tpos:Pos}{td ty tv:TE}
end
def rR{w:World}(h:Heap)(hb:sysModules<h.objs.size):bY P w H (h.push {cls:=.type "dict",data:=.dict #[]}) h.objs.size (.dK []):=
 ⟨QIq _,beq_eq_false_iff_ne.mpr (Ne.symm (Qvz hb)),[],.nil,Heap.DictOf.new h⟩
def Vw:TE:=fun _ H Q=>∀p,H p=none->Q (.ref p) (upd H p (.dK []))
section
variable{X:Cx}{pos:Pos}
def Kw:PE X (.Dict [] [] pos) Vw:=fun γ s σ H Q I h=>
 wpAny_Dict_empty ⟨.ref s.heap.objs.size,_,I.laid (fun _ _ q=>QWq _ q) (QVz _) (rR s.heap I.big),rfl,h _ (I.hok.fresh (QVz _))⟩
end
noncomputable def vM:List (TE×TE)->St->Hp->(List (V×V)->Hp->Prop)->Prop
 |[],_,H,Q=>Q [] H
 |(tk,tv)::r,σ,H,Q=>tk σ H fun x H1=>tv σ H1 fun y H2=>vM r σ H2 fun ps H3=>Q ((x,y)::ps) H3
abbrev VV:List (V×V)->List (Value×Value)->Prop:=Paired fun p q=>RelV p.1 q.1/\RelV p.2 q.2
def PPs(X:Cx)(pos:Pos)(keys:List (Option Expr))(values:List Expr)(nC:List (TE×TE)):Prop:=
 ∀(γ:QQz)(s:Shared)(σ:St)(H:Hp)(Q:List (V×V)->Hp->Prop),Inv X γ σ H s->vM nC σ H Q->
  wpAny (model X.prog X.w) X.A (evalPairs (pairTrees keys values X.env pos)) (fun vs s'=>∃ps H',Inv X γ σ H' s'/\VV ps vs/\Q ps H') X.xe s
def Qx{pos:Pos}:PPs X pos [] [] []:=fun γ s σ H Q I h=>pairTrees_nil_walk ⟨[],H,I,.nil,h⟩
def Kd{pos:Pos}{ks:List (Option Expr)}{tk tv:TE}(hk:PE X k tk)(hv:PE X v tv)(hr:PPs X pos ks vs nC):
  PPs X pos (some k::ks) (v::vs) ((tk,tv)::nC):=fun γ s σ H Q I h=>
 pairTrees_cons_walk (bZ (hk γ s σ H _ I h) fun u s1⟨x,H1,I1,rx,q1⟩=>bZ (hv γ s1 σ H1 _ I1 q1) fun w2 s2⟨y,H2,I2,ry,q2⟩=>
  bZ (hr γ s2 σ H2 _ I2 q2) fun ws s3⟨ps,H3,I3,rel,q3⟩=>⟨(x,y)::ps,H3,I3,.cons ⟨rx,ry⟩ rel,q3⟩)
structure M2(X:Cx)(o:Expr)(m:Str)(apos:Pos)(e f:Expr)(cpos:Pos):Prop where
 base:attributeBase o m X.env (eval o X.env)=eval o X.env
 few:((backTo cpos (starEach [e,f] X.env)).all (fun x=> !x.1)&&(backToKw cpos (keywordEach [] X.env)).all (fun x=>x.1.isSome)
  &&decide (([e,f]:List Expr).length+([]:List Keyword).length+(if ([]:List Keyword).isEmpty then 0 else 1)<30))=true
 line:(apos.endLine==cpos.line)=true
 trees:backTo cpos (starEach [e,f] X.env)=[(false,eval e X.env),(false,eval f X.env)]
def IsD(H:Hp)(a:Addr):Prop:=∃kvs,Rd H a (.dK kvs)
def Xr{X:Cx}{σ:St}{H:Hp}{a:Addr}(I:Inv X γ σ H s)(d:IsD H a):
  s.TypeIs (.ref a) "dict"/\(∀b,Value.ref a=.ref b->∃ob,s.heap.get? b=some ob/\ob.dict=none)/\(a==sysModules)=false:=by
 obtain⟨kvs,e⟩:=d
 obtain⟨_,hd,vs,_,dd⟩:=m7 I.hok e
 refine⟨dd.typeIs,fun b q=>?_,hd⟩
 cases q
 obtain⟨ob,_,_,h1,h2,_⟩:=dd
 exact⟨ob,h1,h2.2.1⟩
section
variable{X:Cx}{γ:QQz}{σ:St}{H:Hp}{s:Shared}{a:Addr}{y d:V}{u r:Value}{o:Option V}{A:Around}{E:QZq}
def Ys(hu:A.units+1<cLine)(I:Inv X γ σ H s)(g:uh H a y o)(ry:RelV y u)(rd:RelV d r)(h:∀w' s',Inv X γ σ H s'->RelV (o.getD d) w'->Q w' s'):
  wpAny (model X.prog X.w) A (call (.builtin "dict.get") [.ref a,u,r]) Q E s:=by
 obtain⟨kvs,k,e,ey,l⟩:=g
 subst ey
 obtain⟨z,hd,vs,rel,dd⟩:=m7 I.hok e
 refine call_meetsIn PySem.F.slot_dict_get dd.typeIs PySem.F.entry_dict_get (PySem.F.args_dict_get_3 _ _ _) (meets_dict_get_default _ a (uU ry) hd r) ⟨_,dd.mapOf,h _ _ (I.tok _) ?_⟩
 rw[l]
 exact(rel.val k).getD rd
end
noncomputable def Vx(td ty tx:TE):TE:=fun σ H Q=>td σ H fun x H1=>∃a,x=.ref a/\IsD H1 a/\ty σ H1 fun y H2=>tx σ H2 fun z H3=>∃o,uh H3 a y o/\Q (o.getD z) H3
section
variable{X:Cx}{o e f:Expr}{apos cpos:Pos}{td ty tx:TE}
def Ky(hu:X.A.units+1<cLine)(ho:PE X o td)(he:PE X e ty)(hf:PE X f tx)(m:M2 X o "get" apos e f cpos):PE X (.Call (.Attribute o "get" apos) [e,f] [] cpos) (Vx td ty tx):=by
 intro γ s σ H Q I h
 refine wpAny_Call_method m.base m.few m.line PySem.F.plainAttrs_dict PySem.F.slot_dict_get PySem.F.type_dict_get (bZ (ho γ s σ H _ I h) fun u s1⟨x,H1,I1,rx,a,ex,d,q1⟩=>?_)
 subst ex
 obtain rfl:u=Value.ref a:=rx
 obtain⟨t1,t2,_⟩:=Xr I1 d
 refine⟨t1,t2,?_⟩
 rw[m.trees]
 refine Calls.callWith_builtin rfl (Calls.evalArgs_plain (Calls.spliced_cons (bZ (he γ s1 σ H1 _ I1 q1) fun iv s2⟨y,H2,I2,ry,q2⟩=>
  Calls.spliced_cons (bZ (hf γ s2 σ H2 _ I2 q2) fun fv s3⟨z,H3,I3,rz,ov,g,q3⟩=>Calls.spliced_nil ?_))))
 exact Ys hu I3 g ry rz fun w' s4 I4 rw'=>⟨_,H3,I4,rw',q3⟩
end
section
variable{X:Cx}{γ:QQz}{σ:St}{H:Hp}{s:Shared}{a:Addr}{kvs:List (Key×V)}{A:Around}{E:QZq}
end
section
variable{X:Cx}{γ:QQz}{σ:St}{H:Hp}{s:Shared}{a:Addr}{y:V}{u:Value}{A:Around}{E:QZq}
end
end L2
namespace Att
open PySem PySem.W PySem.Calls PyProof.Rows
def pR{h:Heap}:∀(ns:List Int)(vs:List Value),WellAll P h vs (ns.map WData.int)->IntsAre vs ns:=by
 intro ns
 induction ns with
 |nil=>
  intro vs w
  cases w
  exact .nil
 |cons n ns ih=>
  intro vs w
  cases w with
  |cons a b=>
   cases a
   exact .cons _ _ (ih _ b)
theorem Gs{l:OpenLaw}(hn:l.most=some n){h:Heap}
  (hpre:l.row.toRowW.claim.pre args=true)(hwl:WellAll P h vals args):
  ∃a vs ns,vals=[Value.ref a]/\args=[WData.list (ns.map WData.int)]/\h.get? a=some {cls:=.type "list",data:=.seq vs.toArray}/\IntsAre vs ns/\ns.length<=n:=by
 obtain⟨d,r,rfl,h1,h2⟩:=hasAllW_cons ((pre_splitW hpre).1)
 obtain rfl:=hasAllW_nil h2
 obtain⟨xs,rfl,h3⟩:=hasW_list h1
 obtain⟨ns,rfl⟩:=items_int h3
 have hlen:ns.length<=n:=by
  have h4:(WTm.not (.lt (.lit (.int n)) (.len (.arg 0)))).holds [] {args:=[.list (ns.map .int)]}=true:=by
   have h4:=(holds_andW ((pre_splitW hpre).2)).1
   rw[hn]at h4
   exact h4
  have h5:=condW_of h4 (w_not (w_lt w_lit (w_len_list (w_arg rfl))))
  refine Nat.le_of_not_lt fun q=>?_
  first
   |(rw[QFq q']at h5;exact absurd h5 (by decide))
   |(simp at h5;omega)
 cases hwl with
 |cons w1 w2=>
  cases w2
  cases w1 with
  |list ho hall=>exact⟨_,_,ns,rfl,rfl,ho,pR ns _ hall,hlen⟩
def G4(l:OpenLaw)args:l.row.toRowW.claim.post args (.bool true) args=true:=
 postW_of
  (show WShape.has [] _ .bool=true by first|rfl|decide|simp[WShape.has,WShape.arms,WShape.armsAll])
  (w_eq_bool (w_res rfl) w_lit) rfl
def zK{l:OpenLaw}{n:Nat}{loose:List Str}{YP:World->Heap->Prop}
  (hn:l.most=some n)(hdf:d.params.defaults=[])
  (call:∀(w:World)(s₀ ι:Shared)(mg mb:QZz)(fa:Addr)(o:Obj)(pm cd doc:Value)(a:Addr)(vs:List Value)(ns:List Int),
   Ground q loose [] XP w s₀ mg mb ι.heap->YP w ι.heap->
   ι.heap.get? fa=some o->o.data=.func (docDef d.name d.params d.body d.scope pm cd doc)->ι.heap.CodeRec cd d.name->mg d.name=some (.ref fa)->
   ι.heap.get? a=some {cls:=.type "list",data:=.seq vs.toArray}->IntsAre vs ns->ns.length<=n->ι.gens= #[]->
   codeAny (model l.prog w) callerA (.call (.ref fa) ⟨[.ref a],[]⟩) (fun r s'=>r=.ok (.ret (.bool true))/\OldK ι.heap s'.heap/\s'.os=ι.os/\AllBare s'.gens) ι):
  WalkO q loose XP YP l.row.toRowW d [] (fun f vs=>PySem.call f vs):=by
 intro w s₀ ι mg mb G Y fa o pm cd doc dV kV ho hd hcd hD hmg hg args vals as hpre hlay hrd hwl hlo
 obtain rfl:dV=.none:=Dflts.none hD hdf
 obtain rfl:kV=.none:=Dflts.noKw hD
 obtain⟨a,vs,ns,rfl,rfl,hobj,hints,hlen⟩:=Gs hn hpre hwl
 refine enter_call (codeAny_mono (call w s₀ ι mg mb fa o pm cd doc a vs ns G Y ho (fd_plain hd) hcd hmg hobj hints hlen hg) fun r s' hq=>?_)
 obtain⟨rfl,h2,h3,h4⟩:=hq
 exact⟨.inl ⟨.bool true,.bool true,[],rfl,fun _=>rfl,.bool true,G4 l _,fun _=>⟨List.Pairwise.nil,fun _ hm=>(nomatch hm)⟩⟩,h2,h3,h4⟩
section
variable{prog:Program}{w:World}{A:Around}{E:QZq}{s:Shared}{K:Frag}
end
end Att
namespace L2
open PySem PySem.Spec PyProof.Rows
theorem um:∀{vs:List Value}{ns:List Int},IntsAre vs ns->Vals (ns.map V.int) vs
 |_,_,.nil=>.nil
 |_,_,.cons n t h=>.cons ⟨t,rfl⟩ (um h)
def Only(H:Hp):Prop:=∀b,H b=none\/∃o xs,H b=some (.frz o (.lst xs))
theorem Lk{w:World}{K:QQq}{CX:Ow}{fa a:Addr}{x:Str}{ι:Shared}
  (KX:K.In ι.heap)(hns:ι.heap.Ns mainGlobals mg)(hb:ι.heap.Ns builtinsNs mb)(hbb:∀x:Str,x≠"__name__"->mb x=bootBuiltins x)(hlim:ι.heap.NoLimit)(hg:ι.gens= #[])
  (ha:ι.heap.get? a=some {cls:=.type "list",data:=.seq vs.toArray})(hi:IntsAre vs ns)(hl:ns.length<=sizeLine)(hr:ju k callerA)
  (F:∀base:Heap,K.In base->base.Ns mainGlobals mg->o6 P w K mg base CX k fa fd [x] sp)(hbind:∀(s:Shared)(u:Value),BindsTo s fd ⟨[u],[]⟩ [(x,u)])
  (hsp:∀H:Hp,Only H->jx K H a (ns.map V.int)->sp [.ref a] H (fun v _=>v=.bl true) fun _ _ _=>False)
  (hCX:∀H e s',CX [] H ι (fun _ _ _=>False) e s'->False):
  codeAny (model P w) callerA (.call (.ref fa) ⟨[.ref a],[]⟩) (fun r s'=>r=.ok (.ret (.bool true))/\OldK ι.heap s'.heap/\s'.os=ι.os/\AllBare s'.gens) ι:=by
 have rv:=um hi
 have core:∀H:Hp,Only H->jx K H a (ns.map V.int)->nF P w H ι.heap->(∀b,H b≠none->b=a)->(H a≠none->K.lookup a=none)->
   codeAny (model P w) callerA (.call (.ref fa) ⟨[.ref a],[]⟩) (fun r s'=>r=.ok (.ret (.bool true))/\OldK ι.heap s'.heap/\s'.os=ι.os/\AllBare s'.gens) ι:=by
  intro H hO hS hok hA hK
  have m9:∀{b:Addr}{o:Obj},ι.heap.get? b=some o->H b=none->(HB ι.heap H).get? b=some o:=fun e n=>Mi e n
  have noA:∀{b:Addr}{o:Obj}{es:Array DictEntry}{ep:Nat},ι.heap.get? b=some o->o.data=.dict es ep->H b=none:=fun{b o es ep}e d=>by
   cases q:H b with
   |none=>rfl
   |some u=>
    have e':=hA b (by rw[q];simp)
    subst e'
    rw[ha]at e;cases e
    cases d
  have nsK:∀{b:Addr}{m:QZz},ι.heap.Ns b m->(HB ι.heap H).Ns b m:=fun{b m}⟨o,es,ep,e,d,r⟩=>⟨o,es,ep,m9 e (noA e d),d,r⟩
  have hKb:=fun b o e=>m9 (KX b o e) (by
   cases q:H b with
   |none=>rfl
   |some u=>
    have e':=hA b (by rw[q];simp)
    subst e'
    rw[hK (by rw[q];simp)]at e;cases e)
  have hM:Mod K mg _:=⟨hKb,nsK hns,⟨mb,nsK hb,hbb⟩,let ⟨mc,h1,h2⟩:=hlim;⟨mc,nsK h1,h2⟩⟩
  refine codeAny_mono ((F _ hKb (nsK hns)).run callerA [] ι H ⟨[.ref a],[]⟩ [.ref a] [.ref a] _ _ hr ⟨rfl,hM,fun b o e=>QZ e,Nat.le_of_eq (Hz _ _),trivial,fun b hb=>absurd (show b∈([])from hb) (by simp),hok,.of_eq hg⟩ (hbind ι _) (.cons rfl .nil) (hsp H hO hS)) fun r s' h=>?_
  cases r with
  |error e=>exact(hCX H e s' h).elim
  |ok fl=>
   cases fl with
   |next=>exact False.elim h
   |brk=>exact False.elim h
   |cont=>exact False.elim h
   |ret u=>
    obtain⟨v,H',os,bare,un,hok',r',q⟩:=h
    subst q
    obtain rfl:u=Value.bool true:=r'
    refine⟨rfl,OldK.of_keep fun b o e=>?_,os,bare⟩
    cases q:H b with
    |none=>exact un.keep b o e q (by intro z;exact absurd (show b∈([])from z) (by simp)) (by simp)
    |some u=>
     rcases hO b with z|⟨ob,xs,z⟩
     ·rw[q]at z;cases z
     ·obtain⟨e1,_⟩:=hok b _ z
      obtain⟨e2,_⟩:=hok' b _ (un.frzs b ob _ z)
      rw[e]at e1;cases e1
      exact e2
 cases hk:K.lookup a with
 |some o=>
  have e:=KX a o hk
  rw[ha]at e
  cases e
  refine core _ (fun _=>.inl rfl) (.inr ⟨_,vs.toArray,_,hk,rfl,rfl,rfl,by rw[Qyq,hi.length];exact hl,by simpa using rv⟩) (fun b u z=>by have z':=z;cases z') (fun b z=>absurd rfl z) fun z=>absurd rfl z
 |none=>
  refine core (fun b=>if b=a then some _ else none) (fun b=>?_) (.inl (.inr ⟨{cls:=.type "list",data:=.seq vs.toArray},if_pos rfl⟩)) (fun b u z=>?_) (fun b z=>?_) fun _=>hk
  ·by_cases hb:b=a
   ·exact .inr ⟨_,_,if_pos hb⟩
   ·exact .inl (if_neg hb)
  ·by_cases hb:b=a
   ·cases ((if_pos hb).symm.trans z)
    subst hb
    exact⟨ha,by rw[QAq];exact hl,vs,_,rv,ha⟩
   ·cases ((if_neg hb).symm.trans z)
  ·by_cases hb:b=a
   ·exact hb
   ·exact absurd (if_neg hb) z
def O8{l:PySem.W.OpenLaw}{n k:Nat}{loose:List Str}{YP:World->Heap->Prop}{K:Params->QQq}{CX:World->Ow}{sp:World->Sp}
  (hn:l.most=some n)(hn2:n<=sizeLine)(hdf:d.params.defaults=[])(hr:ju k callerA)
  (hY:∀(w:World)(h:Heap),YP w h->(K w.params).In h)
  (F:∀(w:World)(mg:QZz)(fa:Addr)(h:Heap),(K w.params).In h->h.Ns mainGlobals mg->mg d.name=some (.ref fa)->
   ∃fd:FuncData,(∀(s:Shared)(u:Value),BindsTo s fd ⟨[u],[]⟩ [(x,u)])/\
    ∀base:Heap,(K w.params).In base->base.Ns mainGlobals mg->o6 l.prog w (K w.params) mg base (CX w) k fa fd [x] (sp w))
  (hsp:∀(w:World)(H:Hp)(a:Addr)(ns:List Int),ns.length<=n->Only H->jx (K w.params) H a (ns.map V.int)->sp w [.ref a] H (fun v _=>v=.bl true) fun _ _ _=>False)
  (hCX:∀(w:World)(H:Hp)(s:Shared)(e:Value)(s':Shared),CX w [] H s (fun _ _ _=>False) e s'->False):
  PySem.W.WalkO q loose XP YP l.row.toRowW d [] (fun f vs=>PySem.call f vs):=by
 refine Att.zK hn hdf fun w s₀ ι mg mb fa o pm cd doc a vs ns G Y ho hd hcd hmg hobj hints hlen hg=>?_
 have KX:=hY w _ Y
 obtain⟨fd,hb,hF⟩:=F w mg fa _ KX G.T.g hmg
 exact Lk KX G.T.g G.T.b G.T.builtins G.T.nolimit hg hobj hints (Nat.le_trans hlen hn2) hr hF hb (fun H hO hS=>hsp w H a ns hlen hO hS) fun H e s'=>hCX w H ι e s'
abbrev Ox:Ow:=fun _ _ _ _ _ _=>False
abbrev E0:XK:=fun _ _ _=>False
def abp:CP Ox X E0:=fun _ _ _ _ _ _ _ h=>h.elim
structure YQ(K:QQq)(x qual:Str)(st:Stmt)(f:Addr)(fd:FuncData):Prop where
 ex:∃(oc:Value)(od:Option Addr)(kV doc pm:Value)(an:Option Addr)(cdv ct:Value)(osl:Array (Option Value)),
  fd=PySem.W.fnOf x qual (dZ st) (dY st) (bf st) .none kV doc pm an cdv ct/\K.lookup f=some ⟨oc,od,.func fd,osl⟩/\PySem.W.codeIn K cdv qual=true
 kp:PySem.W.keepIn K (.ref f)=true
section
variable{P:Program}{w:World}{K:QQq}{mg:QZz}{base:Heap}
def YQ.ok{st:Stmt}{fd:FuncData}{k:Nat}(F:YQ K x qual st f fd)(S:kW N ps (bf st))(len:∀vs H Q E,sp vs H Q E->vs.length=ps.length)
  (hbody:∀(cdv:Value)(A:Around)(outer:List Env)(s:Shared)(H:Hp)(vs:List V)(Q:VK)(E:XK),ju k (A.deeper (envOfC qual (bf st) s.heap.objs.size f cdv))->sp vs H Q E->
   ∃t,xH (Cd Ox P w K mg base N qual (bf st) f cdv A outer s H E).nox (dY st) t/\t {nx:=fun _ H'=>Q .non H',rt:=Q} (start N vs) H):o6 P w K mg base Ox (k+1) f fd ps sp:=by
 obtain⟨oc,od,kV,doc,pm,an,cdv,ct,osl,rfl,lk,hcd⟩:=F.ex
 refine acg lk hcd S len fun A outer s H vs Q E hr hsp=>?_
 obtain⟨t,h,q⟩:=hbody cdv A outer s H vs Q E hr hsp
 exact⟨t,h.nox,q⟩
def YQ.binds{st:Stmt}{f:Addr}{ps:List Str}(F:YQ K x qual st f fd)
  (h:∀(kV doc pm:Value)(an:Option Addr)(cdv ct:Value)(us:List Value),us.length=ps.length->bindArgs (PySem.W.fnOf x qual (dZ st) (dY st) (bf st) .none kV doc pm an cdv ct) ⟨us,[]⟩=pure (ps.zip us)):Binds K fd ps []:=by
 obtain⟨oc,od,kV,doc,pm,an,cdv,ct,osl,rfl,lk,hcd⟩:=F.ex
 exact .all (h kV doc pm an cdv ct)
def Yn{st:Stmt}{f:Addr}{od an:Option Addr}{kV doc pm cdv ct:Value}(l:K.lookup f=some ⟨oc,od,.func (PySem.W.fnOf x qual (dZ st) (dY st) (bf st) .none kV doc pm an cdv ct),osl⟩)
  (c:PySem.W.codeIn K cdv qual=true)(k:PySem.W.keepIn K (.ref f)=true):YQ K x qual st f (PySem.W.fnOf x qual (dZ st) (dY st) (bf st) .none kV doc pm an cdv ct):=⟨⟨oc,od,kV,doc,pm,an,cdv,ct,osl,rfl,l,c⟩,k⟩
end
def Gr(h:n<=1000):n<sizeLine:=Nat.lt_of_le_of_lt h (by decide)
section
variable{X:Cx}
end
end L2
end
section
namespace Mini
open PySem L2 PySem.SeqAt
mutual
def cn:PyData->PyData
 |.bool b=>.int (if b then 1 else 0)
 |.tuple xs=>.tuple (cns xs)
 |d=>d
def cns:List PyData->List PyData
 |[]=>[]
 |x::xs=>cn x::cns xs
end
mutual
def hk:PyData->Bool
 |.int _=>true
 |.bool _=>true
 |.str x=>PyData.strOk x
 |.tuple xs=>hks xs
 |_=>false
def hks:List PyData->Bool
 |[]=>true
 |x::xs=>hk x&&hks xs
end
mutual
def dr:PyData->Nat
 |.tuple xs=>BW xs+1
 |_=>1
def BW:List PyData->Nat
 |[]=>0
 |x::xs=>dr x+BW xs
end
mutual
theorem UL:∀d,dr (cn d)=dr d
 |.tuple xs=>by simp only[cn,dr,M3 xs]
 |.bool _=>rfl
 |.none=>rfl
 |.int _=>rfl
 |.str _=>rfl
 |.list _=>rfl
 |.dict _=>rfl
theorem M3:∀xs,BW (cns xs)=BW xs
 |[]=>rfl
 |x::xs=>by simp only[cns,BW,UL x,M3 xs]
end
mutual
theorem xj:∀d:PyData,hk d=true->d.canLay0=true
 |.int _=>fun _=>rfl
 |.bool _=>fun _=>rfl
 |.str x=>fun h=>h
 |.tuple xs=>fun h=>FQ xs h
 |.none=>fun h=>by cases h
 |.list _=>fun h=>by cases h
 |.dict _=>fun h=>by cases h
theorem FQ:∀xs:List PyData,hks xs=true->PyData.canLayAll0 xs=true
 |[]=>fun _=>rfl
 |x::xs=>fun h=>by
  simp only[hks,QUq]at h
  simp only[PyData.canLayAll0,xj x h.1,FQ xs h.2,Bool.and_self]
end
mutual
theorem BL:∀a b:PyData,hk a=true->hk b=true->PyData.eqv a b=decide (cn a=cn b)
 |.int i,.int j=>fun _ _=>by rw[Bool.eq_iff_iff];simp[PyData.eqv,cn]
 |.int i,.bool b=>fun _ _=>by rw[Bool.eq_iff_iff];cases b<;>simp[PyData.eqv,cn]
 |.bool a,.int j=>fun _ _=>by rw[Bool.eq_iff_iff];cases a<;>simp[PyData.eqv,cn]
 |.bool a,.bool b=>fun _ _=>by cases a<;>cases b<;>simp[PyData.eqv,cn]
 |.str x,.str y=>fun _ _=>by rw[Bool.eq_iff_iff];simp[PyData.eqv,cn]
 |.tuple xs,.tuple ys=>fun h g=>by
  simp only[PyData.eqv,cn,PyData.tuple.injEq]
  exact Fd xs ys h g
 |.int _,.str _=>fun _ _=>by simp[PyData.eqv,cn]
 |.int _,.tuple _=>fun _ _=>by simp[PyData.eqv,cn]
 |.bool b,.str _=>fun _ _=>by simp[PyData.eqv,cn]
 |.bool b,.tuple _=>fun _ _=>by simp[PyData.eqv,cn]
 |.str _,.int _=>fun _ _=>by simp[PyData.eqv,cn]
 |.str _,.bool b=>fun _ _=>by simp[PyData.eqv,cn]
 |.str _,.tuple _=>fun _ _=>by simp[PyData.eqv,cn]
 |.tuple _,.int _=>fun _ _=>by simp[PyData.eqv,cn]
 |.tuple _,.bool b=>fun _ _=>by simp[PyData.eqv,cn]
 |.tuple _,.str _=>fun _ _=>by simp[PyData.eqv,cn]
 |.none,_=>fun h _=>by cases h
 |.list _,_=>fun h _=>by cases h
 |.dict _,_=>fun h _=>by cases h
 |.int _,.none=>fun _ h=>by cases h
 |.int _,.list _=>fun _ h=>by cases h
 |.int _,.dict _=>fun _ h=>by cases h
 |.bool _,.none=>fun _ h=>by cases h
 |.bool _,.list _=>fun _ h=>by cases h
 |.bool _,.dict _=>fun _ h=>by cases h
 |.str _,.none=>fun _ h=>by cases h
 |.str _,.list _=>fun _ h=>by cases h
 |.str _,.dict _=>fun _ h=>by cases h
 |.tuple _,.none=>fun _ h=>by cases h
 |.tuple _,.list _=>fun _ h=>by cases h
 |.tuple _,.dict _=>fun _ h=>by cases h
theorem Fd:∀xs ys:List PyData,hks xs=true->hks ys=true->PyData.eqvAll xs ys=decide (cns xs=cns ys)
 |[],[]=>fun _ _=>by simp[PyData.eqvAll,cns]
 |[],_::_=>fun _ _=>by simp[PyData.eqvAll,cns]
 |_::_,[]=>fun _ _=>by simp[PyData.eqvAll,cns]
 |x::xs,y::ys=>fun h g=>by
  simp only[hks,QUq]at h g
  simp only[PyData.eqvAll,cns,List.cons.injEq,BL x y h.1 g.1,Fd xs ys h.2 g.2]
  by_cases p:cn x=cn y<;>by_cases q:cns xs=cns ys<;>simp[p,q]
end
theorem wX:∀{xs:List PyData}{x:PyData},x∈xs->x.depth<=PyData.depthAll xs
 |y::ys,x,h=>by
  have e:PyData.depthAll (y::ys)=max y.depth (PyData.depthAll ys):=by simp[PyData.depthAll]
  rcases QCq.mp h with rfl|h
  ·omega
  ·have:=wX h;omega
theorem Bs:∀{xs:List PyData}{x:PyData},hks xs=true->x∈xs->hk x=true
 |y::ys,x,g,h=>by
  simp only[hks,QUq]at g
  rcases QCq.mp h with rfl|h
  ·exact g.1
  ·exact Bs g.2 h
mutual
theorem qI{h h':Heap}{a:Addr}{o:Obj}{es:Array DictEntry}{ep:Nat}(ho:h.get? a=some o)(hd:o.data=.dict es ep)(hs:Heap.SameBut a h h'):∀(d:PyData){v:Value}{as:List Addr},hk d=true->Reads h v d as->Reads h' v d as
 |.int _,_,_,_,r=>by cases r;exact .int _ _
 |.bool _,_,_,_,r=>by cases r;exact .bool _
 |.str _,_,_,_,r=>by cases r;exact .str _ _
 |.tuple xs,_,_,g,r=>by
  cases r with
  | @tuple b o' vs n xs as h1 h2 h3 h4=>
   have ne:b≠a:=fun z=>by
    subst z
    rw[ho]at h1
    cases h1
    rw[hd]at h3
    cases h3
   exact .tuple ((hs.2 b ne).trans h1) h2 h3 (pq ho hd hs xs g h4)
 |.none,_,_,g,_=>by cases g
 |.list _,_,_,g,_=>by cases g
 |.dict _,_,_,g,_=>by cases g
theorem pq{h h':Heap}{a:Addr}{o:Obj}{es:Array DictEntry}{ep:Nat}(ho:h.get? a=some o)(hd:o.data=.dict es ep)(hs:Heap.SameBut a h h'):∀(xs:List PyData){vs:List Value}{as:List Addr},hks xs=true->ReadsAll h vs xs as->ReadsAll h' vs xs as
 |[],_,_,_,r=>by cases r;exact .nil
 |x::xs,_,_,g,r=>by
  simp only[hks,QUq]at g
  cases r with
  |cons r1 r2=>exact .cons (qI ho hd hs x g.1 r1) (pq ho hd hs xs g.2 r2)
end
section
variable{prog:Program}{w:World}{E:QZq}
def uX{A:Around}{s:Shared}{b:Bool}{Q:Int->Shared->Prop}(h:Q (hashInt (if b then 1 else 0)) {s with toks:=s.toks+1}):wpAny (model prog w) A (pyHash (.bool b)) Q E s:=by
 refine PySem.W.pyHash_slot (T:="bool") rfl F.slot_bool_hash entry_int_hash (args_int_hash _) (beq_builtin_none _) (.inl rfl) ?_
 cases b
 ·exact(show wpAny _ _ (mkInt 0>>=fun x=>ret x) _ _ s from QKq (wpAny_mkInt (QKz ⟨_,_,rfl,h⟩)))
 ·exact(show wpAny _ _ (mkInt 1>>=fun x=>ret x) _ _ s from QKq (wpAny_mkInt (QKz ⟨_,_,rfl,h⟩)))
theorem Ey:∀xs ys:List PyData,hHs w (xs++ys)=hHs w xs++hHs w ys
 |[]=>fun _=>rfl
 |x::xs=>fun ys=>by simp only[QLz,hHs,Ey xs ys]
theorem Fx:∀xs ys:List PyData,cns (xs++ys)=cns xs++cns ys
 |[]=>fun _=>rfl
 |x::xs=>fun ys=>by simp only[QLz,cns,Fx xs ys]
theorem Fo:∀xs ys:List PyData,BW (xs++ys)=BW xs+BW ys
 |[]=>fun _=>by simp[BW]
 |x::xs=>fun ys=>by simp only[QLz,BW,Fo xs ys];omega
def Rw:∀(n:Nat)(d:PyData){A:Around}{s:Shared}{v:Value}{as:List Addr}{Q:Int->Shared->Prop},d.depth<=n->hk d=true->Reads s.heap v d as->A.units+d.depth<cLine->Q (hH w (cn d)) {s with toks:=s.toks+dr d}->wpAny (model prog w) A (pyHash v) Q E s:=by
 intro n
 induction n with
 |zero=>
  intro d A s v as Q hn g r hu h
  cases d with
  |int i=>cases r;exact wpAny_pyHash_int h
  |bool b=>cases r;exact uX h
  |str x=>cases r;exact wpAny_pyHash_str h
  |tuple xs=>simp[PyData.depth]at hn
  |_=>cases g
 |succ n ih=>
  intro d A s v as Q hn g r hu h
  cases d with
  |int i=>cases r;exact wpAny_pyHash_int h
  |bool b=>cases r;exact uX h
  |str x=>cases r;exact wpAny_pyHash_str h
  |tuple xs=>
   have de:(PyData.tuple xs).depth=PyData.depthAll xs+1:=by simp[PyData.depth,Nat.add_comm]
   cases r with
   | @tuple a o vs m xs as ho hc hd h4=>
    have hu0:A.units<cLine:=by omega
    refine PySem.W.pyHash_slot (T:="tuple") ⟨o,ho,hc⟩ F.slot_tuple_hash F.entry_tuple_hash (F.args_tuple_hash_1 _) (beq_builtin_none _) (.inr hu0) ?_
    show wpAny _ A.in1 (Builtin.Tuple.tupleItemsOf (.ref a)>>=_) _ _ s
    refine QKq (wpAny_tupleItemsOf (n:=m) ho hd (QKq ?_))
    rw[<-Array.forIn_toList]
    refine wpAny_forIn_list _ (fun rest(b:Array Int)s'=>∃done left bs,xs=done++left/\ReadsAll s.heap rest left bs/\b.toList=hHs w (cns done)/\s'={s with toks:=s.toks+BW done}) _ ?_ ?_ _ _ ⟨[],xs,as,rfl,h4,rfl,rfl⟩
    ·rintro x rest b s' ⟨done,left,bs,rfl,hl,hb,rfl⟩
     cases hl with
     | @cons _ _ k ks _ bs' h1 hl'=>
      have mk:k∈done++k::ks:=QVq _ QYz
      have dk:=wX mk
      have hu1:A.in1.units+k.depth<cLine:=by
       have:A.in1.units<=A.units+1:=by simp[Around.in1]
       omega
      refine QKq (ih k (s:={s with toks:=s.toks+BW done}) (by omega) (Bs g mk) h1 hu1 ?_)
      have hb':(b.push (hH w (cn k))).toList=hHs w (cns (done++[k])):=by rw[Fx,Ey,Array.toList_push,hb];rfl
      have ht:(BW done+dr k)=BW (done++[k]):=by rw[Fo];simp[BW]
      first
       |exact QKz ⟨done++[k],ks,bs',by simp,hl',hb',by rw[<-ht];simp[Nat.add_assoc]⟩
       |exact QKq (QKz (QKz ⟨done++[k],ks,bs',by simp,hl',hb',by rw[<-ht];simp[Nat.add_assoc]⟩))
    ·rintro b s' ⟨done,left,bs,rfl,hl,hb,rfl⟩
     cases hl
     rw[List.append_nil]at h
     show wpAny _ A.in1 (retInt (Builtin.Tuple.tupleHashOf b.toList)) _ E _
     rw[hb]
     refine(show wpAny _ A.in1 (mkInt (Builtin.Tuple.tupleHashOf (hHs w (cns done)))>>=fun x=>ret x) _ E _ from QKq (wpAny_mkInt (QKz ⟨_,_,rfl,?_⟩)))
     simpa[hH,cn,dr,Nat.add_assoc]using h
  |_=>cases g
def fQ{A:Around}{s:Shared}{v:Value}(d:Nat)(hv:carriedByValue v=true){R:Bool->Shared->Prop}(r:R true s):wpAny (model prog w) A (eqIsQuiet d v) R E s:=by
 rw[eqIsQuiet_byValue d hv]
 exact QKz r
def G3{A:Around}{s:Shared}{d:Nat}{a:Addr}{o:Obj}{its:Array Value}{n:Nat}{Q:Bool->Shared->Prop}(ho:s.heap.get? a=some o)(hc:o.cls=.type "tuple")(hd:o.data=.seq its n)(hq:∀v∈its.toList,∀R:Bool->Shared->Prop,R true s->wpAny (model prog w) A (eqIsQuiet d v) R E s)(q:Q true s):
  wpAny (model prog w) A (eqIsQuiet (d+1) (.ref a)) Q E s:=by
 have hT:s.TypeIs (.ref a) "tuple":=⟨o,ho,hc⟩
 unfold eqIsQuiet
 refine QKq (wpAny_specialOf hT F.slot_tuple_eq.lookup (show wpAny _ A (isInstance (.ref a) (.type "tuple")>>=_) _ E s from QKq (wpAny_isInstance hT isSubtype_tuple_tuple ?_)))
 rw[if_neg (by decide)]
 refine QKq (wpAny_seqItems (n:=n) ho hd (QKq ?_))
 show wpAny _ A (forIn its _ _) _ E s
 rw[<-Array.forIn_toList]
 refine wpAny_forIn_list _ (fun rest r s'=>s'=s/\r=(none,())/\∀v∈rest,v∈its.toList) _ (fun v rest r s'=>?_) (fun r s'=>?_) _ _ ⟨rfl,rfl,fun v hv=>hv⟩
 ·rintro ⟨rfl,rfl,hm⟩
  exact QKq (hq v (hm v QYz) _ (QKz ⟨rfl,rfl,fun u hu=>hm u (QYq _ hu)⟩))
 ·rintro ⟨rfl,rfl,_⟩
  exact QKz q
theorem yq{h:Heap}:∀{xs:List PyData}{vs:List Value}{as:List Addr},ReadsAll h vs xs as->∀v∈vs,∃x∈xs,∃bs,Reads h v x bs
 |[],_,_,r,v,hv=>by cases r;cases hv
 |x::xs,_,_,r,v,hv=>by
  cases r with
  |cons r1 r2=>
   rcases QCq.mp hv with rfl|hv
   ·exact⟨x,QYz,_,r1⟩
   ·obtain⟨y,hy,q⟩:=yq r2 v hv
    exact⟨y,QYq _ hy,q⟩
def J5{A:Around}{s:Shared}:∀(n:Nat)(d:PyData){v:Value}{as:List Addr}{Q:Bool->Shared->Prop},d.depth<=n->hk d=true->Reads s.heap v d as->Q true s->wpAny (model prog w) A (eqIsQuiet (n+1) v) Q E s:=by
 intro n
 induction n with
 |zero=>
  intro d v as Q hn g r q
  cases d with
  |int i=>cases r;exact fQ _ rfl q
  |bool b=>cases r;exact fQ _ rfl q
  |str x=>cases r;exact fQ _ rfl q
  |tuple xs=>simp[PyData.depth]at hn
  |_=>cases g
 |succ n ih=>
  intro d v as Q hn g r q
  cases d with
  |int i=>cases r;exact fQ _ rfl q
  |bool b=>cases r;exact fQ _ rfl q
  |str x=>cases r;exact fQ _ rfl q
  |tuple xs=>
   have de:(PyData.tuple xs).depth=PyData.depthAll xs+1:=by simp[PyData.depth,Nat.add_comm]
   cases r with
   | @tuple a o vs m xs as ho hc hd h4=>
    refine G3 ho hc hd (fun v hv R r=>?_) q
    obtain⟨x,hx,bs,rx⟩:=yq h4 v hv
    have:=wX hx
    exact ih x (by omega) (Bs g hx) rx r
  |_=>cases g
def Im(h:Heap)(k:SK)(a:Addr):Prop:=∃d as,hk d=true/\d.depth<=7/\cn d=k/\Reads h (.ref a) d as
def Im.inj{h:Heap}{a:Addr}{x y:SK}(g:Im h x a)(f:Im h y a):x=y:=by
 obtain⟨d,as,h1,_,rfl,r⟩:=g
 obtain⟨e,bs,_,_,rfl,r'⟩:=f
 rw[SeqAt.Reads.unique d e _ as bs (xj d h1) r r']
noncomputable def dU(prog:Program)(w:World):HeapKind prog w SK where
 is:=Im
 hash:=hH w
 draws:=dr
 room:=fun A=>A.units+8<cLine
 inj:=fun g f=>g.inj f
 keeps:=fun x ho hd hs=>let ⟨d,as,h1,h2,h3,r⟩:=x;⟨d,as,h1,h2,h3,qI ho hd hs d h1 r⟩
 pyHash:=fun hu x q=>by
  obtain⟨d,as,h1,h2,rfl,r⟩:=x
  rw[UL]at q
  exact Rw 7 d h2 h1 r (by omega) q
 eqBool:=fun hu g f q=>by
  obtain⟨d,as,h1,h2,rfl,r⟩:=g
  obtain⟨e,bs,h3,h4,rfl,r'⟩:=f
  rw[<-BL d e h1 h3]at q
  exact SeqAt.eqAt_reads d e _ _ _ _ as bs r r' (xj d h1) (xj e h3) (by have:min d.depth e.depth<=d.depth:=Nat.min_le_left _ _;omega) _ _ _ _ q
 quiet:=fun x q=>by
  obtain⟨d,as,h1,h2,_,r⟩:=x
  exact J5 7 d h2 h1 r q
end
end Mini
end
section
namespace Mini
open PySem L2
def o7(h:Heap)(d:Addr)(es:Array DictEntry)(ep:Nat):Prop:=∃o,h.get? d=some o/\o.ExactDict/\o.data=.dict es ep
section
def vC(y:(d==sysModules)=false)(B:o7 s.heap d es ep)
  (q:Q (.ref s.heap.objs.size) {s with heap:=s.heap.push {cls:=.type "dict_keyiterator",data:=.fields #[.ref d,.int 0 0,.int es.size 0,.int ep 0]}}):wpAny (model prog w) A (pyIter (.ref d)) Q E s:=by
 obtain⟨o,h1,h2,h3⟩:=B
 have t:s.TypeIs (.ref d) "dict":=⟨o,h1,h2.1⟩
 refine wpAny_pyIter_slot t F.slot_dict_iter (Qzz F.slot_dict_iter t F.entry_dict_iter ?_ (F.args_dict_iter_1 _))
 refine QKq (QKq (wpAny_notOrdered_dict t (QKz ?_)))
 show wpAny _ _ (Builtin.Dict.showsAll d>>=_) _ _ s;unfold Builtin.Dict.showsAll;rw[if_neg (by rw[y];decide)]
 refine QKq (QKz (QKq (wpAny_dictEntries h1 h3 (QKq (wpAny_dictEpoch h1 h3 ?_)))))
 refine QKq (Qjq (QKz ⟨_,rfl,"dict_keyiterator",_,⟨_,Qzq _ rfl,rfl⟩,F.slot_dict_keyiterator_next.lookup,q⟩))
def vG{Q:Option Value->Shared->Prop}(st:s.heap.IsKeyIter it d i es.size ep)(B:o7 s.heap d es ep)(x:es[i]? =some e)
  (q:∀h',h'.IsKeyIter it d (i+1) es.size ep->Heap.SameBut it s.heap h'->Q (some e.key) {s with heap:=h'}):wpAny (model prog w) A (pyNext (.ref it)) Q E s:=by
 obtain⟨o,g1,g2,g3⟩:=id st
 obtain⟨od,h1,h2,h3⟩:=B
 refine QKq (wpAny_attempt (wpAny_callSpecial?_slot st.typeIs F.slot_dict_keyiterator_next (Qzz F.slot_dict_keyiterator_next st.typeIs F.entry_dict_keyiterator_next ?_ (F.args_dict_keyiterator_next_1 _))))
 refine QKq (QKz (QKq (QKq ?_)))
 first|refine QKq (wpAny_typeNameOfWhole_keyiter st.typeIs (QKz ?_))|refine QKq _
 refine QKq (wpAny_fieldsOf g1 g3 ?_)
 refine QKq (QKz (QKq (wpAny_dictEntries h1 h3 ?_)))
 rw[if_neg (by simp)]
 refine QKq (QKz (QKq (wpAny_dictEpoch h1 h3 ?_)))
 rw[if_neg (by simp)]
 refine QKz ?_
 simp only[show¬(i<0) by omega,if_false,Int.toNat_natCast,x]
 refine QKq ?_
 first|refine QKq (wpAny_typeNameOfWhole_keyiter st.typeIs (QKz ?_))|refine QKq _
 refine QKq (wpAny_isOneOf_keyiter st.typeIs ?_)
 show wpAny _ _ (setField _ 1 (rawInt (i+1))>>=_) _ _ s;refine QKq (wpAny_setField g1 g3 (by simp) ?_)
 have st':(s.heap.update it (Obj.mapFields (·.setIfInBounds 1 (rawInt (i+1))))).IsKeyIter it d (i+1) es.size ep:=⟨_,Heap.get?_update_self _ g1 (Obj.isFreed_of_fields (Obj.data_mapFields g3 _)),(Obj.cls_mapFields ..).trans g2,by rw[Obj.data_mapFields g3];simp[rawInt]⟩
 exact QKq (Qqq (QKq (wpAny_isOneOf_keyiter (s:={s with heap:=s.heap.update it (Obj.mapFields (·.setIfInBounds 1 (rawInt (i+1))))}) st'.typeIs (QKz (QKz ⟨_,rfl,QKz (q _ st' (Heap.SameBut.update ..))⟩)))))
def zJ(hh:A.handled=none)(st:s.heap.IsKeyIter it d i es.size ep)(B:o7 s.heap d es ep)(x:es.size<=i)
  (q:∀h',Heap.ExtBut it s.heap h'->Q none {s with heap:=h'}):wpAny (model prog w) A (pyNext (.ref it)) Q E s:=by
 obtain⟨o,g1,g2,g3⟩:=id st
 obtain⟨od,h1,h2,h3⟩:=B
 refine QKq (wpAny_attempt (wpAny_callSpecial?_slot st.typeIs F.slot_dict_keyiterator_next (Qzz F.slot_dict_keyiterator_next st.typeIs F.entry_dict_keyiterator_next ?_ (F.args_dict_keyiterator_next_1 _))))
 refine QKq (QKz (QKq (QKq ?_)))
 first|refine QKq (wpAny_typeNameOfWhole_keyiter st.typeIs (QKz ?_))|refine QKq _
 refine QKq (wpAny_fieldsOf g1 g3 ?_)
 refine QKq (QKz (QKq (wpAny_dictEntries h1 h3 ?_)))
 rw[if_neg (by simp)]
 refine QKq (QKz (QKq (wpAny_dictEpoch h1 h3 ?_)))
 rw[if_neg (by simp)]
 refine QKz ?_
 simp only[show¬(i<0) by omega,if_false,Int.toNat_natCast,Array.getElem?_eq_none x]
 refine QKq ?_
 first|refine QKq (wpAny_typeNameOfWhole_keyiter st.typeIs (QKz ?_))|refine QKq _
 show wpAny _ _ (setField _ 0 .none>>=_) _ _ s;refine QKq (wpAny_setField g1 g3 (by simp) ?_)
 show wpAny _ _ _ _ _ _;refine QKq ?_
 refine QKq (Qjq (QKq (wpAny_of_eq (by first|rfl|(simp only[firstArgMember];rfl)) ?_)) (by size_fits))
 refine Qjq ?_ (by size_fits);simp only[raiseNew]
 refine QKq (wpAny_handled ?_);rw[show A.in1.handled=none from hh]
 refine QKq (QKz (wpAny_throw ?_));refine QKq (wpAny_isInstance ⟨_,Qzq _ rfl,rfl⟩ isSubtype_stop ?_)
 exact QKz (q _ (((Heap.SameBut.update ..).extBut.push _).push _))
end
section
variable{s:Shared}
def o7.stay(B:o7 h d es ep)(k:∀o,h.get? d=some o->h'.get? d=some o):o7 h' d es ep:=let ⟨o,e,r⟩:=B;⟨o,k _ e,r⟩
def o7.lt(B:o7 h d es ep):d<h.objs.size:=let ⟨_,e,_⟩:=B;Qqz e
def o7.type(B:o7 s.heap d es ep):s.TypeIs (.ref d) "dict":=let ⟨o,e,c,_⟩:=B;⟨o,e,c.1⟩
theorem Cy(hh:A.handled=none)(ne:d≠it):Walks prog w A it [it,d] [it] es.size (fun i v=>∃e,es[i]? =some e/\v=e.key) (fun i h=>h.IsKeyIter it d i es.size ep/\o7 h d es ep) where
 sub:=fun b hb=>QCq.mpr (.inl (QDz.mp hb))
 frame:=fun _ _ _ st k=>⟨st.1.at fun o e=>k it QYz o e,st.2.stay fun o e=>k d (QYq _ QYz) o e⟩
 item:=fun i s Q E hi st q=>vG st.1 st.2 (Array.getElem?_eq_getElem hi) fun h' st' sb=>q _ h' s.toks ⟨es[i],Array.getElem?_eq_getElem hi,rfl⟩ ⟨st',st.2.stay fun o e=>(sb.2 d ne).trans e⟩ fun b o hb e=>(sb.2 b fun z=>hb (QDz.mpr z)).trans e
 done:=fun s Q E st q=>zJ hh st.1 st.2 (QVz _) fun h' eb=>q h' s.toks fun b o hb e=>eb b o (fun z=>hb (QDz.mpr z)) e
 self:=fun _ _ _ _ st q=>wpAny_pyIter_keyiter st.1 q
theorem Ny(y:(d==sysModules)=false):PySem.W.KdlSrc prog w "dict" d d es.size (fun i v=>∃e,es[i]? =some e/\v=e.key) (fun h=>o7 h d es ep) where
 type:=fun _ B=>B.type
 there:=fun _ B=>⟨B.lt,B.lt⟩
 keep:=fun _ _ B k=>B.stay fun o e=>k d (.inl rfl) o e
 notList:=by decide
 notTuple:=by decide
 hint:=fun _ _ _ _ B q=>PySem.W.kdl_hint_dict B.type q
 iter:=fun _ _ hh B=>⟨_,_,(fun _ _ q=>vC y B q),Cy hh (Qvz B.lt),⟨⟨_,Qzq _ rfl,rfl,rfl⟩,B.stay fun o e=>QWq _ e⟩⟩
end
end Mini
end
section
namespace Mini
open PySem L2 PyProof.Rows
def tH(b:Bool)(h:Heap)(it l:Addr)(k:Nat):Prop:=match b with|true=>h.IsListIter it l k|false=>h.IsTupleIter it l k
def xN(b:Bool)(h:Heap)(l:Addr)(xs:Array Value):Prop:=match b with|true=>h.IsList l xs|false=>h.IsTuple l xs
def tH.at{h h':Heap}{k:Nat}(x:tH b h it l k)(e:∀o,h.get? it=some o->h'.get? it=some o):tH b h' it l k:=by
 cases b<;>exact Exists.elim x fun o⟨h1,h2⟩=>⟨o,e o h1,h2⟩
def xN.at{h h':Heap}{xs:Array Value}(x:xN b h l xs)(e:∀o,h.get? l=some o->h'.get? l=some o):xN b h' l xs:=by
 cases b<;>exact Exists.elim x fun o⟨h1,h2⟩=>⟨o,e o h1,h2⟩
def tH.obj{h:Heap}{k:Nat}(x:tH b h it l k):∃o,h.get? it=some o/\∀v,o.data≠ .cell v:=by
 cases b<;>exact Exists.elim x fun o⟨h1,_,h2⟩=>⟨o,h1,fun v z=>by rw[h2]at z;cases z⟩
def tH.lt{h:Heap}{k:Nat}(x:tH b h it l k):it<h.objs.size:=let ⟨_,e,_⟩:=x.obj;Qqz e
section
def mK{i:Nat}{items}{Q:QZq}(hit:s.heap.IsTupleIter it l i)
  (hl:s.heap.IsTuple l items)(hx:items[i]? =some x)
  (hQ:∀h',h'.IsTupleIter it l (i+1)->Heap.SameBut it s.heap h'->Q x {s with heap:=h'}):
  wpAny (model prog w) A (Builtin.SmallTypes.nextOf (.ref it)) Q E s:=by
 obtain⟨o,ho,hc,hd⟩:=id hit
 obtain⟨ol,hol,_,nl,hdl⟩:=hl
 refine QKq (wpAny_callSpecial?_slot hit.typeIs PySem.F.slot_tuple_iterator_next
  (Qzz PySem.F.slot_tuple_iterator_next hit.typeIs PySem.F.entry_tuple_iterator_next ?_ (PySem.F.args_tuple_iterator_next_1 _)))
 show wpAny _ _ (field _ 0>>=_) _ _ s
 refine QKq (QGz ho hd rfl ?_)
 refine QKq (QGz ho hd rfl ?_)
 refine QKq (wpAny_seqItems hol hdl ?_)
 simp only[Int.toNat_natCast,hx]
 refine QKq (wpAny_setField ho hd (by simp) (QKz ⟨x,rfl,QKz (hQ _ ?_ (Heap.SameBut.update ..))⟩))
 exact⟨_,Heap.get?_update_self _ ho (Obj.isFreed_of_fields (Obj.data_mapFields hd _)),(Obj.cls_mapFields ..).trans hc,by
  rw[Obj.data_mapFields hd];simp[rawInt]⟩
def nZ{i:Nat}{items}(hh:A.handled=none)
  (hit:s.heap.IsTupleIter it l i)(hl:s.heap.IsTuple l items)(hx:items[i]? =none)
  (hE:∀h' e,Heap.ExtBut it s.heap h'->(∃o,h'.get? e=some o/\o.cls=.type "StopIteration")->E (.ref e) {s with heap:=h'}):
  wpAny (model prog w) A (Builtin.SmallTypes.nextOf (.ref it)) Q E s:=by
 obtain⟨o,ho,hc,hd⟩:=id hit
 obtain⟨ol,hol,_,nl,hdl⟩:=hl
 refine QKq (wpAny_callSpecial?_slot hit.typeIs PySem.F.slot_tuple_iterator_next
  (Qzz PySem.F.slot_tuple_iterator_next hit.typeIs PySem.F.entry_tuple_iterator_next ?_ (PySem.F.args_tuple_iterator_next_1 _)))
 show wpAny _ _ (field _ 0>>=_) _ _ s
 refine QKq (QGz ho hd rfl ?_)
 refine QKq (QGz ho hd rfl ?_)
 refine QKq (wpAny_seqItems hol hdl ?_)
 simp only[Int.toNat_natCast,hx]
 refine QKq (wpAny_rule (QKq (wpAny_setField ho hd (by simp) ?_)))
 refine QKq ?_
 refine QKq (Qjq ?_ (by size_fits))
 refine QKq (wpAny_of_eq (by first|rfl|(simp only[firstArgMember];rfl)) ?_)
 refine Qjq ?_ (by size_fits)
 refine QKq (wpAny_handled ?_)
 first|rw[show A.in1.handled=none from hh]|rw[hh]
 refine QKq (QKz (wpAny_throw (hE _ _ (((Heap.SameBut.update ..).extBut.push _).push _) ⟨_,Qzq _ rfl,rfl⟩)))
theorem eQ{it l:Addr}{items}{Q:QZq}(hit:tH b s.heap it l i)
  (hl:xN b s.heap l items)(hx:items[i]? =some x)(hQ:∀h',tH b h' it l (i+1)->Heap.SameBut it s.heap h'->Q x {s with heap:=h'}):
  wpAny (model prog w) A (Builtin.SmallTypes.nextOf (.ref it)) Q E s:=by
 cases b with
 |true=>exact wpAny_nextOf_list_item hit hl hx hQ
 |false=>exact mK hit hl hx hQ
theorem j4{it l:Addr}{items}(hh:A.handled=none)
  (hit:tH b s.heap it l i)(hl:xN b s.heap l items)(hx:items[i]? =none)
  (hE:∀h' e,Heap.ExtBut it s.heap h'->(∃o,h'.get? e=some o/\o.cls=.type "StopIteration")->E (.ref e) {s with heap:=h'}):
  wpAny (model prog w) A (Builtin.SmallTypes.nextOf (.ref it)) Q E s:=by
 cases b with
 |true=>exact wpAny_nextOf_list_end hh hit hl hx hE
 |false=>exact nZ hh hit hl hx hE
end
def jk(h:Heap)(z TI TO:Addr)(f0 f1:Value):Prop:=
 h.get? z=some {cls:=.type "zip",dict:=none,data:=.fields #[f0,f1,.bool false,.ref TI,.ref TO],slots:= #[]}
def F0(f0:Value):Prop:=f0=.none\/∃T:Nat,f0=rawInt T
section
def lZ{a:Addr}(h:Q (s.heap.get? a) s):wpAny M A (loadIfAlive a) Q E s:=fun Γ p hΓ=>by
 show Sem.wp M Γ _ _ _ p s
 exact(QKz (M:=M) (E:=E) h) Γ p hΓ
theorem xQ{z TI TO:Addr}{f0 f1:Value}(hz:jk s.heap z TI TO f0 f1)(h0:F0 f0)(hQ1:Q true s)
  (hQ2:∀h' g1,jk h' z TI TO f0 g1->Heap.SameBut z s.heap h'->Q false {s with heap:=h'}):wpAny (model prog w) A (Builtin.SmallTypes.ownedTupleIsFree (.ref z)) Q E s:=by
 rcases h0 with rfl|⟨T,rfl⟩
 ·exact QKq (QGz hz rfl rfl (QKz hQ1))
 ·refine QKq (QGz hz rfl rfl ?_)
  refine QKq (lZ ?_)
  cases hT:s.heap.get? _ with
  |none=>exact QKz hQ1
  |some o=>
   refine QKq (QGz hz rfl (x:=f1) rfl ?_)
   by_cases hf:(f1 != .bool true)=true
   ·rw[if_pos hf]
    refine QKq (wpAny_setField_rec hz (by simp) fun h' hz' hs'=>QKz (hQ2 h' _ hz' hs'))
   ·rw[if_neg hf]
    exact QKz (hQ2 s.heap f1 hz (Heap.SameBut.refl ..))
structure Oh(z TI TO i1 i2:Addr)(b1 b2:Bool)(l1 l2:Addr)(k1 k2:Nat)(T:Addr)(x y:Value)(h h':Heap):Prop where
 zr:∃f0 f1,jk h' z TI TO f0 f1/\F0 f0
 ti:IsPair h' TI (.ref i1) (.ref i2)
 to:∃a b,IsPair h' TO a b
 it1:tH b1 h' i1 l1 k1
 it2:tH b2 h' i2 l2 k2
 new:IsPair h' T x y
 size:h'.objs.size=T+1
 keep:∀c o,c≠z->c≠TO->c≠i1->c≠i2->h.get? c=some o->h'.get? c=some o
def Gb{z TI TO i1 i2 l1 l2:Addr}{k1 k2:Nat}{xs ys:Array Value}{Q:QZq}(D:ZipApart z TI TO i1 i2 l1 l2)
  (hz:jk s.heap z TI TO f0 f1)(h0:F0 f0)(hTI:IsPair s.heap TI (.ref i1) (.ref i2))(hTO:IsPair s.heap TO a b)
  (h1:tH b1 s.heap i1 l1 k1)(h2:tH b2 s.heap i2 l2 k2)(hl1:xN b1 s.heap l1 xs)(hl2:xN b2 s.heap l2 ys)(hx:xs[k1]? =some x)(hy:ys[k2]? =some y)
  (hQ:∀h',Oh z TI TO i1 i2 b1 b2 l1 l2 (k1+1) (k2+1) s.heap.objs.size x y s.heap h'->Q (.ref s.heap.objs.size) {s with heap:=h'}):
  wpAny (model prog w) A (Builtin.«zip.__next__» ⟨[.ref z],[]⟩) (fun fin s'=>∃v,fin=.done (.ret v)/\Q v s') E s:=by
 show wpAny _ _ (field (.ref z) 2>>=_) _ _ _
 refine QKq (QGz hz rfl rfl ?_)
 refine QKq (QGz hz rfl rfl ?_)
 refine QKq (wpAny_seqItems hTI rfl ?_)
 refine QKq (xQ hz h0 ?_ ?_)
 ·--the tuple of its own is used again
  refine QKq (wpAny_rule ?_)
  refine QKq (QGz hz rfl rfl ?_)
  refine QKq (wpAny_setField_rec hz (by simp) fun ω ψ θ=>?_)
  replace ψ:jk ω z TI TO .ellipsis f1:=ψ
  refine QKq ?_
  refine QKq (QKq (wpAny_onRaise ?_))
  refine QKq (eQ (h1.at fun o e=>θ.extBut _ _ D.i1z e) (hl1.at fun o e=>θ.extBut _ _ D.l1z e) hx fun h₂ h1₂ μ=>QKz ?_)
  have hTO₂:=μ.extBut _ _ D.TOi1 (θ.extBut _ _ D.TOz hTO)
  refine QKq (wpAny_seqItems hTO₂ rfl ?_)
  refine QKq (wpAny_updateSeq_pair hTO₂ fun h₃ hTO₃ χ=>?_)
  replace hTO₃:IsPair h₃ TO x b:=hTO₃
  refine QKq (wpAny_letGo (QKz ?_))
  refine QKq (QKq (wpAny_onRaise ?_))
  refine QKq (eQ (h2.at fun o e=>χ.extBut _ _ D.TOi2.symm (μ.extBut _ _ D.i12.symm (θ.extBut _ _ D.i2z e)))
   (hl2.at fun o e=>χ.extBut _ _ D.l2TO (μ.extBut _ _ D.l2i1 (θ.extBut _ _ D.l2z e))) hy fun h₄ h2₄ φ=>QKz ?_)
  have hTO₄:=φ.extBut _ _ D.TOi2 hTO₃
  refine QKq (wpAny_seqItems hTO₄ rfl ?_)
  refine QKq (wpAny_updateSeq_pair hTO₄ fun Ω hTO₅ Θ=>?_)
  replace hTO₅:IsPair Ω TO x y:=hTO₅
  refine QKq (wpAny_letGo (QKz (QKz ?_)))
  refine QKq (wpAny_seqItems hTO₅ rfl ?_)
  refine QKq (wpAny_newTuple ?_)
  have hsz:Ω.objs.size=s.heap.objs.size:=by rw[Θ.1,φ.1,χ.1,μ.1,θ.1]
  have hz₅:=Θ.extBut _ _ D.TOz.symm (φ.extBut _ _ D.i2z.symm (χ.extBut _ _ D.TOz.symm (μ.extBut _ _ D.i1z.symm ψ)))
  have hk₅:∀c o,c≠z->c≠TO->c≠i1->c≠i2->s.heap.get? c=some o->Ω.get? c=some o:=fun c o c1 c2 c3 c4 e=>
   Θ.extBut _ _ c2 (φ.extBut _ _ c4 (χ.extBut _ _ c2 (μ.extBut _ _ c3 (θ.extBut _ _ c1 e))))
  have hzlt:=Qqz hz₅
  refine QKq ?_
  refine QKq (wpAny_setField_rec (QWq _ hz₅) (by simp) fun h₇ hz₇ hs₇=>?_)
  replace hz₇:jk h₇ z TI TO (rawInt Ω.objs.size) f1:=hz₇
  refine wpAny_setField_rec hz₇ (by simp) fun h₈ hz₈ hs₈=>?_
  replace hz₈:jk h₈ z TI TO (rawInt Ω.objs.size) (.bool false):=hz₈
  have up:∀c o,c≠z->Ω.get? c=some o->h₈.get? c=some o:=fun c o c1 e=>hs₈.extBut _ _ c1 (hs₇.extBut _ _ c1 (QWq _ e))
  have hT₈:=hs₈.extBut _ _ (Nat.ne_of_gt hzlt) (hs₇.extBut _ _ (Nat.ne_of_gt hzlt) (Qzq _ rfl))
  have hz8:h₈.objs.size=Ω.objs.size+1:=by rw[hs₈.1,hs₇.1,Heap.size_push]
  rw[hsz]at hz₈ hT₈ hz8
  refine QKz ⟨_,rfl,?_⟩
  rw[hsz]
  exact hQ h₈ ⟨⟨_,_,hz₈,.inr ⟨_,rfl⟩⟩,up _ _ D.TIz (hk₅ _ _ D.TIz D.TITO D.TIi1 D.TIi2 hTI),⟨_,_,up _ _ D.TOz hTO₅⟩,(h1₂.at fun o e=>Θ.extBut _ _ D.TOi1.symm (φ.extBut _ _ D.i12 (χ.extBut _ _ D.TOi1.symm e))).at fun o e=>up _ o D.i1z e,(h2₄.at fun o e=>Θ.extBut _ _ D.TOi2.symm e).at fun o e=>up _ o D.i2z e,hT₈,hz8,fun c o c1 c2 c3 c4 e=>up c o c1 (hk₅ c o c1 c2 c3 c4 e)⟩
 ·--it was kept:a new one
  intro ω g1 ψ θ
  refine QKq ?_
  refine QKq (QKq (Qqq ?_))
  refine QKq (eQ (h1.at fun o e=>θ.extBut _ _ D.i1z e) (hl1.at fun o e=>θ.extBut _ _ D.l1z e) hx fun h₂ h1₂ μ=>QKz ?_)
  refine QKz ?_
  refine QKq (QKq (Qqq ?_))
  refine QKq (eQ (h2.at fun o e=>μ.extBut _ _ D.i12.symm (θ.extBut _ _ D.i2z e))
   (hl2.at fun o e=>μ.extBut _ _ D.l2i1 (θ.extBut _ _ D.l2z e)) hy fun h₄ h2₄ φ=>QKz ?_)
  refine QKz (QKz ?_)
  have hsz:h₄.objs.size=s.heap.objs.size:=by rw[φ.1,μ.1,θ.1]
  have hk:∀c o,c≠z->c≠i1->c≠i2->s.heap.get? c=some o->h₄.get? c=some o:=fun c o c1 c3 c4 e=>φ.extBut _ _ c4 (μ.extBut _ _ c3 (θ.extBut _ _ c1 e))
  refine QKq (wpAny_newTuple (QKz ⟨_,rfl,?_⟩) (by show 2<=sizeLine;rw[sizeLine_eq];decide))
  have T:Oh z TI TO i1 i2 b1 b2 l1 l2 (k1+1) (k2+1) s.heap.objs.size x y s.heap (h₄.push {cls:=.type "tuple",data:=.seq #[x,y]}):=by
   refine⟨⟨f0,g1,QWq _ (φ.extBut _ _ D.i2z.symm (μ.extBut _ _ D.i1z.symm ψ)),h0⟩,QWq _ (hk _ _ D.TIz D.TIi1 D.TIi2 hTI),⟨a,b,QWq _ (hk _ _ D.TOz D.TOi1 D.TOi2 hTO)⟩,
    h1₂.at fun o e=>QWq _ (φ.extBut _ _ D.i12 e),h2₄.at fun o e=>QWq _ e,?_,by rw[Heap.size_push,hsz],fun c o c1 c2 c3 c4 e=>QWq _ (hk c o c1 c3 c4 e)⟩
   rw[<-hsz]
   exact Qzq _ rfl
  rw[hsz]
  exact hQ _ T
theorem IV{z TI TO i1 i2 l1 l2:Addr}{k1 k2:Nat}{a b f0 f1:Value}(hh:A.handled=none)(D:ZipApart z TI TO i1 i2 l1 l2)
  (hz:jk s.heap z TI TO f0 f1)(h0:F0 f0)(hTI:IsPair s.heap TI (.ref i1) (.ref i2))(hTO:IsPair s.heap TO a b)
  (h1:tH b1 s.heap i1 l1 k1)(h2:tH b2 s.heap i2 l2 k2)(hl1:xN b1 s.heap l1 xs)(hl2:xN b2 s.heap l2 ys)(hend:xs[k1]? =none\/ys[k2]? =none)
  (hE:∀h' e,(∀c o,c≠z->c≠TO->c≠i1->c≠i2->s.heap.get? c=some o->h'.get? c=some o)->(∃o,h'.get? e=some o/\o.cls=.type "StopIteration")->E (.ref e) {s with heap:=h'}):
  wpAny (model prog w) A (Builtin.«zip.__next__» ⟨[.ref z],[]⟩) Q E s:=by
 show wpAny _ _ (field _ 2>>=_) _ _ _
 refine QKq (QGz hz rfl rfl ?_)
 refine QKq (QGz hz rfl rfl ?_)
 refine QKq (wpAny_seqItems hTI rfl ?_)
 refine QKq (xQ hz h0 ?_ ?_)
 ·simp only[if_true]
  refine QKq (wpAny_rule ?_)
  refine QKq (QGz hz rfl rfl ?_)
  refine QKq (wpAny_setField_rec hz (by simp) fun ω ψ θ=>?_)
  replace ψ:jk ω z TI TO .ellipsis f1:=ψ
  refine QKq ?_
  refine QKq (QKq (wpAny_onRaise ?_))
  cases hx:xs[k1]? with
  |none=>
   refine QKq (j4 hh (h1.at fun o e=>θ.extBut _ _ D.i1z e) (hl1.at fun o e=>θ.extBut _ _ D.l1z e) hx fun h₂ e μ he=>?_)
   obtain⟨oe,hoe,hce⟩:=he
   have hz₂:jk h₂ z TI TO .ellipsis f1:=μ _ _ D.i1z.symm ψ
   refine wpAny_setField_rec hz₂ (by simp) fun h₃ _ χ=>hE h₃ e (fun c o c1 _ c3 _ x=>χ.extBut _ _ c1 (μ _ _ c3 (θ.extBut _ _ c1 x))) ⟨oe,χ.extBut _ _ (fun x=>by subst x;unfold jk at hz₂;rw[hz₂]at hoe;cases hoe;simp at hce) hoe,hce⟩
  |some x=>
   have hy:ys[k2]? =none:=by
    rcases hend with h|h
    ·rw[hx]at h;cases h
    ·exact h
   refine QKq (eQ (h1.at fun o e=>θ.extBut _ _ D.i1z e) (hl1.at fun o e=>θ.extBut _ _ D.l1z e) hx fun h₂ h1₂ μ=>QKz ?_)
   have hTO₂:=μ.extBut _ _ D.TOi1 (θ.extBut _ _ D.TOz hTO)
   refine QKq (wpAny_seqItems hTO₂ rfl ?_)
   refine QKq (wpAny_updateSeq_pair hTO₂ fun h₃ hTO₃ χ=>?_)
   refine QKq (wpAny_letGo (QKz ?_))
   refine QKq (QKq (wpAny_onRaise ?_))
   refine QKq (j4 hh (h2.at fun o e=>χ.extBut _ _ D.TOi2.symm (μ.extBut _ _ D.i12.symm (θ.extBut _ _ D.i2z e)))
    (hl2.at fun o e=>χ.extBut _ _ D.l2TO (μ.extBut _ _ D.l2i1 (θ.extBut _ _ D.l2z e))) hy fun h₄ e φ he=>?_)
   obtain⟨oe,hoe,hce⟩:=he
   have hz₄:jk h₄ z TI TO .ellipsis f1:=φ _ _ D.i2z.symm (χ.extBut _ _ D.TOz.symm (μ.extBut _ _ D.i1z.symm ψ))
   refine wpAny_setField_rec hz₄ (by simp) fun Ω _ Θ=>hE Ω e (fun c o c1 c2 c3 c4 x=>Θ.extBut _ _ c1 (φ _ _ c4 (χ.extBut _ _ c2 (μ.extBut _ _ c3 (θ.extBut _ _ c1 x))))) ⟨oe,Θ.extBut _ _ (fun x=>by subst x;unfold jk at hz₄;rw[hz₄]at hoe;cases hoe;simp at hce) hoe,hce⟩
 ·intro ω g1 ψ θ
  refine QKq ?_
  refine QKq (QKq (Qqq ?_))
  cases hx:xs[k1]? with
  |none=>
   exact QKq (j4 hh (h1.at fun o e=>θ.extBut _ _ D.i1z e) (hl1.at fun o e=>θ.extBut _ _ D.l1z e) hx fun h₂ e μ he=>hE h₂ e (fun c o c1 _ c3 _ x=>μ _ _ c3 (θ.extBut _ _ c1 x)) he)
  |some x=>
   have hy:ys[k2]? =none:=by
    rcases hend with h|h
    ·rw[hx]at h;cases h
    ·exact h
   refine QKq (eQ (h1.at fun o e=>θ.extBut _ _ D.i1z e) (hl1.at fun o e=>θ.extBut _ _ D.l1z e) hx fun h₂ h1₂ μ=>QKz ?_)
   refine QKz ?_
   refine QKq (QKq (Qqq ?_))
   exact QKq (j4 hh (h2.at fun o e=>μ.extBut _ _ D.i12.symm (θ.extBut _ _ D.i2z e))
    (hl2.at fun o e=>μ.extBut _ _ D.l2i1 (θ.extBut _ _ D.l2z e)) hy fun h₄ e φ he=>hE h₄ e (fun c o c1 _ c3 c4 x=>φ _ _ c4 (μ.extBut _ _ c3 (θ.extBut _ _ c1 x))) he)
def pO{z TI TO i1 i2 l1 l2:Addr}{k1 k2:Nat}{x y a b f0 f1:Value}(D:ZipApart z TI TO i1 i2 l1 l2)
  (hz:jk s.heap z TI TO f0 f1)(h0:F0 f0)(hTI:IsPair s.heap TI (.ref i1) (.ref i2))(hTO:IsPair s.heap TO a b)
  (h1:tH b1 s.heap i1 l1 k1)(h2:tH b2 s.heap i2 l2 k2)(hl1:xN b1 s.heap l1 xs)(hl2:xN b2 s.heap l2 ys)(hx:xs[k1]? =some x)(hy:ys[k2]? =some y)
  (hQ:∀h',Oh z TI TO i1 i2 b1 b2 l1 l2 (k1+1) (k2+1) s.heap.objs.size x y s.heap h'->Q (some (.ref s.heap.objs.size)) {s with heap:=h'}):
  wpAny (model prog w) A (pyNext (.ref z)) Q E s:=by
 have hT:s.TypeIs (.ref z) "zip":=⟨_,hz,rfl⟩
 exact QKq (wpAny_attempt (wpAny_callSpecial?_slot hT PySem.F.slot_zip_next
  (Qzz PySem.F.slot_zip_next hT PySem.F.entry_zip_next
   (Gb D hz h0 hTI hTO h1 h2 hl1 hl2 hx hy fun h' T=>QKz (hQ h' T)) (PySem.F.args_zip_next_1 _))))
def qK{z TI TO i1 i2 l1 l2:Addr}{k1 k2:Nat}{a b f0 f1:Value}(hh:A.handled=none)(D:ZipApart z TI TO i1 i2 l1 l2)
  (hz:jk s.heap z TI TO f0 f1)(h0:F0 f0)(hTI:IsPair s.heap TI (.ref i1) (.ref i2))(hTO:IsPair s.heap TO a b)
  (h1:tH b1 s.heap i1 l1 k1)(h2:tH b2 s.heap i2 l2 k2)(hl1:xN b1 s.heap l1 xs)(hl2:xN b2 s.heap l2 ys)(hend:xs[k1]? =none\/ys[k2]? =none)
  (hQ:∀h',(∀c o,c≠z->c≠TO->c≠i1->c≠i2->s.heap.get? c=some o->h'.get? c=some o)->Q none {s with heap:=h'}):wpAny (model prog w) A (pyNext (.ref z)) Q E s:=by
 have hT:s.TypeIs (.ref z) "zip":=⟨_,hz,rfl⟩
 refine QKq (wpAny_attempt (wpAny_callSpecial?_slot hT PySem.F.slot_zip_next
  (Qzz PySem.F.slot_zip_next hT PySem.F.entry_zip_next (IV hh D hz h0 hTI hTO h1 h2 hl1 hl2 hend fun h' e hk he=>?_) (PySem.F.args_zip_next_1 _))))
 obtain⟨o,ho,hc⟩:=he
 exact QKq (wpAny_isInstance ⟨o,ho,hc⟩ isSubtype_stop (QKz (hQ _ hk)))
end
section
theorem Hk{z TI TO T:Addr}{f0 f1:Value}(hz:jk s.heap z TI TO f0 f1)(h0:F0 f0)
  (hQ:∀h' g0,jk h' z TI TO g0 f1->F0 g0->Heap.SameBut z s.heap h'->Q () {s with heap:=h'}):wpAny (model prog w) A (letOwnedTupleGo tg (.ref z) (.ref T)) Q E s:=by
 have same:=hQ s.heap f0 hz h0 (Heap.SameBut.refl ..)
 have go:wpAny (model prog w) A (do
   let o<-load z
   match o.cls,o.data with
   |.type n,.fields vs=>
    if ["enumerate","zip","dict_itemiterator","dict_reverseitemiterator","odict_iterator","itertools.zip_longest","itertools.pairwise"].contains n&&vs[0]? ==some (rawInt T)then
     rule "for.unpacks-the-owned-tuple"
     updateField z 0 .none
   |_,_=>pure ()) Q E s:=by
  refine QKq (wpAny_load hz ?_)
  show wpAny _ _ (if (["enumerate","zip","dict_itemiterator","dict_reverseitemiterator","odict_iterator","itertools.zip_longest","itertools.pairwise"].contains "zip"&&
   (#[f0,f1,.bool false,.ref TI,.ref TO])[0]? ==some _)=true then _ else _) Q E s
  split
  ·exact QKq (wpAny_rule (wpAny_setField_rec hz (by simp) fun h' hz' hs'=>hQ h' .none hz' (.inl rfl) hs'))
  ·exact QKz same
 cases tg<;>first
  |exact QKz same
  |exact go
def iW{z TI TO:Addr}{f0 f1:Value}(hz:jk s.heap z TI TO f0 f1)(h:Q (.ref z) s):wpAny (model prog w) A (pyIter (.ref z)) Q E s:=by
 have hT:s.TypeIs (.ref z) "zip":=⟨_,hz,rfl⟩
 exact wpAny_pyIter_slot hT PySem.F.slot_zip_iter (Qzz PySem.F.slot_zip_iter hT PySem.F.entry_zip_iter (QKz ⟨_,rfl,"zip",_,hT,PySem.F.slot_zip_next.lookup,h⟩) (PySem.F.args_zip_iter_1 _))
end
def itN(b:Bool):String:=if b then "list_iterator" else "tuple_iterator"
abbrev zH1(b1:Bool)(h:Heap)(l1:Addr):Heap:=h.push {cls:=.type (itN b1),data:=.fields #[.ref l1,.int 0 0]}
abbrev zH2(b1 b2:Bool)(h:Heap)(l1 l2:Addr):Heap:=(zH1 b1 h l1).push {cls:=.type (itN b2),data:=.fields #[.ref l2,.int 0 0]}
abbrev zH3(b1 b2:Bool)(h:Heap)(l1 l2:Addr):Heap:=(zH2 b1 b2 h l1 l2).push {cls:=.type "tuple",data:=.seq #[.ref h.objs.size,.ref (zH1 b1 h l1).objs.size]}
abbrev zH4(b1 b2:Bool)(h:Heap)(l1 l2:Addr):Heap:=(zH3 b1 b2 h l1 l2).push {cls:=.type "tuple",data:=.seq #[.none,.none]}
abbrev YT(b1 b2:Bool)(h:Heap)(l1 l2:Addr):Heap:=(zH4 b1 b2 h l1 l2).push {cls:=.type "zip",data:=.fields #[.none,.bool false,.bool false,.ref (zH2 b1 b2 h l1 l2).objs.size,.ref (zH3 b1 b2 h l1 l2).objs.size]}
def IK b1 b2 l1 l2 xs ys:
  Meets (Builtin.«zip.__new__» ⟨[.type "zip",.ref l1,.ref l2],[]⟩) (fun _ R s=>xN b1 s.heap l1 xs/\xN b2 s.heap l2 ys/\
   R (.ok (.ret (.ref (zH4 b1 b2 s.heap l1 l2).objs.size))) {s with heap:=YT b1 b2 s.heap l1 l2}):=
 .of_wp fun prog w A R s h=>by
  obtain⟨hp,g,d,tk,os⟩:=s;obtain⟨hl1,hl2,h⟩:=h
  have hsub:=sub_zip
  cases b1<;>cases b2
  ·have hL1:Heap.IsTuple (Shared.heap ⟨hp,g,d,tk,os⟩) l1 xs:=hl1
   have hL2:Heap.IsTuple (Shared.heap ⟨hp.push {cls:=.type "tuple_iterator",data:=.fields #[.ref l1,.int 0 0]},g,d,tk,os⟩) l2 ys:=hl2.at (b:=false) fun o e=>QWq _ e
   wp_walk using wpAny_pyIter_tuple hL1,wpAny_pyIter_tuple hL2
   exact⟨_,rfl,h⟩
  ·have hL1:Heap.IsTuple (Shared.heap ⟨hp,g,d,tk,os⟩) l1 xs:=hl1
   have hL2:Heap.IsList (Shared.heap ⟨hp.push {cls:=.type "tuple_iterator",data:=.fields #[.ref l1,.int 0 0]},g,d,tk,os⟩) l2 ys:=hl2.at (b:=true) fun o e=>QWq _ e
   wp_walk using wpAny_pyIter_tuple hL1,wpAny_pyIter_list hL2
   exact⟨_,rfl,h⟩
  ·have hL1:Heap.IsList (Shared.heap ⟨hp,g,d,tk,os⟩) l1 xs:=hl1
   have hL2:Heap.IsTuple (Shared.heap ⟨hp.push {cls:=.type "list_iterator",data:=.fields #[.ref l1,.int 0 0]},g,d,tk,os⟩) l2 ys:=hl2.at (b:=false) fun o e=>QWq _ e
   wp_walk using wpAny_pyIter_list hL1,wpAny_pyIter_tuple hL2
   exact⟨_,rfl,h⟩
  ·have hL1:Heap.IsList (Shared.heap ⟨hp,g,d,tk,os⟩) l1 xs:=hl1
   have hL2:Heap.IsList (Shared.heap ⟨hp.push {cls:=.type "list_iterator",data:=.fields #[.ref l1,.int 0 0]},g,d,tk,os⟩) l2 ys:=hl2.at (b:=true) fun o e=>QWq _ e
   wp_walk using wpAny_pyIter_list hL1,wpAny_pyIter_list hL2
   exact⟨_,rfl,h⟩
end Mini
end
section
namespace Mini
open PySem
def rm{w:World}{E:QZq}{a:Addr}{k:Nat}
  (hx:s.heap.get? a=some {cls:=.type "list",dict:=none,data:=.seq xs k,slots:=sl})(hA:A.handled=none)
  (h:∀h' tk,(∀b o,s.heap.get? b=some o->h'.get? b=some o)->Q none {s with heap:=h',toks:=tk}):
  wpAny (model prog w) A (getAttr? (.ref a) "keys") Q E s:=by
 obtain⟨hp,g,d,tk,os⟩:=s
 have hT:∀tk',(⟨hp,g,d,tk',os⟩:Shared).TypeIs (.ref a) "list":=fun _=>⟨_,hx,rfl⟩
 have f1:=sub_AttributeError
 have f3:=F.slot_list_getattribute.lookup
 have f4:=F.slot_list_getattribute.bind (.ref a)
 have f5:=am_list_getattr_none
 repeat (any_goals (first|assumption|exact hT _|((with_reducible show wpAny _ _ (call (Value.builtin "list.__getattribute__") _ _) _ _ _);refine call_meets F.slot_list_getattribute (hT _) am_entry_list_getattribute (F.args_list_getattribute_2 _ _) (meets_getattribute_miss_list a xs k sl "keys" _ (am_miss_of_fast (by kernel_rfl)) (by decide+kernel) (by size_fits)) ⟨hx,hA,fun h' tk' e hx'=>?_⟩)|wp_step))
 obtain⟨t',u',he⟩:=hx'.there
 unfold getattributeRaised
 repeat (any_goals (first|assumption|wp_step))
 all_goals exact h _ _ hx'.keeps
def pQ{w:World}{E:QZq}{a:Addr}{k:Nat}
  (hx:s.heap.get? a=some {cls:=.type "tuple",dict:=none,data:=.seq xs k,slots:=sl})(hA:A.handled=none)
  (h:∀h' tk,(∀b o,s.heap.get? b=some o->h'.get? b=some o)->Q none {s with heap:=h',toks:=tk}):
  wpAny (model prog w) A (getAttr? (.ref a) "keys") Q E s:=by
 obtain⟨hp,g,d,tk,os⟩:=s
 have hT:∀tk',(⟨hp,g,d,tk',os⟩:Shared).TypeIs (.ref a) "tuple":=fun _=>⟨_,hx,rfl⟩
 have f1:=sub_AttributeError
 have f3:=F.slot_tuple_getattribute.lookup
 have f4:=F.slot_tuple_getattribute.bind (.ref a)
 have f5:=am_tuple_getattr_none
 repeat (any_goals (first|assumption|exact hT _|((with_reducible show wpAny _ _ (call (Value.builtin "tuple.__getattribute__") _ _) _ _ _);refine call_meets F.slot_tuple_getattribute (hT _) am_entry_tuple_getattribute (F.args_tuple_getattribute_2 _ _) (meets_getattribute_miss_tuple a xs k sl "keys" _ (am_miss_of_fast (by kernel_rfl)) (by decide+kernel) (by size_fits)) ⟨hx,hA,fun h' tk' e hx'=>?_⟩)|wp_step))
 obtain⟨t',u',he⟩:=hx'.there
 unfold getattributeRaised
 repeat (any_goals (first|assumption|wp_step))
 all_goals exact h _ _ hx'.keeps
def lq:typeLookup (.type "zip") "__getattr__"=pure none:=by rw[typeLookup_type,builtinLookup_eq_fast];kernel_rfl
def cB:Slot "zip" "__getattribute__" "zip.__getattribute__":=
 .of (owner:="zip") (n:="__getattribute__") (by rw[typeLookup_type,builtinLookup_eq_fast];kernel_rfl) (by decide+kernel) (by decide+kernel) (by decide+kernel)
  (by first|exact .inl (by decide+kernel)|exact .inr (by decide+kernel)) (by rw[isSubtype_type];kernel_rfl)
def gB:entryFor table "zip.__getattribute__"=some Builtin.«object.__getattribute__»:=
 entryFor_alias (id':="object.__getattribute__") (by kernel_rfl) (by decide+kernel) (by decide+kernel) (by kernel_rfl)
def ie a b:argsOk "zip.__getattribute__" ⟨[a,b],[]⟩:=by
 unfold argsOk;kernel_rfl
def fJ(a:Addr)(xs:Array Value)(sl:Array (Option Value))(name:Str)(u:Tok)(hmiss:typeLookup (.type "zip") name=pure none)(hname:(["__module__","__name__","__qualname__","__doc__","__annotations__"]:List Str).contains name=false)(hsz:name.length+100<=sizeLine:=by size_fits):
  Meets (Builtin.«object.__getattribute__» ⟨[.ref a,.str name u],[]⟩) (fun A R s=>s.heap.get? a=some {cls:=.type "zip",dict:=none,data:=.fields xs,slots:=sl}/\raisesAttr (.ref a) name A R s):=
 Meets.of_wp fun prog w A R s hs=>by
  obtain⟨hp,g,d,tk,os⟩:=s
  obtain⟨hx,hs⟩:=hs
  repeat (any_goals (first|assumption|wp_step))
  simp only[hname,Qxq,if_false]
  repeat (any_goals (first|assumption|wp_step))
  exact wpAny_raiseAttrError hs.1 hs.2 (attrMsg_fits (by decide+kernel) hsz)
def ud{w:World}{E:QZq}{a:Addr}{sl:Array (Option Value)}
  (hx:s.heap.get? a=some {cls:=.type "zip",dict:=none,data:=.fields xs,slots:=sl})(hA:A.handled=none)
  (h:∀h' tk,(∀b o,s.heap.get? b=some o->h'.get? b=some o)->Q none {s with heap:=h',toks:=tk}):
  wpAny (model prog w) A (getAttr? (.ref a) "keys") Q E s:=by
 obtain⟨hp,g,d,tk,os⟩:=s
 have hT:∀tk',(⟨hp,g,d,tk',os⟩:Shared).TypeIs (.ref a) "zip":=fun _=>⟨_,hx,rfl⟩
 have f1:=sub_AttributeError
 have f3:=cB.lookup
 have f4:=cB.bind (.ref a)
 have f5:=lq
 repeat (any_goals (first|assumption|exact hT _|((with_reducible show wpAny _ _ (call (Value.builtin "zip.__getattribute__") _ _) _ _ _);refine call_meets cB (hT _) gB (ie _ _) (fJ a xs sl "keys" _ (am_miss_of_fast (by kernel_rfl)) (by decide+kernel) (by size_fits)) ⟨hx,hA,fun h' tk' e hx'=>?_⟩)|wp_step))
 obtain⟨t',u',he⟩:=hx'.there
 unfold getattributeRaised
 repeat (any_goals (first|assumption|wp_step))
 all_goals exact h _ _ hx'.keeps
inductive D where
 |non|bl (b:Bool)|int (i:Int)|str (x:Str)
 |tup (xs:List D)|lst (xs:List D)|cJ (ks:List D) (vs:List D)|gw (ks:List D) (vs:List D)
 deriving Inhabited
inductive Ob where
 |lst (xs:List D)|dct (ks vs:List D)|sdt (ks vs:List D)
 deriving Inhabited
noncomputable def Ob.d:Ob->D
 |.lst xs=>.lst xs
 |.dct ks vs=>.cJ ks vs
 |.sdt ks vs=>.gw ks vs
inductive Sl where
 |un|val (d:D)|own (o:Ob)|bor (o:Ob)
 deriving Inhabited
abbrev Ev:=List Sl
inductive Rv where
 |val (d:D)|new (o:Ob)|ref (i:Nat)
noncomputable def Rv.gK:Rv->Option D
 |.val d=>some d
 |.new o=>some o.d
 |_=>none
noncomputable def Rv.vV:Rv->Option Sl
 |.val d=>some (.val d)
 |.new o=>some (.own o)
 |_=>none
def aX:List Rv->Option (List D)
 |[]=>some []
 |r::rs=>r.gK.bind fun d=>(aX rs).map (d:: ·)
inductive Out(α:Type)where
 |ok (a:α) (σ:Ev)|exc (c:Nat) (σ:Ev)|bad
noncomputable def Out.bind{α β:Type}:Out α->(α->Ev->Out β)->Out β
 |.ok a σ,f=>f a σ
 |.exc c σ,_=>.exc c σ
 |.bad,_=>.bad
noncomputable def Out.ao{β:Type}:Out Rv->(D->Ev->Out β)->Out β
 |.ok (.val d) σ,f=>f d σ
 |.ok (.new o) σ,f=>f o.d σ
 |.ok _ _,_=>.bad
 |.exc c σ,_=>.exc c σ
 |.bad,_=>.bad
noncomputable def Out.cA{β:Type}(tr:D->Option Bool)(r:Out Rv)(f:Bool->Ev->Out β):Out β:=
 r.ao fun d σ=>match tr d with|some b=>f b σ|none=>.bad
noncomputable def Out.map{α β:Type}(g:α->β):Out α->Out β
 |.ok a σ=>.ok (g a) σ
 |.exc c σ=>.exc c σ
 |.bad=>.bad
def lift{α:Type}(σ:Ev):Option α->Out α
 |some a=>.ok a σ
 |none=>.bad
inductive YH where
 |add|sub|mul|mod
 deriving DecidableEq
inductive Cm where
 |eq|ne|lt|le|gt|isin|notin|jL|notN
 deriving DecidableEq
inductive Ty where
 |tup|lst|str|bool|int
 deriving DecidableEq
inductive Bi where
 |all|any|tuple|list|sorted|int|dict|len
 deriving DecidableEq
inductive Tg where
 |name (i:Nat)|tup (is:List Nat)
inductive E where
 |var (i:Nat)|con (d:D)|glob (k:Nat)
 |nil|cons (h t:E)
 |tup (es:E)|lis (es:E)
 |op (o:YH) (a b:E)|neg (a:E)|cmp (o:Cm) (a b:E)|chain (π ρ:Cm) (a b c:E)
 |and (es:E)|or (es:E)|not (a:E)|ite (c a b:E)
 |idx (a i:E)|slc (a lo hi:E)|noneE
 |call (f:Nat) (args:E)|ref (i:Nat)|rd (e:E)
 |isi (a:E) (t:Ty)|bi (b:Bi) (a:E)
 |range1 (a:E)|zip (a b:E)
 |count (a b:E)|popAt (i:Nat) (a:E)|index (a b:E)
 |get2 (d k x:E)|dsp (es:E)|enum (a:E)|emp|pop0 (i:Nat)
 |comp (nl:Nat) (tg:Tg) (it:E) (cond:E) (elt:E)
inductive S where
 |nil|cons (h t:S)
 |set (i:Nat) (e:E)|setT (is:List Nat) (e:E)|setIx (i:Nat) (ix e:E)
 |expr (e:E)|append (i:Nat) (e:E)|extend (i:Nat) (e:E)
 |ret (e:E)|aug (i:Nat) (e:E)|mov (i j:Nat)|ite (c:E) (a b:S)|callx (f:Nat) (args:E)
 |for_ (tg:Tg) (it:E) (b:S)|while_ (c:E) (b:S)
 |raise (c:Nat)|brk|cont
abbrev AAG:E:=.con (.int 1)
abbrev AAH:E:=.con (.int 0)
abbrev AAL:E:=.con (.bl true)
abbrev AAP:S:=.cons (.ret (.con (.bl false))) .nil
abbrev AAQ:E:=.con (.int 2)
abbrev AAR:E:=.cons (.var 0) .nil
abbrev AAS:S:=.set 14 (.tup (.cons (.var 13) (.cons (.op .add (.var 10) (.bi .int (.cmp .eq (.var 12) (.var 2)))) (.cons (.op .add (.var 11) (.bi .int (.cmp .eq (.var 12) (.var 4)))) .nil))))
abbrev AAT:E:=.cons (.con (.int 3)) .nil
abbrev AAV:E:=.cons (.var 1) (.cons (.var 2) .nil)
abbrev AAX:S:=.cons (.set 9 (.call 31 (.cons (.var 0) (.cons (.var 1) (.cons (.var 8) .nil))))) (.cons (.extend 5 (.comp 1 (.name 0) (.var 9) (.cmp .ne (.var 0) (.var 4)) (.idx (.var 10) (.var 0)))) (.cons (.extend 6 (.comp 1 (.name 0) (.var 9) (.cmp .eq (.var 0) (.var 4)) (.idx (.var 10) (.var 0)))) .nil))
abbrev AAZ:E:=.cons (.var 1) .nil
abbrev AAa:E:=.bi .tuple (.var 5)
abbrev AAb:E:=.idx (.var 0) AAH
abbrev AAc:E:=.idx (.var 0) AAG
abbrev AAd:E:=.call 34 (.cons (.var 0) (.cons (.ref 1) (.cons AAQ .nil)))
abbrev AAe:S:=.cons (.append 3 (.tup (.cons (.idx (.var 2) (.var 4)) (.cons (.tup (.cons (.con (.str "held")) (.cons (.tup (.cons (.con (.str "same")) (.cons (.idx (.var 2) (.op .sub (.var 4) AAG)) .nil))) (.cons (.idx (.var 2) (.op .mod (.op .add (.var 4) AAG) (.bi .len (.var 2)))) (.cons (.con (.bl false)) .nil))))) .nil)))) .nil
abbrev AAf:E:=.cmp .eq (.call 34 (.cons (.var 1) (.cons (.ref 2) (.cons AAQ .nil)))) AAG
abbrev AAg:E:=.idx (.var 2) AAG
abbrev AAh:E:=.cons (.con (.str "same")) (.cons (.con (.str "not")) .nil)
abbrev AAi:E:=.cmp .ne (.call 15 (.cons (.var 1) (.cons (.idx (.var 4) (.var 0)) (.cons (.var 4) .nil)))) (.idx (.var 4) (.var 0))
abbrev AAj:E:=.comp 1 (.name 0) (.var 3) AAL (.tup (.cons (.var 0) (.cons (.tup (.cons (.idx (.var 4) (.var 0)) (.cons (.ite (.cmp .eq (.var 0) (.var 2)) (.op .add (.idx (.var 3) AAG) AAG) (.idx (.var 3) AAG)) .nil))) .nil)))
abbrev AAk:E:=.cons (.var 1) (.cons (.var 2) (.cons (.var 0) (.cons (.var 4) .nil)))
abbrev AAl:E:=.cons (.var 6) (.cons (.var 3) (.cons (.var 4) AAR))
abbrev AAm:E:=.cons (.or (.cons (.cmp .ne (.var 12) (.var 4)) (.cons (.cmp .lt (.var 11) (.var 5)) .nil))) .nil
abbrev AAn:S:=.cons (.set 3 (.call 46 (.cons AAc AAV))) (.cons (.ret (.idx (.lis (.cons (.var 2) (.cons (.var 3) .nil))) (.bi .int (.cmp .eq (.idx (.var 1) (.idx (.var 0) AAQ)) (.cmp .eq (.var 3) (.idx (.var 0) (.con (.int 3)))))))) .nil)
abbrev AAo:E:=.cmp .ne (.call 46 (.cons AAc (.cons (.var 3) (.cons (.idx (.var 3) AAb) .nil)))) (.idx (.var 3) AAb)
abbrev AAp:S:=.set 4 (.idx (.var 3) (.call 33 (.cons (.var 0) (.cons AAH (.cons (.bi .len (.var 3)) .nil)))))
abbrev AAq:E:=.cons (.var 0) (.cons (.call 24 (.cons (.var 1) (.cons (.var 2) (.cons (.var 3) AAR)))) .nil)
abbrev AAr:E:=.cons (.cmp .eq (.var 12) (.var 2)) (.cons (.cmp .eq (.var 10) (.op .sub (.var 3) AAG)) .nil)
abbrev AAs:S:=.set 13 (.call 49 (.cons (.var 0) (.cons (.var 1) (.cons (.var 9) (.cons (.var 12) .nil)))))
abbrev AAt:E:=.and (.cons (.cmp .gt (.var 8) AAH) (.cons (.call 50 (.cons (.var 1) (.cons (.var 2) (.cons (.var 4) (.cons (.var 5) (.cons (.var 7) (.cons (.op .sub (.var 8) AAG) .nil))))))) .nil))
abbrev AAu:S:=.set 6 (.call 27 (.cons (.var 1) (.cons (.var 2) (.cons (.var 4) (.cons (.var 5) .nil)))))
abbrev AAv:E:=.idx (.var 2) AAH
abbrev AAw:E:=.cons AAH .nil
abbrev AAx:E:=.call 3 (.cons (.var 0) (.cons AAQ (.cons AAQ .nil)))
abbrev AAy:S:=.cons (.set 3 (.op .add (.slc (.var 3) AAG .noneE) (.call 26 (.cons (.var 0) (.cons (.var 1) (.cons (.idx (.var 3) AAH) (.cons (.ref 2) .nil))))))) .nil
abbrev AAz:E:=.and (.cons (.cmp .gt (.bi .len (.var 5)) (.var 3)) (.cons (.or (.cons (.cmp .gt (.bi .len (.var 5)) (.var 4)) (.cons (.cmp .eq AAd AAG) .nil))) .nil))
abbrev ABG:E:=.idx (.var 1) AAG
abbrev ABH:E:=.idx (.var 0) AAQ
abbrev ABI:E:=.cons (.con (.str "p")) (.cons (.con (.str "q")) (.cons (.con (.str "rr")) (.cons (.con (.str "go")) (.cons (.con (.str "abcdef")) .nil))))
abbrev ABJ:E:=.and (.cons (.cmp .eq (.idx (.var 8) AAG) (.op .sub (.var 2) AAG)) (.cons (.cmp .isin (.var 1) (.idx (.var 0) (.idx (.var 8) AAH))) .nil))
abbrev ABK:S:=.cons AAS (.cons (.ite (.cmp .notin (.var 14) (.var 7)) (.cons (.setIx 7 (.var 14) AAL) (.cons (.append 6 (.var 14)) .nil)) .nil) .nil)
abbrev ABL:S:=.set 5 (.op .add AAG (.call 33 (.cons (.var 0) (.cons AAG AAT))))
abbrev ABM:E:=.cons (.var 3) .nil
abbrev ABN:S:=.cons (.setIx 3 (.var 6) (.op .add (.idx (.var 3) (.var 2)) (.lis (.cons (.var 5) .nil)))) (.cons (.append 4 (.var 6)) .nil)
abbrev ABO:E:=.not (.call 50 (.cons (.var 1) (.cons (.var 2) (.cons (.var 4) (.cons (.var 5) (.cons (.var 7) (.cons (.var 8) .nil)))))))
abbrev ABP:S:=.cons (.ret (.or (.cons (.bi .all (.var 4)) (.cons (.and (.cons (.var 1) (.cons (.bi .any (.var 4)) .nil))) .nil)))) .nil
abbrev ABQ:E:=.con (.non)
abbrev ABR:E:=.cmp .gt (.call 34 (.cons (.var 1) (.cons (.ref 2) AAT))) AAH
abbrev ABS:E:=.cons (.var 0) AAZ
abbrev ABT:E:=.idx (.var 1) AAH
abbrev ABU:E:=.con (.str "a")
abbrev ABV:S:=.cons (.expr (.popAt 5 (.call 34 (.cons (.var 0) (.cons (.ref 1) (.cons (.bi .len (.var 5)) .nil)))))) .nil
abbrev ABW:E:=.or (.cons (.isi (.var 8) .bool) (.cons (.not (.isi (.var 8) .int)) (.cons (.cmp .lt (.var 8) AAH) .nil)))
abbrev ABX:E:=.cons (.var 0) (.cons (.var 2) .nil)
abbrev ABY:E:=.cons (.var 0) (.cons (.call 37 (.cons (.var 1) (.cons (.ref 2) (.cons (.var 7) (.cons AAG .nil))))) .nil)
abbrev ABZ:E:=.or (.cons (.not (.isi (.var 6) .lst)) (.cons (.cmp .ne (.bi .len (.var 6)) (.bi .len (.var 3))) .nil))
abbrev ABa:E:=.cons (.var 0) (.cons (.idx (.var 5) (.var 1)) .nil)
abbrev ABb:E:=.con (.str "held")
abbrev ABc:S:=.cons (.raise 0) .nil
abbrev ABd:E:=.cons (.con (.int 4)) .nil
abbrev ABe:E:=.comp 1 (.name 0) (.var 0) AAL (.call 4 (.cons AAc (.cons AAH (.cons (.op .sub (.var 3) AAG) .nil))))
abbrev ABf:E:=.comp 1 (.name 0) ABG AAL (.call 19 (.cons (.var 0) (.cons (.var 4) (.cons (.bi .len AAg) .nil))))
abbrev ABg:E:=.con .non
abbrev ABh:E:=.con (.str "and")
abbrev ABi:E:=.comp 2 (.tup [0,1]) (.zip (.var 0) (.slc (.var 0) AAG .noneE)) AAL (.cmp .lt (.var 0) (.var 1))
abbrev ABj:E:=.cons (.var 0) (.cons (.call 34 (.cons (.var 1) (.cons (.ref 2) (.cons (.var 6) .nil)))) .nil)
abbrev ABk:S:=.append 5 (.tup (.cons (.var 6) (.cons (.tup (.cons (.idx (.lis AAh) (.var 7)) ABM)) .nil)))
abbrev ABl:E:=.and (.cons (.cmp .isin AAL (.var 4)) (.cons (.cmp .isin (.con (.bl false)) (.var 4)) .nil))
abbrev ABm:E:=.idx (.var 2) (.call 34 (.cons (.var 0) (.cons (.ref 1) (.cons (.bi .len (.var 2)) .nil))))
abbrev ABn:E:=.con (.str "table")
abbrev ABo:E:=.con (.str "or")
abbrev ABp:E:=.bi .tuple (.var 3)
abbrev ABq:S:=.set 6 (.call 24 (.cons (.var 0) (.cons (.var 1) (.cons (.var 2) (.cons (.var 5) .nil)))))
abbrev ABr:E:=.comp 1 (.name 0) (.var 4) AAL (.call 30 AAl)
abbrev ABs:E:=.cmp .ne (.idx (.idx (.var 3) AAH) (.var 0)) (.cmp .eq (.idx (.var 5) (.var 0)) (.var 4))
abbrev ABt:S:=.setT [1,2] (.call 44 (.cons (.var 0) AAT))
abbrev ABu:E:=.cons (.var 0) AAV
abbrev ABv:E:=.con (.str "same")
abbrev ABw:E:=.con (.str "both")
abbrev ABx:S:=.cons (.set 8 (.op .add (.var 8) AAG)) .nil
abbrev ABy:S:=.setT [9,10,11] (.idx (.var 6) (.var 8))
abbrev ABz:E:=.cmp .isin (.var 0) (.var 4)
abbrev ACG:E:=.lis .nil
abbrev ACH:S:=.set 6 (.lis (.cons (.tup (.cons (.tup (.cons ABH AAw)) (.cons AAH AAw))) .nil))
abbrev ACI:E:=.comp 2 (.tup [0,1]) AAc AAL (.call 11 (.cons (.var 1) (.cons (.var 3) AAw)))
abbrev ACJ:S:=.cons (.ret (.op .add (.bi .list AAb) (.comp 1 (.name 0) AAc AAL AAb))) .nil
abbrev ACL:E:=.cmp .eq (.call 34 (.cons (.var 0) (.cons (.ref 2) (.cons AAQ .nil)))) AAG
abbrev ACM:E:=.con (.int 3)
abbrev ACN:E:=.comp 1 (.name 0) (.var 0) AAL (.cmp .eq (.count (.var 1) (.var 0)) AAG)
abbrev ACO:S:=.set 3 (.op .add (.var 3) (.call 47 (.cons (.var 0) (.cons AAv .nil))))
abbrev ACP:E:=.cons (.var 0) (.cons (.ref 2) .nil)
abbrev ACQ:E:=.con (.str "b")
abbrev ACR:S:=.append 4 (.cmp .eq (.idx (.var 4) (.neg AAG)) (.cmp .eq (.var 7) AAH))
abbrev ACS:E:=.cmp .notN (.var 13) ABQ
abbrev ACT:E:=.bi .list (.var 2)
abbrev ACU:E:=.call 13 AAR
abbrev ACV:E:=.not (.call 4 (.cons (.var 3) (.cons AAG (.cons (.glob 9) .nil))))
abbrev ACW:E:=.call 48 (.cons (.var 0) (.cons (.var 1) (.cons (.var 9) .nil)))
abbrev ACX:S:=.cons (.ret (.tup (.cons (.var 5) (.cons (.var 7) .nil)))) .nil
abbrev ACY:E:=.op .add AAG (.call 34 (.cons (.var 0) (.cons (.ref 1) ABM)))
abbrev ACZ:S:=.cons (.ret AAL) .nil
abbrev ACa:S:=.cons (.ret (.cmp .notin (.con (.bl false)) (.var 4))) .nil
abbrev ACb:E:=.cons (.bi .len (.var 1)) .nil
abbrev ACc:S:=.set 7 (.dsp (.cons (.idx (.var 6) AAH) (.cons AAL .nil)))
abbrev ACd:S:=.expr (.call 17 ABS)
abbrev ACe:E:=.con (.str "q")
abbrev ACf:E:=.con (.str "p")
abbrev ACg:E:=.cmp .notin (.var 8) (.var 4)
abbrev ACh:S:=.cons (.ret (.cmp .isin (.bi .tuple (.var 4)) ABH)) .nil
abbrev ACi:E:=.cons (.var 4) .nil
abbrev ACj:S:=.set 2 (.dsp (.cons (.call 21 AAR) (.cons ACG .nil)))
abbrev ACk:E:=.comp 1 (.name 0) (.var 0) AAL (.isi (.var 0) .bool)
abbrev ACl:E:=.cmp .eq (.var 0) (.var 4)
abbrev ACm:S:=.set 5 (.lis (.cons (.tup (.cons AAH AAw)) .nil))
abbrev ACn:E:=.idx (.var 2) AAc
abbrev ACo:E:=.idx (.var 1) AAc
abbrev ACp:E:=.con (.str "not")
abbrev ACq:E:=.bi .len (.var 0)
abbrev ACr:E:=.comp 1 (.name 0) (.call 22 ABu) AAL (.tup AAq)
abbrev ACs:E:=.cmp .eq AAd AAG
abbrev ACt:E:=.idx ABG AAg
abbrev ACu:E:=.comp 1 (.name 0) (.var 2) AAL (.call 29 AAk)
abbrev ACv:E:=.comp 1 (.name 0) (.var 1) AAL (.call 5 AAR)
abbrev ACw:E:=.comp 1 (.name 0) (.var 0) AAL (.call 8 ABX)
abbrev ACx:E:=.comp 1 (.name 0) (.var 0) AAL (.call 7 ABX)
abbrev ACy:S:=.cons (.ret (.cmp .isin AAL (.var 4))) .nil
abbrev ACz:S:=.cons (.ret (.cmp .isin (.var 4) ABH)) .nil
abbrev ADG:E:=.cons (.cmp .notin (.var 6) (.var 3)) .nil
abbrev ADH:S:=.setIx 4 (.var 8) AAL
abbrev ADJ:S:=.set 3 (.call 45 AAZ)
abbrev ADK:E:=.op .add AAv (.var 4)
abbrev ADL:S:=.cons (.ret ABg) .nil
abbrev ADM:E:=.cmp .ne (.var 8) (.op .sub (.var 5) AAG)
abbrev ADN:E:=.cmp .eq (.var 4) AAQ
abbrev ADP:E:=.cmp .eq (.var 3) ABn
abbrev ADQ:E:=.cmp .eq (.var 3) ABb
abbrev ADR:E:=.cons AAG .nil
abbrev ADS:S:=.set 6 ACG
abbrev ADT:S:=.cons (.ret (.idx (.var 4) AAH)) .nil
abbrev ADU:S:=.cons (.ret (.bi .any (.var 4))) .nil
abbrev ADV:S:=.cons (.ret (.bi .all (.var 4))) .nil
abbrev ADW:E:=.cmp .lt (.var 8) (.bi .len (.var 6))
abbrev ADX:S:=.set 6 (.op .add (.var 4) (.var 5))
abbrev ADY:E:=.not (.call 8 (.cons (.var 2) ACi))
abbrev ADZ:E:=.cons (.var 1) AAR
abbrev ADa:E:=.cons (.op .add (.var 2) AAG) .nil
abbrev ADb:E:=.comp 1 (.name 0) (.var 0) AAL AAx
abbrev ADc:E:=.call 45 AAR
abbrev ADd:E:=.zip ACU (.var 1)
abbrev ADe:E:=.bi .len (.var 4)
abbrev ADf:E:=.bi .len (.var 2)
abbrev ADg:S:=.cons (.ret (.call 16 ABu)) .nil
def small(i:Int):Bool:=decide (-18446744073709551616<i/\i<18446744073709551616)
def DX(i:Int):Bool:=decide (-4611686018427387904<=i/\i<4611686018427387904)
def fits(n:Nat):Bool:=decide (n<=16777216)
def b2i(b:Bool):Int:=if b then 1 else 0
noncomputable def ix?(n:Nat)(i:Int):Option Nat:=
 let j:=if i<0 then i+n else i
 if 0<=j/\j<n then some j.toNat else none
def at?(xs:List D)(i:Int):Option D:=(ix? xs.length i).bind fun k=>xs[k]?
noncomputable def clip(n:Nat)(i:Int):Nat:=
 let j:=if i<0 then i+n else i
 if j<0 then 0 else if j>n then n else j.toNat
noncomputable def cut(xs:List D)(lo hi:Option Int):List D:=
 let a:=match lo with|some i=>clip xs.length i|none=>0
 let b:=match hi with|some i=>clip xs.length i|none=>xs.length
 (xs.take b).drop a
mutual
def bK:D->D->Bool
 |.non,.non=>true
 |.bl a,.bl b=>a==b
 |.bl a,.int j=>b2i a==j
 |.int i,.bl b=>i==b2i b
 |.int i,.int j=>i==j
 |.str x,.str y=>decide (x=y)
 |.tup xs,.tup ys=>oN xs ys
 |.lst xs,.lst ys=>oN xs ys
 |_,_=>false
def oN:List D->List D->Bool
 |[],[]=>true
 |x::xs,y::ys=>bK x y&&oN xs ys
 |_,_=>false
end
mutual
def dep:D->Nat
 |.tup xs=>jN xs+1
 |.lst xs=>jN xs+1
 |_=>0
def jN:List D->Nat
 |[]=>0
 |x::xs=>max (dep x) (jN xs)
end
def sOk(x:Str):Bool:=x.cps.all fun c=>decide (c<128)
mutual
def nd:D->Bool
 |.str x=>sOk x
 |.tup xs=>n8 xs
 |.lst xs=>n8 xs
 |.cJ _ _=>false
 |.gw _ _=>false
 |_=>true
def n8:List D->Bool
 |[]=>true
 |x::xs=>nd x&&n8 xs
end
noncomputable def flat:D->Bool
 |.non=>true
 |.bl _=>true
 |.int _=>true
 |.str _=>true
 |_=>false
def BV(a b:D):Bool:=(flat a&&flat b)||(nd a&&decide (dep a<=50)&&nd b)
def eU(a:D)(xs:List D):Bool:=(flat a&&xs.all flat)||(nd a&&decide (dep a<=50)&&n8 xs)
def aU(x:D):List D->Bool
 |[]=>false
 |y::ys=>bK y x||aU x ys
def Mf(x:D):List D->Nat
 |[]=>0
 |y::ys=>if bK y x then 0 else Mf x ys+1
def gm(x:D):List D->Nat
 |[]=>0
 |y::ys=>(if bK y x then 1 else 0)+gm x ys
noncomputable def kY:List Bool->List Bool->Bool
 |[],[]=>false
 |[],_::_=>true
 |_::_,[]=>false
 |x::xs,y::ys=>if x=y then kY xs ys else(!x&&y)
noncomputable def bools:List D->Option (List Bool)
 |[]=>some []
 |.bl b::r=>(bools r).map (b:: ·)
 |_=>none
mutual
def kA:D->Bool
 |.int _=>true
 |.bl _=>true
 |.str x=>sOk x
 |.tup xs=>Ir xs
 |_=>false
def Ir:List D->Bool
 |[]=>true
 |x::xs=>kA x&&Ir xs
end
def cj:D->Bool
 |.tup xs=>Ir xs&&decide (jN xs<=6)
 |_=>false
noncomputable def ltD:D->D->Option Bool
 |.int i,.int j=>some (decide (i<j))
 |.tup xs,.tup ys=>(bools xs).bind fun a=>(bools ys).map fun b=>kY a b
 |_,_=>none
noncomputable def gP:D->Option Bool
 |.non=>some false
 |.bl b=>some b
 |.int i=>some (i !=0)
 |.tup xs=>some (!xs.isEmpty)
 |.lst xs=>some (!xs.isEmpty)
 |_=>none
noncomputable def oF:Ty->D->Bool
 |.tup,.tup _=>true
 |.lst,.lst _=>true
 |.str,.str _=>true
 |.bool,.bl _=>true
 |.int,.int _=>true
 |.int,.bl _=>true
 |_,_=>false
noncomputable def b8(k:D):List D->List D->Option D
 |k'::ks,v::vs=>if bK k' k then some v else b8 k ks vs
 |_,_=>none
noncomputable def keyOk:D->Bool
 |.str _=>true
 |.int _=>true
 |_=>false
def signs(x:Str):List D:=x.cps.toList.map fun c=>D.str ⟨#[c]⟩
noncomputable def items:D->Option (List D)
 |.tup xs=>some xs
 |.lst xs=>some xs
 |.str x=>if fits x.length then some (signs x)else none
 |.cJ ks _=>some ks
 |.gw ks _=>some ks
 |_=>none
noncomputable def binop:YH->D->D->Option Rv
 |.add,.int i,.int j=>some (.val (.int (i+j)))
 |.sub,.int i,.int j=>some (.val (.int (i-j)))
 |.mul,.int i,.int j=>if small i||small j then some (.val (.int (i*j)))else none
 |.mod,.int i,.int j=>if 0<j then some (.val (.int (i%j)))else none
 |.add,.tup xs,.tup ys=>if fits (xs.length+ys.length)then some (.val (.tup (xs++ys)))else none
 |.add,.lst xs,.lst ys=>if fits (xs.length+ys.length)then some (.new (.lst (xs++ys)))else none
 |_,_,_=>none
def lA:D->Bool
 |.non=>true
 |_=>false
noncomputable def aH:Cm->D->D->Option Bool
 |.eq,a,b=>if BV a b then some (bK a b)else none
 |.ne,a,b=>if BV a b then some (!bK a b)else none
 |.lt,a,b=>ltD a b
 |.gt,.int i,.int j=>some (decide (j<i))
 |.le,.int i,.int j=>some (decide (i<=j))
 |.isin,a,.tup xs=>if eU a xs then some (aU a xs)else none
 |.isin,a,.lst xs=>if eU a xs then some (aU a xs)else none
 |.isin,a,.cJ ks _=>if keyOk a then some (aU a ks)else if cj a&&ks.isEmpty then some false else none
 |.isin,a,.gw ks _=>if cj a then some (aU a ks)else none
 |.isin,.str x,.str y=>if x.length=1 then some (aU (.str x) (signs y))else none
 |.notin,a,.tup xs=>if eU a xs then some (!aU a xs)else none
 |.notin,a,.lst xs=>if eU a xs then some (!aU a xs)else none
 |.notin,a,.cJ ks _=>if keyOk a then some (!aU a ks)else if cj a&&ks.isEmpty then some true else none
 |.notin,a,.gw ks _=>if cj a then some (!aU a ks)else none
 |.jL,a,.non=>some (lA a)
 |.notN,a,.non=>some (!lA a)
 |_,_,_=>none
noncomputable def jn:List D->Option (List (List Bool))
 |[]=>some []
 |.tup ys::r=>match bools ys with
  |some (b::bs)=>(jn r).map ((b::bs):: ·)
  |_=>none
 |_=>none
noncomputable def JN{α:Type}(f:Nat->Nat->Option Bool):PySem.W.KasT α->Option α
 |.ret a=>some a
 |.ask i j k=>match f i j with
  |some b=>JN f (k b)
  |none=>none
noncomputable def acA(rs:List (List Bool))(i j:Nat):Option Bool:=(rs[i]?).bind fun a=>(rs[j]?).map fun b=>kY a b
noncomputable def rG(xs:List D):List Nat->Option (List D)
 |[]=>some []
 |i::is=>(xs[i]?).bind fun d=>(rG xs is).map (d:: ·)
noncomputable def acz(xs:List D):Option (Nat->Nat->Option Bool):=match jn xs with
 |some rs=>some (acA rs)
 |none=>none
noncomputable def ph(xs:List D):Option (List D):=
 if xs.length<2 then some xs
 else if xs.length<64 then(acz xs).bind fun f=>(JN f (PySem.W.kas_sort xs.length)).bind fun p=>if p.size=xs.length then rG xs p.toList else none
 else none
noncomputable def qG(k v:D):List D->List D->List D
 |k'::ks,v'::vs=>(if bK k' k then v else v')::qG k v ks vs
 |_,_=>[]
noncomputable def putD(k v:D)(ks vs:List D):List D×List D:=if aU k ks then(ks,qG k v ks vs)else(ks++[k],vs++[v])
noncomputable def dictOf:List D->List D->List D->Option (List D×List D)
 |ks,vs,[]=>some (ks,vs)
 |ks,vs,.tup [k,v]::r=>if keyOk k then let p:=putD k v ks vs;dictOf p.1 p.2 r else none
 |_,_,_=>none
noncomputable def gk:List D->List D->List D->Option (List D×List D)
 |ks,vs,[]=>some (ks,vs)
 |ks,vs,.tup [k,v]::r=>if cj k then let p:=putD k v ks vs;gk p.1 p.2 r else none
 |_,_,_=>none
def aQ:List D->List D->List D
 |x::xs,y::ys=>.tup [x,y]::aQ xs ys
 |_,_=>[]
def bF(lo:Int):Nat->List D
 |0=>[]
 |n+1=>.int lo::bF (lo+1) n
noncomputable def O6:Bi->List D->Option Rv
 |.all,xs=>(bools xs).map fun bs=>.val (.bl (bs.all id))
 |.any,xs=>(bools xs).map fun bs=>.val (.bl (bs.any id))
 |.tuple,xs=>some (.val (.tup xs))
 |.list,xs=>some (.new (.lst xs))
 |.sorted,xs=>(ph xs).map fun ys=>.new (.lst ys)
 |.dict,xs=>((dictOf [] [] xs).map fun p=>Rv.new (.dct p.1 p.2)).or ((gk [] [] xs).map fun p=>.new (.sdt p.1 p.2))
 |.len,_=>none
 |.int,_=>none
def E.aB:E->Option Nat
 |.var i=>some i
 |_=>none
noncomputable def lu(i:Nat)(σ:Ev):Out Rv:=
 match σ[i]? with
 |some (.val d)=>.ok (.val d) σ
 |some (.own o)=>.ok (.val o.d) (σ.set i (.val o.d))
 |_=>.bad
noncomputable def aR(i:Nat)(σ:Ev):Option D:=
 match σ[i]? with
 |some (.val d)=>some d
 |some (.own o)=>some o.d
 |some (.bor o)=>some o.d
 |_=>none
noncomputable def Hl:D->Option Nat
 |.tup xs=>some xs.length
 |.lst xs=>some xs.length
 |.str x=>if fits x.length then some x.length else none
 |.cJ ks _=>some ks.length
 |.gw ks _=>some ks.length
 |_=>none
noncomputable def getD(d:D)(i:D):Option D:=
 match d,i with
 |.tup xs,.int i=>at? xs i
 |.lst xs,.int i=>at? xs i
 |.cJ ks vs,k=>if keyOk k then b8 k ks vs else none
 |.gw ks vs,k=>if cj k then b8 k ks vs else none
 |_,_=>none
noncomputable def gR(d:D)(lo hi:Option Int):Option Rv:=
 match d with
 |.tup xs=>some (.val (.tup (cut xs lo hi)))
 |.lst xs=>some (.new (.lst (cut xs lo hi)))
 |_=>none
noncomputable def cW(jL:Bool)(d:D):Option (Option Int):=
 match jL,d with
 |true,_=>some none
 |false,.int i=>some (some i)
 |_,_=>none
def E.jL:E->Bool
 |.noneE=>true
 |_=>false
noncomputable def cu(i:Nat)(s:Sl)(σ:Ev):Option Ev:=
 match σ[i]? with
 |some (.bor _)=>none
 |some _=>some (σ.set i s)
 |none=>none
noncomputable def gU:List Nat->List D->Ev->Option Ev
 |[],[],σ=>some σ
 |i::is,d::ds,σ=>(cu i (.val d) σ).bind (gU is ds)
 |_,_,_=>none
noncomputable def bV:Tg->D->Ev->Option Ev
 |.name i,d,σ=>cu i (.val d) σ
 |.tup is,.tup ds,σ=>gU is ds σ
 |_,_,_=>none
noncomputable def cM(i:Nat)(f:Ob->Option Ob)(σ:Ev):Option Ev:=
 match σ[i]? with
 |some (.own o)=>(f o).map fun q=>σ.set i (.own q)
 |some (.bor o)=>(f o).map fun q=>σ.set i (.bor q)
 |_=>none
def tL(f:List D->Option (List D)):Ob->Option Ob
 |.lst xs=>(f xs).map .lst
 |_=>none
noncomputable def pP(i v:D):Ob->Option Ob
 |.lst xs=>match i with
  |.int i=>(ix? xs.length i).map fun j=>.lst (xs.set j v)
  |_=>none
 |.dct ks vs=>if keyOk i&&fits (ks.length+1)then let p:=putD i v ks vs;some (.dct p.1 p.2)else if cj i&&ks.isEmpty then some (.sdt [i] [v])else none
 |.sdt ks vs=>if cj i&&fits (ks.length+1)then let p:=putD i v ks vs;some (.sdt p.1 p.2)else none
inductive Res where
 |ok (r:Rv) (ps:List Sl)|exc (c:Nat) (ps:List Sl)|bad
structure Cf where
 fn:Nat->List Sl->Res
 gl:Nat->Option D
 turns:Nat
def j9(i:Nat):Rv->Bool
 |.ref j=>i==j
 |_=>false
def argv:Rv->Rv
 |.new o=>.val o.d
 |x=>x
noncomputable def enter:List Rv->Ev->Option (List Sl)
 |[],_=>some []
 |.val d::as,σ=>(enter as σ).map (.val d:: ·)
 |.new _::_,_=>none
 |.ref i::as,σ=>
  if as.any (j9 i)then none else
  match σ[i]? with
  |some (.own o)=>(enter as σ).map (.bor o:: ·)
  |some (.bor o)=>(enter as σ).map (.bor o:: ·)
  |_=>none
noncomputable def giveBack:List Rv->List Sl->Ev->Option Ev
 |[],[],σ=>some σ
 |.ref i::as,.bor o::ps,σ=>(cM i (fun _=>some o) σ).bind (giveBack as ps)
 |.ref _::_,_::_,_=>none
 |_::as,_::ps,σ=>giveBack as ps σ
 |_,_,_=>none
noncomputable def sG(c:Cf)(f:Nat)(as:List Rv)(σ:Ev):Out Rv:=
 match enter as σ with
 |none=>.bad
 |some ps=>
  match c.fn f ps with
  |.ok r qs=>match giveBack as qs σ with|some ζ=>.ok r ζ|none=>.bad
  |_=>.bad
noncomputable def aO(tg:Tg)(cond elt:Ev->Out Rv):List D->List D->Ev->Out (List D)
 |[],acc,σ=>.ok acc σ
 |x::xs,acc,σ=>
  match bV tg x σ with
  |none=>.bad
  |some σ₁=>(cond σ₁).cA gP fun b σ₂=>
   if b then(elt σ₂).ao fun d σ₃=>aO tg cond elt xs (acc++[d]) σ₃
   else aO tg cond elt xs acc σ₂
def cH:Option D->Bool
 |some (.lst _)=>true
 |_=>false
def iC:D->Option (List D)
 |.lst xs=>some xs
 |_=>none
noncomputable def iz(k:Nat)(y:D)(σ:Ev):Out Rv:=
 match y,aR k σ with
 |.int i,some (.lst xs)=>if !fits xs.length then .bad else match ix? xs.length i with
  |some j=>match xs[j]?,cM k (tL fun xs=>some (xs.eraseIdx j)) σ with
   |some d,some ζ=>.ok (.val d) ζ
   |_,_=>.bad
  |none=>.bad
 |_,_=>.bad
def rB:Option D->Bool
 |some (.cJ _ _)=>true
 |_=>false
noncomputable def zB(x y:D):Option Rv:=
 match x with
 |.tup xs=>if flat y&&xs.all flat then some (.val (.int (gm y xs)))else none
 |.lst xs=>if flat y&&xs.all flat then some (.val (.int (gm y xs)))else none
 |_=>none
noncomputable def ab2(x y:D):Option Rv:=
 match x with
 |.lst xs=>if flat y&&xs.all flat&&aU y xs then some (.val (.int (Mf y xs)))else none
 |_=>none
noncomputable def rH(d k x:D):Option D:=
 match d with
 |.cJ ks vs=>if keyOk k then some ((b8 k ks vs).getD x)else none
 |_=>none
def HW:List D->Option Rv
 |[k,v]=>if cj k then some (.new (.sdt [k] [v]))else none
 |_=>none
def zu(ds:List D):Option Rv:=if ds.length<=30&& !ds.isEmpty then HW ds else none
noncomputable def bA:D->Option (List D)
 |.tup xs=>some xs
 |.lst xs=>some xs
 |_=>none
def JD:D->Option (List D)
 |.gw ks _=>some ks
 |x=>bA x
noncomputable def b1(b:Bi)(x:D):Option Rv:=
 match b with
 |.list=>(JD x).bind (O6 .list)
 |.len=>(Hl x).map fun n=>.val (.int n)
 |.int=>match x with|.bl b=>some (.val (.int (b2i b)))|.int i=>some (.val (.int i))|_=>none
 |.sorted=>(iC x).bind (O6 .sorted)
 |b=>(bA x).bind (O6 b)
mutual
noncomputable def ev(c:Cf):E->Ev->Out Rv
 |.var i,σ=>lu i σ
 |.con d,σ=>.ok (.val d) σ
 |.glob k,σ=>match c.gl k with|some d=>.ok (.val d) σ|none=>.bad
 |.tup es,σ=>(evs c es σ).bind fun rs σ=>lift σ ((aX rs).bind fun ds=>if fits ds.length then some (.val (.tup ds))else none)
 |.lis es,σ=>(evs c es σ).bind fun rs σ=>lift σ ((aX rs).bind fun ds=>if fits ds.length then some (.new (.lst ds))else none)
 |.op o a b,σ=>(ev c a σ).ao fun x σ=>(ev c b σ).ao fun y σ=>lift σ (binop o x y)
 |.neg a,σ=>(ev c a σ).ao fun x σ=>lift σ (match x with|.int i=>some (.val (.int (-i)))|_=>none)
 |.cmp o a b,σ=>(ev c a σ).ao fun x σ=>match b.aB with
  |some k=>lift σ ((aR k σ).bind fun d=>(aH o x d).map fun q=>.val (.bl q))
  |none=>(ev c b σ).ao fun y σ=>lift σ ((aH o x y).map fun q=>.val (.bl q))
 |.chain π ρ a b d,σ=>(ev c a σ).ao fun x σ=>(ev c b σ).ao fun y σ=>(lift σ (aH π x y)).bind fun q σ=>
   if q then(ev c d σ).ao fun z σ=>lift σ ((aH ρ y z).map fun q=>.val (.bl q))else .ok (.val (.bl false)) σ
 |.and es,σ=>gJ c es σ
 |.or es,σ=>mZ c es σ
 |.not a,σ=>(ev c a σ).cA gP fun b σ=>.ok (.val (.bl (!b))) σ
 |.ite t a b,σ=>(ev c t σ).cA gP fun q σ=>if q then ev c a σ else ev c b σ
 |.idx a i,σ=>match a.aB with
  |some k=>if (aR k σ).isNone then .bad else(ev c i σ).ao fun y σ=>lift σ ((aR k σ).bind fun d=>(getD d y).map Rv.val)
  |none=>(ev c a σ).ao fun x σ=>(ev c i σ).ao fun y σ=>lift σ ((getD x y).map Rv.val)
 |.slc a lo hi,σ=>(ev c a σ).ao fun x σ=>(ev c lo σ).ao fun l σ=>match cW lo.jL l with
  |none=>.bad
  |some l=>(ev c hi σ).ao fun h σ=>lift σ ((cW hi.jL h).bind fun h=>gR x l h)
 |.noneE,σ=>.ok (.val .non) σ
 |.call f as,σ=>(evs c as σ).bind fun as σ=>sG c f as σ
 |.ref i,σ=>match σ[i]? with
  |some (.own _)=>.ok (.ref i) σ
  |some (.bor _)=>.ok (.ref i) σ
  |_=>.bad
 |.rd e,σ=>ev c e σ
 |.isi a t,σ=>(ev c a σ).ao fun x σ=>.ok (.val (.bl (oF t x))) σ
 |.bi b a,σ=>match a.aB with
  |some k=>lift σ ((aR k σ).bind fun d=>b1 b d)
  |none=>(ev c a σ).ao fun x σ=>lift σ (b1 b x)
 |.range1 a,σ=>(ev c a σ).ao fun x σ=>lift σ (match x with|.int n=>if fits n.toNat&&DX n then some (.val (.lst (bF 0 n.toNat)))else none|_=>none)
 |.zip a b,σ=>(ev c a σ).ao fun x σ=>(ev c b σ).ao fun y σ=>lift σ ((bA x).bind fun xs=>(bA y).map fun ys=>.val (.lst (aQ xs ys)))
 |.count a b,σ=>(ev c a σ).ao fun x σ=>if (bA x).isNone then .bad else(ev c b σ).ao fun y σ=>lift σ (zB x y)
 |.popAt k a,σ=>if !cH (aR k σ)then .bad else(ev c a σ).ao fun y σ=>iz k y σ
 |.index a b,σ=>(ev c a σ).ao fun x σ=>if (iC x).isNone then .bad else(ev c b σ).ao fun y σ=>lift σ (ab2 x y)
 |.get2 d k x,σ=>match d.aB with
  |some i=>if !rB (aR i σ)then .bad else(ev c k σ).ao fun k σ=>(ev c x σ).ao fun x σ=>lift σ ((aR i σ).bind fun y=>(rH y k x).map Rv.val)
  |none=>.bad
 |.dsp es,σ=>(evs c es σ).bind fun rs σ=>lift σ ((aX rs).bind zu)
 |.emp,σ=>.ok (.new (.dct [] [])) σ
 |.pop0 k,σ=>if !cH (aR k σ)then .bad else iz k (.int (-1)) σ
 |.enum a,σ=>(ev c a σ).ao fun x σ=>lift σ ((iC x).map fun xs=>.val (.lst (aQ (bF 0 xs.length) xs)))
 |.comp nl tg it cond elt,σ=>(ev c it σ).ao fun x σ=>match items x with
  |some xs=>match aO tg (ev c cond) (ev c elt) xs [] (List.replicate nl .un++σ)with
   |.ok ys τ=>.ok (.new (.lst ys)) (τ.drop nl)
   |_=>.bad
  |none=>.bad
 |.nil,_=>.bad
 |.cons _ _,_=>.bad
noncomputable def gJ(c:Cf):E->Ev->Out Rv
 |.cons h t,σ=>match t with
  |.nil=>ev c h σ
  |t=>(ev c h σ).ao fun x σ=>match x with|.bl true=>gJ c t σ|.bl false=>.ok (.val (.bl false)) σ|_=>.bad
 |_,_=>.bad
noncomputable def mZ(c:Cf):E->Ev->Out Rv
 |.cons h t,σ=>match t with
  |.nil=>ev c h σ
  |t=>(ev c h σ).ao fun x σ=>match x with|.bl true=>.ok (.val (.bl true)) σ|.bl false=>mZ c t σ|_=>.bad
 |_,_=>.bad
noncomputable def evs(c:Cf):E->Ev->Out (List Rv)
 |.nil,σ=>.ok [] σ
 |.cons h t,σ=>(ev c h σ).bind fun x σ=>(evs c t σ).bind fun xs σ=>.ok (argv x::xs) σ
 |_,_=>.bad
end
inductive Fl where
 |next (σ:Ev)|ret (r:Rv) (σ:Ev)|brk (σ:Ev)|cont (σ:Ev)|exc (k:Nat) (σ:Ev)|bad
noncomputable def Out.fl{α:Type}:Out α->(α->Ev->Fl)->Fl
 |.ok a σ,f=>f a σ
 |.exc k σ,_=>.exc k σ
 |.bad,_=>.bad
noncomputable def Out.kj:Out Rv->(D->Ev->Fl)->Fl
 |.ok (.val d) σ,f=>f d σ
 |.ok (.new o) σ,f=>f o.d σ
 |.ok _ _,_=>.bad
 |.exc k σ,_=>.exc k σ
 |.bad,_=>.bad
noncomputable def Out.Iu(r:Out Rv)(f:Bool->Ev->Fl):Fl:=r.kj fun d σ=>match gP d with|some b=>f b σ|none=>.bad
noncomputable def tQ:Rv->Ev->Fl
 |.val d,σ=>.ret (.val d) σ
 |.new o,σ=>.ret (.new o) σ
 |_,_=>.bad
def Fl.seq:Fl->(Ev->Fl)->Fl
 |.next σ,f=>f σ
 |r,_=>r
noncomputable def Fl.turn:Fl->(Ev->Fl)->Fl
 |.next σ,f=>f σ
 |.cont σ,f=>f σ
 |.brk σ,_=>.next σ
 |r,_=>r
noncomputable def bI(tg:Tg)(b:Ev->Fl):List D->Ev->Fl
 |[],σ=>.next σ
 |x::xs,σ=>match bV tg x σ with
  |none=>.bad
  |some σ₁=>(b σ₁).turn (bI tg b xs)
noncomputable def aZ(t:Ev->Out Rv)(b:Ev->Fl):Nat->Ev->Fl
 |0,_=>.bad
 |n+1,σ=>(t σ).Iu fun q σ=>if q then(b σ).turn (aZ t b n)else .next σ
def pB:Option Ev->Fl
 |some σ=>.next σ
 |none=>.bad
noncomputable def acq(c:Cf)(f:Nat)(as:List Rv)(σ:Ev):Fl:=
 match enter as σ with
 |none=>.bad
 |some ps=>
  match c.fn f ps with
  |.ok _ qs=>pB (giveBack as qs σ)
  |.exc k qs=>match giveBack as qs σ with|some ζ=>.exc k ζ|none=>.bad
  |.bad=>.bad
noncomputable def ex(c:Cf):S->Ev->Fl
 |.nil,σ=>.next σ
 |.cons h t,σ=>(ex c h σ).seq (ex c t)
 |.brk,σ=>.brk σ
 |.cont,σ=>.cont σ
 |.set i e,σ=>(ev c e σ).fl fun x σ=>pB (x.vV.bind fun s=>cu i s σ)
 |.setT is e,σ=>(ev c e σ).kj fun x σ=>pB (bV (.tup is) x σ)
 |.setIx k ix e,σ=>(ev c e σ).kj fun x σ=>if (aR k σ).isNone then .bad else(ev c ix σ).kj fun y σ=>pB (cM k (pP y x) σ)
 |.expr e,σ=>(ev c e σ).kj fun _ σ=>.next σ
 |.aug i e,σ=>match aR i σ with
  |some (.int a)=>(ev c e σ).kj fun y σ=>match y with|.int b=>pB (cu i (.val (.int (a+b))) σ)|_=>.bad
  |_=>.bad
 |.mov i j,σ=>match σ[j]? with
  |some (.own o)=>pB (cu i (.own o) (σ.set j .un))
  |_=>(lu j σ).fl fun x σ=>pB (x.vV.bind fun s=>cu i s σ)
 |.append k e,σ=>if !cH (aR k σ)then .bad else(ev c e σ).kj fun x σ=>pB (cM k (tL fun xs=>if fits (xs.length+1)then some (xs++[x])else none) σ)
 |.extend k e,σ=>if !cH (aR k σ)then .bad else(ev c e σ).kj fun x σ=>pB ((iC x).bind fun ys=>cM k (tL fun xs=>if fits (xs.length+ys.length)then some (xs++ys)else none) σ)
 |.ret e,σ=>match e.aB with
  |some i=>match σ[i]? with
   |some (.own o)=>.ret (.new o) (σ.set i .un)
   |_=>(ev c e σ).fl tQ
  |none=>(ev c e σ).fl tQ
 |.ite t a b,σ=>(ev c t σ).Iu fun q σ=>if q then ex c a σ else ex c b σ
 |.for_ tg it b,σ=>(ev c it σ).kj fun x σ=>match items x with
  |some xs=>bI tg (ex c b) xs σ
  |none=>.bad
 |.while_ t b,σ=>aZ (ev c t) (ex c b) c.turns σ
 |.raise k,σ=>.exc k σ
 |.callx f as,σ=>(evs c as σ).fl fun as σ=>acq c f as σ
structure Fn where
 pars:Nat
 names:Nat
 body:S
noncomputable def iy(c:Cf)(f:Fn)(ps:List Sl):Res:=
 if ps.length=f.pars then
  match ex c f.body (ps++List.replicate (f.names-f.pars) .un)with
  |.next σ=>.ok (.val .non) (σ.take f.pars)
  |.ret r σ=>.ok r (σ.take f.pars)
  |.exc k σ=>.exc k (σ.take f.pars)
  |_=>.bad
 else .bad
structure Pg where
 fns:List Fn
 gl:Nat->Option D
 turns:Nat
 pf:Cf->Nat->List Sl->Res:=fun _ _ _=>.bad
noncomputable def Pg.fn(p:Pg):Nat->Nat->List Sl->Res
 |0,_,_=>.bad
 |n+1,f,ps=>match p.fns[f]? with
  |some g=>iy ⟨p.fn n,p.gl,p.turns⟩ g ps
  |none=>p.pf ⟨p.fn n,p.gl,p.turns⟩ f ps
def Pg.cf(p:Pg)(n:Nat):Cf:=⟨p.fn n,p.gl,p.turns⟩
def Vq c(i σ):ev c (.var i) σ=lu i σ:=rfl
def v_1 c(d σ):ev c (.con d) σ=.ok (.val d) σ:=rfl
def v_2 c(k σ):ev c (.glob k) σ=match c.gl k with|some d=>.ok (.val d) σ|none=>.bad:=rfl
def v_3 c(es σ):ev c (.tup es) σ=(evs c es σ).bind fun rs σ=>lift σ ((aX rs).bind fun ds=>if fits ds.length then some (.val (.tup ds))else none):=rfl
def v_4 c(es σ):ev c (.lis es) σ=(evs c es σ).bind fun rs σ=>lift σ ((aX rs).bind fun ds=>if fits ds.length then some (.new (.lst ds))else none):=rfl
def v_5 c(o a b σ):ev c (.op o a b) σ=(ev c a σ).ao fun x σ=>(ev c b σ).ao fun y σ=>lift σ (binop o x y):=rfl
def v_6 c(a σ):ev c (.neg a) σ=(ev c a σ).ao fun x σ=>lift σ (match x with|.int i=>some (.val (.int (-i)))|_=>none):=rfl
theorem Z8 c(o a b σ):ev c (.cmp o a b) σ=(ev c a σ).ao fun x σ=>match b.aB with
  |some k=>lift σ ((aR k σ).bind fun d=>(aH o x d).map fun q=>.val (.bl q))
  |none=>(ev c b σ).ao fun y σ=>lift σ ((aH o x y).map fun q=>.val (.bl q)):=rfl
def v_8 c(π ρ a b d σ):ev c (.chain π ρ a b d) σ=(ev c a σ).ao fun x σ=>(ev c b σ).ao fun y σ=>(lift σ (aH π x y)).bind fun q σ=>
   if q then(ev c d σ).ao fun z σ=>lift σ ((aH ρ y z).map fun q=>.val (.bl q))else .ok (.val (.bl false)) σ:=rfl
def Za c(es σ):ev c (.and es) σ=gJ c es σ:=rfl
def Ge c(es σ):ev c (.or es) σ=mZ c es σ:=rfl
def Pr c(a σ):ev c (.not a) σ=(ev c a σ).cA gP fun b σ=>.ok (.val (.bl (!b))) σ:=rfl
def aad c(t a b σ):ev c (.ite t a b) σ=(ev c t σ).cA gP fun q σ=>if q then ev c a σ else ev c b σ:=rfl
theorem Jd c(a i σ):ev c (.idx a i) σ=match a.aB with
  |some k=>if (aR k σ).isNone then .bad else(ev c i σ).ao fun y σ=>lift σ ((aR k σ).bind fun d=>(getD d y).map Rv.val)
  |none=>(ev c a σ).ao fun x σ=>(ev c i σ).ao fun y σ=>lift σ ((getD x y).map Rv.val):=rfl
theorem aac c(a lo hi σ):ev c (.slc a lo hi) σ=(ev c a σ).ao fun x σ=>(ev c lo σ).ao fun l σ=>match cW lo.jL l with
  |none=>.bad
  |some l=>(ev c hi σ).ao fun h σ=>lift σ ((cW hi.jL h).bind fun h=>gR x l h):=rfl
def aab c(σ):ev c .noneE σ=.ok (.val .non) σ:=rfl
def Vp c(f as σ):ev c (.call f as) σ=(evs c as σ).bind fun as σ=>sG c f as σ:=rfl
theorem Pq c(i σ):ev c (.ref i) σ=match σ[i]? with
  |some (.own _)=>.ok (.ref i) σ
  |some (.bor _)=>.ok (.ref i) σ
  |_=>.bad:=rfl
def Pn c(e σ):ev c (.rd e) σ=ev c e σ:=rfl
def aaa c(a t σ):ev c (.isi a t) σ=(ev c a σ).ao fun x σ=>.ok (.val (.bl (oF t x))) σ:=rfl
theorem nG c(b a σ):ev c (.bi b a) σ=match a.aB with
  |some k=>lift σ ((aR k σ).bind fun d=>b1 b d)
  |none=>(ev c a σ).ao fun x σ=>lift σ (b1 b x):=rfl
def Vo c(a σ):ev c (.range1 a) σ=(ev c a σ).ao fun x σ=>lift σ (match x with|.int n=>if fits n.toNat&&DX n then some (.val (.lst (bF 0 n.toNat)))else none|_=>none):=rfl
def Vn c(a b σ):ev c (.zip a b) σ=(ev c a σ).ao fun x σ=>(ev c b σ).ao fun y σ=>lift σ ((bA x).bind fun xs=>(bA y).map fun ys=>.val (.lst (aQ xs ys))):=rfl
def Z9 c(a b σ):ev c (.count a b) σ=(ev c a σ).ao fun x σ=>if (bA x).isNone then .bad else(ev c b σ).ao fun y σ=>lift σ (zB x y):=rfl
def Vm c(k a σ):ev c (.popAt k a) σ=if !cH (aR k σ)then .bad else(ev c a σ).ao fun y σ=>iz k y σ:=rfl
theorem lD c(nl tg it cond elt σ):ev c (.comp nl tg it cond elt) σ=(ev c it σ).ao fun x σ=>match items x with
  |some xs=>match aO tg (ev c cond) (ev c elt) xs [] (List.replicate nl .un++σ)with
   |.ok ys τ=>.ok (.new (.lst ys)) (τ.drop nl)
   |_=>.bad
  |none=>.bad:=rfl
theorem Vl c(d k x σ):ev c (.get2 d k x) σ=match d.aB with
  |some i=>if !rB (aR i σ)then .bad else(ev c k σ).ao fun k σ=>(ev c x σ).ao fun x σ=>lift σ ((aR i σ).bind fun y=>(rH y k x).map Rv.val)
  |none=>.bad:=rfl
def adP c(es σ):ev c (.dsp es) σ=(evs c es σ).bind fun rs σ=>lift σ ((aX rs).bind zu):=rfl
def adO(c:Cf)(k σ):ev c (.pop0 k) σ=if !cH (aR k σ)then .bad else iz k (.int (-1)) σ:=rfl
def x_0 c(σ):ex c .nil σ=.next σ:=rfl
def x_1 c(h t σ):ex c (.cons h t) σ=(ex c h σ).seq (ex c t):=rfl
def Z2 c(i e σ):ex c (.set i e) σ=(ev c e σ).fl fun x σ=>pB (x.vV.bind fun s=>cu i s σ):=rfl
def x_6 c(is e σ):ex c (.setT is e) σ=(ev c e σ).kj fun x σ=>pB (bV (.tup is) x σ):=rfl
def x_7 c(k ix e σ):ex c (.setIx k ix e) σ=(ev c e σ).kj fun x σ=>if (aR k σ).isNone then .bad else(ev c ix σ).kj fun y σ=>pB (cM k (pP y x) σ):=rfl
def x_9 c(k e σ):ex c (.append k e) σ=if !cH (aR k σ)then .bad else(ev c e σ).kj fun x σ=>pB (cM k (tL fun xs=>if fits (xs.length+1)then some (xs++[x])else none) σ):=rfl
def adM(c:Cf)(k e σ):ex c (.extend k e) σ=if !cH (aR k σ)then .bad else(ev c e σ).kj fun x σ=>pB ((iC x).bind fun ys=>cM k (tL fun xs=>if fits (xs.length+ys.length)then some (xs++ys)else none) σ):=rfl
theorem zW c(e σ):ex c (.ret e) σ=match e.aB with
  |some i=>match σ[i]? with
   |some (.own o)=>.ret (.new o) (σ.set i .un)
   |_=>(ev c e σ).fl tQ
  |none=>(ev c e σ).fl tQ:=rfl
theorem adL c(tg it b σ):ex c (.for_ tg it b) σ=(ev c it σ).kj fun x σ=>match items x with
  |some xs=>bI tg (ex c b) xs σ
  |none=>.bad:=rfl
theorem adK(c:Cf)(i e σ):ex c (.aug i e) σ=match aR i σ with
  |some (.int a)=>(ev c e σ).kj fun y σ=>match y with|.int b=>pB (cu i (.val (.int (a+b))) σ)|_=>.bad
  |_=>.bad:=rfl
theorem IW(c:Cf)(i j σ):ex c (.mov i j) σ=match σ[j]? with
  |some (.own o)=>pB (cu i (.own o) (σ.set j .un))
  |_=>(lu j σ).fl fun x σ=>pB (x.vV.bind fun s=>cu i s σ):=rfl
end Mini
end
section
namespace Mini
open PySem L2
def FZ(K:QQq)(H:Hp)(a:Addr)(xs:List V):Prop:=
 (∃o,H a=some (.frz o (.lst xs)))\/
  ∃(o:Obj)(its:Array Value)(n:Nat),K.lookup a=some o/\o.cls=.type "list"/\o.dict=none/\o.data=.seq its n/\its.size<=sizeLine/\Vals xs its.toList
def FZ.sq{H:Hp}{xs:List V}(h:FZ K H a xs):jx K H a xs:=by
 rcases h with ⟨o,h⟩|h
 ·exact .inl (.inr ⟨o,h⟩)
 ·exact .inr h
def dC:Key->D
 |.inl i=>.int i
 |.inr x=>.str x
mutual
def py:D->PyData
 |.non=>.none
 |.bl b=>.bool b
 |.int i=>.int i
 |.str x=>.str x
 |.tup xs=>.tuple (xK xs)
 |.lst xs=>.list (xK xs)
 |.cJ _ _=>.none
 |.gw _ _=>.none
def xK:List D->List PyData
 |[]=>[]
 |x::xs=>py x::xK xs
end
def kC(d:D):SK:=cn (py d)
mutual
def bh(K:QQq)(H:Hp):D->V->Prop
 |.non,v=>v=.non
 |.bl b,v=>v=.bl b
 |.int i,v=>v=.int i
 |.str x,v=>v=.str x
 |.tup ds,v=>∃a vs,v=.ref a/\jq K H a vs/\aq K H ds vs
 |.lst ds,v=>∃a vs,v=.ref a/\FZ K H a vs/\aq K H ds vs
 |.cJ ks ds,v=>∃a o kvs,v=.ref a/\H a=some (.frz o (.dK kvs))/\ks=kvs.map (fun p=>dC p.1)/\aq K H ds (kvs.map (·.2))
 |.gw ks ds,v=>∃a o xs,v=.ref a/\H a=some (.frz o (.dS xs))/\ks.map kC=xs.map (·.1)/\ks.all cj=true/\aq K H ks (xs.map fun x=>.ref x.2.1)/\aq K H ds (xs.map (·.2.2))
def aq(K:QQq)(H:Hp):List D->List V->Prop
 |[],vs=>vs=[]
 |d::ds,vs=>∃v r,vs=v::r/\bh K H d v/\aq K H ds r
end
structure bG(H H':Hp):Prop where
 tups:∀b xs,H b=some (.tup xs)->H' b=some (.tup xs)
 frzs:∀b o u,H b=some (.frz o u)->H' b=some (.frz o u)
def bG.refl H:bG H H:=⟨fun _ _ h=>h,fun _ _ _ h=>h⟩
def bG.trans(a:bG H H1)(b:bG H1 H2):bG H H2:=⟨fun c xs h=>b.tups c xs (a.tups c xs h),fun c o u h=>b.frzs c o u (a.frzs c o u h)⟩
section
def bG.VN(p:bG H H')(h:jq K H a xs):jq K H' a xs:=by
 rcases h with (h|⟨o,h⟩)|h
 ·exact .inl (.inl (p.tups _ _ h))
 ·exact .inl (.inr ⟨o,p.frzs _ _ _ h⟩)
 ·exact .inr h
def bG.RT(p:bG H H')(h:FZ K H a xs):FZ K H' a xs:=by
 rcases h with ⟨o,h⟩|h
 ·exact .inl ⟨o,p.frzs _ _ _ h⟩
 ·exact .inr h
mutual
theorem bh.mono(p:bG H H'):∀{d:D}{v:V},bh K H d v->bh K H' d v
 |.non,_,h=>h
 |.bl _,_,h=>h
 |.int _,_,h=>h
 |.str _,_,h=>h
 |.tup ds,v,h=>by
  unfold bh at h⊢
  obtain⟨a,vs,e,s,l⟩:=h
  exact⟨a,vs,e,p.VN s,aq.mono p l⟩
 |.lst ds,v,h=>by
  unfold bh at h⊢
  obtain⟨a,vs,e,s,l⟩:=h
  exact⟨a,vs,e,p.RT s,aq.mono p l⟩
 |.cJ ks ds,v,h=>by
  unfold bh at h⊢
  obtain⟨a,o,kvs,e,s,k,l⟩:=h
  exact⟨a,o,kvs,e,p.frzs _ _ _ s,k,aq.mono p l⟩
 |.gw ks ds,v,h=>by
  unfold bh at h⊢
  obtain⟨a,o,xs,e,s,k,ka,l1,l⟩:=h
  exact⟨a,o,xs,e,p.frzs _ _ _ s,k,ka,aq.mono p l1,aq.mono p l⟩
theorem aq.mono(p:bG H H'):∀{ds:List D}{vs:List V},aq K H ds vs->aq K H' ds vs
 |[],_,h=>by unfold aq at h⊢;exact h
 |d::ds,vs,h=>by
  obtain⟨v,r,e,s,l⟩:=h
  exact⟨v,r,e,bh.mono p s,aq.mono p l⟩
end
def aq.bC:aq K H [] vs↔vs=[]:=by unfold aq;exact Iff.rfl
def aq.aG{ds:List D}:aq K H (d::ds) vs↔ ∃v r,vs=v::r/\bh K H d v/\aq K H ds r:=by
 constructor
 ·intro h;unfold aq at h;exact h
 ·intro h;unfold aq;exact h
def aq.cZ{ds:List D}{vs:List V}(h:bh K H d v)(t:aq K H ds vs):aq K H (d::ds) (v::vs):=aq.aG.mpr ⟨v,vs,rfl,h,t⟩
def aq.fY:aq K H [] []:=aq.bC.mpr rfl
theorem aq.length:∀{ds:List D}{vs:List V},aq K H ds vs->ds.length=vs.length
 |[],_,h=>by rw[aq.bC.mp h];rfl
 |d::ds,vs,h=>by
  obtain⟨v,r,rfl,_,t⟩:=aq.aG.mp h
  simp[aq.length t]
theorem aq.get:∀{ds:List D}{vs:List V}{i:Nat}{d:D},aq K H ds vs->ds[i]? =some d->∃v,vs[i]? =some v/\bh K H d v
 |[],_,_,_,_,e=>by simp at e
 |d::ds,vs,i,d',h,e=>by
  obtain⟨v,r,rfl,hd,t⟩:=aq.aG.mp h
  cases i with
  |zero=>simp at e;subst e;exact⟨v,rfl,hd⟩
  |succ i=>obtain⟨w,q,z⟩:=aq.get t (by simpa using e);exact⟨w,by simpa using q,z⟩
theorem aq.append:∀{ds es:List D}{vs ws:List V},aq K H ds vs->aq K H es ws->aq K H (ds++es) (vs++ws)
 |[],_,_,_,h,t=>by rw[aq.bC.mp h];exact t
 |d::ds,es,vs,ws,h,t=>by
  obtain⟨v,r,rfl,hd,q⟩:=aq.aG.mp h
  exact aq.cZ hd (aq.append q t)
theorem aq.take:∀{ds:List D}{vs:List V}(n:Nat),aq K H ds vs->aq K H (ds.take n) (vs.take n)
 |_,_,0=>fun _=>aq.fY
 |[],_,_+1=>fun h=>by rw[aq.bC.mp h];exact aq.fY
 |d::ds,vs,n+1=>fun h=>by
  obtain⟨v,r,rfl,hd,q⟩:=aq.aG.mp h
  exact aq.cZ hd (aq.take n q)
theorem aq.drop:∀{ds:List D}{vs:List V}(n:Nat),aq K H ds vs->aq K H (ds.drop n) (vs.drop n)
 |_,_,0=>fun h=>h
 |[],_,_+1=>fun h=>by rw[aq.bC.mp h];exact aq.fY
 |d::ds,vs,n+1=>fun h=>by
  obtain⟨v,r,rfl,hd,q⟩:=aq.aG.mp h
  exact aq.drop n q
theorem aq.eraseIdx:∀{ds:List D}{vs:List V}(n:Nat),aq K H ds vs->aq K H (ds.eraseIdx n) (vs.eraseIdx n)
 |[],_,_=>fun h=>by rw[aq.bC.mp h];exact aq.fY
 |d::ds,vs,0=>fun h=>by
  obtain⟨v,r,rfl,hd,q⟩:=aq.aG.mp h
  exact q
 |d::ds,vs,n+1=>fun h=>by
  obtain⟨v,r,rfl,hd,q⟩:=aq.aG.mp h
  exact aq.cZ hd (aq.eraseIdx n q)
theorem aq.set{v:V}(hd:bh K H d v):∀{ds:List D}{vs:List V}(n:Nat),aq K H ds vs->aq K H (ds.set n d) (vs.set n v)
 |[],_,_=>fun h=>by rw[aq.bC.mp h];exact aq.fY
 |e::ds,vs,0=>fun h=>by
  obtain⟨w,r,rfl,he,q⟩:=aq.aG.mp h
  exact aq.cZ hd q
 |e::ds,vs,n+1=>fun h=>by
  obtain⟨w,r,rfl,he,q⟩:=aq.aG.mp h
  exact aq.cZ he (aq.set hd n q)
end
def isOwn:Sl->Option Ob
 |.own o=>some o
 |.bor o=>some o
 |_=>none
def gq(K:QQq)(H:Hp)(ks ds:List D)(xs:List SV):Prop:=ks.map kC=xs.map (·.1)/\ks.all cj=true/\aq K H ks (xs.map fun x=>.ref x.2.1)/\aq K H ds (xs.map (·.2.2))
theorem gq.mono{K:QQq}{H H':Hp}{ks ds:List D}{xs:List SV}(p:bG H H')(h:gq K H ks ds xs):gq K H' ks ds xs:=⟨h.1,h.2.1,h.2.2.1.mono p,h.2.2.2.mono p⟩
noncomputable def Iw(K:QQq)(H:Hp):Ob->HO->Prop
 |.lst xs,u=>∃vs,u=.lst vs/\aq K H xs vs
 |.dct ks ds,u=>∃kvs,u=.dK kvs/\ks=kvs.map (fun p=>dC p.1)/\aq K H ds (kvs.map (·.2))
 |.sdt ks ds,u=>∃xs,u=.dS xs/\gq K H ks ds xs
theorem Iw.mono{K:QQq}{H H':Hp}(p:bG H H'):∀{o:Ob}{u:HO},Iw K H o u->Iw K H' o u
 |.lst _,_,⟨vs,e,l⟩=>⟨vs,e,l.mono p⟩
 |.dct _ _,_,⟨kvs,e,k,l⟩=>⟨kvs,e,k,l.mono p⟩
 |.sdt _ _,_,⟨xs,e,l⟩=>⟨xs,e,l.mono p⟩
structure Ov(u:HO):Prop where
 tup:∀xs,u≠ .tup xs
 frz:∀q w,u≠ .frz q w
 tbl:∀ps,u≠ .tbl ps
 own:∀x,u≠ .own x
theorem Iw.uG{H:Hp}:∀{o:Ob}{u:HO},Iw K H o u->Ov u
 |.lst _,_,⟨vs,e,_⟩=>by
  subst e
  constructor
  all_goals (intros;intro z;cases z)
 |.dct _ _,_,⟨kvs,e,_⟩=>by
  subst e
  constructor
  all_goals (intros;intro z;cases z)
 |.sdt _ _,_,⟨xs,e,_⟩=>by
  subst e
  constructor
  all_goals (intros;intro z;cases z)
def jw(K:QQq)(H:Hp)(o:Ob)(a:Addr):Prop:=∃u,H a=some u/\Iw K H o u
noncomputable def SX(K:QQq)(H:Hp):Sl->Option V->Prop
 |.un,_=>True
 |.val d,o=>∃v,o=some v/\bh K H d v
 |.own q,o=>∃a,o=some (.ref a)/\jw K H q a
 |.bor q,o=>∃a,o=some (.ref a)/\jw K H q a
def aP(env:Ev)(σ:St)(i:Nat)(a:Addr):Prop:=(∃s xs,env[i]? =some s/\isOwn s=some xs)/\σ[i]? =some (some (.ref a))
structure Sat(K:QQq)(env:Ev)(σ:St)(H:Hp):Prop where
 len:env.length=σ.length
 sl:∀(i:Nat)s,env[i]? =some s->SX K H s (σ[i]?).join
 ne:∀(i j:Nat)a,aP env σ i a->aP env σ j a->i=j
structure Nx(K:QQq)(env:Ev)(σ:St)(H:Hp)(env':Ev)(H':Hp):Prop where
 eG:Sat K env' σ H'
 sub:∀(i:Nat)a,aP env' σ i a->aP env σ i a
 pers:bG H H'
 keep:∀b u,H b=some u->(∀i,¬aP env σ i b)->H' b=some u
 dom:∀b,H' b=none->H b=none
 bors:∀(i:Nat)xs,env[i]? =some (.bor xs)->∃ys,env'[i]? =some (.bor ys)
section
theorem Nx.refl(h:Sat K env σ H):Nx K env σ H env H:=⟨h,fun _ _ z=>z,bG.refl H,fun _ _ z _=>z,fun _ z=>z,fun _ xs e=>⟨xs,e⟩⟩
theorem Nx.trans(a:Nx K env σ H δ H1)(b:Nx K δ σ H1 ε H2):Nx K env σ H ε H2:=
 ⟨b.eG,fun i c z=>a.sub i c (b.sub i c z),a.pers.trans b.pers,fun c vs z n=>b.keep c vs (a.keep c vs z n) fun i w=>n i (a.sub i c w),fun c z=>a.dom c (b.dom c z),fun i xs e=>let ⟨ys,e1⟩:=a.bors i xs e;b.bors i ys e1⟩
theorem Sat.own(h:Sat K env σ H){a:Addr}(o:aP env σ i a):∃q,jw K H q a:=by
 obtain⟨⟨s,xs,e1,e2⟩,e3⟩:=o
 have q:=h.sl i s e1
 rw[e3]at q
 cases s with
 |un=>simp[isOwn]at e2
 |val d=>simp[isOwn]at e2
 |own ys=>obtain⟨b,e,z⟩:=q;cases e;exact⟨ys,z⟩
 |bor ys=>obtain⟨b,e,z⟩:=q;cases e;exact⟨ys,z⟩
def Sat.qP(h:Sat K env σ H)(hn:H a=none)i:¬aP env σ i a:=fun o=>by
 obtain⟨q,u,z,_⟩:=h.own o
 rw[hn]at z;cases z
end
noncomputable def gC(K:QQq)(σ:St)(H₀ H:Hp):Rv->V->Prop
 |.val d,v=>bh K H d v
 |.new q,v=>∃a,v=.ref a/\jw K H q a/\H₀ a=none
 |.ref i,v=>σ[i]? =some (some v)
abbrev Wi:=Nat->Ev->St->Hp->Prop
noncomputable def tM(K:QQq)(W:Wi)(env:Ev)(r:Out Rv):TE:=fun σ H Q=>Sat K env σ H/\match r with
 |.ok x env'=>∀v H',Nx K env σ H env' H'->gC K σ H H' x v->Q v H'
 |.exc c env'=>∀H',Nx K env σ H env' H'->W c env' σ H'
 |.bad=>False
noncomputable def tD(K:QQq)(W:Wi)(env:Ev)(r:Out Rv):TE:=fun σ H Q=>Sat K env σ H/\match r with
 |.ok (.val d) env'=>∀v H',Nx K env σ H env' H'->bh K H' d v->Q v H'
 |.ok (.new q) env'=>∀v H',Nx K env σ H env' H'->bh K H' q.d v->Q v H'
 |.ok _ _=>False
 |.exc c env'=>∀H',Nx K env σ H env' H'->W c env' σ H'
 |.bad=>False
noncomputable def tT(K:QQq)(W:Wi)(env:Ev)(r:Out Rv):TT:=fun σ H Q=>Sat K env σ H/\match r with
 |.ok x env'=>∃d b,x.gK=some d/\gP d=some b/\∀H',Nx K env σ H env' H'->Q b H'
 |.exc c env'=>∀H',Nx K env σ H env' H'->W c env' σ H'
 |.bad=>False
def PE.imp{e:Expr}(h:PE X e t)(i:∀σ H Q,t' σ H Q->t σ H Q):PE X e t':=fun γ s σ H Q I q=>h γ s σ H Q I (i σ H Q q)
def PT.imp{e:Expr}(h:PT X e t)(i:∀σ H Q,t' σ H Q->t σ H Q):PT X e t':=fun γ s σ H Q I q=>h γ s σ H Q I (i σ H Q q)
def _root_.L2.bY.there{w:World}{h:Heap}{o:HO}(x:bY P w H h a o):∃u,h.get? a=some u:=by
 cases o with
 |lst xs=>obtain⟨_,_,_,_,e⟩:=x;exact⟨_,e⟩
 |tup xs=>obtain⟨_,_,_,p⟩:=x;obtain⟨o,e,_⟩:=p;exact⟨_,e⟩
 |dK kvs=>obtain⟨_,_,_,_,o,_,_,e,_⟩:=x;exact⟨_,e⟩
 |dS xs=>obtain⟨_,_,_,_,o,_,_,_,e,_⟩:=x;exact⟨_,e⟩
 |ins C dx fs=>obtain⟨_,_,_,e,_⟩:=x;exact⟨_,e⟩
 |own y=>obtain⟨_,e⟩:=x;exact⟨_,e⟩
 |frz ob u=>obtain⟨e,_⟩:=x;exact⟨_,e⟩
 |tbl ps=>exact⟨_,show h.get? a=some _ from x⟩
 |met f y=>exact⟨_,show h.get? a=some _ from x⟩
def Inv.freeze{X:Cx}{σ:St}{H:Hp}{a:Addr}(I:Inv X γ σ H s)(h:H a=some u)(hu:Ov u):
  ∃o,Inv X γ σ (upd H a (.frz o u)) s:=by
 obtain⟨o,ho⟩:=(I.hok a _ h).there
 refine⟨o,?_⟩
 have ne:∀b w,H b=some w->w≠u->b≠a:=fun b w q n z=>by subst z;rw[h]at q;cases q;exact n rfl
 have stay:∀b w,b≠a->H b=some w->upd H a (.frz o u) b=some w:=fun b w n q=>by rw[aC n];exact q
 have hok:nF X.prog X.w (upd H a (.frz o u)) s.heap:=fun b w q=>by
  have st:∀c v,bY X.prog X.w H s.heap c v->bY X.prog X.w _ s.heap c v:=fun c v z=>
   z.stay (fun c v _ q=>q) (fun e q=>stay e _ (ne e _ q (hu.own c).symm) q) fun e xs q=>stay e _ (ne e _ q (hu.tup xs).symm) q
  by_cases hb:b=a
  ·subst hb
   rw[aN]at q
   cases q
   exact⟨ho,st _ _ (I.hok b _ h)⟩
  ·rw[aC hb]at q
   exact st _ _ (I.hok b w q)
 have J:=I.step (t':=s.toks) (d':=s.drawn) (ch:=[]) (fun _ z=>nomatch z)
  (fun b o _ _ _ q _=>q) (fun b o _ _ _ q _=>⟨o.slots,q⟩) (fun b o _ q n=>by
   rw[aC (fun z=>by subst z;rw[h]at n;cases n)];exact n) (fun b o _ q=>⟨o,q⟩)
  (fun b xs q=>stay b _ (ne b _ q (hu.tup xs).symm) q) (fun b o w q=>stay b _ (ne b _ q (hu.frz o w).symm) q) (fun b ps q=>⟨#[],by rw[stay b _ (ne b _ q (hu.tbl ps).symm) q];simp⟩) (fun m q=>q) hok I.bare
 exact J
section
def gD(h:H a=some u)(hu:Ov u):bG H (upd H a (.frz o u)):=by
 refine⟨fun b xs q=>?_,fun b o' w q=>?_⟩
 ·rw[aC (fun z=>by subst z;rw[h]at q;cases q;exact hu.tup xs rfl)];exact q
 ·rw[aC (fun z=>by subst z;rw[h]at q;cases q;exact hu.frz o' w rfl)];exact q
def Iw.den{H':Hp}(h:Iw K H' q u)(e:H' a=some (.frz o u)):bh K H' q.d (.ref a):=by
 cases q with
 |lst xs=>
  obtain⟨vs,rfl,l⟩:=h
  show bh K H' (.lst xs) (.ref a)
  unfold bh
  exact⟨a,vs,rfl,.inl ⟨o,e⟩,l⟩
 |dct ks ds=>
  obtain⟨kvs,rfl,k,l⟩:=h
  show bh K H' (.cJ ks ds) (.ref a)
  unfold bh
  exact⟨a,o,kvs,rfl,e,k,l⟩
 |sdt ks ds=>
  obtain⟨xs,rfl,l⟩:=h
  show bh K H' (.gw ks ds) (.ref a)
  unfold bh
  exact⟨a,o,xs,rfl,e,l⟩
def SX.keep{sl:Sl}(p:bG H H')(h:SX K H sl v)(k:∀b u,isOwn sl≠none->v=some (.ref b)->H b=some u->H' b=some u):SX K H' sl v:=by
 cases sl with
 |un=>trivial
 |val d=>obtain⟨v,e1,e2⟩:=h;exact⟨v,e1,e2.mono p⟩
 |own q=>
  obtain⟨b,e1,w,e2,e3⟩:=h
  exact⟨b,e1,w,k b w (by simp[isOwn]) e1 e2,e3.mono p⟩
 |bor q=>
  obtain⟨b,e1,w,e2,e3⟩:=h
  exact⟨b,e1,w,k b w (by simp[isOwn]) e1 e2,e3.mono p⟩
def wg{sl:Sl}(e:env[i]? =some sl)(ho:isOwn sl≠none)(ev:(σ[i]?).join=some (.ref b)):aP env σ i b:=by
 refine⟨?_,?_⟩
 ·cases q:isOwn sl with
  |none=>exact absurd q ho
  |some o=>exact⟨sl,o,e,q⟩
 ·cases w:σ[i]? with
  |none=>rw[w]at ev;cases ev
  |some y=>rw[w]at ev;simp at ev;rw[ev]
theorem Sat.keep(S:Sat K env σ H)(p:bG H H')(k:∀i b u,aP env σ i b->H b=some u->H' b=some u):Sat K env σ H':=
 ⟨S.len,fun i sl e=>(S.sl i sl e).keep p fun b u ho ev hb=>k i b u (wg e ho ev) hb,S.ne⟩
def Sat.freeze(S:Sat K env σ H)(h:H a=some u)(hu:Ov u)(no:∀i,¬aP env σ i a):Sat K env σ (upd H a (.frz o u)):=
 S.keep (gD h hu) fun i b w ow hb=>by
  rw[aC (fun z=>by subst z;exact no i ow)];exact hb
end
def Kp{W:Wi}{env:Ev}(h:PE X e (tM X.K W env r)):PE X e (tD X.K W env r):=by
 intro γ s σ H Q I q
 obtain⟨S,q⟩:=q
 cases r with
 |bad=>exact q.elim
 |exc c env'=>exact h γ s σ H Q I ⟨S,q⟩
 |ok x env'=>
  cases x with
  |val d=>exact h γ s σ H Q I ⟨S,q⟩
  |ref i=>exact False.elim q
  |new xs=>
   refine bZ (h γ s σ H (fun v H'=>Nx X.K env σ H env' H'/\gC X.K σ H H' _ v) I ⟨S,fun v H' n k=>⟨n,k⟩⟩) fun u s1⟨v,H1,I1,r1,N,k⟩=>?_
   obtain⟨a,rfl,⟨u,ha,hl⟩,h0⟩:=k
   have hu:=hl.uG
   obtain⟨o,I2⟩:=Inv.freeze I1 ha hu
   have p:=gD (o:=o) ha hu
   refine⟨.ref a,_,I2,r1,q _ _ ⟨N.eG.freeze ha hu (fun i z=>S.qP h0 i (N.sub i a z)),N.sub,N.pers.trans p,fun b ws z n=>?_,fun b z=>?_,N.bors⟩ ((hl.mono p).den aN)⟩
   ·rw[aC (fun w=>by subst w;rw[h0]at z;cases z)];exact N.keep b ws z n
   ·refine N.dom b ?_
    by_cases hb:b=a
    ·subst hb;rw[aN]at z;cases z
    ·rw[aC hb]at z;exact z
def gC.weaken{σ:St}{x:Rv}(h:gC K σ H1 H x v)(d:∀b,H1 b=none->H0 b=none):gC K σ H0 H x v:=by
 cases x with
 |val d=>exact h
 |ref i=>exact h
 |new xs=>obtain⟨a,e,p,z⟩:=h;exact⟨a,e,p,d a z⟩
section
def TV{H1:Hp}(S:tM K W env r σ H Q)(N:Nx K env σ H δ H1):tM K W δ r σ H1 Q:=by
 obtain⟨_,h⟩:=S
 refine⟨N.eG,?_⟩
 cases r with
 |bad=>exact h
 |exc c ε=>exact fun H' N'=>h H' (N.trans N')
 |ok x ε=>exact fun v H' N' z=>h v H' (N.trans N') (z.weaken N.dom)
theorem aV{f:D->Ev->Out Rv}(h:tM K W env (r.ao f) σ H Q)
  (k:∀d δ v H1,Nx K env σ H δ H1->bh K H1 d v->tM K W δ (f d δ) σ H1 Q->R v H1):tD K W env r σ H R:=by
 have step:∀d δ,r.ao f=f d δ->∀v H1,Nx K env σ H δ H1->bh K H1 d v->R v H1:=fun d δ e v H1 N D=>by
  rw[e]at h
  exact k d δ v H1 N D (TV h N)
 obtain⟨S,h⟩:=h
 refine⟨S,?_⟩
 cases r with
 |bad=>exact h
 |exc c δ=>exact h
 |ok x δ=>
  cases x with
  |val d=>exact fun v H1 N D=>step d δ rfl v H1 N D
  |new xs=>exact fun v H1 N D=>step xs.d δ rfl v H1 N D
  |ref i=>exact h
theorem xZ{f:Bool->Ev->Out Rv}(h:tM K W env (r.cA gP f) σ H Q)
  (k:∀b δ H1,Nx K env σ H δ H1->tM K W δ (f b δ) σ H1 Q->R b H1):tT K W env r σ H R:=by
 have step:∀d δ x,x.gK=some d->r=.ok x δ->∃b,gP d=some b/\∀H1,Nx K env σ H δ H1->R b H1:=fun d δ x ex er=>by
  subst er
  cases q:gP d with
  |none=>
   cases x with
   |val d'=>cases ex;simp only[Out.cA,Out.ao,q]at h;exact h.2.elim
   |new xs=>cases ex;simp only[Out.cA,Out.ao,q]at h;exact h.2.elim
   |ref i=>cases ex
  |some b=>
   refine⟨b,rfl,fun H1 N=>k b δ H1 N (TV ?_ N)⟩
   cases x with
   |val d'=>cases ex;simp only[Out.cA,Out.ao,q]at h;exact h
   |new xs=>cases ex;simp only[Out.cA,Out.ao,q]at h;exact h
   |ref i=>cases ex
 refine⟨h.1,?_⟩
 cases r with
 |bad=>exact h.2
 |exc c δ=>exact h.2
 |ok x δ=>
  cases x with
  |val d=>obtain⟨b,e,q⟩:=step d δ _ rfl rfl;exact⟨d,b,rfl,e,q⟩
  |new xs=>obtain⟨b,e,q⟩:=step xs.d δ _ rfl rfl;exact⟨xs.d,b,rfl,e,q⟩
  |ref i=>exact h.2.elim
def cC(h:tM K W env (lift env o) σ H Q):∃z,o=some z/\Sat K env σ H/\∀v H',Nx K env σ H env H'->gC K σ H H' z v->Q v H':=by
 obtain⟨S,h⟩:=h
 cases o with
 |none=>exact h.elim
 |some z=>exact⟨z,rfl,S,h⟩
def dR{v:V}(h:tM K W env (.ok (.val d) env) σ H Q)(e:bh K H d v):Q v H:=h.2 v H (Nx.refl h.1) e
def Nx.laid{o:HO}(S:Sat K env σ H)(hp:H p=none):Nx K env σ H env (upd H p o):=by
 have ne:∀b u,H b=some u->b≠p:=fun b u q z=>by subst z;rw[hp]at q;cases q
 have pe:bG H (upd H p o):=⟨fun b xs q=>by rw[aC (ne b _ q)];exact q,fun b o' u q=>by rw[aC (ne b _ q)];exact q⟩
 refine⟨S.keep pe fun i b u _ q=>by rw[aC (ne b _ q)];exact q,fun _ _ z=>z,pe,fun b vs q _=>by rw[aC (ne b _ q)];exact q,fun b q=>?_,fun _ xs e=>⟨xs,e⟩⟩
 ·by_cases hb:b=p
  ·subst hb;exact hp
  ·rw[aC hb]at q;exact q
end
def GE(X:Cx)(W:Wi)(c:Cf)(m:E)(e:Expr):Prop:=∀env,PE X e (tM X.K W env (ev c m env))
def aD(X:Cx)(W:Wi)(c:Cf)(m:E):TE:=fun σ H Q=>∃env,tD X.K W env (ev c m env) σ H Q
def aT(X:Cx)(W:Wi)(c:Cf)(m:E):TT:=fun σ H Q=>∃env,tT X.K W env (ev c m env) σ H Q
def GT(X:Cx)(W:Wi)(c:Cf)(m:E)(e:Expr):Prop:=PT X e (aT X W c m)
section
def GE.d(h:GE X W c m e):PE X e (aD X W c m):=fun γ s σ H Q I⟨env,q⟩=>Kp (h env) γ s σ H Q I q
theorem bh.gP{H:Hp}{v:V}(h:bh K H x v)(e:gP x=some k):Oi K v H k:=by
 cases x with
 |non=>cases h;simp[Mini.gP]at e;subst e;rfl
 |bl b=>cases h;simp[Mini.gP]at e;subst e;rfl
 |int i=>cases h;simp[Mini.gP]at e;subst e;rfl
 |str y=>simp[Mini.gP]at e
 |tup xs=>
  obtain⟨p,vs,rfl,hq,l⟩:=h
  have e':=QEq e
  refine .inr (.inl ⟨vs,hq,?_⟩)
  have:=l.length
  cases xs<;>cases vs<;>simp_all
 |lst xs=>
  obtain⟨p,vs,rfl,hq,l⟩:=h
  have e':=QEq e
  refine .inl ⟨vs,hq.sq,?_⟩
  have:=l.length
  cases xs<;>cases vs<;>simp_all
 |cJ ks vs=>simp[Mini.gP]at e
 |gw ks vs=>simp[Mini.gP]at e
def yc{env:Ev}{σ:St}{Q:Bool->Hp->Prop}(h:tT K W env r σ H Q):tD K W env r σ H (fun v H'=>∃k,Oi K v H' k/\Q k H'):=by
 obtain⟨S,h⟩:=h
 refine⟨S,?_⟩
 cases r with
 |bad=>exact h
 |exc c δ=>exact h
 |ok x δ=>
  obtain⟨d,b,e1,e2,q⟩:=h
  cases x with
  |val d'=>cases e1;exact fun v H' N D=>⟨b,D.gP e2,q H' N⟩
  |new xs=>cases e1;exact fun v H' N D=>⟨b,D.gP e2,q H' N⟩
  |ref i=>cases e1
def GE.t(h:GE X W c m e)(he:∀whole,isTrue e X.env whole=(do let v<-whole;standAt e.pos;holding [v] (truthy v))):GT X W c m e:=
 PT.imp (yG h.d he) fun σ H Q⟨env,q⟩=>⟨env,yc q⟩
noncomputable def DP:D->Const->Bool
 |.non,.none=>true
 |.bl b,.bool b'=>b==b'
 |.int i,.int j=>i==j
 |.str x,.str y=>decide (x=y)
 |_,_=>false
def Yk{k:Const}(h:DP x k=true):GE X W c (.con x) (.Constant k i pos):=by
 intro env
 cases x with
 |non=>cases k<;>first|exact PE.imp Ws (fun σ H Q q=>dR q rfl)|simp[DP]at h
 |bl y=>cases k<;>first|(simp[DP]at h;subst h;exact PE.imp abo (fun σ H Q q=>dR q rfl))|simp[DP]at h
 |int y=>cases k<;>first|(simp[DP]at h;subst h;exact PE.imp Wv (fun σ H Q q=>dR q rfl))|simp[DP]at h
 |str y=>cases k<;>first|(simp[DP]at h;subst h;exact PE.imp Wr (fun σ H Q q=>dR q rfl))|simp[DP]at h
 |tup _=>cases k<;>simp[DP]at h
 |lst _=>cases k<;>simp[DP]at h
 |cJ _ _=>cases k<;>simp[DP]at h
 |gw _ _=>cases k<;>simp[DP]at h
def bN{σ:St}{i:Nat}(h:(σ[i]?).join=some v):σ[i]? =some (some v):=by
 cases w:σ[i]? with
 |none=>rw[w]at h;cases h
 |some y=>rw[w]at h;simp at h;rw[h]
def Nx.give{env:Ev}{H:Hp}{q:Ob}{a:Addr}{u:HO}(S:Sat K env σ H)(e:env[i]? =some (.own q))(es:σ[i]? =some (some (.ref a)))
  (ha:H a=some u)(l:Iw K H q u):Nx K env σ H (env.set i (.val q.d)) (upd H a (.frz o u)):=by
 have p:=gD (o:=o) ha l.uG
 have oa:aP env σ i a:=⟨⟨_,q,e,rfl⟩,es⟩
 have hi:=(QCz.mp e).1
 have sub:∀j b,aP (env.set i (.val q.d)) σ j b->aP env σ j b/\j≠i:=fun j b z=>by
  obtain⟨⟨s,ys,e1,e2⟩,e3⟩:=z
  by_cases hj:i=j
  ·subst hj;rw[Qwq hi]at e1;cases e1;simp[isOwn]at e2
  ·rw[Qxz hj]at e1;exact⟨⟨⟨s,ys,e1,e2⟩,e3⟩,fun z=>hj z.symm⟩
 have ne:∀j b,aP env σ j b->j≠i->b≠a:=fun j b z hj q=>hj (S.ne j i a (q▸z) oa)
 refine⟨⟨by simpa using S.len,fun j s ej=>?_,fun j k b z w=>S.ne j k b (sub j b z).1 (sub k b w).1⟩,fun j b z=>(sub j b z).1,p,fun b ws q n=>?_,fun b q=>?_,fun j ys ej=>?_⟩
 ·by_cases hj:i=j
  ·subst hj
   rw[Qwq hi]at ej
   cases ej
   exact⟨.ref a,by rw[es];rfl,(l.mono p).den aN⟩
  ·rw[Qxz hj]at ej
   refine(S.sl j s ej).keep p fun b w ho ev hb=>?_
   rw[aC (ne j b (wg ej ho ev) fun z=>hj z.symm)];exact hb
 ·rw[aC (fun z=>by subst z;exact n i oa)];exact q
 ·by_cases hb:b=a
  ·subst hb;rw[aN]at q;cases q
  ·rw[aC hb]at q;exact q
 ·by_cases hj:i=j
  ·subst hj;rw[e]at ej;cases ej
  ·exact⟨ys,by rw[Qxz hj];exact ej⟩
def X4{x:Str}(hN:X.N[i]? =some x)(hv:YF X.env.scope x)(hd:(x==("__debug__":Str))=false)(hcd:(x==("__classdict__":Str))=false):GE X W c (.var i) (.Name x pos):=by
 intro env γ s σ H Q I q
 have B:=Ko (pos:=pos) hN hv hd hcd
 simp only[Vq,lu]at q
 cases e:env[i]? with
 |none=>rw[e]at q;exact q.2.elim
 |some sl=>
  rw[e]at q
  cases sl with
  |un=>exact q.2.elim
  |bor xs=>exact q.2.elim
  |val d=>
   obtain⟨v,e1,e2⟩:=q.1.sl i _ e
   exact B γ s σ H Q I ⟨v,bN e1,dR q e2⟩
  |own xs=>
   obtain⟨a,e1,w,e2,e3⟩:=q.1.sl i _ e
   refine bZ (B γ s σ H (fun v H'=>v=.ref a/\H'=H) I ⟨.ref a,bN e1,rfl,rfl⟩) fun u s1⟨v,H1,I1,r1,k1,k2⟩=>?_
   subst k1 k2
   obtain⟨o,I2⟩:=Inv.freeze I1 e2 e3.uG
   exact⟨.ref a,_,I2,r1,q.2 _ _ (Nx.give q.1 e (bN e1) e2 e3) ((e3.mono (gD e2 e3.uG)).den aN)⟩
end
section
end
noncomputable def iJ(K:QQq)(σ:St)(H₀ H:Hp):List Rv->List V->Prop
 |[],vs=>vs=[]
 |x::xs,vs=>∃v r,vs=v::r/\gC K σ H₀ H x v/\iJ K σ H₀ H xs r
noncomputable def TQ(K:QQq)(W:Wi)(env:Ev)(r:Out (List Rv)):TA:=fun σ H Q=>Sat K env σ H/\match r with
 |.ok xs env'=>∀vs H',Nx K env σ H env' H'->iJ K σ H H' xs vs->Q vs H'
 |.exc c env'=>∀H',Nx K env σ H env' H'->W c env' σ H'
 |.bad=>False
noncomputable def tA(K:QQq)(W:Wi)(env:Ev)(r:Out Rv):TE:=fun σ H Q=>Sat K env σ H/\match r with
 |.ok x env'=>∀v H',Nx K env σ H env' H'->gC K σ H H' (argv x) v->Q v H'
 |.exc c env'=>∀H',Nx K env σ H env' H'->W c env' σ H'
 |.bad=>False
def GA(X:Cx)(W:Wi)(c:Cf)(m:E)(es:List Expr):Prop:=∀env,PA X es (TQ X.K W env (evs c m env))
def gC.on{env δ ε:Ev}{H H1 H2:Hp}{v:V}(S:Sat K env σ H)(N:Nx K env σ H δ H1)(N2:Nx K δ σ H1 ε H2)(h:gC K σ H H1 x v):gC K σ H H2 x v:=by
 have no:=fun a h0 i z=>S.qP h0 i (N.sub i a z)
 cases x with
 |val d=>exact bh.mono N2.pers h
 |ref i=>exact h
 |new xs=>obtain⟨a,e,⟨u,p,l⟩,z⟩:=h;exact⟨a,e,⟨u,N2.keep a u p (no a z),l.mono N2.pers⟩,z⟩
def j5{env:Ev}{H:Hp}{xs:List D}(S:Sat K env σ H)(l:aq K H xs vs)(hp:H p=none):gC K σ H (upd H p (.lst vs)) (.new (.lst xs)) (.ref p):=
 ⟨p,rfl,⟨_,aN,vs,rfl,l.mono (Nx.laid S hp).pers⟩,hp⟩
theorem iJ.weaken{K:QQq}{σ:St}{H0 H1 H:Hp}:∀{xs:List Rv}{vs:List V},iJ K σ H1 H xs vs->(∀b,H1 b=none->H0 b=none)->iJ K σ H0 H xs vs
 |[],_,h,_=>h
 |x::xs,vs,h,d=>by
  obtain⟨v,r,e,h1,h2⟩:=h
  exact⟨v,r,e,h1.weaken d,iJ.weaken h2 d⟩
section
def PA.imp(h:PA X es t)(i:∀σ H Q,t' σ H Q->t σ H Q):PA X es t':=fun p γ s σ H Q I q=>h p γ s σ H Q I (i σ H Q q)
def GE.ag(h:GE X W c m e)env:PE X e (tA X.K W env (ev c m env)):=by
 intro γ s σ H Q I q
 obtain⟨S,q⟩:=q
 cases r:ev c m env with
 |bad=>rw[r]at q;exact q.elim
 |exc k env'=>rw[r]at q;exact h env γ s σ H Q I ⟨S,by rw[r];exact q⟩
 |ok x env'=>
  rw[r]at q
  cases x with
  |new xs=>exact Kp (h env) γ s σ H Q I ⟨S,by rw[r];exact q⟩
  |val d=>exact h env γ s σ H Q I ⟨S,by rw[r];exact q⟩
  |ref i=>exact h env γ s σ H Q I ⟨S,by rw[r];exact q⟩
def My:GA X W c .nil []:=fun env=>PA.imp eO fun σ H Q q=>by
 obtain⟨S,q⟩:=q
 exact q [] H (Nx.refl S) rfl
def EY(h:GE X W c m1 e)(t:GA X W c m2 es)(hs:starEach (e::es) X.env=(false,eval e X.env)::starEach es X.env):GA X W c (.cons m1 m2) (e::es):=by
 intro env
 have B:PA X _ (Jw (fun σ H Q=>∃env,tA X.K W env _ σ H Q) (fun σ H Q=>∃env,TQ X.K W env _ σ H Q)):=
  cD (fun γ s σ H Q I⟨env,q⟩=>h.ag env γ s σ H Q I q) (fun p γ s σ H Q I⟨env,q⟩=>t env p γ s σ H Q I q) hs
 refine PA.imp B fun σ H Q q=>?_
 obtain⟨S,q⟩:=q
 refine⟨env,S,?_⟩
 simp only[evs]at q
 cases r:ev c m1 env with
 |bad=>rw[r]at q;exact q.elim
 |exc k δ=>rw[r]at q;exact q
 |ok x δ=>
  rw[r]at q
  intro v H1 N1 k1
  refine⟨δ,N1.eG,?_⟩
  simp only[Out.bind]at q
  cases r2:evs c m2 δ with
  |bad=>rw[r2]at q;exact q.elim
  |exc k ε=>rw[r2]at q;exact fun H2 N2=>q H2 (N1.trans N2)
  |ok xs ε=>
   rw[r2]at q
   intro vs H2 N2 k2
   exact q _ H2 (N1.trans N2) ⟨v,vs,rfl,k1.on S N1 N2,k2.weaken N1.dom⟩
theorem iJ.ds{K:QQq}{σ:St}{H₀ H:Hp}:∀{xs:List Rv}{vs:List V}{ds:List D},iJ K σ H₀ H (xs.map argv) vs->aX xs=some ds->aq K H ds vs
 |[],vs,ds,h,e=>by
  simp[aX]at e
  subst e
  cases h
  exact aq.fY
 |x::xs,vs,ds,h,e=>by
  obtain⟨v,r,rfl,h1,h2⟩:=h
  cases x with
  |ref i=>simp[aX,Rv.gK]at e
  |val d=>
   simp[aX,Rv.gK]at e
   obtain⟨ds',e1,e2⟩:=e
   subst e2
   exact aq.cZ h1 (iJ.ds h2 e1)
  |new ys=>
   simp[aX,Rv.gK]at e
   obtain⟨ds',e1,e2⟩:=e
   subst e2
   exact aq.cZ h1 (iJ.ds h2 e1)
def zm:∀(m:E)(env:Ev){xs:List Rv}{env':Ev},evs c m env=.ok xs env'->xs.map argv=xs:=by
 have aa:∀x:Rv,argv (argv x)=argv x:=fun x=>by cases x<;>rfl
 intro m
 induction m with
 |nil=>intro env xs env' h;simp only[evs]at h;cases h;rfl
 |cons h t _ ih=>
  intro env xs env' q
  simp only[evs]at q
  cases r:ev c h env with
  |bad=>rw[r]at q;cases q
  |exc k e1=>rw[r]at q;cases q
  |ok x e1=>
   rw[r]at q
   simp only[Out.bind]at q
   cases r2:evs c t e1 with
   |bad=>rw[r2]at q;cases q
   |exc k e2=>rw[r2]at q;cases q
   |ok ys e2=>
    rw[r2]at q
    cases q
    rw[Qyz,aa,ih e1 r2]
 |_=>intro env xs env' h;simp only[evs]at h;cases h
def dI(h:fits n=true):n<=sizeLine:=by
 rw[sizeLine_eq]
 simpa[fits]using h
theorem xX{env:Ev}{H:Hp}{f:List D->Option Rv}
  (h:tM K W env ((evs c m env).bind fun rs σ=>lift σ ((aX rs).bind f)) σ H Q)
  (k:∀δ H1 ds vs z,Nx K env σ H δ H1->aq K H1 ds vs->f ds=some z->(∀v H',Nx K δ σ H1 δ H'->gC K σ H1 H' z v->Q v H')->R vs H1):TQ K W env (evs c m env) σ H R:=by
 obtain⟨S,q⟩:=h
 refine⟨S,?_⟩
 cases r:evs c m env with
 |bad=>rw[r]at q;exact q.elim
 |exc k δ=>rw[r]at q;exact q
 |ok xs δ=>
  rw[r]at q
  simp only[Out.bind]at q
  intro vs H1 N1 k1
  cases e:aX xs with
  |none=>rw[e]at q;exact q.elim
  |some ds=>
   rw[e]at q
   simp only[Option.bind]at q
   cases e2:f ds with
   |none=>rw[e2]at q;exact q.elim
   |some z=>
    rw[e2]at q
    have k2:=k1
    rw[<-zm m env r]at k2
    exact k δ H1 ds vs z N1 (iJ.ds k2 e) e2 fun v H' N' w=>q v H' (N1.trans N') (w.weaken N1.dom)
def X5(h:GA X W c m es):GE X W c (.tup m) (.Tuple es k pos):=by
 intro env
 refine PE.imp (Wq (h env)) fun σ H Q q=>?_
 refine xX q fun δ H1 ds vs z N1 l e q=>?_
 split at e
 ·rename_i hf
  cases e
  refine⟨by rw[<-l.length];exact dI hf,fun p hp=>q _ _ (Nx.laid N1.eG hp) ?_⟩
  show bh _ _ _ _
  exact⟨p,vs,rfl,.inl (.inl aN),l.mono (Nx.laid N1.eG hp).pers⟩
 ·cases e
def Yd(h:GA X W c m es):GE X W c (.lis m) (.List es pos):=by
 intro env
 refine PE.imp (Wu (h env)) fun σ H Q q=>?_
 refine xX q fun δ H1 ds vs z N1 l e q=>?_
 split at e
 ·rename_i hf
  cases e
  exact⟨by rw[<-l.length];exact dI hf,fun p hp=>q _ _ (Nx.laid N1.eG hp) (j5 N1.eG l hp)⟩
 ·cases e
def Z0(X:Cx)(r:R2)(f:D->D->Option Rv):Prop:=
 ∀(env:Ev)(σ:St)(H:Hp)(x y:D)(z:Rv)(v u:V)(Q:VK),Sat X.K env σ H->bh X.K H x v->bh X.K H y u->f x y=some z->(∀w H',Nx X.K env σ H env H'->gC X.K σ H H' z w->Q w H')->r v u H Q
def Z0.bin{f:D->D->Option Rv}(R:Z0 X r f)(h:PE X e (Ze r (aD X W c m1) (aD X W c m2))):
  ∀env,PE X e (tM X.K W env ((ev c m1 env).ao fun x σ=>(ev c m2 σ).ao fun y σ=>lift σ (f x y))):=fun env=>
 PE.imp h fun σ H Q q=>⟨env,aV q fun d δ v H1 N1 D1 q1=>⟨δ,aV q1 fun d2 ε v2 H2 N2 D2 q2=>by
  obtain⟨z,ez,S,q3⟩:=cC q2
  exact R ε σ H2 d d2 z v v2 Q S (D1.mono N2.pers) D2 ez q3⟩⟩
def abw:YH->Operator
 |.add=>.Add
 |.sub=>.Sub
 |.mul=>.Mult
 |.mod=>.Mod
noncomputable def Ug(K:QQq):R2:=fun x y H Q=>∃a b xs ys,x=.ref a/\y=.ref b/\jq K H a xs/\jq K H b ys/\xs.length+ys.length<=sizeLine/\
 (xs=[]->Q (.ref b) H)/\(xs≠[]->ys=[]->Q (.ref a) H)/\(xs≠[]->ys≠[]->∀p,H p=none->Q (.ref p) (upd H p (.tup (xs++ys))))
def QW:fL X (binaryOp .Add) (Ug X.K):=by
 intro γ s σ H x y v u Q I rx ry h
 obtain⟨a,b,xs,ys,rfl,rfl,ha,hb,hz,q0,q1,q2⟩:=h
 by_cases hx:xs=[]
 ·cases rx
  cases ry
  obtain⟨its,r1,p1,_⟩:=I.tuple ha
  obtain⟨its2,r2,p2,_⟩:=I.tuple hb
  obtain⟨⟨cls,dd,data,sl⟩,ho,hc,n,hd⟩:=id p1
  obtain⟨⟨cls2,dd2,data2,sl2⟩,ho2,hc2,n2,hd2⟩:=id p2
  subst hc hd hc2 hd2
  have e0:its.toArray.isEmpty=true:=by
   have:=r1.bC.mpr hx
   rw[this];rfl
  exact concat_meets ⟨_,ho,rfl⟩ ⟨_,ho2,rfl⟩ noFill_tuple_add seq_tuple_add PySem.F.slot_tuple_add PySem.F.entry_tuple_add (PySem.F.args_tuple_add_2 _ _)
   (PyProof.Rows.tuple_addW0 a b its.toArray its2.toArray n n2 dd dd2 sl sl2 e0) ⟨ho,ho2,⟨.ref b,H,I,rfl,q0 hx⟩⟩
 ·exact QT γ s σ H _ _ v u Q I rx ry ⟨a,b,xs,ys,rfl,rfl,ha,hb,hx,hz,q1 hx,q2 hx⟩
noncomputable def Ue(K:QQq):R2:=fun x y H Q=>∃l b xs zs,x=.ref l/\y=.ref b/\jx K H l xs/\jx K H b zs/\xs.length+zs.length<=sizeLine/\∀p,H p=none->Q (.ref p) (upd H p (.lst (xs++zs)))
def QV:fL X (binaryOp .Add) (Ue X.K):=by
 intro γ s σ H x y v u Q I rx ry h
 obtain⟨l,b,xs,zs,rfl,rfl,hH,hB,hz,q⟩:=h
 cases rx
 cases ry
 obtain⟨its,r1,pl,_⟩:=I.list hH
 obtain⟨its2,r2,pl2,_⟩:=I.list hB
 obtain⟨⟨cls,dd,data,sl⟩,n,ho,hc,_,hd⟩:=id pl
 obtain⟨⟨cls2,dd2,data2,sl2⟩,n2,ho2,hc2,_,hd2⟩:=id pl2
 subst hc hd hc2 hd2
 have hl:=r1.length
 have hl2:=r2.length
 have ea:its.toArray++its2.toArray=(its++its2).toArray:=by simp
 refine concat_meets ⟨_,ho,rfl⟩ ⟨_,ho2,rfl⟩ noFill_list_add seq_list_add F.slot_list_add F.entry_list_add (F.args_list_add_2 _ _) (PyProof.Rows.list_addW l b its.toArray its2.toArray n n2 dd dd2 sl sl2 (by rw[Qyq,Qyq];omega)) ⟨ho,ho2,?_⟩
 rw[ea]
 exact⟨.ref _,_,I.ae0 (r1.append r2) (by rw[QTq];omega),rfl,q _ I.fresh⟩
def Uh(K:QQq):R2:=fun x y H Q=>OJ (fun i j=>.int (i+j)) x y H Q\/Ug K x y H Q\/Ue K x y H Q
def QX:fL X (binaryOp .Add) (Uh X.K):=WW.or (QW.or QV)
def b7{H:Hp}{v:V}(h:bh K H (.tup ds) v):∃a vs,v=.ref a/\jq K H a vs/\aq K H ds vs:=by unfold bh at h;exact h
def cT{H:Hp}{v:V}(h:bh K H (.lst ds) v):∃a vs,v=.ref a/\FZ K H a vs/\aq K H ds vs:=by unfold bh at h;exact h
def dF{H:Hp}{a:Addr}(h:jq K H a vs)(l:aq K H ds vs):bh K H (.tup ds) (.ref a):=by unfold bh;exact⟨a,vs,rfl,h,l⟩
def ym(h:small i=true): -(2 ^64)<i/\i<2 ^64:=by
 simp only[small,QUz]at h
 exact⟨by omega,by omega⟩
def Ql:Z0 X (Uh X.K) (binop .add):=by
 intro env σ H x y z v u Q S Dx Dy e q
 cases x with
 |int i=>
  cases y with
  |int j=>cases e;exact .inl ⟨i,j,Dx,Dy,q _ H (Nx.refl S) rfl⟩
  |_=>cases e
 |tup xs=>
  cases y with
  |tup ys=>
   unfold binop at e;dsimp only at e
   split at e
   ·rename_i hf
    cases e
    obtain⟨a,vs,rfl,ha,la⟩:=b7 Dx
    obtain⟨b,ws,rfl,hb,lb⟩:=b7 Dy
    refine .inr (.inl ⟨a,b,vs,ws,rfl,rfl,ha,hb,by rw[<-la.length,<-lb.length];exact dI hf,fun e0=>?_,fun _ e0=>?_,fun _ _ p hp=>?_⟩)
    ·subst e0
     have:xs=[]:=by have:=la.length;cases xs<;>simp_all
     subst this
     exact q _ H (Nx.refl S) (dF hb lb)
    ·subst e0
     have:ys=[]:=by have:=lb.length;cases ys<;>simp_all
     subst this
     exact q _ H (Nx.refl S) (by rw[List.append_nil];exact dF ha la)
    ·have N:=Nx.laid (o:=.tup (vs++ws)) S hp
     exact q _ _ N (dF (.inl (.inl aN)) ((la.append lb).mono N.pers))
   ·cases e
  |_=>cases e
 |lst xs=>
  cases y with
  |lst ys=>
   unfold binop at e;dsimp only at e
   split at e
   ·rename_i hf
    cases e
    obtain⟨a,vs,rfl,ha,la⟩:=cT Dx
    obtain⟨b,ws,rfl,hb,lb⟩:=cT Dy
    exact .inr (.inr ⟨a,b,vs,ws,rfl,rfl,ha.sq,hb.sq,by rw[<-la.length,<-lb.length];exact dI hf,fun p hp=>q _ _ (Nx.laid (o:=.lst (vs++ws)) S hp) (j5 S (la.append lb) hp)⟩)
   ·cases e
  |_=>cases e
 |_=>cases y<;>cases e
def zG(ho:o≠ .add)(hm:o≠ .mul){z:Rv}(e:binop o x y=some z):(∃i,x=.int i)/\∃j,y=.int j:=by
 cases x with
 |int i=>exact⟨⟨i,rfl⟩,by cases y with
  |int j=>exact⟨j,rfl⟩
  |_=>cases o<;>cases e⟩
 |tup _=>cases o<;>first|exact absurd rfl ho|exact absurd rfl hm|cases e
 |lst _=>cases o<;>first|exact absurd rfl ho|cases e
 |_=>cases o<;>cases e
def Qe:Z0 X (OJ fun i j=>.int (i-j)) (binop .sub):=by
 intro env σ H x y z v u Q S Dx Dy e q
 obtain⟨⟨i,rfl⟩,j,rfl⟩:=zG (by intro h;cases h) (by intro h;cases h) e
 cases e
 exact⟨_,_,Dx,Dy,q _ H (Nx.refl S) rfl⟩
def Uc(K:QQq):R2:=fun x y H Q=>rI S7 (fun i j=>.int (i*j)) x y H Q
def QS:fL X (binaryOp .Mult) (Uc X.K):=WK
def Qf:Z0 X (Uc X.K) (binop .mul):=by
 intro env σ H x y z v u Q S Dx Dy e q
 cases x with
 |int i=>
  cases y with
  |int j=>
   unfold binop at e;dsimp only at e
   split at e
   ·rename_i hs
    cases e
    simp only[Bool.or_eq_true]at hs
    exact⟨i,j,Dx,Dy,hs.imp ym ym,q _ H (Nx.refl S) rfl⟩
   ·cases e
  |_=>cases e
 |_=>cases y<;>cases e
def Qg:Z0 X (rI (fun _ j=>0<j) fun i j=>.int (i%j)) (binop .mod):=by
 intro env σ H x y z v u Q S Dx Dy e q
 obtain⟨⟨i,rfl⟩,j,rfl⟩:=zG (by intro h;cases h) (by intro h;cases h) e
 unfold binop at e;dsimp only at e
 split at e
 ·rename_i hs
  cases e
  exact⟨i,j,Dx,Dy,hs,q _ H (Nx.refl S) rfl⟩
 ·cases e
def ace(ha:GE X W c m1 a)(hb:GE X W c m2 b):GE X W c (.op o m1 m2) (.BinOp a (abw o) b pos):=by
 intro env
 cases o with
 |add=>exact Ql.bin (DG QX ha.d hb.d) env
 |sub=>exact Qe.bin (DG WD ha.d hb.d) env
 |mul=>exact Qf.bin (DG QS ha.d hb.d) env
 |mod=>exact Qg.bin (DG WL ha.d hb.d) env
def Yc(ha:GE X W c m1 a):GE X W c (.neg m1) (.UnaryOp .USub a pos):=by
 intro env
 refine PE.imp (abl Vs ha.d) fun σ H Q q=>?_
 refine⟨env,aV q fun d δ v H1 N1 D1 q1=>?_⟩
 obtain⟨z,ez,S,q3⟩:=cC q1
 cases d<;>first
  |(cases ez;done)
  |(cases ez;exact⟨_,D1,q3 _ H1 (Nx.refl S) rfl⟩)
end
mutual
theorem rO:∀a b:D,nd a=true->nd b=true->PyData.eqv (py a) (py b)=bK a b
 |.cJ _ _,_=>fun h _=>by simp[nd]at h
 |.gw _ _,_=>fun h _=>by simp[nd]at h
 |.non,.cJ _ _=>fun _ h=>by simp[nd]at h
 |.non,.gw _ _=>fun _ h=>by simp[nd]at h
 |.bl _,.cJ _ _=>fun _ h=>by simp[nd]at h
 |.bl _,.gw _ _=>fun _ h=>by simp[nd]at h
 |.int _,.cJ _ _=>fun _ h=>by simp[nd]at h
 |.int _,.gw _ _=>fun _ h=>by simp[nd]at h
 |.str _,.cJ _ _=>fun _ h=>by simp[nd]at h
 |.str _,.gw _ _=>fun _ h=>by simp[nd]at h
 |.tup _,.cJ _ _=>fun _ h=>by simp[nd]at h
 |.tup _,.gw _ _=>fun _ h=>by simp[nd]at h
 |.lst _,.cJ _ _=>fun _ h=>by simp[nd]at h
 |.lst _,.gw _ _=>fun _ h=>by simp[nd]at h
 |.tup xs,.tup ys=>fun h h'=>by simp only[py,PyData.eqv,bK];exact wR xs ys (by simpa[nd]using h) (by simpa[nd]using h')
 |.lst xs,.lst ys=>fun h h'=>by simp only[py,PyData.eqv,bK];exact wR xs ys (by simpa[nd]using h) (by simpa[nd]using h')
 |.non,.non=>fun _ _=>rfl
 |.non,.bl _=>fun _ _=>rfl
 |.non,.int _=>fun _ _=>rfl
 |.non,.str _=>fun _ _=>rfl
 |.non,.tup _=>fun _ _=>rfl
 |.non,.lst _=>fun _ _=>rfl
 |.bl _,.non=>fun _ _=>rfl
 |.bl _,.bl _=>fun _ _=>rfl
 |.bl a,.int j=>fun _ _=>rfl
 |.bl _,.str _=>fun _ _=>rfl
 |.bl _,.tup _=>fun _ _=>rfl
 |.bl _,.lst _=>fun _ _=>rfl
 |.int _,.non=>fun _ _=>rfl
 |.int i,.bl b=>fun _ _=>rfl
 |.int _,.int _=>fun _ _=>rfl
 |.int _,.str _=>fun _ _=>rfl
 |.int _,.tup _=>fun _ _=>rfl
 |.int _,.lst _=>fun _ _=>rfl
 |.str _,.non=>fun _ _=>rfl
 |.str _,.bl _=>fun _ _=>rfl
 |.str _,.int _=>fun _ _=>rfl
 |.str x,.str y=>fun _ _=>by simp only[py,PyData.eqv,bK];rw[Bool.beq_eq_decide_eq]
 |.str _,.tup _=>fun _ _=>rfl
 |.str _,.lst _=>fun _ _=>rfl
 |.tup _,.non=>fun _ _=>rfl
 |.tup _,.bl _=>fun _ _=>rfl
 |.tup _,.int _=>fun _ _=>rfl
 |.tup _,.str _=>fun _ _=>rfl
 |.tup _,.lst _=>fun _ _=>rfl
 |.lst _,.non=>fun _ _=>rfl
 |.lst _,.bl _=>fun _ _=>rfl
 |.lst _,.int _=>fun _ _=>rfl
 |.lst _,.str _=>fun _ _=>rfl
 |.lst _,.tup _=>fun _ _=>rfl
theorem wR:∀xs ys:List D,n8 xs=true->n8 ys=true->PyData.eqvAll (xK xs) (xK ys)=oN xs ys
 |[],[]=>fun _ _=>rfl
 |[],_::_=>fun _ _=>rfl
 |_::_,[]=>fun _ _=>rfl
 |x::xs,y::ys=>fun h h'=>by
  simp only[n8,QUq]at h h'
  simp only[xK,PyData.eqvAll,oN]
  rw[rO x y h.1 h'.1,wR xs ys h.2 h'.2]
end
def ye(h:sOk x=true):PyData.strOk x=true:=by
 unfold sOk at h
 unfold PyData.strOk
 rw[Array.all_eq_true]at h⊢
 intro i hi
 have:=h i hi
 simp only[QUz]at this⊢
 omega
mutual
theorem jf:∀a:D,nd a=true->(py a).canLay0=true
 |.non=>fun _=>rfl
 |.bl _=>fun _=>rfl
 |.int _=>fun _=>rfl
 |.str x=>fun h=>ye h
 |.tup xs=>fun h=>by simp only[py,PyData.canLay0];exact je xs (by simpa[nd]using h)
 |.lst xs=>fun h=>by simp only[py,PyData.canLay0];exact je xs (by simpa[nd]using h)
 |.cJ _ _=>fun h=>by simp[nd]at h
 |.gw _ _=>fun h=>by simp[nd]at h
theorem je:∀xs:List D,n8 xs=true->PyData.canLayAll0 (xK xs)=true
 |[]=>fun _=>rfl
 |x::xs=>fun h=>by
  simp only[n8,QUq]at h
  simp only[xK,PyData.canLayAll0,QUq]
  exact⟨jf x h.1,je xs h.2⟩
end
mutual
theorem rW:∀a:D,nd a=true->(py a).depth=dep a
 |.non=>fun _=>rfl
 |.bl _=>fun _=>rfl
 |.int _=>fun _=>rfl
 |.str _=>fun _=>rfl
 |.tup xs=>fun h=>by simp only[py,PyData.depth,dep];rw[wV xs (by simpa[nd]using h)]
 |.lst xs=>fun h=>by simp only[py,PyData.depth,dep];rw[wV xs (by simpa[nd]using h)]
 |.cJ _ _=>fun h=>by simp[nd]at h
 |.gw _ _=>fun h=>by simp[nd]at h
theorem wV:∀xs:List D,n8 xs=true->PyData.depthAll (xK xs)=jN xs
 |[]=>fun _=>rfl
 |x::xs=>fun h=>by
  simp only[n8,QUq]at h
  simp only[xK,PyData.depthAll,jN]
  rw[rW x h.1,wV xs h.2]
end
def cV(K:QQq)(H:Hp)(d:D)(v:V):Prop:=bh K H d v\/∃q a,d=Ob.d q/\v=.ref a/\jw K H q a
section
mutual
theorem bh.reads(I:Inv X γ σ H s):∀{d:D}{v:V}{u:Value},nd d=true->bh X.K H d v->RelV v u->∃as,Reads s.heap u (py d) as
 |.non,v,u,_,h,r=>by cases h;cases r;exact⟨_,.none⟩
 |.bl b,v,u,_,h,r=>by cases h;cases r;exact⟨_,.bool b⟩
 |.int i,v,u,_,h,r=>by cases h;obtain⟨t,rfl⟩:=r;exact⟨_,.int i t⟩
 |.str x,v,u,_,h,r=>by cases h;obtain⟨t,rfl⟩:=r;exact⟨_,.str x t⟩
 |.tup ds,v,u,hn,h,r=>by
  obtain⟨a,vs,rfl,hq,l⟩:=b7 h
  cases r
  obtain⟨its,rv,⟨o,e,c,n,dt⟩,_⟩:=I.tuple hq
  obtain⟨as,q⟩:=aq.reads I (by simpa[nd]using hn) l rv
  exact⟨as,by rw[py];exact .tuple e c dt (by simpa using q)⟩
 |.lst ds,v,u,hn,h,r=>by
  obtain⟨a,vs,rfl,hq,l⟩:=cT h
  cases r
  obtain⟨its,rv,⟨o,n,e,c,_,dt⟩,_⟩:=I.list hq.sq
  obtain⟨as,q⟩:=aq.reads I (by simpa[nd]using hn) l rv
  exact⟨a::as,by rw[py];exact .list e c dt (by simpa using q)⟩
 |.cJ _ _,_,_,h,_,_=>by simp[nd]at h
theorem aq.reads(I:Inv X γ σ H s):∀{ds:List D}{vs:List V}{us:List Value},n8 ds=true->aq X.K H ds vs->Vals vs us->∃as,ReadsAll s.heap us (xK ds) as
 |[],vs,us,_,h,r=>by rw[aq.bC.mp h]at r;cases r;exact⟨_,.nil⟩
 |d::ds,vs,us,hn,h,r=>by
  obtain⟨v,rs,rfl,h1,h2⟩:=aq.aG.mp h
  simp only[n8,QUq]at hn
  cases r with
  |cons r1 r2=>
   obtain⟨as,q1⟩:=bh.reads I hn.1 h1 r1
   obtain⟨bs,q2⟩:=aq.reads I hn.2 h2 r2
   exact⟨as++bs,.cons q1 q2⟩
end
theorem cV.reads(I:Inv X γ σ H s){v:V}(hn:nd d=true)(h:cV X.K H d v)(r:RelV v u):∃as,Reads s.heap u (py d) as:=by
 rcases h with h|⟨q,a,rfl,rfl,u',ha,hq⟩
 ·exact bh.reads I hn h r
 ·cases r
  cases q with
  |dct ks ds=>simp[Ob.d,nd]at hn
  |sdt ks ds=>simp[Ob.d,nd]at hn
  |lst ds=>
  obtain⟨vs,rfl,l⟩:=hq
  obtain⟨its,rv,⟨o,n,e,c,_,dt⟩,_⟩:=I.list (.inl (.inl ha))
  obtain⟨as,q⟩:=aq.reads I (by simpa[Ob.d,nd]using hn) l rv
  exact⟨a::as,by rw[Ob.d,py];exact .list e c dt (by simpa using q)⟩
end
abbrev sD(xs:List SV):HO:=.dS xs
mutual
theorem abE:∀d:D,kA d=true->nd d=true
 |.int _=>fun _=>rfl
 |.bl _=>fun _=>rfl
 |.str _=>fun h=>h
 |.tup xs=>fun h=>Be xs h
 |.non=>fun h=>by cases h
 |.lst _=>fun h=>by cases h
 |.cJ _ _=>fun h=>by cases h
 |.gw _ _=>fun h=>by cases h
theorem Be:∀xs:List D,Ir xs=true->n8 xs=true
 |[]=>fun _=>rfl
 |x::xs=>fun h=>by
  simp only[Ir,QUq]at h
  simp only[n8,abE x h.1,Be xs h.2,Bool.and_self]
end
mutual
theorem ab5:∀d:D,kA d=true->hk (py d)=true
 |.int _=>fun _=>rfl
 |.bl _=>fun _=>rfl
 |.str _=>fun h=>ye h
 |.tup xs=>fun h=>Br xs h
 |.non=>fun h=>by cases h
 |.lst _=>fun h=>by cases h
 |.cJ _ _=>fun h=>by cases h
 |.gw _ _=>fun h=>by cases h
theorem Br:∀xs:List D,Ir xs=true->hks (xK xs)=true
 |[]=>fun _=>rfl
 |x::xs=>fun h=>by
  simp only[Ir,QUq]at h
  simp only[xK,hks,ab5 x h.1,Br xs h.2,Bool.and_self]
end
def mW{d:D}(h:cj d=true):∃xs,d=.tup xs/\nd d=true/\hk (py d)=true/\(py d).depth<=7:=by
 unfold cj at h
 split at h
 ·rename_i xs
  simp only[QUq,QUz]at h
  have n:nd (.tup xs)=true:=Be xs h.1
  exact⟨xs,rfl,n,Br xs h.1,by rw[rW _ n];show jN xs+1<=7;omega⟩
 ·cases h
def BP{d e:D}(h:cj d=true)(g:cj e=true):bK d e=decide (kC d=kC e):=by
 obtain⟨_,_,n1,k1,_⟩:=mW h
 obtain⟨_,_,n2,k2,_⟩:=mW g
 rw[<-rO d e n1 n2]
 exact BL _ _ k1 k2
def V5{A:Around}(hu:A.units+9<cLine):A.in1.units+8<cLine:=by
 have:A.in1.units<=A.units+1:=by simp[Around.in1]
 omega
def cI(K:QQq)(H:Hp)(k:SK)(a:Addr):Prop:=∃d,cj d=true/\kC d=k/\bh K H d (.ref a)
noncomputable def wz(k:SK):List SV->Option V
 |[]=>none
 |x::xs=>if x.1=k then some x.2.2 else wz k xs
noncomputable def nR(k:SK)(a:Addr)(v:V)(xs:List SV):List SV:=if (wz k xs).isSome then xs.map (fun x=>if x.1=k then(x.1,x.2.1,v)else x)else xs++[(k,a,v)]
theorem j8:∀{xs:List SV}{ys:List (SK×Addr×Value)},Paired Oo xs ys->ys.map (·.1)=xs.map (·.1)
 |_,_,.nil=>rfl
 |_,_,.cons h t=>by simp[j8 t,h.1]
theorem yQ:∀{xs:List SV}{ys:List (SK×Addr×Value)},Paired Oo xs ys->tB (wz k xs) ((atKey ys k).map (·.2))
 |_,_,.nil=>trivial
 |x::xs,y::ys,.cons h t=>by
  simp only[wz,atKey,List.find?_cons]
  rw[h.1]
  by_cases c:y.1=k
  ·simp only[c,if_true,decide_true,Option.map_some]
   exact h.2.2
  ·simp only[c,if_false,decide_false]
   exact yQ (k:=k) t
section
def gZ(I:L2.Inv X γ σ H s)(h:cI X.K H k a):Im s.heap k a:=by
 obtain⟨d,h1,rfl,h2⟩:=h
 obtain⟨_,_,n,k,l⟩:=mW h1
 obtain⟨as,r⟩:=bh.reads I n h2 (show RelV (.ref a) (.ref a)from rfl)
 exact⟨py d,as,k,l,rfl,r⟩
def kE(I:L2.Inv X γ σ H s)(hd:Rd H d (sD xs))(hk:∀x∈xs,cI X.K H x.1 x.2.1):∃ys,Paired Oo xs ys/\s.heap.DictOfH (dU X.prog X.w) d ys/\(d==sysModules)=false/\xs.length<=sizeLine:=by
 obtain⟨z,y,nd,ys,o,es,ep,pr,h1,h2,h3,h4⟩:=(show bY X.prog X.w H s.heap d (.dS xs)from Dr I.hok hd)
 refine⟨ys,pr,⟨o,es,ep,h1,h2,h3,h4,?_,by rw[j8 pr];exact nd⟩,y,z⟩
 have go:∀{xs:List SV}{ys:List (SK×Addr×Value)},Paired Oo xs ys->(∀x∈xs,cI X.K H x.1 x.2.1)->∀y∈ys,Im s.heap y.1 y.2.1:=by
  intro xs ys pr
  induction pr with
  |nil=>intro _ y hy;cases hy
  | @cons x y xs ys h t ih=>
   intro hk q hq
   rcases QCq.mp hq with rfl|hq
   ·rw[<-h.1,<-h.2.1];exact gZ I (hk x QYz)
   ·exact ih (fun z hz=>hk z (QYq _ hz)) q hq
 exact go pr hk
def aea{Q:QZq}(hu:A.units+9<cLine)(I:L2.Inv X γ σ H s)(hd:Rd H d (sD xs))(hk:∀x∈xs,cI X.K H x.1 x.2.1)(ha:cI X.K H k a)(h:∀s',L2.Inv X γ σ H s'->Q (.bool (wz k xs).isSome) s'):
  wpAny (model X.prog X.w) A (compareOp .In (.ref a) (.ref d)) Q E1 s:=by
 obtain⟨ys,pr,dd,y,z⟩:=kE I hd hk
 refine wpAny_in_heap (knd:=dU X.prog X.w) (V5 hu) (gZ I ha) y dd ?_
 have e:(atKey ys k).isSome=(wz k xs).isSome:=by rw[(yQ (k:=k) pr).iH];simp
 rw[e]
 exact h _ (I.tok _)
def Qc{Q:QZq}(hu:A.units+9<cLine)(I:L2.Inv X γ σ H s)(hd:Rd H d (sD xs))(hk:∀x∈xs,cI X.K H x.1 x.2.1)(ha:cI X.K H k a)(h:∀s',L2.Inv X γ σ H s'->Q (.bool (!(wz k xs).isSome)) s'):
  wpAny (model X.prog X.w) A (compareOp .NotIn (.ref a) (.ref d)) Q E1 s:=by
 obtain⟨ys,pr,dd,y,z⟩:=kE I hd hk
 refine PyProof.Rows.wpAny_notIn_heap (knd:=dU X.prog X.w) (V5 hu) (gZ I ha) y dd ?_
 have e:(atKey ys k).isSome=(wz k xs).isSome:=by rw[(yQ (k:=k) pr).iH];simp
 rw[e]
 exact h _ (I.tok _)
def Gv{v:V}{Q:QZq}(hu:A.units+9<cLine)(I:L2.Inv X γ σ H s)(hd:Rd H d (sD xs))(hk:∀x∈xs,cI X.K H x.1 x.2.1)(ha:cI X.K H k a)(hv:wz k xs=some v)(h:∀u s',L2.Inv X γ σ H s'->RelV v u->Q u s'):
  wpAny (model X.prog X.w) A (getItem (.ref d) (.ref a)) Q E1 s:=by
 obtain⟨ys,pr,dd,y,z⟩:=kE I hd hk
 obtain⟨u,hw,ru⟩:=tB.some_of (v:=v) (o:=(atKey ys k).map (·.2)) (by rw[<-hv];exact yQ pr)
 obtain⟨p,hp,rfl⟩:=QJz.mp hw
 exact wpAny_getItem_heap (knd:=dU X.prog X.w) (V5 hu) (gZ I ha) dd hp (h _ _ (I.tok _) ru)
def mJ{r:Value}(rv:RelV v r)(pr:Paired Oo xs ys):Paired Oo (nR k a v xs) (storedH ys k a r):=by
 have e:(atKey ys k).isSome=(wz k xs).isSome:=by rw[(yQ pr).iH];simp
 unfold nR storedH
 rw[e]
 split
 ·rename_i z
  clear e z
  induction pr with
  |nil=>exact .nil
  | @cons x y xs ys h t ih=>
   refine .cons ?_ ih
   show Oo (if x.1=k then(x.1,x.2.1,v)else x) _
   unfold putAt
   by_cases c:y.1=k
   ·rw[if_pos c,if_pos (h.1.trans c)];exact⟨h.1,h.2.1,rv⟩
   ·rw[if_neg c,if_neg fun q=>c (h.1.symm.trans q)];exact h
 ·exact Paired.snoc pr ⟨rfl,rfl,rv⟩
def Ds v:(nR k a v xs).length<=xs.length+1:=by
 unfold nR
 split<;>simp
def Dm{w:World}{h':Heap}(z:xs.length<=sizeLine)(y:(d==sysModules)=false)(pr:Paired Oo xs ys)(dd:h'.DictOfH (dU P w) d ys):bY P w H' h' d (sD xs):=by
 obtain⟨o,es,ep,h1,h2,h3,h4,h5,h6⟩:=dd
 exact⟨z,y,by rw[<-j8 pr];exact h6,ys,o,es,ep,pr,h1,h2,h3,h4⟩
def Gu{v:V}{r:Value}{Q:Unit->Shared->Prop}(hu:A.units+9<cLine)(I:L2.Inv X γ σ H s)(hd:H d=some (sD xs))(hk:∀x∈xs,cI X.K H x.1 x.2.1)(ha:cI X.K H k a)(hl:xs.length<sizeLine)(rv:RelV v r)
  (h:∀s',L2.Inv X γ σ (upd H d (sD (nR k a v xs))) s'->Q () s'):wpAny (model X.prog X.w) A (setItem (.ref d) (.ref a) r) Q E1 s:=by
 obtain⟨ys,pr,dd,y,z⟩:=kE I (.inl hd) hk
 have hz:ys.length<=sizeLine:=by
  have:=congrArg List.length (j8 pr)
  simp at this
  omega
 refine wpAny_setItem_heap (knd:=dU X.prog X.w) (hsz:=hz) (V5 hu) (gZ I ha) dd fun h' dd' hs=>h _ ?_
 have he:∃q,h'.get? d=some q:=let ⟨q,_,_,hq,_⟩:=dd';⟨q,hq⟩
 have pl:=Ds (k:=k) (a:=a) (xs:=xs) v
 exact kJ I (by rw[hd];exact True.intro) hs he (Dm (by omega) y (mJ rv pr) dd')
end
section
variable{K:QQq}{H:Hp}{ks ds:List D}{xs:List SV}{d z:D}{a:Addr}{v:V}
def iT(h:cj d=true)(Dd:bh K H d v):∃a,v=.ref a/\cI K H (kC d) a:=by
 obtain⟨ys,rfl,_⟩:=mW h
 obtain⟨a,vs,rfl,_⟩:=b7 Dd
 exact⟨a,rfl,_,h,rfl,Dd⟩
def gq.nil:gq K H [] [] []:=⟨rfl,rfl,aq.fY,aq.fY⟩
theorem gq.aG{k:D}:gq K H (k::ks) (z::ds) xs↔ ∃x r,xs=x::r/\kC k=x.1/\cj k=true/\bh K H k (.ref x.2.1)/\bh K H z x.2.2/\gq K H ks ds r:=by
 constructor
 ·rintro ⟨h1,h2,h3,h4⟩
  cases xs with
  |nil=>simp at h1
  |cons x r=>
   rw[Qyz,Qyz,List.cons.injEq]at h1
   rw[List.all_cons,QUq]at h2
   obtain⟨_,_,e,d1,l1⟩:=aq.aG.mp h3
   cases e
   obtain⟨_,_,e,d2,l2⟩:=aq.aG.mp h4
   cases e
   exact⟨x,r,rfl,h1.1,h2.1,d1,d2,h1.2,h2.2,l1,l2⟩
 ·rintro ⟨x,r,rfl,e,h,d1,d2,h1,h2,h3,h4⟩
  exact⟨by simp[e,h1],by simp[h,h2],aq.cZ d1 h3,aq.cZ d2 h4⟩
def gq.len(h:gq K H ks ds xs):ks.length=xs.length/\ds.length=xs.length:=by
 have a:=h.2.2.1.length
 have b:=h.2.2.2.length
 rw[QAq]at a b
 exact⟨a,b⟩
theorem gq.ind{P:List D->List D->List SV->Prop}(p0:P [] [] [])(p1:∀k ks z ds x r,kC k=x.1->cj k=true->bh K H k (.ref x.2.1)->bh K H z x.2.2->gq K H ks ds r->P ks ds r->P (k::ks) (z::ds) (x::r)):∀{ks ds:List D}{xs:List SV},gq K H ks ds xs->P ks ds xs
 |[],ds,xs,h=>by
  have:=h.len
  cases xs with
  |nil=>cases ds with
   |nil=>exact p0
   |cons=>simp at this
  |cons=>simp at this
 |k::ks,[],xs,h=>by have:=h.len;simp at this;omega
 |k::ks,z::ds,xs,h=>by
  obtain⟨x,r,rfl,e,h1,d1,d2,t⟩:=gq.aG.mp h
  exact p1 k ks z ds x r e h1 d1 d2 t (gq.ind p0 p1 t)
def gq.yW(h:gq K H ks ds xs):∀x∈xs,cI K H x.1 x.2.1:=h.ind (P:=fun _ _ xs=>∀x∈xs,cI K H x.1 x.2.1) (fun _ h=>nomatch h) fun k ks z ds x r e h1 d1 _ _ ih y hy=>by
 rcases QCq.mp hy with rfl|hy
 ·exact⟨k,h1,e,d1⟩
 ·exact ih y hy
def gq.inD(g:cj d=true)(h:gq K H ks ds xs):aU d ks=(wz (kC d) xs).isSome:=h.ind (P:=fun ks _ xs=>aU d ks=(wz (kC d) xs).isSome) rfl fun k ks z ds x r e h1 _ _ _ ih=>by
 rw[aU,BP h1 g,ih,e,wz]
 by_cases c:x.1=kC d<;>simp[c]
def gq.look(g:cj d=true)(h:gq K H ks ds xs):b8 d ks ds=some z->∃w,wz (kC d) xs=some w/\bh K H z w:=h.ind (P:=fun ks ds xs=>b8 d ks ds=some z->∃w,wz (kC d) xs=some w/\bh K H z w) (fun e=>by cases e) fun k ks y ds x r e h1 _ d2 _ ih q=>by
 rw[b8,BP h1 g,e]at q
 rw[wz]
 by_cases c:x.1=kC d
 ·rw[if_pos (QFq c)]at q
  cases q
  exact⟨_,if_pos c,d2⟩
 ·rw[if_neg (by simp[c])]at q
  rw[if_neg c]
  exact ih q
def gq.repl(g:cj d=true)(dz:bh K H z v)(h:gq K H ks ds xs):gq K H ks (qG d z ks ds) (xs.map fun x=>if x.1=kC d then(x.1,x.2.1,v)else x):=h.ind (P:=fun ks ds xs=>gq K H ks (qG d z ks ds) (xs.map fun x=>if x.1=kC d then(x.1,x.2.1,v)else x)) gq.nil fun k ks y ds x r e h1 d1 d2 _ ih=>by
 rw[qG,Qyz]
 refine gq.aG.mpr ⟨_,_,rfl,?_,h1,?_,?_,ih⟩
 ·split<;>exact e
 ·split<;>exact d1
 ·rw[BP h1 g,e]
  by_cases c:x.1=kC d
  ·rw[if_pos (QFq c),if_pos c];exact dz
  ·rw[if_neg (by simp[c]),if_neg c];exact d2
def gq.snoc(g:cj d=true)(dd:bh K H d (.ref a))(dz:bh K H z v)(h:gq K H ks ds xs):gq K H (ks++[d]) (ds++[z]) (xs++[(kC d,a,v)]):=h.ind (P:=fun ks ds xs=>gq K H (ks++[d]) (ds++[z]) (xs++[(kC d,a,v)])) (gq.aG.mpr ⟨_,_,rfl,rfl,g,dd,dz,gq.nil⟩) fun k ks y ds x r e h1 d1 d2 _ ih=>gq.aG.mpr ⟨_,_,rfl,e,h1,d1,d2,ih⟩
def gq.put(g:cj d=true)(dd:bh K H d (.ref a))(dz:bh K H z v)(h:gq K H ks ds xs):gq K H (putD d z ks ds).1 (putD d z ks ds).2 (nR (kC d) a v xs):=by
 unfold putD nR
 rw[h.inD g]
 split
 ·exact h.repl g dz
 ·exact h.snoc g dd dz
end
section
variable{X:Cx}{γ:QQz}{σ:L2.St}{H:Hp}{s:Shared}{A:Around}{E1:QZq}{d:Addr}{xs:List SV}
def aaO{Q:QZq}(I:L2.Inv X γ σ H s)(e:Rd H d (sD xs))(h:∀t s',L2.Inv X γ σ H s'->Q (.int xs.length t) s'):wpAny (model X.prog X.w) A (call (.builtin "len") [.ref d]) Q E1 s:=by
 obtain⟨z,y,_,ys,o,es,ep,pr,h1,h2,h3,h4⟩:=(show bY X.prog X.w H s.heap d (.dS xs)from Dr I.hok e)
 have hn:es.size=xs.length:=by
  have q1:=congrArg List.length h4
  have q2:=congrArg List.length (j8 pr)
  simp at q1 q2
  omega
 have hl:sizeLine=16777216:=sizeLine_eq
 have t:s.TypeIs (.ref d) "dict":=⟨o,h1,h2.1⟩
 refine Calls.call_function_entry kind_len plain_len entry_len (args_len1 _) ?_
 unfold Builtin.«len»
 refine QKq (m:=oneArg "len" _) (QKz ?_)
 refine QKq (m:=callSpecial? (.ref d) (Str.ofString "__len__")) (wpAny_callSpecial?_slot (name:=Str.ofString "__len__") t F.slot_dict_len (Qzz F.slot_dict_len t F.entry_dict_len ?_ (F.args_dict_len_1 _)))
 show wpAny _ _ (dictSize d>>=_) _ _ s
 unfold dictSize
 refine QKq (QKq (wpAny_dictEntries h1 h3 (QKz ?_)))
 show wpAny _ _ (Builtin.Dict.pendingCount d>>=_) _ _ s
 refine QKq (wpAny_pendingCount_other y ?_)
 refine wpAny_ret_mkInt ?_
 rw[hn]
 show wpAny _ _ (holding [Value.int ((xs.length:Int)+((0:Nat):Int)) s.toks] (asIndex (Value.int ((xs.length:Int)+((0:Nat):Int)) s.toks))>>=_) _ _ _
 rw[show((xs.length:Int)+((0:Nat):Int))=(xs.length:Int) by simp]
 refine QKq (Qqq (QKz ?_))
 refine QKq (wpAny_letGo ?_)
 show wpAny _ _ (if ((xs.length:Nat):Int)<0 then _ else _) _ _ _
 rw[if_neg (by omega)]
 show wpAny _ _ (if ((xs.length:Nat):Int)>=2 ^63 then _ else _) _ _ _
 rw[if_neg (by omega)]
 exact QKq (wpAny_mkInt (QKz ⟨_,rfl,h _ _ (I.tok _)⟩))
def wZ(I:L2.Inv X γ σ H s)(e:Rd H d (.dK [])):s.heap.DictOfH (dU X.prog X.w) d []/\(d==sysModules)=false:=by
 obtain⟨z,hd,vs,rel,o,es,ep,q1,q2,q3,q4,q5,q6⟩:=m7 I.hok e
 cases rel
 have e0:es.toList=[]:=by cases hq:es.toList with
  |nil=>rfl
  |cons=>rw[hq]at q5;cases q5
 exact⟨⟨o,es,ep,q1,q2,q3,by rw[e0];rfl,fun x hx=>(nomatch hx),List.nodup_nil⟩,hd⟩
def aaP{k:SK}{a:Addr}{Q:QZq}(hu:A.units+9<cLine)(I:L2.Inv X γ σ H s)(e:Rd H d (.dK []))(ha:cI X.K H k a)(h:∀s',L2.Inv X γ σ H s'->Q (.bool false) s'):
  wpAny (model X.prog X.w) A (compareOp .In (.ref a) (.ref d)) Q E1 s:=by
 obtain⟨dd,hd⟩:=wZ I e
 exact wpAny_in_heap (knd:=dU X.prog X.w) (V5 hu) (gZ I ha) hd dd (h _ (I.tok _))
def JL{k:SK}{a:Addr}{Q:QZq}(hu:A.units+9<cLine)(I:L2.Inv X γ σ H s)(e:Rd H d (.dK []))(ha:cI X.K H k a)(h:∀s',L2.Inv X γ σ H s'->Q (.bool true) s'):
  wpAny (model X.prog X.w) A (compareOp .NotIn (.ref a) (.ref d)) Q E1 s:=by
 obtain⟨dd,hd⟩:=wZ I e
 exact PyProof.Rows.wpAny_notIn_heap (knd:=dU X.prog X.w) (V5 hu) (gZ I ha) hd dd (h _ (I.tok _))
def Ad{k:SK}{a:Addr}{v:V}{r:Value}{Q:Unit->Shared->Prop}(hu:A.units+9<cLine)(I:L2.Inv X γ σ H s)(hd:H d=some (.dK []))(ha:cI X.K H k a)(rv:RelV v r)
  (h:∀s',L2.Inv X γ σ (upd H d (sD [(k,a,v)])) s'->Q () s'):wpAny (model X.prog X.w) A (setItem (.ref d) (.ref a) r) Q E1 s:=by
 obtain⟨dd,y⟩:=wZ I (.inl hd)
 refine wpAny_setItem_heap (knd:=dU X.prog X.w) (hsz:=QIq _) (V5 hu) (gZ I ha) dd fun h' dd' hs=>h _ ?_
 have he:∃q,h'.get? d=some q:=let ⟨q,_,_,hq,_⟩:=dd';⟨q,hq⟩
 exact kJ I (by rw[hd];exact True.intro) hs he (Dm (by rw[sizeLine_eq];show 1<=16777216;decide) y (mJ rv .nil) dd')
end
def Gk{x y:Value}{W:World}{E:QZq}{Q:PUnit->Shared->Prop}(h:wpAny (model P W) A (dictSet d x y) (fun _ s'=>Q PUnit.unit s') E s):wpAny (model P W) A (storeAll d [(x,y)]) Q E s:=by
 unfold storeAll
 rw[List.forIn_cons]
 refine QKq (QKq (bZ h fun _ s' q=>QKz ?_))
 show wpAny _ _ (forIn ([]) PUnit.unit _) _ _ _
 exact QKz q
noncomputable def aax(K:QQq)(nC:List (TE×TE)):TE:=fun σ H Q=>∀p,H p=none->vM nC σ (upd H p (.dK [])) fun ps H2=>H2 p=some (.dK [])/\∃k a v,ps=[(.ref a,v)]/\cI K H2 k a/\Q (.ref p) (upd H2 p (sD [(k,a,v)]))
def bare{w:World}{h:Heap}(d:h.DictOf (dH P w) a []):h.DictOfH (dU P w) a []:=by
 obtain⟨o,es,ep,h1,h2,h3,h4,h5,h6⟩:=d
 have e:es.toList=[]:=by
  cases q:es.toList with
  |nil=>rfl
  |cons x y=>rw[q]at h5;cases h5
 exact⟨o,es,ep,h1,h2,h3,by simp[e],fun x hx=>(nomatch hx),List.nodup_nil⟩
theorem QG{pos:Pos}{values:List Expr}(hu:X.A.units+9<cLine)(h:PPs X pos keys values nC)(hall:keys.all (·.isSome)=true)(hl:keys.length=values.length)(h0:keys≠[])
  (h15:keys.length<=15):PE X (.Dict keys values pos) (aax X.K nC):=by
 intro γ s σ H Q I q
 refine wpAny_Dict_any hall hl h0 h15 (bZ (h γ _ σ _ _ (I.laid (t':=s.toks) (fun _ _ q=>QWq _ q) (QVz _) (rR s.heap I.big)) (q _ (I.hok.fresh (QVz s.heap.objs.size)))) fun ws s2⟨ps,H2,I2,rel,e,z⟩=>?_)
 obtain⟨_,hd,vs0,r0,dd⟩:=M4 I2.hok e
 cases r0
 obtain⟨k,a,v,ep,ka,q2⟩:=z
 ·subst ep
  cases rel with
  | @cons _ b _ bs rv t=>
   cases t
   obtain⟨b1,b2⟩:=b
   obtain⟨r1,r2⟩:=rv
   cases r1
   refine Gk (wpAny_dictSet_heap (show X.A.units+8<cLine by omega) (gZ I2 ka) (bare dd) fun h' dd' hs=>?_)
   refine⟨.ref s.heap.objs.size,_,kJ I2 (by rw[e];exact True.intro) hs (let ⟨q,_,_,hq,_⟩:=dd';⟨q,hq⟩) (Dm (by rw[sizeLine_eq];show 1<=_;decide) hd (mJ r2 .nil) dd'),rfl,q2⟩
section
def Qn{P:Program}{w:World}:∀{xs:List SV}{ys:List (SK×Addr×Value)}{vs:List Value},Paired Oo xs ys->vs=ys.map (fun y=>Value.ref y.2.1)->Vals (xs.map fun x=>V.ref x.2.1) vs:=by
 intro xs ys vs pr e
 subst e
 induction pr with
 |nil=>exact .nil
 |cons h t ih=>exact .cons (by show Value.ref _=Value.ref _;rw[h.2.1]) ih
def Cu(hc:X.calm=true):fG X (.type "list") (fun xs H Q=>(∃p ys,xs=[.ref p]/\(jx X.K H p ys\/jq X.K H p ys)/\∀l,H l=none->Q (.ref l) (upd H l (.lst ys)))\/
  ∃a ks,xs=[.ref a]/\Rd H a (sD ks)/\∀l,H l=none->Q (.ref l) (upd H l (.lst (ks.map fun x=>.ref x.2.1)))):=by
 intro γ s σ H xs us Q I r h
 rcases h with h|⟨a,ks,rfl,e,q⟩
 ·exact xn γ s σ H xs us Q I r h
 obtain⟨u,rfl,rx⟩:=vals1 r
 cases rx
 obtain⟨z,y,nd,ys,o,es,ep,pr,h1,h2,h3,h4⟩:=(Dr I.hok e)
 have le:es.size=ys.length:=by rw[<-Array.length_toList,h4,QAq]
 have lk:=Paired.length pr
 refine PySem.W.kdl_call (Ny y) (I.ok.hd hc) ⟨o,h1,h2,h3⟩ (by omega) fun h' tk acc c' kp g it=>?_
 have ev:acc.toList=ys.map fun y=>Value.ref y.2.1:=by
  refine List.ext_getElem? fun i=>?_
  rw[Array.getElem?_toList,QFz]
  by_cases hi:i<acc.size
  ·obtain⟨e,e1,e2⟩:=it.2 i acc[i] (Array.getElem?_eq_getElem hi)
   rw[<-Array.getElem?_toList,h4,QFz]at e1
   obtain⟨p,p1,p2⟩:=QJz.mp e1
   rw[Array.getElem?_eq_getElem hi,p1,e2,<-p2]
   rfl
  ·have:acc.size=ys.length:=by rw[it.1,le]
   rw[Array.getElem?_eq_none (by omega),List.getElem?_eq_none (by omega)]
   rfl
 refine⟨.ref s.heap.objs.size,_,I.laid kp (QVz _) (show bY X.prog X.w _ h' _ (.lst _)from⟨by rw[QAq];omega,acc.toList,c',Qn (P:=X.prog) (w:=X.w) pr ev,by simpa using g⟩),rfl,q _ (I.hok.fresh (QVz _))⟩
end
section
theorem cV.flat{H:Hp}{v:V}(h:cV K H x v)(f:flat x=true):bh K H x v:=by
 rcases h with h|⟨q,a,rfl,_⟩
 ·exact h
 ·cases q<;>simp[Ob.d,Mini.flat]at f
def Fb(f:flat x=true)(hs:∀y,x≠ .str y):nd x=true/\dep x=0:=by
 cases x<;>simp_all[flat,nd,dep]
noncomputable def aeT(K:QQq):R2:=fun x y H Q=>∃p q,cV K H p x/\cV K H q y/\BV p q=true/\Q (.bl (bK p q)) H
noncomputable def aeQ(K:QQq):R2:=fun x y H Q=>∃p q,cV K H p x/\cV K H q y/\BV p q=true/\Q (.bl (!bK p q)) H
def Ff{H:Hp}{x y:V}(Dp:bh K H p x)(Dq:bh K H q y)(fp:flat p=true)(fq:flat q=true)(hs:(∃z,p=.str z)\/∃z,q=.str z):Qa x y=true/\decide (x=y)=bK p q:=by
 cases p<;>cases q<;>simp_all[flat]<;>(cases Dp;cases Dq;unfold Qa bK;simp)
def Fe{p q:D}(hu:u+60<cLine)(hp:nd p=true)(hq:nd q=true)(hd:dep p<=50):u+min (py p).depth (py q).depth<cLine:=by
 rw[rW p hp,rW q hq]
 omega
def rQ(h:BV p q=true):(nd p=true/\nd q=true/\dep p<=50)\/(flat p=true/\flat q=true/\((∃z,p=.str z)\/∃z,q=.str z)):=by
 simp only[BV,Bool.or_eq_true,QUq,QUz]at h
 rcases h with ⟨h1,h2⟩|⟨⟨h1,h2⟩,h3⟩
 ·by_cases hs:(∃z,p=.str z)\/∃z,q=.str z
  ·exact .inr ⟨h1,h2,hs⟩
  ·have k1:=Fb h1 (fun y e=>hs (.inl ⟨y,e⟩))
   exact .inl ⟨k1.1,(Fb h2 (fun y e=>hs (.inr ⟨y,e⟩))).1,by omega⟩
 ·exact .inl ⟨h1,h3,h2⟩
def WT(hu:X.A.units+60<cLine):fL X (compareOp .Eq) (aeT X.K):=by
 intro γ s σ H x y v u Q I rx ry h
 obtain⟨p,q,Dp,Dq,ok,k⟩:=h
 rcases rQ ok with ⟨h1,h2,h3⟩|⟨h1,h2,h3⟩
 ·obtain⟨as,ra⟩:=Dp.reads I h1 rx
  obtain⟨bs,rb⟩:=Dq.reads I h2 ry
  exact SeqAt.compareEq_reads ra rb (jf p h1) (jf q h2) (Fe hu h1 h2 h3) (by rw[rO p q h1 h2];exact⟨.bl _,H,I,rfl,k⟩)
 ·obtain⟨e1,e2⟩:=Ff (Dp.flat h1) (Dq.flat h2) h1 h2 h3
  exact abv γ s σ H x y v u Q I rx ry ⟨e1,by rw[e2];exact k⟩
def WF(hu:X.A.units+60<cLine):fL X (compareOp .NotEq) (aeQ X.K):=by
 intro γ s σ H x y v u Q I rx ry h
 obtain⟨p,q,Dp,Dq,ok,k⟩:=h
 rcases rQ ok with ⟨h1,h2,h3⟩|⟨h1,h2,h3⟩
 ·obtain⟨as,ra⟩:=Dp.reads I h1 rx
  obtain⟨bs,rb⟩:=Dq.reads I h2 ry
  exact SeqAt.compareNe_reads ra rb (jf p h1) (jf q h2) (Fe hu h1 h2 h3) (by rw[rO p q h1 h2];exact⟨.bl _,H,I,rfl,k⟩)
 ·obtain⟨e1,e2⟩:=Ff (Dp.flat h1) (Dq.flat h2) h1 h2 h3
  exact abq γ s σ H x y v u Q I rx ry ⟨e1,by rw[e2];exact k⟩
theorem wK{K:QQq}{H:Hp}{p:D}{x:V}(Dp:bh K H p x)(fp:flat p=true):∀{ds:List D}{vs:List V},aq K H ds vs->ds.all flat=true->vs.all jo=true/\inV x vs=aU p ds
 |[],vs,h,_=>by rw[aq.bC.mp h];exact⟨rfl,rfl⟩
 |d::ds,vs,h,f=>by
  obtain⟨v,r,rfl,h1,h2⟩:=aq.aG.mp h
  rw[List.all_cons,QUq]at f
  obtain⟨k1,k2⟩:=wK Dp fp h2 f.2
  have fv:jo v=true/\MN v x=bK d p:=by
   obtain⟨f1,_⟩:=f
   cases d<;>cases p<;>simp_all[flat]<;>(cases h1;cases Dp;first|exact⟨rfl,rfl⟩|(refine⟨rfl,?_⟩;simp[MN,bK];try (rw[Bool.beq_eq_decide_eq])))
  refine⟨by rw[List.all_cons,fv.1,k1];rfl,?_⟩
  unfold inV at k2⊢
  rw[List.any_cons,fv.2,k2]
  rfl
theorem sY(hp:nd p=true):∀{ds:List D},n8 ds=true->((xK ds).any fun y=>PyData.eqv y (py p))=aU p ds
 |[]=>fun _=>rfl
 |d::ds=>fun h=>by
  simp only[n8,QUq]at h
  rw[xK,List.any_cons,rO d p h.1 hp,sY hp h.2]
  rfl
def Ol(K:QQq)(H:Hp)(xs:List D)(y:V):Prop:=∃a vs,y=.ref a/\(jx K H a vs\/jq K H a vs)/\aq K H xs vs
noncomputable def aba(K:QQq)(neg:Bool):R2:=fun x y H Q=>∃p xs,bh K H p x/\Ol K H xs y/\eU p xs=true/\Q (.bl (if neg then !aU p xs else aU p xs)) H
def p7{p:D}(hu:u+60<cLine)(hp:nd p=true)(hd:dep p<=50):u+1+min (PyData.depthAll (xK xs)) (py p).depth<cLine:=by
 rw[rW p hp]
 omega
theorem Ol.reads{s:Shared}{σ:St}{H:Hp}{y:V}(I:Inv X γ σ H s)(h:Ol X.K H xs y)(hn:n8 xs=true)(r:RelV y u):
  ∃as,Reads s.heap u (.list (xK xs)) as\/Reads s.heap u (.tuple (xK xs)) as:=by
 obtain⟨a,vs,rfl,hq,l⟩:=h
 cases r
 rcases hq with hq|hq
 ·obtain⟨its,rv,⟨o,n,e,c,_,dt⟩,_⟩:=I.list hq
  obtain⟨as,q⟩:=aq.reads I hn l rv
  exact⟨a::as,.inl (.list e c dt (by simpa using q))⟩
 ·obtain⟨its,rv,⟨o,e,c,n,dt⟩,_⟩:=I.tuple hq
  obtain⟨as,q⟩:=aq.reads I hn l rv
  exact⟨as,.inr (.tuple e c dt (by simpa using q))⟩
def WQ(hu:X.A.units+60<cLine):fL X (compareOp .In) (aba X.K false):=by
 intro γ s σ H x y v u Q I rx ry h
 obtain⟨p,xs,Dp,hS,ok,k⟩:=h
 simp only[eU,Bool.or_eq_true,QUq,QUz]at ok
 rcases ok with ⟨h1,h2⟩|⟨⟨h1,h2⟩,h3⟩
 ·obtain⟨a,vs,rfl,hq,l⟩:=hS
  obtain⟨k1,k2⟩:=wK Dp h1 l h2
  exact Ha γ s σ H x _ v u Q I rx ry ⟨a,vs,rfl,hq,(by cases p<;>simp_all[flat]<;>(cases Dp;rfl)),k1,by simpa[k2]using k⟩
 ·obtain⟨bs,rb⟩:=bh.reads I h1 Dp rx
  obtain⟨as,ra|ra⟩:=hS.reads I h3 ry
  ·exact SeqAt.in_list_reads ra rb (je xs h3) (jf p h1) (p7 hu h1 h2) (by rw[sY h1 h3];exact⟨.bl _,H,I,rfl,k⟩)
  ·exact SeqAt.in_tuple_reads ra rb (je xs h3) (jf p h1) (p7 hu h1 h2) (by rw[sY h1 h3];exact⟨.bl _,H,I,rfl,k⟩)
def G8(hu:X.A.units+60<cLine):fL X (compareOp .NotIn) (aba X.K true):=by
 intro γ s σ H x y v u Q I rx ry h
 obtain⟨p,xs,Dp,hS,ok,k⟩:=h
 simp only[eU,Bool.or_eq_true,QUq,QUz]at ok
 rcases ok with ⟨h1,h2⟩|⟨⟨h1,h2⟩,h3⟩
 ·obtain⟨a,vs,rfl,hq,l⟩:=hS
  obtain⟨k1,k2⟩:=wK Dp h1 l h2
  exact wj γ s σ H x _ v u Q I rx ry ⟨a,vs,rfl,hq,(by cases p<;>simp_all[flat]<;>(cases Dp;rfl)),k1,by simpa[k2]using k⟩
 ·obtain⟨bs,rb⟩:=bh.reads I h1 Dp rx
  obtain⟨as,ra|ra⟩:=hS.reads I h3 ry
  ·exact SeqAt.notIn_list_reads ra rb (je xs h3) (jf p h1) (p7 hu h1 h2) (by rw[sY h1 h3];exact⟨.bl _,H,I,rfl,k⟩)
  ·exact SeqAt.notIn_tuple_reads ra rb (je xs h3) (jf p h1) (p7 hu h1 h2) (by rw[sY h1 h3];exact⟨.bl _,H,I,rfl,k⟩)
end
structure Gives(K:QQq)(J:It)(xs:List D)(H:Hp):Prop where
 go:∀H1,bG H H1->∀(i:Nat)d,xs[i]? =some d->J.go i H1
 yld:∀H1,bG H H1->∀(i:Nat)d,xs[i]? =some d->∀x H2,J.yld i H1 x H2->bh K H2 d x/\(H2=H1\/∃p vs,H1 p=none/\H2=upd H1 p (.tup vs))
 stop:∀H1,bG H H1->∀(i:Nat),xs.length<=i->J.stop i H1
 len:xs.length<=sizeLine
noncomputable def tI(K:QQq)(W:Wi)(env:Ev)(r:Out Rv):TI:=fun σ H R=>Sat K env σ H/\match r with
 |.ok x env'=>∃d xs,x.gK=some d/\items d=some xs/\∀J H',Nx K env σ H env' H'->Gives K J xs H'->R J H'
 |.exc c env'=>∀H',Nx K env σ H env' H'->W c env' σ H'
 |.bad=>False
def GI(X:Cx)(W:Wi)(c:Cf)(m:E)(tg e:Expr):Prop:=∀env,PI X tg e (tI X.K W env (ev c m env))
section
theorem xf{ifs:List Expr}{pos:Pos}{env:Env}(I:Nat->Shared->Prop)
  (turn:∀n s,I n s->wpAny (model prog w) A (pyNext it) (fun r ι=>match r with
   |none=>R (.ok .next) ι
   |some v=>wpAny (model prog w) A (letOwnedTupleGo target it v) (fun _ s₁'=>wpAny (model prog w) A (assign target env v) (fun _ Φ=>
     wpAny (model prog w) A (forIn ifs true fun c r=>if r=true then do let ok<-isTrue c env (eval c env);pure (ForInStep.yield ok)else pure (ForInStep.yield r)) (fun ok s₃=>
      if ok=true then wpAny (model prog w) A (eval elt env) (fun x s₄=>
       wpAny (model prog w) A (call (.builtin "list.append") [acc,x]) (fun _ s₅=>∃m,m<n/\I m s₅) (fun _ _=>False) s₄) (fun _ _=>False) s₃
      else∃m,m<n/\I m s₃) (fun _ _=>False) Φ) (fun _ _=>False) s₁') (fun _ _=>False) ι) (fun _ _=>False) s)
  n(h:I n s):
  codeAny (model prog w) A (.compLoop (.ListComp elt [⟨target,iter,ifs,0⟩] scope pos) 0 it acc env) R s:=by
 refine codeAny_loop rfl I (fun n s hI=>?_) n h
 refine wpAny_noted ?_
 refine QKq (wpAny_standAt (QKq (QGq (turn n s hI) (fun r ι ω=>?_) fun _ _ h'=>h'.elim)))
 cases r with
 |none=>exact QKz ω
 |some v=>
  refine QKq (QGq ω (fun _ s₁' h₁'=>?_) fun _ _ h'=>h'.elim)
  refine QKq (QGq h₁' (fun _ Φ h₂=>QKq (QGq h₂ (fun ok s₃ h₃=>?_) fun _ _ h'=>h'.elim)) fun _ _ h'=>h'.elim)
  cases ok with
  |false=>exact QKz ⟨rfl,h₃⟩
  |true=>
   exact QKq (QKq (QGq h₃ (fun x s₄ h₄=>QKq (QGq h₄ (fun _ s₅ Ω=>QKz (QKz ⟨rfl,Ω⟩)) fun _ _ h'=>h'.elim)) fun _ _ h'=>h'.elim))
end
noncomputable def blk(X:Cx)(scope:Scope)(cl:List (Str×Addr))(N:List Str)(fp:List Addr)(s₀:Shared)(H₀:Hp):Cx where
 prog:=X.prog
 w:=X.w
 K:=X.K
 mg:=X.mg
 base:=X.base
 A:=X.A
 N:=N
 s₀:=s₀
 H₀:=H₀
 env:=compEnvC scope cl s₀.heap.objs.size X.env
 outer:=X.stack
 stack:=X.stack
 ex:=fp
 fn:=fun _=>false
 calm:=X.calm
 pn:=[]
 xe:=fun _ _=>False
def bT(η N:List Str):List Str:=η++N.map fun x=>if η.contains x then(".":Str)++x else x
structure Ik(sc inner:Scope)(η N:List Str):Prop where
 kind:inner.kind=.function
 nd:(bT η N).Nodup
 loc:∀x,inner.names.lookup x=some .local->x∈η\/x=(".0":Str)
 locs:∀x∈inner.names,x.2=.local->inner.names.lookup x.1=some .local
 tg:∀x∈η,inner.names.lookup x=some .local
 nocell:∀x∈inner.names,x.2≠ .cell
 fre:∀x∈inner.names,x.2=.free->sc.names.lookup x.1=some .cell\/sc.names.lookup x.1=some .free
 dot:∀x∈N,η.contains x=true->inner.names.lookup ((".":Str)++x)=none
 dot0:(".0":Str)∉N
structure Ou(scope:Scope)(env:Env)(cl:List (Str×Addr)):Prop where
 eq:closureFor scope env=pure cl
 to:∀x c,cl.lookup x=some c->env.cells.lookup x=some c
 has:∀x,scope.names.lookup x=some .free->∃c,cl.lookup x=some c
theorem bH{env:Env}:∀{names:List (Str×NameKind)}{x:Str}{k:NameKind},
  (names.map fun(n,k)=>if (k==NameKind.free&&env.scope.kind== .function&&env.kindOf n==some .cell)then(n,NameKind.cell)else(n,k)).lookup x=some k->
   names.lookup x=some k\/(k=.cell/\names.lookup x=some .free)
 |[],_,_,h=>by simp at h
 |(n,k')::r,x,k,h=>by
  rw[Qyz]at h
  cases hx:x==n with
  |true=>
   by_cases hc:(k'==NameKind.free&&env.scope.kind== .function&&env.kindOf n==some .cell)=true
   ·simp only[hc,if_true,QHz,hx]at h
    cases h
    simp only[QUq,beq_iff_eq]at hc
    exact .inr ⟨rfl,by simp[QHz,hx,hc.1.1]⟩
   ·simp only[eq_false_of_ne_true hc,Qxq,if_false,QHz,hx]at h
    exact .inl (by simpa[QHz,hx]using h)
  |false=>
   have h':(r.map fun(n,k)=>if (k==NameKind.free&&env.scope.kind== .function&&env.kindOf n==some .cell)then(n,NameKind.cell)else(n,k)).lookup x=some k:=by
    by_cases hc:(k'==NameKind.free&&env.scope.kind== .function&&env.kindOf n==some .cell)=true
    ·simpa only[hc,if_true,QHz,hx]using h
    ·simpa only[eq_false_of_ne_true hc,Qxq,if_false,QHz,hx]using h
   rcases (@bH env r x k) h' with q|⟨q1,q2⟩
   ·exact .inl (by simpa[QHz,hx]using q)
   ·exact .inr ⟨q1,by simpa[QHz,hx]using q2⟩
theorem Nu{scope:Scope}{η:List Str}{fp:List Addr}{σ:St}
  (I:Inv X γ σ H s)(sc:Ik X.env.scope scope η X.N)(co:Ou scope X.env cl)(hf:∀b∈fp,fM X γ H b)(hlt:∀b∈fp,b<s.heap.objs.size):
  (blk X scope cl (bT η X.N) fp s H).Ok where
 mod:=I.ok.mod
 kind:=sc.kind
 glob:=I.ok.glob
 blt:=I.ok.blt
 above:=QVz _
 inj:=fun x y c h1 h2=>I.ok.inj x y c (co.to x c h1) (co.to y c h2)
 has:=fun x h=>by
  have z:scope.names.lookup x=some .free:=by
   rcases h with h|h
   ·rcases bH h with q|⟨_,q⟩
    ·exact absurd rfl (sc.nocell _ (PySem.mem_of_lookup q))
    ·exact q
   ·rcases bH h with q|⟨q,_⟩
    ·exact q
    ·cases q
  exact co.has x z
 cab:=fun x c h=>by cases h
 hd:=I.ok.hd
 frames:=I.ok.frames
 stk:=.inl rfl
 exf:=fun b hb=>⟨Qvz (hlt b hb),fun x c h=>(hf b hb).2.2.2.2.1 x c (co.to x c h)⟩
 bs:=I.bs
 bsz:=Nat.le_trans I.ok.bsz I.sz
 noex:=fun b o e hb=>by
  rcases (hf b hb).2.2.2.1 with z|z
  ·exact I.ok.noex b o e z
  ·exact absurd (Qvq (Qqz e) (Nat.le_trans I.ok.bsz z)) (Nat.lt_irrefl _)
 exfs:=fun b hb hs=>by
  obtain⟨_,h1,h2,_⟩:=hf b hb
  rcases QCq.mp (I.Ab b hs)with z|z
  ·exact h1 z
  ·exact h2 z
 lM:=I.stack
 frf:=I.Dh
theorem Ss{scope:Scope}{η:List Str}{fp:List Addr}{σ:St}{H:Hp}{h':Heap}
  (I:Inv X γ σ H s)(sc:Ik X.env.scope scope η X.N)(co:Ou scope X.env cl)(hf:∀b∈fp,fM X γ H b)(hlt:∀b∈fp,b<s.heap.objs.size)
  (hn:h'.Ns s.heap.objs.size fun _=>none)(hk:∀b o,s.heap.get? b=some o->h'.get? b=some o):
  Inv (blk X scope cl (bT η X.N) fp s H) [] (List.replicate η.length none++σ) H {s with heap:=h',toks:=t}:=by
 have cellK:∀c v,s.heap.IsCell c v->h'.IsCell c v:=fun c v⟨o,e,d⟩=>⟨o,hk c o e,d⟩
 refine⟨Nu I sc co hf hlt,rfl,I.bare,Un.kept hk,⟨_,hn,fun i x v e1 e2 e3=>?_⟩,fun x c e=>?_,I.hok.fresh (QVz _),fun x c e=>I.freeC x c (co.to x c e),fun p hp=>absurd (show p∈([])from hp) (by simp),I.hok.kept hk,?_⟩
 ·--an outer name that is seen within
  have hi:η.length<=i:=by
   refine Nat.le_of_not_lt fun q=>?_
   rw[Qwz (by simpa using q),List.getElem?_replicate]at e2
   split at e2<;>cases e2
  rw[QIz (by simpa using hi)]at e2
  simp only[List.length_replicate]at e2
  have e1':(bT η X.N)[i]? =some x:=e1
  unfold bT at e1'
  rw[QIz hi,QFz]at e1'
  cases ey:X.N[i-η.length]? with
  |none=>rw[ey]at e1';cases e1'
  |some y=>
   rw[ey]at e1'
   have e1'':(if η.contains y=true then(".")++y else y)=x:=QEq e1'
   have e3':=e3
   by_cases hy:η.contains y=true
   ·rw[if_pos hy]at e1''
    subst e1''
    have no:=sc.dot y (QBz ey) hy
    rcases e3' with q|q|q
    ·rcases bH q with z|⟨z,_⟩
     ·rw[no]at z;cases z
     ·cases z
    ·rcases bH q with z|⟨_,z⟩
     ·rw[no]at z;cases z
     ·rw[no]at z;cases z
    ·rcases bH q with z|⟨z,_⟩
     ·rw[no]at z;cases z
     ·cases z
   ·rw[if_neg hy]at e1''
    subst e1''
    have fr:scope.names.lookup y=some .free:=by
     rcases e3' with q|q|q
     ·rcases bH q with z|⟨z,_⟩
      ·rcases sc.loc y z with w|w
       ·exact absurd (by simpa using w) hy
       ·exact absurd (w▸QBz ey) sc.dot0
      ·cases z
     ·rcases bH q with z|⟨_,z⟩
      ·exact absurd rfl (sc.nocell _ (PySem.mem_of_lookup z))
      ·exact z
     ·rcases bH q with z|⟨z,_⟩
      ·exact z
      ·cases z
    have ou:=sc.fre _ (PySem.mem_of_lookup fr) rfl
    obtain⟨m,hm,hl⟩:=I.loc
    obtain⟨u,r,l⟩:=hl _ y v ey e2 (.inr ou)
    obtain⟨c,hc⟩:=co.has y fr
    refine⟨u,r,.inr ⟨?_,c,hc,?_⟩⟩
    ·have z:=e3'
     rcases z with z|z|z
     ·rcases bH z with w|⟨w,_⟩
      ·rw[fr]at w;cases w
      ·cases w
     ·exact .inl z
     ·exact .inr z
    ·rcases l with ⟨k,_⟩|⟨_,c',hc',z⟩
     ·have k':X.env.scope.names.lookup y=some .local:=k
      rcases ou with w|w
      ·rw[k']at w;cases w
      ·rw[k']at w;cases w
     ·rw[co.to y c hc]at hc'
      cases hc'
      exact cellK c _ z
 ·obtain⟨v,z⟩:=I.cell x c (co.to x c e)
  exact⟨v,cellK c v z⟩
 ·show(List.replicate η.length none++σ).length=(bT η X.N).length
  unfold bT
  simp only[QTq,List.length_replicate,QAq,I.len]
def slots:Tg->List Nat
 |.name i=>[i]
 |.tup is=>is
structure jr(K:QQq)(tg:Tg)(env:Ev)(σ:St)(env':Ev)(ζ:St)(H:Hp):Prop where
 eG:Sat K env' ζ H
 same:∀(i:Nat),i∉slots tg->env'[i]? =env[i]? /\ζ[i]? =σ[i]?
 vals:∀(i:Nat),i∈slots tg->∃d,env'[i]? =some (.val d)
 bors:∀(i:Nat)xs,env[i]? =some (.bor xs)->i∉slots tg
 len:ζ.length=σ.length
noncomputable def tG(K:QQq)(tg:Tg):TG:=fun v σ H Q=>∃env d env',Sat K env σ H/\bh K H d v/\bV tg d env=some env'/\∀ζ,jr K tg env σ env' ζ H->Q ζ H
def GG(X:Cx)(tg:Tg)(e:Expr):Prop:=PG X e (tG X.K tg)
section
def jr.sub(h:jr K tg env σ env' ζ H){a:Addr}(o:aP env' ζ i a):aP env σ i a:=by
 obtain⟨⟨s,xs,e1,e2⟩,e3⟩:=o
 by_cases hi:i∈slots tg
 ·obtain⟨d,e⟩:=h.vals i hi
  rw[e]at e1;cases e1;cases e2
 ·obtain⟨q1,q2⟩:=h.same i hi
  exact⟨⟨s,xs,by rw[<-q1];exact e1,e2⟩,by rw[<-q2];exact e3⟩
def lF{s:Sl}(h:cu i s env=some env'):env'=env.set i s/\i<env.length/\∀xs,env[i]? ≠some (.bor xs):=by
 unfold cu at h
 cases e:env[i]? with
 |none=>rw[e]at h;cases h
 |some t=>
  rw[e]at h
  have hi:=(QCz.mp e).1
  cases t with
  |bor xs=>cases h
  |un=>cases h;exact⟨rfl,hi,fun xs q=>by cases q⟩
  |val d=>cases h;exact⟨rfl,hi,fun xs q=>by cases q⟩
  |own ys=>cases h;exact⟨rfl,hi,fun xs q=>by cases q⟩
def Sat.put{d:D}(S:Sat K env σ H)(hi:i<env.length)(hd:bh K H d v):Sat K (env.set i (.val d)) (σ.set i (some v)) H:=by
 have own:∀j a,aP (env.set i (.val d)) (σ.set i (some v)) j a->aP env σ j a:=fun j a⟨⟨s,xs,e1,e2⟩,e3⟩=>by
  by_cases hj:i=j
  ·subst hj;rw[Qwq hi]at e1;cases e1;cases e2
  ·rw[Qxz hj]at e1 e3;exact⟨⟨s,xs,e1,e2⟩,e3⟩
 refine⟨by simpa using S.len,fun j s e=>?_,fun j k a h1 h2=>S.ne j k a (own j a h1) (own k a h2)⟩
 by_cases hj:i=j
 ·subst hj
  rw[Qwq hi]at e
  cases e
  rw[Qwq (by rw[<-S.len];exact hi)]
  exact⟨v,rfl,hd⟩
 ·rw[Qxz hj]at e⊢
  exact S.sl j s e
def PL{d:D}(S:Sat K env σ H)(hd:bh K H d v)(h:cu i (.val d) env=some env'):jr K (.name i) env σ env' (σ.set i (some v)) H:=by
 obtain⟨rfl,hi,hb⟩:=lF h
 refine⟨S.put hi hd,fun j hj=>?_,fun j hj=>?_,fun j xs e hj=>?_,by simp⟩
 ·have:i≠j:=fun z=>hj (by simp[slots,z])
  exact⟨Qxz this,Qxz this⟩
 ·have e:j=i:=by simpa[slots]using hj
  subst e
  exact⟨d,Qwq hi⟩
 ·have e':j=i:=by simpa[slots]using hj
  subst e'
  exact hb xs e
end
section
def wN{x:Str}(hN:X.N.Nodup)(hi:X.N[i]? =some x)(hx:Loc X.env.scope x)(hf:X.fn x=true\/X.env.scope.names.lookup x=some .local):GG X (.name i) (.Name x pos):=by
 intro γ s σ H v u Q I r q
 obtain⟨env,d,env',S,hd,e,k⟩:=q
 exact QC hN hi hx hf γ s σ H v u Q I r (k _ (PL S hd e))
noncomputable def gF(sc:Scope)(N:List Str):List Nat->List Expr->Bool
 |[],[]=>true
 |i::is,.Name x _::es=>(N[i]? ==some x)&&(sc.names.lookup x==some .local)&&gF sc N is es
 |_,_=>false
inductive tE(X:Cx):List Nat->List Expr->Prop
 |nil:tE X [] []
 |cons {i:Nat} {is:List Nat} {x:Str} {p:Pos} {es:List Expr}:X.N[i]? =some x->Loc X.env.scope x->(X.fn x=true\/X.env.scope.names.lookup x=some .local)->tE X is es->tE X (i::is) (.Name x p::es)
theorem KZ:∀{is:List Nat}{es:List Expr},gF X.env.scope X.N is es=true->tE X is es
 |[],[]=>fun _=>.nil
 |[],_::_=>fun h=>by simp[gF]at h
 |_::_,[]=>fun h=>by simp[gF]at h
 |i::is,e::es=>fun h=>by
  cases e with
  |Name x p=>
   simp only[gF,QUq,beq_iff_eq]at h
   exact .cons h.1.1 (.inl h.1.2) (.inr h.1.2) (KZ h.2)
  |_=>simp[gF]at h
theorem zf(hN:X.N.Nodup):∀(is:List Nat)(es:List Expr),tE X is es->
  PGs X es (fun vs σ H Q=>∃env ds env',Sat X.K env σ H/\aq X.K H ds vs/\gU is ds env=some env'/\∀ζ,jr X.K (.tup is) env σ env' ζ H->Q ζ H)
 |[],[],_=>fun γ s σ H vs us Q I r⟨env,ds,env',S,l,e,k⟩=>by
  cases ds with
  |nil=>
   cases e
   refine QB γ s σ H vs us Q I r ⟨aq.bC.mp l,k σ ⟨S,fun i _=>⟨rfl,rfl⟩,fun i hi=>?_,fun i xs _=>?_,rfl⟩⟩
   ·simp[slots]at hi
   ·simp[slots]
  |cons d ds=>cases e
 |i::is,_,.cons (x:=x) (p:=p) (es:=es) h1 h2 h3 h4=>by
   intro γ s σ H vs us Q I r q
   refine Kl (wN hN h1 h2 h3) (zf hN is es h4) (by rfl) γ s σ H vs us Q I r ?_
   obtain⟨env,ds,env',S,l,e,k⟩:=q
   cases ds with
   |nil=>cases e
   |cons d ds=>
    obtain⟨v,vr,rfl,hd,l'⟩:=aq.aG.mp l
    have e':(cu i _ env).bind _=some env':=e
    cases e1:cu i _ env with
    |none=>rw[e1]at e';cases e'
    |some δ=>
     rw[e1]at e'
     refine⟨v,vr,rfl,env,d,δ,S,hd,e1,fun ξ s1=>⟨δ,ds,env',s1.eG,l',e',fun υ s2=>k υ ⟨s2.eG,fun j hj=>?_,fun j hj=>?_,fun j xs q hj=>?_,s2.len.trans s1.len⟩⟩⟩
     ·have h1:j∉slots (.name i):=fun z=>hj (by simp[slots]at z⊢;exact .inl z)
      have h2:=fun z=>hj (by simp[slots]at z⊢;exact .inr z)
      exact⟨(s2.same j h2).1.trans (s1.same j h1).1,(s2.same j h2).2.trans (s1.same j h1).2⟩
     ·by_cases h2:j∈slots (.tup is)
      ·exact s2.vals j h2
      ·obtain⟨d',q⟩:=s1.vals j (by simp[slots]at hj h2⊢;exact hj.resolve_right h2)
       exact⟨d',(s2.same j h2).1.trans q⟩
     ·by_cases h1:j∈slots (.name i)
      ·exact s1.bors j xs q h1
      ·exact s2.bors j xs ((s1.same j h1).1.trans q) (by simp[slots]at hj h1⊢;exact hj.resolve_left h1)
def Bv{is:List Nat}{k:Nat}(hN:X.N.Nodup)(hc:X.calm=true)(h:tE X is es)(hl:(assignEach es X.env).length=is.length)(hst:(assignEach es X.env).findIdx? (·.1)=none):GG X (.tup is) (.Tuple es k pos):=by
 intro γ s σ H v u Q I r q
 obtain⟨env,d,env',S,hd,e,k⟩:=q
 cases d with
 |tup ds=>
  obtain⟨a,vs,rfl,hq,l⟩:=b7 hd
  refine Wn hc (zf hN is es h) hl hst γ s σ H _ u Q I r ⟨a,vs,rfl,hq,?_,env,ds,env',S,l,e,k⟩
  have lens:∀is ds env env',gU is ds env=some env'->ds.length=is.length:=by
   intro is
   induction is with
   |nil=>intro ds env env' e;cases ds with|nil=>rfl|cons _ _=>cases e
   |cons i is ih=>
    intro ds env env' e
    cases ds with
    |nil=>cases e
    |cons d ds=>
     have e':(cu i _ env).bind _=some env':=e
     cases e1:cu i _ env with
     |none=>rw[e1]at e';cases e'
     |some δ=>rw[e1]at e';simp[ih ds δ env' e']
  rw[<-l.length]
  exact lens is ds env env' e
 |_=>cases e
end
def W0:Wi:=fun _ _ _ _=>False
def Sat.lay{env:Ev}{H H2:Hp}(S:Sat K env σ H)(h:H2=H\/∃p vs,H p=none/\H2=upd H p (.tup vs)):Nx K env σ H env H2:=by
 rcases h with rfl|⟨p,vs,hp,rfl⟩
 ·exact Nx.refl S
 ·exact Nx.laid S hp
def qN{σ:St}{a:Addr}:aP (env.drop nl) (σ.drop nl) i a↔aP env σ (nl+i) a:=by
 unfold aP
 rw[List.getElem?_drop,List.getElem?_drop]
theorem Sat.drop{env:Ev}{H:Hp}(S:Sat K env σ H):Sat K (env.drop nl) (σ.drop nl) H:=by
 refine⟨by rw[List.length_drop,List.length_drop,S.len],fun i s e=>?_,fun i j a h1 h2=>?_⟩
 ·rw[List.getElem?_drop]at e⊢
  exact S.sl _ s e
 ·have:=S.ne _ _ a (qN.mp h1) (qN.mp h2)
  omega
def iB{σ:St}{i:Nat}(h:aP (List.replicate nl .un++env) (List.replicate nl none++σ) i a):∃j,i=nl+j/\aP env σ j a:=by
 obtain⟨⟨s,xs,e1,e2⟩,e3⟩:=h
 by_cases hi:i<nl
 ·rw[Qwz (by simpa using hi),List.getElem?_replicate,if_pos hi]at e1
  cases e1;cases e2
 ·refine⟨i-nl,by omega,?_⟩
  rw[QIz (by simp;omega)]at e1 e3
  simp only[List.length_replicate]at e1 e3
  exact⟨⟨s,xs,e1,e2⟩,e3⟩
def Sat.front{env:Ev}{H:Hp}(S:Sat K env σ H)nl:Sat K (List.replicate nl .un++env) (List.replicate nl none++σ) H:=by
 refine⟨by simp[S.len],fun i s e=>?_,fun i j a h1 h2=>?_⟩
 ·by_cases hi:i<nl
  ·rw[Qwz (by simpa using hi),List.getElem?_replicate,if_pos hi]at e
   cases e;trivial
  ·rw[QIz (by simp;omega)]at e⊢
   simp only[List.length_replicate]at e⊢
   exact S.sl _ s e
 ·obtain⟨i',rfl,o1⟩:=iB h1
  obtain⟨j',rfl,o2⟩:=iB h2
  rw[S.ne i' j' a o1 o2]
structure zR(X:Cx)(c:Cf)(scope:Scope)(η:List Str)(tg:Tg)(cond elt:E)(Ξ Δ:Expr)(ifs:List Expr):Prop where
 sc:Ik X.env.scope scope η X.N
 small:∀i∈slots tg,i<η.length
 tgt:∀cl fp s₀ H₀,(blk X scope cl (bT η X.N) fp s₀ H₀).Ok->GG (blk X scope cl (bT η X.N) fp s₀ H₀) tg Ξ
 tests:(ifs=[]/\cond=.con (.bl true))\/∃ce,ifs=[ce]/\∀cl fp s₀ H₀,(blk X scope cl (bT η X.N) fp s₀ H₀).Ok->GT (blk X scope cl (bT η X.N) fp s₀ H₀) W0 c cond ce
 elts:∀cl fp s₀ H₀,(blk X scope cl (bT η X.N) fp s₀ H₀).Ok->GE (blk X scope cl (bT η X.N) fp s₀ H₀) W0 c elt Δ
structure LI(X:Cx)(c:Cf)(tg:Tg)(cond elt:E)(xs ys:List D)(τ env0:Ev)(σ σ0:St)(H3:Hp)(D:Addr)(nl i:Nat)(acc:List Mini.D)(vs:List V)(Ψ:Ev)(ξ:St)(H1:Hp):Prop where
 le:i<=xs.length
 go:aO tg (ev c cond) (ev c elt) (xs.drop i) acc Ψ=.ok ys τ
 eG:Sat X.K Ψ ξ H1
 out:ξ.drop nl=σ
 acl:acc.length<=i
 cur:H1 D=some (.lst vs)
 den:aq X.K H1 acc vs
 sub:∀k a,aP Ψ ξ k a->aP env0 σ0 k a
 pers:bG H3 H1
 keep:∀b u,H3 b=some u->b≠D->(∀k,¬aP env0 σ0 k b)->H1 b=some u
 dom:∀b,H1 b=none->H3 b=none
 bors:∀(k:Nat)ws,env0[k]? =some (.bor ws)->∃ws',Ψ[k]? =some (.bor ws')
section
variable{cond elt:E}{D:Addr}
def LI.no(L:LI X c tg cond elt xs ys τ env0 σ σ0 H3 D nl i acc vs Ψ ξ H1)(hD:∀k,¬aP env0 σ0 k D):∀k,¬aP Ψ ξ k D:=fun k z=>hD k (L.sub k D z)
end
structure Ch(K:QQq)(env:Ev)(σ:St)(H:Hp)(env':Ev)(ζ:St)(H':Hp):Prop where
 eG:Sat K env' ζ H'
 sub:∀(i:Nat)a,aP env' ζ i a->aP env σ i a
 pers:bG H H'
 keep:∀b u,H b=some u->(∀i,¬aP env σ i b)->H' b=some u
 dom:∀b,H' b=none->H b=none
 bors:∀(i:Nat)xs,env[i]? =some (.bor xs)->∃ys,env'[i]? =some (.bor ys)
section
def Nx.ch(N:Nx K env σ H δ H1):Ch K env σ H δ σ H1:=⟨N.eG,N.sub,N.pers,N.keep,N.dom,N.bors⟩
def jr.ch(h:jr K tg env σ δ ξ H):Ch K env σ H δ ξ H:=⟨h.eG,fun _ _ z=>h.sub z,bG.refl H,fun _ _ z _=>z,fun _ z=>z,fun i xs e=>⟨xs,(h.same i (h.bors i xs e)).1.trans e⟩⟩
theorem Ch.trans(a:Ch K env σ H δ ξ H1)(b:Ch K δ ξ H1 ε υ H2):Ch K env σ H ε υ H2:=
 ⟨b.eG,fun i c z=>a.sub i c (b.sub i c z),a.pers.trans b.pers,fun c vs z n=>b.keep c vs (a.keep c vs z n) fun i w=>n i (a.sub i c w),fun c z=>a.dom c (b.dom c z),fun i xs e=>let ⟨ys,e1⟩:=a.bors i xs e;b.bors i ys e1⟩
end
def jr.out{tg:Tg}{σ ξ:St}{nl:Nat}(h:jr K tg env σ δ ξ H)(hs:∀i∈slots tg,i<nl):ξ.drop nl=σ.drop nl:=by
 apply List.ext_getElem?
 intro i
 rw[List.getElem?_drop,List.getElem?_drop]
 exact(h.same _ fun z=>by have:=hs _ z;omega).2
section
variable{cond elt:E}{D:Addr}
theorem LI.skip(L:LI X c tg cond elt xs ys τ env0 σ σ0 H3 D nl i acc vs Ψ ξ H1)(hD:∀k,¬aP env0 σ0 k D)(C:Ch X.K Ψ ξ H1 τ2 υ H2)(hi:i<xs.length)(ho:υ.drop nl=σ)
  (go:aO tg (ev c cond) (ev c elt) (xs.drop (i+1)) acc τ2=.ok ys τ):LI X c tg cond elt xs ys τ env0 σ σ0 H3 D nl (i+1) acc vs τ2 υ H2 where
 le:=hi
 go:=go
 eG:=C.eG
 out:=ho
 acl:=Nat.le_succ_of_le L.acl
 cur:=C.keep D _ L.cur (L.no hD)
 den:=L.den.mono C.pers
 sub:=fun k a z=>L.sub k a (C.sub k a z)
 pers:=L.pers.trans C.pers
 keep:=fun b ws z n1 n2=>C.keep b ws (L.keep b ws z n1 n2) fun k o=>n2 k (L.sub k b o)
 dom:=fun b z=>L.dom b (C.dom b z)
 bors:=fun k ws e=>let ⟨w1,e1⟩:=L.bors k ws e;C.bors k w1 e1
def LI.push{v:V}(L:LI X c tg cond elt xs ys τ env0 σ σ0 H3 D nl i acc vs Ψ ξ H1)(hD:∀k,¬aP env0 σ0 k D)(C:Ch X.K Ψ ξ H1 τ2 υ H2)(hi:i<xs.length)(ho:υ.drop nl=σ)
  (go:aO tg (ev c cond) (ev c elt) (xs.drop (i+1)) (acc++[d]) τ2=.ok ys τ)(hd:bh X.K H2 d v):LI X c tg cond elt xs ys τ env0 σ σ0 H3 D nl (i+1) (acc++[d]) (vs++[v]) τ2 υ (upd H2 D (.lst (vs++[v]))):=by
 have cur:=C.keep D _ L.cur (L.no hD)
 have ne:∀b u,H2 b=some u->(∀ws,u≠ .lst ws)->b≠D:=fun b u q n z=>by subst z;rw[cur]at q;cases q;exact n vs rfl
 have p:bG H2 (upd H2 D (.lst (vs++[v]))):=⟨fun b ws q=>by rw[aC (ne b _ q (by intro ws z;cases z))];exact q,fun b o u q=>by rw[aC (ne b _ q (by intro ws z;cases z))];exact q⟩
 have no2:=fun k z=>L.no hD k (C.sub k D z)
 refine⟨hi,go,C.eG.keep p fun k b u ow hb=>?_,ho,by rw[QTq];exact Nat.succ_le_succ L.acl,aN,((L.den.mono C.pers).append (aq.cZ hd aq.fY)).mono p,fun k a z=>L.sub k a (C.sub k a z),
  (L.pers.trans C.pers).trans p,fun b ws z n1 n2=>?_,fun b z=>L.dom b (C.dom b ?_),fun k ws e=>let ⟨w1,e1⟩:=L.bors k ws e;C.bors k w1 e1⟩
 ·rw[aC (fun z=>by subst z;exact no2 k ow)];exact hb
 ·rw[aC n1]
  exact C.keep b ws (L.keep b ws z n1 n2) fun k o=>n2 k (L.sub k b o)
 ·by_cases hb:b=D
  ·subst hb;rw[aN]at z;cases z
  ·rw[aC hb]at z;exact z
end
def vd{α:Type}{xs:List α}{d:α}(h:xs[i]? =some d):xs.drop i=d::xs.drop (i+1):=by
 obtain⟨hi,e⟩:=QCz.mp h
 rw[List.drop_eq_getElem_cons hi,e]
def vg{X:Cx}{c:Cf}{scope:Scope}{η:List Str}{tg:Tg}{cond elt:E}{Ξ ο Δ:Expr}{ifs:List Expr}{pos:Pos}{cl:List (Str×Addr)}
  {γ:QQz}{σ:St}{H:Hp}{s:Shared}{env τ:Ev}{J:It}{fp:List Addr}{it:Addr}{tn:Nat->Heap->Prop}{xs ys:List D}{RR:Value->Addr->Result->Shared->Prop}{E:QZq}
  (B:zR X c scope η tg cond elt Ξ Δ ifs)(hc:X.calm=true)(co:Ou scope X.env cl)
  (I:Inv X γ σ H s)(S:Sat X.K env σ H)(T:Turn X.prog X.w X.K Ξ J fp it tn)(t0:tn 0 s.heap)(hf:∀b∈fp,fM X γ H b)(G:Gives X.K J xs H)
  (hgo:aO tg (ev c cond) (ev c elt) xs [] (List.replicate η.length .un++env)=.ok ys τ)
  (hRR:∀(D C:Addr)(s':Shared)(H':Hp)(vs:List V)(m:QZz),Inv X γ σ H' s'->Nx X.K env σ H (τ.drop η.length) H'->H' D=some (.lst vs)->aq X.K H' ys vs->H D=none->
   s'.heap.Ns C m->fM X γ H' C->RR (.ref D) C (.ok .next) s'):
  wpAny (model X.prog X.w) X.A (newList []) (fun acc s₃=>wpAny (model X.prog X.w) X.A (newFunctionEnv scope X.env.globals cl [] X.env.qual none .none (some X.env)) (fun cenv s₄=>
   codeAny (model X.prog X.w) X.A (.compStart (.ListComp Δ [⟨Ξ,ο,ifs,0⟩] scope pos) 0 (.ref it) acc {cenv with scope:=relabel scope X.env}) (RR acc cenv.locals) s₄) E s₃) E s:=by
 have hlt:∀b∈fp,b<s.heap.objs.size:=fun b hb=>by
  obtain⟨o,e,_⟩:=T.obj 0 _ t0 b hb
  exact Qqz e
 refine Qjq (wpAny_newFunctionEnv B.sc.nocell (by intro y hy;simp at hy) (fun ω hns₁ hsb₁=>?_) B.sc.kind)
 dsimp only at hns₁ hsb₁⊢
 generalize hDd:s.heap.objs.size=D at*
 have hDn:H D=none:=by rw[<-hDd];exact I.hok.fresh (QVz _)
 have I3:Inv X γ σ (upd H D (.lst [])) {s with heap:=s.heap.push {cls:=.type "list",dict:=none,data:=.seq ([]:List Value).toArray}}:=by
  have:=I.laid (a:=s.heap.objs.size) (o:=.lst []) (t':=s.toks) (h':=s.heap.push {cls:=.type "list",dict:=none,data:=.seq ([]:List Value).toArray}) (fun b o e=>QWq _ e) (QVz _) ⟨QIq _,[],0,.nil,Qzq _ rfl⟩
  rw[hDd]at this
  exact this
 obtain⟨s3,hs3⟩:∃s3:Shared,s3={s with heap:=s.heap.push {cls:=.type "list",dict:=none,data:=.seq ([]:List Value).toArray}}:=⟨_,rfl⟩
 rw[<-hs3]at I3
 have hs3h:s.heap.push {cls:=.type "list",dict:=none,data:=.seq ([]:List Value).toArray}=s3.heap:=by rw[hs3]
 rw[hs3h]at hns₁ hsb₁⊢
 have hsz:s3.heap.objs.size=D+1:=by rw[<-hs3h,Heap.size_push,hDd]
 have hk3:∀b o,s3.heap.get? b=some o->ω.get? b=some o:=fun b o e=>hsb₁.extBut b o (Qvz (Qqz e)) (QWq _ e)
 have hk:∀b o,s.heap.get? b=some o->s3.heap.get? b=some o:=fun b o e=>by rw[<-hs3h];exact QWq _ e
 have hf3:∀b∈fp,fM X γ (upd H D (.lst [])) b:=fun b hb=>⟨by
  rw[aC (Qvz (hlt b hb))];exact(hf b hb).1,(hf b hb).2⟩
 have hlt3:∀b∈fp,b<s3.heap.objs.size:=fun b hb=>Qvq (hlt b hb) (by rw[hsz];exact Nat.le_succ _)
 have N3:Nx X.K env σ H env (upd H D (.lst [])):=Nx.laid S hDn
 generalize hH3:upd H D (.lst [])=H3 at I3 hf3 N3
 have hD3:H3 D=some (.lst []):=by rw[<-hH3];exact aN
 have noD:∀k,¬aP (List.replicate η.length .un++env) (List.replicate η.length none++σ) k D:=fun k z=>by
  obtain⟨j,_,o⟩:=iB z
  obtain⟨_,_,q,_⟩:=S.own o
  rw[hDn]at q;cases q
 have ok':(blk X scope cl (bT η X.N) fp s3 H3).Ok:=Nu I3 B.sc co hf3 hlt3
 have hns':ω.Ns s3.heap.objs.size fun _=>none:=by simpa using hns₁
 have fpk:∀{H1:Hp},(∀b∈fp,H1 b=none)->∀b∈fp,fM (blk X scope cl (bT η X.N) fp s3 H3) [] H1 b:=fun{H1}hn b hb=>
  ⟨hn b hb,(ok'.exf b hb).1,ok'.exfs b hb,.inl hb,fun x q e=>(ok'.exf b hb).2 x q e,fun p hp=>absurd (show p∈([]:QQz)from hp) (by simp)⟩
 have loop:∀s4:Shared,s4={s with heap:=ω,toks:=s.toks+([]:List (Str×Value)).length}->
   codeAny (model X.prog X.w) X.A (.compLoop (.ListComp Δ [⟨Ξ,ο,ifs,0⟩] scope pos) 0 (.ref it) (.ref D) (compEnvC scope cl s3.heap.objs.size X.env)) (RR (.ref D) s3.heap.objs.size) s4:=by
  rintro s4 rfl
  have I4:Inv (blk X scope cl (bT η X.N) fp s3 H3) [] (List.replicate η.length none++σ) H3 {s with heap:=ω,toks:=s.toks+([]:List (Str×Value)).length}:=by
   have:=Ss (t:=s.toks+([]:List (Str×Value)).length) I3 B.sc co hf3 hlt3 hns' hk3
   rw[hs3]at this⊢
   exact this
  refine xf (fun n s'=>∃i acc vs Ψ ξ H1,n=xs.length-i/\Inv (blk X scope cl (bT η X.N) fp s3 H3) [] ξ H1 s'/\tn i s'.heap/\(∀b∈fp,H1 b=none)/\
   LI X c tg cond elt xs ys τ (List.replicate η.length .un++env) σ (List.replicate η.length none++σ) H3 D η.length i acc vs Ψ ξ H1) ?_ xs.length ?_
  ·rintro n s1 ⟨i,acc,vs,Ψ,ξ,H1,rfl,I1,t1,f1,L⟩
   by_cases hi:i<xs.length
   ·--one more turn
    obtain⟨d,hd⟩:∃d,xs[i]? =some d:=⟨xs[i],by simp[hi]⟩
    have q0:=L.go
    rw[vd hd,aO]at q0
    cases hset:bV tg d Ψ with
    |none=>rw[hset]at q0;cases q0
    |some τ2=>
     rw[hset]at q0
     simp only at q0
     have p1:bG H H1:=N3.pers.trans L.pers
     refine bZ (T.item (blk X scope cl (bT η X.N) fp s3 H3) rfl rfl rfl hc i [] s1 ξ H1 _ I1 (fpk f1) t1 (G.go H1 p1 i d hd)) fun r s2⟨u,hr,h2⟩=>?_
     subst hr
     refine bZ h2 fun _ s3'⟨x,H2,I2,r2,y2,t2,f2⟩=>?_
     obtain⟨Dx,lay⟩:=G.yld H1 p1 i d hd x H2 y2
     have N2:=L.eG.lay lay
     have D2:H2 D=some (.lst vs):=N2.keep D _ L.cur (L.no noD)
     have I2':=I2.pinned (fpk f2) (T.obj _ _ t2)
     refine bZ (B.tgt cl fp s3 H3 ok' _ s3' ξ H2 x u (fun υ H'=>H'=H2/\jr X.K tg Ψ ξ τ2 υ H2) I2' r2 ⟨Ψ,d,τ2,N2.eG,Dx,hset,fun υ st=>⟨rfl,st⟩⟩) fun _ s4'⟨υ,H2',I3',hH,st⟩=>?_
     subst hH
     have ho:υ.drop η.length=σ:=(st.out B.small).trans L.out
     have C2:Ch X.K Ψ ξ H1 τ2 υ H2':=N2.ch.trans st.ch
     have again:∀{s7:Shared}{H7:Hp}{acc':List Mini.D}{vs':List V}{τ7:Ev},Inv (blk X scope cl (bT η X.N) fp s3 H3) ([]++qL fp s3'.heap) υ H7 s7->
       LI X c tg cond elt xs ys τ (List.replicate η.length .un++env) σ (List.replicate η.length none++σ) H3 D η.length (i+1) acc' vs' τ7 υ H7->
       ∃k,k<xs.length-i/\∃i acc vs Ψ ξ H1,k=xs.length-i/\Inv (blk X scope cl (bT η X.N) fp s3 H3) [] ξ H1 s7/\tn i s7.heap/\(∀b∈fp,H1 b=none)/\
        LI X c tg cond elt xs ys τ (List.replicate η.length .un++env) σ (List.replicate η.length none++σ) H3 D η.length i acc vs Ψ ξ H1:=fun{s7 H7 acc' vs' τ7}I7 L7=>by
      refine⟨xs.length- (i+1),by omega,i+1,acc',vs',τ7,υ,H7,rfl,I7.my,T.keep _ _ _ t2 fun b hb o e=>(I7.pin (b,o) (QVq _ (QVq _ (iZ hb e)))).1,fun b hb=>?_,L7⟩
      obtain⟨o,e,_⟩:=T.obj _ _ t2 b hb
      exact(I7.pin (b,o) (QVq _ (QVq _ (iZ hb e)))).2.1
     obtain⟨xc,dc,bc,τ3,e1,e2,e3,q1⟩:∃xc dc bc τ3,ev c cond τ2=.ok xc τ3/\xc.gK=some dc/\gP dc=some bc/\
       (if bc then(ev c elt τ3).ao fun d σ₃=>aO tg (ev c cond) (ev c elt) (xs.drop (i+1)) (acc++[d]) σ₃ else aO tg (ev c cond) (ev c elt) (xs.drop (i+1)) acc τ3)=.ok ys τ:=by
      cases r:ev c cond τ2 with
      |bad=>rw[r]at q0;cases q0
      |exc k τ3=>rw[r]at q0;cases q0
      |ok xc τ3=>
       rw[r]at q0
       cases xc with
       |ref k=>cases q0
       |val dc=>
        simp only[Out.cA,Out.ao]at q0
        cases q:gP dc with
        |none=>rw[q]at q0;cases q0
        |some bc=>rw[q]at q0;exact⟨_,dc,bc,τ3,rfl,rfl,q,q0⟩
       |new zs=>
        simp only[Out.cA,Out.ao]at q0
        cases q:gP zs.d with
        |none=>rw[q]at q0;cases q0
        |some bc=>rw[q]at q0;exact⟨_,zs.d,bc,τ3,rfl,rfl,q,q0⟩
     have after:∀(s5:Shared)(H5:Hp),Inv (blk X scope cl (bT η X.N) fp s3 H3) ([]++qL fp s3'.heap) υ H5 s5->Nx X.K τ2 υ H2' τ3 H5->
       (if bc=true then wpAny (model X.prog X.w) X.A (eval Δ (compEnvC scope cl s3.heap.objs.size X.env)) (fun x s₄=>
        wpAny (model X.prog X.w) X.A (call (.builtin "list.append") [.ref D,x]) (fun _ s₅=>∃m,m<xs.length-i/\∃i acc vs Ψ ξ H1,m=xs.length-i/\Inv (blk X scope cl (bT η X.N) fp s3 H3) [] ξ H1 s₅/\tn i s₅.heap/\(∀b∈fp,H1 b=none)/\
        LI X c tg cond elt xs ys τ (List.replicate η.length .un++env) σ (List.replicate η.length none++σ) H3 D η.length i acc vs Ψ ξ H1) (fun _ _=>False) s₄) (fun _ _=>False) s5
       else∃m,m<xs.length-i/\∃i acc vs Ψ ξ H1,m=xs.length-i/\Inv (blk X scope cl (bT η X.N) fp s3 H3) [] ξ H1 s5/\tn i s5.heap/\(∀b∈fp,H1 b=none)/\
        LI X c tg cond elt xs ys τ (List.replicate η.length .un++env) σ (List.replicate η.length none++σ) H3 D η.length i acc vs Ψ ξ H1):=fun s5 H5 I5 N5=>by
      have C5:=C2.trans N5.ch
      cases bc with
      |false=>
       rw[if_neg Qjz]at q1⊢
       exact again I5 (L.skip noD C5 hi ho q1)
      |true=>
       rw[if_pos rfl]at q1⊢
       obtain⟨xe,de,τ4,e4,e5,q2⟩:∃xe de τ4,ev c elt τ3=.ok xe τ4/\xe.gK=some de/\aO tg (ev c cond) (ev c elt) (xs.drop (i+1)) (acc++[de]) τ4=.ok ys τ:=by
        cases r:ev c elt τ3 with
        |bad=>rw[r]at q1;cases q1
        |exc k τ3=>rw[r]at q1;cases q1
        |ok xe τ4=>
         rw[r]at q1
         cases xe with
         |ref k=>cases q1
         |val de=>exact⟨_,de,τ4,rfl,rfl,q1⟩
         |new zs=>exact⟨_,zs.d,τ4,rfl,rfl,q1⟩
       refine bZ ((B.elts cl fp s3 H3 ok').d _ s5 υ H5 (fun v H6=>Nx X.K τ3 υ H5 τ4 H6/\bh X.K H6 de v) I5 ⟨τ3,N5.eG,?_⟩) fun u s6⟨v,H6,I6,r6,N6,D6⟩=>?_
       ·rw[e4]
        cases xe with
        |ref k=>cases e5
        |val d'=>cases e5;exact fun v H' N Dv=>⟨N,Dv⟩
        |new zs=>cases e5;exact fun v H' N Dv=>⟨N,Dv⟩
       ·have C6:=C5.trans N6.ch
        have cur:=C6.keep D _ L.cur (L.no noD)
        have lenv:vs.length<sizeLine:=by
         have h1:=L.den.length
         have h2:=L.acl
         have h3:=G.len
         omega
        refine bZ (uJ (X:=blk X scope cl (bT η X.N) fp s3 H3) _ s6 υ H6 (.ref D) [v] (.ref D) [u] (fun _ H7=>H7=upd H6 D (.lst (vs++[v]))) I6 rfl (.cons r6 .nil) ⟨D,vs,v,rfl,rfl,cur,lenv,rfl⟩) fun _ s7⟨_,H7,I7,_,e7⟩=>?_
        subst e7
        exact again I7 (L.push noD C6 hi ho q2 D6)
     rcases B.tests with ⟨ei,ec⟩|⟨ce,ei,hC⟩
     ·subst ei ec
      simp only[Vq,v_1,v_2,v_3,v_4,v_5,v_6,Z8,v_8,Za,Ge,Pr,aad,Jd,aac,aab,Vp,Pq,Pn,aaa,nG,Vo,Vn,Z9,Vm,lD]at e1
      cases e1
      cases e2
      cases e3
      exact QKz (after s4' H2' I3' (Nx.refl st.eG))
     ·subst ei
      refine wpAny_tests_one (bZ (hC cl fp s3 H3 ok' _ s4' υ H2' (fun k H'=>k=bc/\Nx X.K τ2 υ H2' τ3 H') I3' ⟨τ2,st.eG,by rw[e1];exact⟨dc,bc,e2,e3,fun H' N=>⟨rfl,N⟩⟩⟩) fun k s5⟨H5,I5,hk',N5⟩=>?_)
      subst hk'
      exact after s5 H5 I5 N5
   ·--the end
    have e:i=xs.length:=Nat.le_antisymm L.le (Nat.le_of_not_lt hi)
    have q0:=L.go
    rw[e,List.drop_length,aO]at q0
    cases q0
    refine bZ (T.done (blk X scope cl (bT η X.N) fp s3 H3) rfl rfl rfl hc i [] s1 ξ H1 _ I1 (fpk f1) t1 (G.stop H1 (N3.pers.trans L.pers) i (by omega))) fun r s2⟨hr,I2⟩=>?_
    subst hr
    obtain⟨m,hm,_⟩:=I2.loc
    have IX:Inv X γ σ H1 s2:=Inv.call' I3 I2.os I2.base I2.hok I2.bare fun b hb=>⟨(hf3 b hb).2.2.2.1,(hf3 b hb).2.1,(hf3 b hb).2.2.2.2.1,(hf3 b hb).2.2.2.2.2⟩
    refine hRR D s3.heap.objs.size s2 H1 vs m IX ⟨?_,fun k a z=>?_,N3.pers.trans L.pers,fun b ws z w=>?_,fun b z=>N3.dom b (L.dom b z),fun k ws z=>?_⟩ L.cur L.den hDn hm (I3.ue (QVz _) I2.free)
    ·have:=L.eG.drop (nl:=η.length)
     rw[L.out]at this
     exact this
    ·have z':aP (τ.drop η.length) (ξ.drop η.length) k a:=by rw[L.out];exact z
     obtain⟨j,ej,o⟩:=iB (L.sub _ a (qN.mp z'))
     have:k=j:=by omega
     subst this
     exact o
    ·refine L.keep b ws (N3.keep b ws z w) (fun q=>?_) fun k o=>?_
     ·subst q;rw[hDn]at z;cases z
     ·obtain⟨j,_,o'⟩:=iB o
      exact w j o'
    ·obtain⟨ws',q⟩:=L.bors (η.length+k) ws (by rw[QIz (by simp)];simpa using z)
     exact⟨ws',by rw[List.getElem?_drop];exact q⟩
  ·refine⟨0,[],[],_,_,H3,rfl,I4,T.keep _ _ _ t0 fun b _ o e=>hk3 b o (hk b o e),fun b hb=>(hf3 b hb).1,⟨QIq _,hgo,N3.eG.front _,by simp,QVz _,hD3,aq.fY,fun _ _ z=>z,bG.refl _,fun _ _ z _ _=>z,fun _ z=>z,fun _ ws z=>⟨ws,z⟩⟩⟩
 exact codeAny_compStart_list (loop _ rfl) (T.self _ 0 _ _ _ (T.keep _ _ _ t0 fun b _ o e=>hk3 b o (hk b o e)) (loop _ rfl))
section
noncomputable def eE:Cm->CmpOp
 |.eq=>.Eq
 |.ne=>.NotEq
 |.lt=>.Lt
 |.le=>.LtE
 |.gt=>.Gt
 |.isin=>.In
 |.notin=>.NotIn
 |.jL=>.Is
 |.notN=>.IsNot
def iK(X:Cx)(op:CmpOp)(f:D->D->Option Bool):Prop:=
 ∃r,fL X (compareOp op) r/\∀(H:Hp)(x y:D)(k:Bool)(v u:V)(Q:VK),bh X.K H x v->cV X.K H y u->f x y=some k->Q (.bl k) H->r v u H Q
theorem cV.int{H:Hp}{v:V}(h:cV K H (.int i) v):v=.int i:=by
 rcases h with h|⟨o,a,q,_⟩
 ·exact h
 ·cases o<;>cases q
def JS{g:Int->Int->Bool}(ho:fL X (compareOp op) (OJ fun i j=>.bl (g i j)))(hf:∀x y k,f x y=some k->∃i j,x=.int i/\y=.int j/\k=g i j):iK X op f:=
 ⟨_,ho,fun H x y k v u Q Dx Dy e q=>by
  obtain⟨i,j,rfl,rfl,rfl⟩:=hf x y k e
  exact⟨i,j,Dx,Dy.int,q⟩⟩
def aa1(hu:X.A.units+60<cLine):iK X .Eq (aH .eq):=⟨_,WT hu,fun H x y k v u Q Dx Dy e q=>by
 unfold aH at e;dsimp only at e
 split at e
 ·rename_i h;cases e;exact⟨x,y,.inl Dx,Dy,h,q⟩
 ·cases e⟩
def aaW(hu:X.A.units+60<cLine):iK X .NotEq (aH .ne):=⟨_,WF hu,fun H x y k v u Q Dx Dy e q=>by
 unfold aH at e;dsimp only at e
 split at e
 ·rename_i h;cases e;exact⟨x,y,.inl Dx,Dy,h,q⟩
 ·cases e⟩
def aaY:iK X .LtE (aH .le):=JS abt fun x y k e=>by
 cases x<;>cases y<;>(unfold aH at e;simp at e)
 exact⟨_,_,rfl,rfl,e.symm⟩
def cV.PX{H:Hp}{v:V}(h:cV K H (.tup xs) v):Ol K H xs v:=by
 rcases h with h|⟨o,a,q,_⟩
 ·obtain⟨a,vs,rfl,hq,l⟩:=b7 h
  exact⟨a,vs,rfl,.inr hq,l⟩
 ·cases o<;>cases q
def cV.JF{H:Hp}{v:V}(h:cV K H (.lst xs) v):Ol K H xs v:=by
 rcases h with h|⟨o,a,q,rfl,u,ha,hq⟩
 ·obtain⟨a,vs,rfl,hq,l⟩:=cT h
  exact⟨a,vs,rfl,.inl hq.sq,l⟩
 ·cases o<;>cases q
  obtain⟨vs,rfl,l⟩:=hq
  exact⟨a,vs,rfl,.inl (.inl (.inl ha)),l⟩
theorem cV.str{H:Hp}{v:V}(h:cV K H (.str x) v):v=.str x:=by
 rcases h with h|⟨o,a,q,_⟩
 ·exact h
 ·cases o<;>cases q
def Mg(x y:Str)(h:x.length=1):(!(Builtin.Str.occurrences y x 0 y.length 1).isEmpty)=aU (.str x) (signs y):=by
 obtain⟨cps⟩:=x
 obtain⟨l⟩:=cps
 have hl:=h
 match l,hl with
 |[k],_=>
  have:=PySem.StrLaws.found_one y k
  rw[this]
  unfold signs
  generalize y.cps.toList=cs
  induction cs with
  |nil=>rfl
  |cons z zs ih=>
   show decide _=(bK _ _||aU _ _)
   rw[<-ih]
   have e:bK (.str ⟨#[z]⟩) (.str ⟨#[k]⟩)=decide (k=z):=by
    simp only[bK]
    by_cases q:k=z
    ·subst q;simp
    ·have q':¬z=k:=fun e=>q e.symm
     simp[q,q']
   rw[e]
   by_cases q:k=z
   ·simp[q]
   ·simp[q]
def jZ{kvs:List (Key×V)}(k:Key):(jA kvs k).isSome=aU (dC k) (kvs.map fun p=>dC p.1):=by
 induction kvs with
 |nil=>rfl
 |cons p r ih=>
  obtain⟨k',v⟩:=p
  show _=(bK _ _||aU _ _)
  rw[<-ih]
  have e:bK (dC k') (dC k)=decide (k'=k):=by
   cases k'<;>cases k<;>simp[dC,bK,Bool.beq_eq_decide_eq]
  rw[e]
  by_cases q:k'=k
  ·subst q;simp[mj]
  ·simp[q,mq]
def fU(h:keyOk x=true):∃k:Key,x=dC k:=by
 cases x<;>simp[keyOk]at h
 ·exact⟨.inl _,rfl⟩
 ·exact⟨.inr _,rfl⟩
def kI{H:Hp}{v:V}(h:bh K H (dC k) v):v=kV k:=by
 cases k<;>exact h
noncomputable def J4(neg:Bool):R2:=fun x y H Q=>∃a k kvs,y=.ref a/\x=kV k/\Rd H a (.dK kvs)/\Q (.bl (if neg then !(jA kvs k).isSome else(jA kvs k).isSome)) H
def KD(hu:X.A.units+1<cLine):fL X (compareOp .In) (J4 false):=by
 intro γ s σ H x y v u Q I rx ry h
 obtain⟨a,k,kvs,rfl,rfl,hd,q⟩:=h
 cases ry
 exact afZ hu I ⟨kvs,k,hd,rfl,rfl⟩ rx fun s3 I3=>⟨.bl _,H,I3,rfl,q⟩
def yI(hu:X.A.units+1<cLine):fL X (compareOp .NotIn) (J4 true):=by
 intro γ s σ H x y v u Q I rx ry h
 obtain⟨a,k,kvs,rfl,rfl,hd,q⟩:=h
 cases ry
 exact R6 hu I ⟨kvs,k,hd,rfl,rfl⟩ rx fun s3 I3=>⟨.bl _,H,I3,rfl,q⟩
def jd{H:Hp}{v:V}(h:cV K H (.cJ ks ds) v):∃a kvs,v=.ref a/\Rd H a (.dK kvs)/\ks=kvs.map (fun p=>dC p.1)/\aq K H ds (kvs.map (·.2)):=by
 rcases h with h|⟨o,a,q,rfl,u,ha,hq⟩
 ·unfold bh at h;obtain⟨a,o,kvs,e,r,k⟩:=h;exact⟨a,kvs,e,.inr ⟨o,r⟩,k⟩
 ·cases o<;>cases q
  obtain⟨kvs,rfl,k,l⟩:=hq
  exact⟨a,kvs,rfl,.inl ha,k,l⟩
noncomputable def aa9(K:QQq)(neg:Bool):R2:=fun x y H Q=>∃a d k xs,x=.ref a/\y=.ref d/\Rd H d (.dS xs)/\(∀x∈xs,cI K H x.1 x.2.1)/\cI K H k a/\Q (.bl (if neg then !(wz k xs).isSome else(wz k xs).isSome)) H
def WP(hu:X.A.units+9<cLine):fL X (compareOp .In) (aa9 X.K false):=by
 intro γ s σ H x y v u Q I rx ry h
 obtain⟨a,d,k,xs,rfl,rfl,hd,hk,ha,q⟩:=h
 cases rx
 cases ry
 exact aea hu I hd hk ha fun s3 I3=>⟨.bl _,H,I3,rfl,q⟩
def G7(hu:X.A.units+9<cLine):fL X (compareOp .NotIn) (aa9 X.K true):=by
 intro γ s σ H x y v u Q I rx ry h
 obtain⟨a,d,k,xs,rfl,rfl,hd,hk,ha,q⟩:=h
 cases rx
 cases ry
 exact Qc hu I hd hk ha fun s3 I3=>⟨.bl _,H,I3,rfl,q⟩
def wY{K:QQq}{H:Hp}{ks ds:List D}{v:V}(h:cV K H (.gw ks ds) v):∃a xs,v=.ref a/\Rd H a (.dS xs)/\gq K H ks ds xs:=by
 rcases h with h|⟨o,a,q,rfl,u,ha,hq⟩
 ·unfold bh at h;obtain⟨a,o,xs,e,r,k⟩:=h;exact⟨a,xs,e,.inr ⟨o,r⟩,k⟩
 ·cases o<;>cases q
  obtain⟨xs,rfl,k⟩:=hq
  exact⟨a,xs,rfl,.inl ha,k⟩
noncomputable def abd(K:QQq)(b:Bool):R2:=fun x y H Q=>∃a d k,x=.ref a/\y=.ref d/\Rd H d (.dK [])/\cI K H k a/\Q (.bl b) H
def WR(hu:X.A.units+9<cLine):fL X (compareOp .In) (abd X.K false):=by
 intro γ s σ H x y v u Q I rx ry h
 obtain⟨a,d,k,rfl,rfl,hd,ha,q⟩:=h
 cases rx
 cases ry
 exact aaP hu I hd ha fun s3 I3=>⟨.bl _,H,I3,rfl,q⟩
def QR(hu:X.A.units+9<cLine):fL X (compareOp .NotIn) (abd X.K true):=by
 intro γ s σ H x y v u Q I rx ry h
 obtain⟨a,d,k,rfl,rfl,hd,ha,q⟩:=h
 cases rx
 cases ry
 exact JL hu I hd ha fun s3 I3=>⟨.bl _,H,I3,rfl,q⟩
def aaZ(hu:X.A.units+60<cLine):iK X .In (aH .isin):=
 ⟨_,(WQ hu).or ((KD (by omega)).or (G9.or ((WP (by omega)).or (WR (by omega))))),fun H x y k v u Q Dx Dy e q=>by
  cases y with
  |tup xs=>
   unfold aH at e;dsimp only at e
   split at e
   ·rename_i h;cases e;exact .inl ⟨x,xs,Dx,Dy.PX,h,q⟩
   ·cases e
  |lst xs=>
   unfold aH at e;dsimp only at e
   split at e
   ·rename_i h;cases e;exact .inl ⟨x,xs,Dx,Dy.JF,h,q⟩
   ·cases e
  |cJ ks vs=>
   unfold aH at e;dsimp only at e
   split at e
   ·rename_i h
    cases e
    obtain⟨k,rfl⟩:=fU h
    obtain⟨a,kvs,rfl,ha,rfl,l⟩:=jd Dy
    exact .inr (.inl ⟨a,k,kvs,rfl,kI Dx,ha,by simpa[jZ]using q⟩)
   ·split at e
    ·rename_i h
     rw[QUq,List.isEmpty_iff]at h
     cases e
     obtain⟨a,rfl,ka⟩:=iT h.1 Dx
     obtain⟨d,kvs,rfl,ha,hk,l⟩:=jd Dy
     rw[h.2]at hk
     cases kvs with
     |nil=>exact .inr (.inr (.inr (.inr ⟨a,d,_,rfl,rfl,ha,ka,q⟩)))
     |cons=>cases hk
    ·cases e
  |gw ks vs=>
   unfold aH at e;dsimp only at e
   split at e
   ·rename_i h
    cases e
    obtain⟨a,rfl,ka⟩:=iT h Dx
    obtain⟨d,xs,rfl,hd,l⟩:=wY Dy
    exact .inr (.inr (.inr (.inl ⟨a,d,kC x,xs,rfl,rfl,hd,l.yW,ka,by rw[l.inD h]at q;simpa using q⟩)))
   ·cases e
  |str y=>
   cases x with
   |str x=>
    unfold aH at e;dsimp only at e
    split at e
    ·rename_i h;cases e;exact .inr (.inr (.inl ⟨x,y,Dx,Dy.str,by rw[Mg x y h];exact q⟩))
    ·cases e
   |_=>unfold aH at e;simp at e
  |_=>unfold aH at e;simp at e⟩
def JT(hu:X.A.units+60<cLine):iK X .NotIn (aH .notin):=
 ⟨_,(G8 hu).or ((yI (by omega)).or ((G7 (by omega)).or (QR (by omega)))),fun H x y k v u Q Dx Dy e q=>by
  cases y with
  |tup xs=>
   unfold aH at e;dsimp only at e
   split at e
   ·rename_i h;cases e;exact .inl ⟨x,xs,Dx,Dy.PX,h,q⟩
   ·cases e
  |lst xs=>
   unfold aH at e;dsimp only at e
   split at e
   ·rename_i h;cases e;exact .inl ⟨x,xs,Dx,Dy.JF,h,q⟩
   ·cases e
  |cJ ks vs=>
   unfold aH at e;dsimp only at e
   split at e
   ·rename_i h
    cases e
    obtain⟨k,rfl⟩:=fU h
    obtain⟨a,kvs,rfl,ha,rfl,l⟩:=jd Dy
    exact .inr (.inl ⟨a,k,kvs,rfl,kI Dx,ha,by simpa[jZ]using q⟩)
   ·split at e
    ·rename_i h
     rw[QUq,List.isEmpty_iff]at h
     cases e
     obtain⟨a,rfl,ka⟩:=iT h.1 Dx
     obtain⟨d,kvs,rfl,ha,hk,l⟩:=jd Dy
     rw[h.2]at hk
     cases kvs with
     |nil=>exact .inr (.inr (.inr ⟨a,d,_,rfl,rfl,ha,ka,q⟩))
     |cons=>cases hk
    ·cases e
  |gw ks vs=>
   unfold aH at e;dsimp only at e
   split at e
   ·rename_i h
    cases e
    obtain⟨a,rfl,ka⟩:=iT h Dx
    obtain⟨d,xs,rfl,hd,l⟩:=wY Dy
    exact .inr (.inr (.inl ⟨a,d,kC x,xs,rfl,rfl,hd,l.yW,ka,by rw[l.inD h]at q;simpa using q⟩))
   ·cases e
  |_=>unfold aH at e;simp at e⟩
end
section
open PySem.SeqAt
open PySem.AutoSeq1 (wpAny_loadPart')
open PySem.MeetsSeq PySem.MeetsSeq2 PySem.MeetsSeq3
inductive BoolsAre:List Value->List Bool->Prop
 |nil:BoolsAre [] []
 |cons (b:Bool) {vs:List Value} {bs:List Bool}:BoolsAre vs bs->BoolsAre (.bool b::vs) (b::bs)
theorem BoolsAre.length{bs:List Bool}(h:BoolsAre vs bs):vs.length=bs.length:=by
 induction h with
 |nil=>rfl
 |cons b _ ih=>simp[ih]
def uM x y xs ys:kY (x::xs) (y::ys)=if x=y then kY xs ys else(!x&&y):=rfl
def Eg:kY [] []=false:=rfl
def Eh y ys:kY [] (y::ys)=true:=rfl
def Ri x xs:kY (x::xs) []=false:=rfl
def uD(A:Around)(s:Shared)(a c:Bool)(prog:Program)(w:World)(E:QZq)(Q:QZq)(h:Q (.bool (!a&&c)) s):
  wpAny (model prog w) A (richCompare .Lt (.bool a) (.bool c)) Q E s:=
 (PyProof.Rows.lt_bool (by cases a<;>cases c<;>exact h))
def qg l b items items2 n n2 dd dd2 sl sl2 ns ms(hi:BoolsAre items.toList ns)(hj:BoolsAre items2.toList ms):
  Meets (Builtin.«tuple.__lt__» ⟨[.ref l,.ref b],[]⟩)
   (fun _ R s=>s.heap.get? l=some {cls:=.type "tuple",dict:=dd,data:=.seq items n,slots:=sl}/\s.heap.get? b=some {cls:=.type "tuple",dict:=dd2,data:=.seq items2 n2,slots:=sl2}/\
    R (.ok (.ret (.bool (kY ns ms)))) s):=
 .of_wp fun prog w A R s h=>by
  obtain⟨hp,g,d,tk,os⟩:=s;obtain⟨hl,hb,h⟩:=h
  have f2:=AutoSeq1.sub_tuple_tuple
  have z1:items.size=ns.length:=by rw[<-hi.length];simp
  have z2:items2.size=ms.length:=by rw[<-hj.length];simp
  wp_walk using wpAny_loadPart' hl,wpAny_loadPart' hb,wpAny_forIn_list _ (fun rest b s'=>b.1=none/\s'=⟨hp,g,d,tk,os⟩/\∃(vs ws:List Value)(ns' ms':List Bool),rest=vs.zip ws/\
   BoolsAre vs ns'/\BoolsAre ws ms'/\ns'.length+items2.size=ms'.length+items.size/\R (.ok (.ret (.bool (kY ns' ms')))) ⟨hp,g,d,tk,os⟩) _
  case turn=>
   rintro ⟨y,x⟩ rest b s' ⟨hb',rfl,vs,ws,ns',ms',hz,hvi,hwi,hlen,hR⟩
   cases hvi with
   |nil=>rw[List.zip_nil_left]at hz;cases hz
   |cons a hvi'=>
    cases hwi with
    |nil=>rw[List.zip_nil_right]at hz;cases hz
    |cons c hwi'=>
     rw[List.zip_cons_cons]at hz
     injection hz with hyx hrest
     injection hyx with hy hx
     subst hy hx
     rw[uM]at hR
     simp only[QBq]at hlen
     refine QKq ((SeqAt.EqAt.bool_bool (A:=A.in1) (s:=⟨hp,g,d,tk,os⟩) a c) prog w _ _ ?_)
     by_cases hac:a=c
     ·subst hac
      rw[if_pos rfl]at hR
      rw[beq_self_eq_true]
      wp_walk
      exact⟨rfl,rfl,_,_,_,_,hrest,hvi',hwi',by omega,hR⟩
     ·rw[if_neg hac]at hR
      wp_walk using (uD A.in1 ⟨hp,g,d,tk,os⟩ a c prog w)
      exact⟨_,rfl,by simpa using hR⟩
  case fin=>
   rintro ⟨b1,b2⟩ s' ⟨hb',rfl,vs,ws,ns',ms',hz,hvi,hwi,hlen,hR⟩
   simp only at hb'
   subst hb'
   have hv:kY ns' ms'=decide (items.size<items2.size):=by
    cases hvi with
    |nil=>
     cases hwi with
     |nil=>
      rw[Eg]
      exact(QEz (by omega)).symm
     |cons c hw=>
      simp only[List.length_nil,QBq]at hlen
      rw[Eh]
      exact(QFq (by omega)).symm
    |cons a hv=>
     cases hwi with
     |nil=>
      simp only[List.length_nil,QBq]at hlen
      rw[Ri]
      exact(QEz (by omega)).symm
     |cons c hw=>
      rw[List.zip_cons_cons]at hz
      cases hz
   rw[hv]at hR
   wp_walk
   exact⟨_,rfl,by simpa[Builtin.Tuple.tupleCompareSizes]using hR⟩
  case h=>
   exact⟨rfl,rfl,items.toList,items2.toList,ns,ms,rfl,hi,hj,by omega,h⟩
end
theorem fV{K:QQq}{H:Hp}:∀{ds:List D}{vs:List V}{us:List Value}{bs:List Bool},bools ds=some bs->aq K H ds vs->Vals vs us->BoolsAre us bs
 |[],vs,us,bs,e,l,r=>by
  cases e
  rw[aq.bC.mp l]at r
  cases r
  exact .nil
 |d::ds,vs,us,bs,e,l,r=>by
  obtain⟨v,w,rfl,h1,h2⟩:=aq.aG.mp l
  cases d with
  |bl b=>
   simp only[bools,QJz]at e
   obtain⟨bs',e1,rfl⟩:=e
   cases h1
   cases r with
   |cons r1 r2=>cases r1;exact .cons b (fV e1 h2 r2)
  |_=>cases e
section
variable{m m1 m2 m3:E}
noncomputable def aeR(K:QQq):R2:=fun x y H Q=>∃xs ys bs cs,bh K H (.tup xs) x/\bh K H (.tup ys) y/\bools xs=some bs/\bools ys=some cs/\Q (.bl (kY bs cs)) H
def WM(hu:X.A.units<cLine):fL X (compareOp .Lt) (aeR X.K):=by
 intro γ s σ H x y v u Q I rx ry h
 obtain⟨xs,ys,bs,cs,Dx,Dy,e1,e2,q⟩:=h
 obtain⟨a,vs,rfl,ha,la⟩:=b7 Dx
 obtain⟨b,ws,rfl,hb,lb⟩:=b7 Dy
 cases rx
 cases ry
 obtain⟨its,r1,p1,_⟩:=I.tuple ha
 obtain⟨its2,r2,p2,_⟩:=I.tuple hb
 obtain⟨⟨cls,dd,data,sl⟩,ho,hc,n,hd⟩:=id p1
 obtain⟨⟨cls2,dd2,data2,sl2⟩,ho2,hc2,n2,hd2⟩:=id p2
 subst hc hd hc2 hd2
 exact richCompare_meets_room (op:=.Lt) ⟨_,ho,rfl⟩ ⟨_,ho2,rfl⟩ PySem.F.slot_tuple_lt PySem.F.entry_tuple_lt (PySem.F.args_tuple_lt_2 _ _)
  (qg a b its.toArray its2.toArray n n2 dd dd2 sl sl2 bs cs (by simpa using fV e1 la r1) (by simpa using fV e2 lb r2))
  ⟨ho,ho2,show Value.bool _≠Value.notImplemented/\EP X γ σ Q _ s from⟨(fun x=>nomatch x),⟨.bl _,H,I,rfl,q⟩⟩⟩ hu
theorem cV.tup{K:QQq}{H:Hp}{xs:List D}{v:V}(h:cV K H (.tup xs) v):bh K H (.tup xs) v:=by
 rcases h with h|⟨o,a,q,_⟩
 ·exact h
 ·cases o<;>cases q
def aaX(hu:X.A.units+60<cLine):iK X .Lt (aH .lt):=
 ⟨_,abr.or (WM (by omega)),fun H x y k v u Q Dx Dy e q=>by
  cases x with
  |int i=>
   cases y with
   |int j=>cases e;exact .inl ⟨i,j,Dx,Dy.int,q⟩
   |_=>cases e
  |tup xs=>
   cases y with
   |tup ys=>
    unfold aH at e;dsimp only[ltD]at e
    cases e1:bools xs with
    |none=>rw[e1]at e;cases e
    |some bs=>
     cases e2:bools ys with
     |none=>rw[e1,e2]at e;cases e
     |some cs=>
      rw[e1,e2]at e
      cases e
      exact .inr ⟨xs,ys,bs,cs,Dx,Dy.tup,e1,e2,q⟩
   |_=>cases e
  |_=>cases y<;>cases e⟩
def aa0:iK X .Gt (aH .gt):=JS abu fun x y k e=>by
 cases x<;>cases y<;>(unfold aH at e;simp at e)
 exact⟨_,_,rfl,rfl,e.symm⟩
def Fq{H:Hp}{v:V}(h:bh K H d v):decide (v=.non)=lA d:=by
 cases d<;>unfold bh at h<;>first
  |(obtain⟨a,_,rfl,_⟩:=h;rfl)
  |(obtain⟨a,_,_,rfl,_⟩:=h;rfl)
  |(subst h;rfl)
def V7:iK X .Is (aH .jL):=⟨_,WN,fun H x y k v u Q Dx Dy e q=>by
 cases y<;>(unfold aH at e;dsimp only at e;cases e)
 rcases Dy with h|⟨o,a,z,_⟩
 ·exact⟨h,by rw[Fq Dx];exact q⟩
 ·cases o<;>cases z⟩
def Qo:iK X .IsNot (aH .notN):=⟨_,QQ,fun H x y k v u Q Dx Dy e q=>by
 cases y<;>(unfold aH at e;dsimp only at e;cases e)
 rcases Dy with h|⟨o,a,z,_⟩
 ·exact⟨h,by rw[Fq Dx];exact q⟩
 ·cases o<;>cases z⟩
def nP(hu:X.A.units+60<cLine)o:iK X (eE o) (aH o):=by
 cases o with
 |eq=>exact aa1 hu
 |ne=>exact aaW hu
 |lt=>exact aaX hu
 |le=>exact aaY
 |gt=>exact aa0
 |isin=>exact aaZ hu
 |notin=>exact JT hu
 |jL=>exact V7
 |notN=>exact Qo
def cG{env:Ev}{H:Hp}{d:D}(S:Sat K env σ H)(h:aR k env=some d):∃v,σ[k]? =some (some v)/\cV K H d v:=by
 unfold aR at h
 cases e:env[k]? with
 |none=>rw[e]at h;cases h
 |some s=>
  rw[e]at h
  have q:=S.sl k s e
  cases s with
  |un=>cases h
  |val d'=>cases h;obtain⟨v,e1,e2⟩:=q;exact⟨v,bN e1,.inl e2⟩
  |own xs=>cases h;obtain⟨a,e1,e2⟩:=q;exact⟨.ref a,bN e1,.inr ⟨xs,a,rfl,rfl,e2⟩⟩
  |bor xs=>cases h;obtain⟨a,e1,e2⟩:=q;exact⟨.ref a,bN e1,.inr ⟨xs,a,rfl,rfl,e2⟩⟩
structure gr(X:Cx)(i:Nat)(x:Str):Prop where
 at_:X.N[i]? =some x
 vis:YF X.env.scope x
 nd:(x==("__debug__":Str))=false
 nc:(x==("__classdict__":Str))=false
def gr.pe{x:Str}(h:gr X i x):PE X (.Name x pos) (Jr i):=Ko h.at_ h.vis h.nd h.nc
def gr.ge{x:Str}(h:gr X i x):GE X W c (.var i) (.Name x pos):=X4 h.at_ h.vis h.nd h.nc
theorem Fy(R:iK X (eE o) (aH o))(hb:GE X W c m2 b)(hv:∀k,m2.aB=some k->∃x p,b=.Name x p/\gr X k x):
  ∃r tb,fL X (compareOp (eE o)) r/\PE X b tb/\∀env σ H Q,tM X.K W env (ev c (.cmp o m1 m2) env) σ H Q->Ze r (aD X W c m1) tb σ H Q:=by
 obtain⟨r,ho,rule⟩:=R
 cases q:m2.aB with
 |some k=>
  obtain⟨x,p,rfl,nm⟩:=hv k q
  refine⟨r,Jr k,ho,nm.pe,fun env σ H Q h=>?_⟩
  simp only[Z8,q]at h
  refine⟨env,aV h fun d δ v H1 N1 D1 h1=>?_⟩
  obtain⟨z,ez,S,q3⟩:=cC h1
  cases e1:aR k δ with
  |none=>rw[e1]at ez;cases ez
  |some d2=>
   rw[e1]at ez
   simp only[Option.bind]at ez
   obtain⟨u,eu,D2⟩:=cG S e1
   cases e2:aH o d d2 with
   |none=>rw[e2]at ez;cases ez
   |some k2=>
    rw[e2]at ez
    cases ez
    exact⟨u,eu,rule H1 d d2 k2 v u Q D1 D2 e2 (q3 _ H1 (Nx.refl S) rfl)⟩
 |none=>
  refine⟨r,aD X W c m2,ho,hb.d,fun env σ H Q h=>?_⟩
  simp only[Z8,q]at h
  refine⟨env,aV h fun d δ v H1 N1 D1 h1=>⟨δ,aV h1 fun d2 ε u H2 N2 D2 h2=>?_⟩⟩
  obtain⟨z,ez,S,q3⟩:=cC h2
  cases e2:aH o d d2 with
  |none=>rw[e2]at ez;cases ez
  |some k2=>
   rw[e2]at ez
   cases ez
   exact rule H2 d d2 k2 v u Q (D1.mono N2.pers) (.inl D2) e2 (q3 _ H2 (Nx.refl S) rfl)
def Yl(R:iK X (eE o) (aH o))(ha:GE X W c m1 a)(hb:GE X W c m2 b)(hv:∀k,m2.aB=some k->∃x p,b=.Name x p/\gr X k x)
  (hm:behindInMarks (eE o) b=false):GE X W c (.cmp o m1 m2) (.Compare a [eE o] [b] pos):=by
 intro env
 obtain⟨r,tb,ho,pb,imp⟩:=Fy R hb hv
 exact PE.imp (QH ho ha.d pb hm) fun σ H Q h=>imp env σ H Q h
theorem xV{env:Ev}{σ:St}{Q:Bool->Hp->Prop}(h:tT K W env r σ H Q)(hb:∀x env',r=.ok x env'->∃b,x=.val (.bl b)):
  tM K W env r σ H (fun v H'=>∃k,v=.bl k/\Q k H'):=by
 obtain⟨S,h⟩:=h
 refine⟨S,?_⟩
 cases r with
 |bad=>exact h
 |exc c δ=>exact h
 |ok x δ=>
  obtain⟨b,rfl⟩:=hb x δ rfl
  obtain⟨d,k,e1,e2,q⟩:=h
  cases e1
  cases e2
  exact fun v H' N z=>⟨b,z,q H' N⟩
def j7{o:Option Bool}(h:lift env (o.map fun q=>Rv.val (.bl q))=.ok x env'):∃b,x=.val (.bl b):=by
 cases o with
 |none=>cases h
 |some b=>cases h;exact⟨b,rfl⟩
def zp{env env':Ev}(h:ev c (.cmp o m1 m2) env=.ok x env'):∃b,x=.val (.bl b):=by
 simp only[Z8]at h
 cases r:ev c m1 env with
 |bad=>rw[r]at h;cases h
 |exc k δ=>rw[r]at h;cases h
 |ok x1 δ=>
  rw[r]at h
  have go:∀d,(match m2.aB with
    |some k=>lift δ ((aR k δ).bind fun d'=>(aH o d d').map fun q=>Rv.val (.bl q))
    |none=>(ev c m2 δ).ao fun y σ=>lift σ ((aH o d y).map fun q=>Rv.val (.bl q)))=.ok x env'->∃b,x=.val _:=fun d h=>by
   cases q:m2.aB with
   |some k=>
    simp only[q]at h
    cases e:aR k δ with
    |none=>simp only[e,Option.bind]at h;cases h
    |some d'=>simp only[e,Option.bind]at h;exact j7 h
   |none=>
    simp only[q]at h
    cases r2:ev c m2 δ with
    |bad=>rw[r2]at h;cases h
    |exc k ε=>rw[r2]at h;cases h
    |ok x2 ε=>
     rw[r2]at h
     cases x2 with
     |val d2=>exact j7 h
     |new xs=>exact j7 h
     |ref i=>cases h
  cases x1 with
  |val d=>exact go d h
  |new xs=>exact go xs.d h
  |ref i=>cases h
def XF(R:iK X (eE o) (aH o))(ha:GE X W c m1 a)(hb:GE X W c m2 b)(hv:∀k,m2.aB=some k->∃x p,b=.Name x p/\gr X k x)
  (hm:behindInMarks (eE o) b=false):GT X W c (.cmp o m1 m2) (.Compare a [eE o] [b] pos):=by
 obtain⟨r,tb,ho,pb,imp⟩:=Fy R hb hv
 exact PT.imp (Qu ho ha.d pb hm) fun σ H Q⟨env,h⟩=>imp env σ H _ (xV h fun x env' e=>zp e)
theorem vm(R1:iK X (eE π) (aH π))(R2:iK X (eE ρ) (aH ρ)):
  ∃r r',fL X (compareOp (eE π)) r/\fL X (compareOp (eE ρ)) r'/\∀env σ H Q,tM X.K W env (ev c (.chain π ρ m1 m2 m3) env) σ H Q->z9 r r' (aD X W c m1) (aD X W c m2) (aD X W c m3) σ H Q:=by
 obtain⟨r,ho,rule⟩:=R1
 obtain⟨r',ho',rule'⟩:=R2
 refine⟨r,r',ho,ho',fun env σ H Q h=>?_⟩
 refine⟨env,aV h fun d δ v H1 N1 D1 h1=>⟨δ,aV h1 fun d2 ε u H2 N2 D2 h2=>?_⟩⟩
 cases e2:aH π d d2 with
 |none=>rw[e2]at h2;exact h2.2.elim
 |some k=>
  rw[e2]at h2
  simp only[lift,Out.bind]at h2
  refine rule H2 d d2 k v u _ (D1.mono N2.pers) (.inl D2) e2 ⟨k,rfl,?_⟩
  cases k with
  |false=>
   exact dR h2 rfl
  |true=>
   refine⟨ε,aV h2 fun d3 env3 w H3 N3 D3 h3=>?_⟩
   obtain⟨z,ez,S,q3⟩:=cC h3
   cases e3:aH ρ d2 d3 with
   |none=>rw[e3]at ez;cases ez
   |some k2=>
    rw[e3]at ez
    cases ez
    exact rule' H3 d2 d3 k2 u w Q (D2.mono N3.pers) (.inl D3) e3 (q3 _ H3 (Nx.refl S) rfl)
def uf{env env':Ev}(h:ev c (.chain π ρ m1 m2 m3) env=.ok x env'):∃b,x=.val (.bl b):=by
 have val:∀{r:Out Rv}{f:D->Ev->Out Rv},r.ao f=.ok x env'->∃d σ,f d σ=.ok x env':=fun{r f}q=>by
  cases r with
  |bad=>cases q
  |exc k e1=>cases q
  |ok y e1=>
   cases y with
   |val d=>exact⟨d,e1,q⟩
   |new xs=>exact⟨_,e1,q⟩
   |ref i=>cases q
 obtain⟨d1,ξ,h⟩:=val h
 obtain⟨d2,υ,h⟩:=val h
 cases e:aH π d1 d2 with
 |none=>rw[e]at h;cases h
 |some k=>
  rw[e]at h
  simp only[lift,Out.bind]at h
  cases k with
  |false=>cases h;exact⟨false,rfl⟩
  |true=>
   obtain⟨d3,σ3,h⟩:=val h
   exact j7 h
def Mx{d:Expr}(R1:iK X (eE π) (aH π))(R2:iK X (eE ρ) (aH ρ))(ha:GE X W c m1 a)(hb:GE X W c m2 b)(hd:GE X W c m3 d)(hm:lastMarks [eE π,eE ρ] [b,d]=false):
  GE X W c (.chain π ρ m1 m2 m3) (.Compare a [eE π,eE ρ] [b,d] pos):=by
 obtain⟨r,r',ho,ho',imp⟩:=vm R1 R2
 exact fun env=>PE.imp (Kz ho ho' ha.d hb.d hd.d hm) fun σ H Q h=>imp env σ H Q h
def Mm{d:Expr}(R1:iK X (eE π) (aH π))(R2:iK X (eE ρ) (aH ρ))(ha:GE X W c m1 a)(hb:GE X W c m2 b)(hd:GE X W c m3 d)(hm:lastMarks [eE π,eE ρ] [b,d]=false):
  GT X W c (.chain π ρ m1 m2 m3) (.Compare a [eE π,eE ρ] [b,d] pos):=by
 obtain⟨r,r',ho,ho',imp⟩:=vm R1 R2
 exact PT.imp (J6 ho ho' ha.d hb.d hd.d hm) fun σ H Q⟨env,h⟩=>imp env σ H _ (xV h fun x env' e=>uf e)
def aat(K:QQq)(ta:TE):TE:=fun σ H Q=>ta σ H fun x H1=>∃k,Oi K x H1 k/\Q (.bl (!k)) H1
def QD(ha:PE X a ta):PE X (.UnaryOp .Not a pos) (aat X.K ta):=by
 intro γ s σ H Q I h
 exact PyProof.Rows.UnaryOp_ (bZ (ha γ s σ H _ I h) fun v s1⟨x,H1,I1,r1,k,t,q1⟩=>PyProof.Rows.not_of (bZ (Jk γ s1 σ H1 x v _ I1 r1 ⟨k,t,q1⟩) fun b s2⟨H2,I2,q2⟩=>⟨.bl (!b),H2,I2,rfl,q2⟩))
def Yb(ha:GE X W c m1 a):GE X W c (.not m1) (.UnaryOp .Not a pos):=fun env=>
 PE.imp (QD ha.d) fun σ H Q q=>⟨env,yc (xZ (by simpa only[Pr]using q) fun k δ H1 N q1=>dR (d:=.bl (!k)) q1 rfl)⟩
def Ml(ha:GT X W c m1 a):GT X W c (.not m1) (.UnaryOp .Not a pos):=by
 refine PT.imp (Wh ha) fun σ H Q⟨env,q⟩=>⟨env,q.1,?_⟩
 have q2:=q.2
 simp only[Pr]at q2
 cases r:ev c m1 env with
 |bad=>rw[r]at q2;exact q2
 |exc k δ=>rw[r]at q2;exact q2
 |ok x δ=>
  rw[r]at q2
  have go:∀d,x.gK=some d->(match (match gP d with|some b=>Out.ok (Rv.val (.bl (!b))) δ|none=>.bad)with
    |.ok x env'=>∃d b,x.gK=some d/\gP d=some b/\∀H',Nx X.K env σ H env' H'->Q b H'
    |.exc c env'=>∀H',Nx X.K env σ H env' H'->W c env' σ H'
    |.bad=>False)->∃d b,x.gK=some d/\gP d=some b/\∀H',Nx X.K env σ H δ H'->Q (!b) H':=fun d ed z=>by
   cases t:gP d with
   |none=>rw[t]at z;exact z.elim
   |some b=>
    rw[t]at z
    obtain⟨d',b',e1,e2,z⟩:=z
    cases e1
    cases e2
    exact⟨d,b,ed,t,z⟩
  cases x with
  |val d=>exact go d rfl q2
  |new o=>exact go o.d rfl q2
  |ref i=>exact q2.elim
def RQ(ha:GE X W c m1 a):GE X W c (.and (.cons m1 .nil)) (.BoolOp .And [a] pos):=fun env=>by
 have:=Kr (op:=.And) (pos:=pos) (ha env)
 simpa only[Za,gJ]using this
def X8(ha:GE X W c m1 a):GE X W c (.or (.cons m1 .nil)) (.BoolOp .Or [a] pos):=fun env=>by
 have:=Kr (op:=.Or) (pos:=pos) (ha env)
 simpa only[Ge,mZ]using this
end
def aM(X:Cx)(W:Wi)(c:Cf)(m:E):TE:=fun σ H Q=>∃env,tM X.K W env (ev c m env) σ H Q
def TF{W:Wi}{σ:St}{r:Out Rv}(h:tT K W env r σ H Q)(N:Nx K env σ H δ H1):tT K W δ r σ H1 Q:=by
 obtain⟨_,h⟩:=h
 refine⟨N.eG,?_⟩
 cases r with
 |bad=>exact h
 |exc c ε=>exact fun H' N'=>h H' (N.trans N')
 |ok x ε=>
  obtain⟨d,b,e1,e2,q⟩:=h
  exact⟨d,b,e1,e2,fun H' N'=>q H' (N.trans N')⟩
section
variable{es rest:List Expr}
def GE.am(h:GE X W c m e):PE X e (aM X W c m):=fun γ s σ H Q I⟨env,q⟩=>h env γ s σ H Q I q
def Ym(ha:GE X W c m1 a)(hb:GE X W c (.and (.cons m2 m3)) (.BoolOp .And (b::rest) pos)):GE X W c (.and (.cons m1 (.cons m2 m3))) (.BoolOp .And (a::b::rest) pos):=by
 intro env
 refine PE.imp (Wy ha.d hb.am) fun σ H Q q=>?_
 refine⟨env,aV q fun d δ v H1 N1 D1 q1=>?_⟩
 cases d with
 |bl k=>
  refine⟨k,D1,?_⟩
  cases k with
  |true=>rw[if_pos rfl];exact⟨δ,by simpa only[Za,gJ]using q1⟩
  |false=>rw[if_neg Qjz];exact dR q1 rfl
 |_=>exact q1.2.elim
def acd(ha:GE X W c m1 a)(hb:GE X W c (.or (.cons m2 m3)) (.BoolOp .Or (b::rest) pos)):GE X W c (.or (.cons m1 (.cons m2 m3))) (.BoolOp .Or (a::b::rest) pos):=by
 intro env
 refine PE.imp (abm ha.d hb.am) fun σ H Q q=>?_
 refine⟨env,aV q fun d δ v H1 N1 D1 q1=>?_⟩
 cases d with
 |bl k=>
  refine⟨k,D1,?_⟩
  cases k with
  |true=>rw[if_pos rfl];exact dR q1 rfl
  |false=>rw[if_neg Qjz];exact⟨δ,by simpa only[Ge,mZ]using q1⟩
 |_=>exact q1.2.elim
def GW(X:Cx)(W:Wi)(c:Cf)(m:E)(e:Expr):Prop:=PW X e (aT X W c m)
def PW.imp(h:PW X e t)(i:∀σ H Q,t' σ H Q->t σ H Q):PW X e t':=fun wh γ s σ H Q I q=>h wh γ s σ H Q I (i σ H Q q)
def GW.t(h:GW X W c m e):GT X W c m e:=PW.pt h
theorem xW{env:Ev}{σ:St}{Q R:Bool->Hp->Prop}(h:tT K W env (r.ao f) σ H Q)
  (hf:∀d δ,(∀k,d≠ .bl k)->f d δ=.bad)
  (k:∀b δ H1,Nx K env σ H δ H1->tT K W δ (f (.bl b) δ) σ H1 Q->R b H1):tT K W env r σ H R:=by
 have step:∀d δ x,x.gK=some d->r=.ok x δ->∃b,gP d=some b/\∀H1,Nx K env σ H δ H1->R b H1:=fun d δ x ex er=>by
  subst er
  have h':tT K W env (f d δ) σ H Q:=by
   cases x with
   |val d'=>cases ex;exact h
   |new xs=>cases ex;exact h
   |ref i=>cases ex
  by_cases hb:∃b,d=.bl b
  ·obtain⟨b,rfl⟩:=hb
   exact⟨b,rfl,fun H1 N=>k b δ H1 N (TF h' N)⟩
  ·rw[hf d δ fun b e=>hb ⟨b,e⟩]at h'
   exact h'.2.elim
 refine⟨h.1,?_⟩
 cases r with
 |bad=>exact h.2
 |exc c δ=>exact h.2
 |ok x δ=>
  cases x with
  |val d=>obtain⟨b,e,q⟩:=step d δ _ rfl rfl;exact⟨d,b,rfl,e,q⟩
  |new xs=>obtain⟨b,e,q⟩:=step (xs.d) δ _ rfl rfl;exact⟨xs.d,b,rfl,e,q⟩
  |ref i=>exact h.2.elim
def Ry(ha:GT X W c m1 a):GW X W c (.and (.cons m1 .nil)) (.BoolOp .And [a] pos):=PW.imp (Qt ha) fun σ H Q⟨env,q⟩=>⟨env,by simpa only[Za,gJ]using q⟩
def XC(ha:GT X W c m1 a):GW X W c (.or (.cons m1 .nil)) (.BoolOp .Or [a] pos):=PW.imp (We ha) fun σ H Q⟨env,q⟩=>⟨env,by simpa only[Ge,mZ]using q⟩
def XH(ha:GT X W c m1 a)(hb:GW X W c (.and (.cons m2 m3)) (.BoolOp .And (b::rest) pos)):GW X W c (.and (.cons m1 (.cons m2 m3))) (.BoolOp .And (a::b::rest) pos):=by
 refine PW.imp (Wf ha hb) fun σ H Q⟨env,q⟩=>⟨env,?_⟩
 refine xW q (fun d δ hd=>?_) fun k δ H1 N q1=>?_
 ·cases d with
  |bl k=>exact absurd rfl (hd k)
  |_=>rfl
 ·cases k with
  |true=>rw[if_pos rfl];exact⟨δ,by simpa only[Za,gJ]using q1⟩
  |false=>
   obtain⟨d,k',e1,e2,q3⟩:=q1.2
   cases e1
   cases e2
   exact q3 H1 (Nx.refl q1.1)
def ab6(ha:GT X W c m1 a)(hb:GW X W c (.or (.cons m2 m3)) (.BoolOp .Or (b::rest) pos)):GW X W c (.or (.cons m1 (.cons m2 m3))) (.BoolOp .Or (a::b::rest) pos):=by
 refine PW.imp (abf ha hb) fun σ H Q⟨env,q⟩=>⟨env,?_⟩
 refine xW q (fun d δ hd=>?_) fun k δ H1 N q1=>?_
 ·cases d with
  |bl k=>exact absurd rfl (hd k)
  |_=>rfl
 ·cases k with
  |false=>rw[if_neg Qjz];exact⟨δ,by simpa only[Ge,mZ]using q1⟩
  |true=>
   obtain⟨d,k',e1,e2,q3⟩:=q1.2
   cases e1
   cases e2
   exact q3 H1 (Nx.refl q1.1)
def Ye(ht:GT X W c m1 t)(ha:GE X W c m2 a)(hb:GE X W c m3 b):GE X W c (.ite m1 m2 m3) (.IfExp t a b pos):=by
 intro env
 refine PE.imp (Ku ht ha.am hb.am) fun σ H Q q=>?_
 refine⟨env,xZ q fun k δ H1 N q1=>?_⟩
 cases k with
 |true=>rw[if_pos rfl]at q1⊢;exact⟨δ,q1⟩
 |false=>rw[if_neg Qjz]at q1⊢;exact⟨δ,q1⟩
def CJ{i:Int}{K:QQq}{vs:List V}(h:at? xs i=some d)(l:aq K H xs vs):∃v,Yz vs i=some v/\bh K H d v:=by
 unfold at? at h
 cases e:ix? xs.length i with
 |none=>rw[e]at h;cases h
 |some j=>
  rw[e]at h
  obtain⟨v,q1,q2⟩:=l.get (h)
  refine⟨v,?_,q2⟩
  unfold Yz
  have:Rt vs.length i=some j:=by
   unfold ix? at e
   unfold Rt
   rw[<-l.length]
   by_cases h0:i<0
   ·simp only[h0,if_true]at e
    split at e
    ·rename_i hc
     cases e
     rw[if_neg (by omega),if_pos (by omega)]
    ·cases e
   ·simp only[h0,if_false]at e
    split at e
    ·rename_i hc
     cases e
     rw[if_pos (by omega),if_pos (by omega)]
    ·cases e
  rw[this]
  exact q1
theorem oA{K:QQq}{H:Hp}(k:Key):∀{kvs:List (Key×V)}{ds:List D}{d:D},b8 (dC k) (kvs.map fun p=>dC p.1) ds=some d->aq K H ds (kvs.map (·.2))->∃v,jA kvs k=some v/\bh K H d v
 |[],ds,d,h,_=>by cases h
 |(k',v)::r,ds,d,h,l=>by
  rw[Qyz]at h l
  cases ds with
  |nil=>obtain⟨⟩:=aq.bC.mp l
  |cons d' ds=>
   obtain⟨w,ws,e,h1,h2⟩:=aq.aG.mp l
   cases e
   have e:bK (dC k') (dC k)=decide (k'=k):=by
    cases k'<;>cases k<;>simp[dC,bK,Bool.beq_eq_decide_eq]
   simp only[b8,e]at h
   by_cases q:k'=k
   ·simp only[q,decide_true,if_true]at h
    cases h
    exact⟨v,mj q,h1⟩
   ·simp only[q,decide_false,Qxq,if_false]at h
    obtain⟨u,q1,q2⟩:=oA k h h2
    exact⟨u,by rw[mq q];exact q1,q2⟩
noncomputable def aa7:R2:=fun x y H Q=>∃a k kvs v,x=.ref a/\y=kV k/\Rd H a (.dK kvs)/\jA kvs k=some v/\Q v H
def Xq(hu:X.A.units+1<cLine):Iz X aa7:=by
 intro value slice γ s σ H x y v u Q I rx ry h hs
 obtain⟨a,k,kvs,w,rfl,rfl,hd,hv,q⟩:=h
 cases rx
 have g:uh H a (kV k) _:=⟨kvs,k,hd,rfl,hv.symm⟩
 exact PyProof.Rows.tail_any (zx I g) PySem.F.slot_dict_getitem.lookup (H9 hu I g ry fun w' s3 I3 rw'=>⟨w,H,I3,rw',q⟩) hs
noncomputable def J3(K:QQq):R2:=fun x y H Q=>∃d a k xs v,x=.ref d/\y=.ref a/\Rd H d (.dS xs)/\(∀x∈xs,cI K H x.1 x.2.1)/\cI K H k a/\wz k xs=some v/\Q v H
def ab1(hu:X.A.units+9<cLine):Iz X (J3 X.K):=by
 intro value slice γ s σ H x y v u Q I rx ry h hs
 obtain⟨d,a,k,xs,w,rfl,rfl,hd,hk,ka,hv,q⟩:=h
 cases rx
 cases ry
 obtain⟨ys,_,dd,_⟩:=kE I hd hk
 exact PyProof.Rows.tail_any dd.typeIs PySem.F.slot_dict_getitem.lookup (Gv hu I hd hk ka hv fun u s3 I3 ru=>⟨w,H,I3,ru,q⟩) hs
def aa8(K:QQq):R2:=fun x y H Q=>Wc K x y H Q\/Wb K x y H Q\/aa7 x y H Q\/J3 K x y H Q
def Lz(hu:X.A.units+9<cLine):Iz X (aa8 X.K):=Eu.or (Lx.or ((Xq (by omega)).or (ab1 hu)))
def u6{K:QQq}{H:Hp}{d y z:D}{v u:V}{Q:VK}(D1:cV K H d v)(D2:bh K H y u)(e:getD d y=some z)(q:∀w,bh K H z w->Q w H):aa8 K v u H Q:=by
 cases d with
 |tup xs=>
  cases y with
  |int i=>
   obtain⟨a,vs,rfl,hq,l⟩:=b7 D1.tup
   obtain⟨w,e1,e2⟩:=CJ e l
   exact .inr (.inl ⟨a,vs,i,w,rfl,D2,hq,e1,q w e2⟩)
  |_=>cases e
 |lst xs=>
  cases y with
  |int i=>
   obtain⟨a,vs,rfl,hq,l⟩:=D1.JF
   rcases hq with hq|hq
   ·obtain⟨w,e1,e2⟩:=CJ e l
    exact .inl ⟨a,vs,i,w,rfl,D2,hq,e1,q w e2⟩
   ·obtain⟨w,e1,e2⟩:=CJ e l
    exact .inr (.inl ⟨a,vs,i,w,rfl,D2,hq,e1,q w e2⟩)
  |_=>cases e
 |cJ ks ds=>
  have e':(if keyOk y=true then b8 y ks ds else none)=some z:=by cases y<;>exact e
  split at e'
  ·rename_i hk
   obtain⟨k,rfl⟩:=fU hk
   obtain⟨a,kvs,rfl,ha,rfl,l⟩:=jd D1
   obtain⟨w,e1,e2⟩:=oA k e' l
   exact .inr (.inr (.inl ⟨a,k,kvs,w,rfl,kI D2,ha,e1,q w e2⟩))
  ·cases e'
 |gw ks ds=>
  have e':(if cj y=true then b8 y ks ds else none)=some z:=by cases y<;>exact e
  split at e'
  ·rename_i hk
   obtain⟨a,rfl,ka⟩:=iT hk D2
   obtain⟨d,xs,rfl,hd,l⟩:=wY D1
   obtain⟨w,e1,e2⟩:=l.look hk e'
   exact .inr (.inr (.inr ⟨d,a,kC y,xs,w,rfl,rfl,hd,l.yW,ka,e1,q w e2⟩))
  ·cases e'
 |_=>cases y<;>cases e
def Yh(hu:X.A.units+9<cLine)(ha:GE X W c m1 a)(hb:GE X W c m2 b)(hv:∀k,m1.aB=some k->∃x p,a=.Name x p/\gr X k x)(hs:xG b):GE X W c (.idx m1 m2) (.Subscript a b pos):=by
 intro env
 cases q:m1.aB with
 |some k=>
  obtain⟨x,p,rfl,nm⟩:=hv k q
  refine PE.imp (Ui (Lz hu) nm.pe hb.d hs) fun σ H Q h=>?_
  simp only[Jd,q]at h
  cases e0:aR k env with
  |none=>rw[e0]at h;exact h.2.elim
  |some d0=>
   rw[e0]at h
   obtain⟨u,eu,_⟩:=cG h.1 e0
   refine⟨u,eu,env,aV h fun d δ v H1 N1 D1 h1=>?_⟩
   obtain⟨z,ez,S,q3⟩:=cC h1
   cases e1:aR k δ with
   |none=>rw[e1]at ez;cases ez
   |some d2=>
    rw[e1]at ez
    simp only[Option.bind]at ez
    obtain⟨u',eu',D2⟩:=cG S e1
    rw[eu]at eu'
    cases eu'
    cases e2:getD d2 d with
    |none=>rw[e2]at ez;cases ez
    |some w=>
     rw[e2]at ez
     cases ez
     exact u6 D2 D1 e2 fun w' hw=>q3 w' H1 (Nx.refl S) hw
 |none=>
  refine PE.imp (Ui (Lz hu) ha.d hb.d hs) fun σ H Q h=>?_
  simp only[Jd,q]at h
  refine⟨env,aV h fun d δ v H1 N1 D1 h1=>⟨δ,aV h1 fun d2 ε u H2 N2 D2 h2=>?_⟩⟩
  obtain⟨z,ez,S,q3⟩:=cC h2
  cases e2:getD d d2 with
  |none=>rw[e2]at ez;cases ez
  |some w=>
   rw[e2]at ez
   cases ez
   exact u6 (.inl (D1.mono N2.pers)) D2 e2 fun w' hw=>q3 w' H2 (Nx.refl S) hw
end
structure Nz(K:QQq)(env:Ev)(σ:St)(H:Hp)(env':Ev)(ζ:St)(H':Hp):Prop where
 eG:Sat K env' ζ H'
 sub:∀(i:Nat)a,aP env' ζ i a->(∃j,aP env σ j a)\/H a=none
 pers:bG H H'
 keep:∀b u,H b=some u->(∀i,¬aP env σ i b)->H' b=some u
 dom:∀b,H' b=none->H b=none
 bors:∀(i:Nat)xs,env[i]? =some (.bor xs)->(∃ys,env'[i]? =some (.bor ys))/\ζ[i]? =σ[i]?
section
theorem Nx.z(N:Nx K env σ H δ H1):Nz K env σ H δ σ H1:=⟨N.eG,fun i a z=>.inl ⟨i,N.sub i a z⟩,N.pers,N.keep,N.dom,fun i xs e=>⟨N.bors i xs e,rfl⟩⟩
theorem Nz.refl(S:Sat K env σ H):Nz K env σ H env σ H:=(Nx.refl S).z
theorem Nz.trans(a:Nz K env σ H δ ξ H1)(b:Nz K δ ξ H1 ε υ H2):Nz K env σ H ε υ H2 where
 eG:=b.eG
 sub:=fun i c z=>by
  rcases b.sub i c z with ⟨j,q⟩|q
  ·exact a.sub j c q
  ·exact .inr (a.dom c q)
 pers:=a.pers.trans b.pers
 keep:=fun c vs z n=>b.keep c vs (a.keep c vs z n) fun i w=>by
  rcases a.sub i c w with ⟨j,q⟩|q
  ·exact n j q
  ·rw[q]at z;cases z
 dom:=fun c z=>a.dom c (b.dom c z)
 bors:=fun i xs e=>by
  obtain⟨⟨ys,e1⟩,s1⟩:=a.bors i xs e
  obtain⟨q,s2⟩:=b.bors i ys e1
  exact⟨q,s2.trans s1⟩
noncomputable def Om(K:QQq)(env:Ev)(σ:St)(H H':Hp):Rv->V->Prop
 |.val d,v=>bh K H' d v
 |.new q,v=>∃a,v=.ref a/\jw K H' q a/\(H a=none\/∃(i:Nat)(ys:Ob),env[i]? =some (.own ys)/\σ[i]? =some (some (.ref a)))
 |_,_=>False
def Om.back{r:Rv}{v:V}(N:Nz K env σ H δ ξ H1)(h:Om K δ ξ H1 H2 r v):Om K env σ H H2 r v:=by
 cases r with
 |val d=>exact h
 |new xs=>
  obtain⟨a,e,p,z⟩:=h
  refine⟨a,e,p,?_⟩
  rcases z with z|⟨i,ys,z1,z2⟩
  ·exact .inl (N.dom a z)
  ·rcases N.sub i a ⟨⟨_,ys,z1,rfl⟩,z2⟩with ⟨j,⟨s,xs',q1,q2⟩,q3⟩|q
   ·cases s with
    |own w=>exact .inr ⟨j,w,q1,q3⟩
    |bor w=>
     obtain⟨⟨w',q⟩,sq⟩:=N.bors j w q1
     have:=N.eG.ne i j a ⟨⟨_,ys,z1,rfl⟩,z2⟩ ⟨⟨_,w',q,rfl⟩,sq.trans q3⟩
     subst this
     rw[z1]at q;cases q
    |un=>cases q2
    |val d=>cases q2
   ·exact .inl q
 |ref i=>exact h.elim
end
noncomputable def tS(K:QQq)(W:Wi)(env:Ev)(f:Fl):TS:=fun D σ H=>Sat K env σ H/\match f with
 |.next env'=>∀ζ H',Nz K env σ H env' ζ H'->D.nx ζ H'
 |.ret r env'=>∀v ζ H',Nz K env σ H env' ζ H'->Om K env σ H H' r v->D.rt v H'
 |.brk env'=>∀ζ H',Nz K env σ H env' ζ H'->D.bk ζ H'
 |.cont env'=>∀ζ H',Nz K env σ H env' ζ H'->D.ct ζ H'
 |.exc c env'=>∀ζ H',Nz K env σ H env' ζ H'->W c env' ζ H'
 |.bad=>False
def GS(X:Cx)(W:Wi)(c:Cf)(m:S)(st:Stmt):Prop:=∀env,PS X st (tS X.K W env (ex c m env))
def O7(X:Cx)(W:Wi)(c:Cf)(m:S)(st:List Stmt):Prop:=∀env,xH X st (tS X.K W env (ex c m env))
section
def PS.imp(h:PS X st t)(i:∀D σ H,t' D σ H->t D σ H):PS X st t':=fun γ s σ H D I q=>h γ s σ H D I (i D σ H q)
def xH.imp(h:xH X sts t)(i:∀D σ H,t' D σ H->t D σ H):xH X sts t':=fun γ s σ H D I q=>h γ s σ H D I (i D σ H q)
def qj{env δ:Ev}{H H1:Hp}{D:Ends}(h:tS K W env f D σ H)(N:Nz K env σ H δ ξ H1):tS K W δ f D ξ H1:=by
 obtain⟨_,h⟩:=h
 refine⟨N.eG,?_⟩
 cases f with
 |next ε=>exact fun ζ H' N'=>h ζ H' (N.trans N')
 |ret r ε=>exact fun v ζ H' N' k=>h v ζ H' (N.trans N') (k.back N)
 |brk ε=>exact fun ζ H' N'=>h ζ H' (N.trans N')
 |cont ε=>exact fun ζ H' N'=>h ζ H' (N.trans N')
 |exc k ε=>exact fun ζ H' N'=>h ζ H' (N.trans N')
 |bad=>exact h
def Rz:O7 X W c .nil []:=fun env=>xH.imp Qv fun D σ H q=>by
 exact q.2 σ H (Nz.refl q.1)
def Mp(h:GS X W c m1 st)(t:O7 X W c m2 sts):O7 X W c (.cons m1 m2) (st::sts):=by
 intro env
 have B:xH X _ (aap (fun D σ H=>∃env,tS X.K W env _ D σ H) (fun D σ H=>∃env,tS X.K W env _ D σ H)):=
  J7 (fun γ s σ H D I⟨env,q⟩=>h env γ s σ H D I q) (fun γ s σ H D I⟨env,q⟩=>t env γ s σ H D I q)
 refine xH.imp B fun D σ H q=>?_
 simp only[x_1]at q
 refine⟨env,q.1,?_⟩
 cases r:ex c m1 env with
 |next δ=>
  rw[r]at q
  exact fun ξ H1 N1=>⟨δ,qj q N1⟩
 |_=>rw[r]at q;exact q.2
theorem lE{env:Ev}{H:Hp}{D:Ends}{r:Out Rv}{R:VK}(h:tS K W env (r.kj f) D σ H)
  (k:∀d δ v H1,Nx K env σ H δ H1->bh K H1 d v->tS K W δ (f d δ) D σ H1->R v H1):tD K W env r σ H R:=by
 have step:∀d δ,r.kj f=f d δ->∀v H1,Nx K env σ H δ H1->bh K H1 d v->R v H1:=fun d δ e v H1 N Dv=>by
  rw[e]at h
  exact k d δ v H1 N Dv (qj h N.z)
 obtain⟨S,h⟩:=h
 refine⟨S,?_⟩
 cases r with
 |bad=>exact h
 |exc c δ=>exact fun H' N=>h σ H' N.z
 |ok x δ=>
  cases x with
  |val d=>exact fun v H1 N Dv=>step d δ rfl v H1 N Dv
  |new xs=>exact fun v H1 N Dv=>step xs.d δ rfl v H1 N Dv
  |ref i=>exact h
theorem Jt{env:Ev}{H:Hp}{D:Ends}{f:Bool->Ev->Fl}(h:tS K W env (r.Iu f) D σ H)
  (k:∀b δ H1,Nx K env σ H δ H1->tS K W δ (f b δ) D σ H1->R b H1):tT K W env r σ H R:=by
 have step:∀d δ x,x.gK=some d->r=.ok x δ->∃b,gP d=some b/\∀H1,Nx K env σ H δ H1->R b H1:=fun d δ x ex er=>by
  subst er
  cases q:gP d with
  |none=>
   cases x with
   |val d'=>cases ex;simp only[Out.Iu,Out.kj,q]at h;exact h.2.elim
   |new xs=>cases ex;simp only[Out.Iu,Out.kj,q]at h;exact h.2.elim
   |ref i=>cases ex
  |some b=>
   refine⟨b,rfl,fun H1 N=>k b δ H1 N (qj ?_ N.z)⟩
   cases x with
   |val d'=>cases ex;simp only[Out.Iu,Out.kj,q]at h;exact h
   |new xs=>cases ex;simp only[Out.Iu,Out.kj,q]at h;exact h
   |ref i=>cases ex
 refine⟨h.1,?_⟩
 cases r with
 |bad=>exact h.2
 |exc c δ=>exact fun H' N=>h.2 σ H' N.z
 |ok x δ=>
  cases x with
  |val d=>obtain⟨b,e,q⟩:=step d δ _ rfl rfl;exact⟨d,b,rfl,e,q⟩
  |new xs=>obtain⟨b,e,q⟩:=step xs.d δ _ rfl rfl;exact⟨xs.d,b,rfl,e,q⟩
  |ref i=>exact h.2.elim
def ab7{te:Expr}(ht:GT X W c t te)(h1:O7 X W c m1 s1)(h2:O7 X W c m2 s2):GS X W c (.ite t m1 m2) (.If te s1 s2 pos):=by
 intro env
 refine PS.imp (abk ht (t:=fun D σ H=>∃env,tS X.K W env _ D σ H) (u:=fun D σ H=>∃env,tS X.K W env _ D σ H)
  (fun γ s σ H D I⟨env,q⟩=>h1 env γ s σ H D I q) (fun γ s σ H D I⟨env,q⟩=>h2 env γ s σ H D I q)) fun D σ H q=>?_
 refine⟨env,Jt q fun b δ H1 N q1=>?_⟩
 cases b with
 |true=>rw[if_pos rfl]at q1⊢;exact⟨δ,q1⟩
 |false=>rw[if_neg Qjz]at q1⊢;exact⟨δ,q1⟩
def RD{m:E}(h:GE X W c m e)(hs:swapsWith e none pos.line X.env=pure false):GS X W c (.expr m) (.Expr e pos):=by
 intro env
 exact PS.imp (v8 h.d hs) fun D σ H q=>⟨env,lE q fun d δ v H1 N Dv q1=>q1.2 σ H1 (Nz.refl q1.1)⟩
def Ms:GS X W0 c (.raise k) st:=fun env γ s σ H D I q=>by
 exact(q.2 σ H (Nz.refl q.1)).elim
end
section
variable{env δ ε:Ev}{σ ξ υ:St}
def iY{s:Sl}{a:Addr}(h:aP (env.set i s) (σ.set i (some v)) j a)(hj:i≠j):aP env σ j a:=by
 obtain⟨⟨t,xs,e1,e2⟩,e3⟩:=h
 rw[Qxz hj]at e1 e3
 exact⟨⟨t,xs,e1,e2⟩,e3⟩
def jF{s:Sl}{a:Addr}(hi:i<env.length)(hs:i<σ.length)(h:aP (env.set i s) (σ.set i (some v)) i a):isOwn s≠none/\v=.ref a:=by
 obtain⟨⟨t,xs,e1,e2⟩,e3⟩:=h
 rw[Qwq hi]at e1
 rw[Qwq hs]at e3
 cases e1
 cases e3
 exact⟨by rw[e2];simp,rfl⟩
def Sat.v7{q:Ob}(S:Sat K env σ H)(hi:i<env.length)(ha:jw K H q a)(no:∀k,¬aP env σ k a):Sat K (env.set i (.own q)) (σ.set i (some (.ref a))) H:=by
 have hs:i<σ.length:=by rw[<-S.len];exact hi
 refine⟨by simpa using S.len,fun j s e=>?_,fun j k b h1 h2=>?_⟩
 ·by_cases hj:i=j
  ·subst hj
   rw[Qwq hi]at e
   cases e
   exact⟨a,by rw[Qwq hs];rfl,ha⟩
  ·rw[Qxz hj]at e⊢
   exact S.sl j s e
 ·by_cases hj:i=j
  ·subst hj
   by_cases hk:i=k
   ·exact hk
   ·obtain⟨_,z⟩:=jF hi hs h1
    cases z
    exact absurd (iY h2 hk) (no k)
  ·by_cases hk:i=k
   ·subst hk
    obtain⟨_,z⟩:=jF hi hs h2
    cases z
    exact absurd (iY h1 hj) (no j)
   ·exact S.ne j k b (iY h1 hj) (iY h2 hk)
theorem Nz.put{i:Nat}{x:Rv}{s:Sl}{v:V}(S:Sat K env σ H)(N:Nx K env σ H δ H1)(hx:gC K σ H H1 x v)(hs:x.vV=some s)(h:cu i s δ=some ε):Nz K env σ H ε (σ.set i (some v)) H1:=by
 obtain⟨rfl,hi,nb⟩:=lF h
 have hsl:i<σ.length:=by rw[<-N.eG.len];exact hi
 have bors:∀(j:Nat)xs,env[j]? =some (.bor xs)->(∃ys,(δ.set i s)[j]? =some (.bor ys))/\(σ.set i (some v))[j]? =σ[j]? :=fun j xs e=>by
  obtain⟨ys,e1⟩:=N.bors j xs e
  have hj:i≠j:=fun z=>by subst z;exact nb ys e1
  exact⟨⟨ys,by rw[Qxz hj];exact e1⟩,by rw[Qxz hj]⟩
 cases x with
 |val d=>
  cases hs
  refine⟨N.eG.put hi hx,fun j a z=>.inl ?_,N.pers,N.keep,N.dom,bors⟩
  by_cases hj:i=j
  ·subst hj
   exact absurd rfl (jF hi hsl z).1
  ·exact⟨j,N.sub j a (iY z hj)⟩
 |new q=>
  cases hs
  obtain⟨a,rfl,oa,h0⟩:=hx
  refine⟨N.eG.v7 hi oa fun k z=>S.qP h0 k (N.sub k a z),fun j b z=>?_,N.pers,N.keep,N.dom,bors⟩
  by_cases hj:i=j
  ·subst hj
   obtain⟨_,z⟩:=jF hi hsl z
   cases z
   exact .inr h0
  ·exact .inl ⟨j,N.sub j b (iY z hj)⟩
 |ref j=>cases hs
end
section
theorem TJ{env:Ev}{H:Hp}{D:Ends}{r:Out Rv}{R:VK}(h:tS K W env (r.fl f) D σ H)
  (k:∀x δ v H1,Nx K env σ H δ H1->gC K σ H H1 x v->tS K W env (f x δ) D σ H->R v H1):tM K W env r σ H R:=by
 obtain⟨S,h⟩:=h
 refine⟨S,?_⟩
 cases r with
 |bad=>exact h
 |exc c δ=>exact fun H' N=>h σ H' N.z
 |ok x δ=>exact fun v H1 N z=>k x δ v H1 N z ⟨S,h⟩
def Dl{i:Nat}{D:Ends}{H:Hp}(q:tS K W env (ex c (.set i m) env) D σ H):tM K W env (ev c m env) σ H fun v H1=>D.nx (σ.set i (some v)) H1:=by
 refine TJ q fun x δ v H1 N z q1=>?_
 cases e1:x.vV with
 |none=>rw[e1]at q1;exact q1.2.elim
 |some s=>
  rw[e1]at q1
  simp only[Option.bind]at q1
  cases e2:cu i s δ with
  |none=>rw[e2]at q1;exact q1.2.elim
  |some ε=>
   rw[e2]at q1
   exact q1.2 _ _ (Nz.put q1.1 N z e1 e2)
def wL{x:Str}(h:GE X W c m e)(hN:X.N.Nodup)(hi:X.N[i]? =some x)(hx:Loc X.env.scope x)(hf:X.fn x=true\/X.env.scope.names.lookup x=some .local)
  (hs:swapsWith e (some (.Name x pos')) pos.line X.env=pure false):GS X W c (.set i m) (.Assign [.Name x pos'] e pos):=fun env=>
 PS.imp (J9 hN hi hx h.am hs hf) fun D σ H q=>⟨env,Dl q⟩
def JC{is:List Nat}{env:Ev}{D:Ends}{σ:St}{H:Hp}{K:QQq}(q:tS K W env (ex c (.setT is m) env) D σ H):tD K W env (ev c m env) σ H fun v H1=>tG K (.tup is) v σ H1 D.nx:=by
 simp only[x_6]at q
 refine lE q fun d δ v H1 N Dv q1=>?_
 cases e2:bV (.tup is) d δ with
 |none=>rw[e2]at q1;exact q1.2.elim
 |some ε=>
  rw[e2]at q1
  exact⟨δ,d,ε,q1.1,Dv,e2,fun ζ st=>q1.2 ζ H1 ⟨st.eG,fun i a z=>.inl ⟨i,st.sub z⟩,bG.refl _,fun _ _ z _=>z,fun _ z=>z,fun i xs e=>⟨⟨xs,(st.same i (st.bors i xs e)).1.trans e⟩,(st.same i (st.bors i xs e)).2⟩⟩⟩
def RB{tg:Expr}(h:GE X W c m e)(hg:GG X (.tup is) tg)(hs:swapsWithSole [tg] e pos.line X.env=pure false)(hw:swappedStores [tg] e X.env=pure none)
  (h1:(assignEach [tg] X.env).map (·.2)=[assign tg X.env]):GS X W c (.setT is m) (.Assign [tg] e pos):=fun env=>
 PS.imp (Kc h.d hg hs hw h1) fun D σ H q=>⟨env,JC q⟩
end
theorem Cj(env:Env):∀(names:List (Str×NameKind))(cs:List (Str×Addr)),(∀x∈names,x.2=.free->∃c,env.cells.lookup x.1=some c)->(∀x c,cs.lookup x=some c->env.cells.lookup x=some c)->
  ∃cl,(do
   let s<-forIn names cs (fun(x:Str×NameKind)cs=>match x with
    |(name,kind)=>if (kind==NameKind.free)=true then do
      let a<-cellOf env name
      pure (ForInStep.yield ((name,a)::cs))
     else pure (ForInStep.yield cs))
   pure s:Sem (List (Str×Addr)))=(pure cl:Sem _)/\
   (∀x c,cl.lookup x=some c->env.cells.lookup x=some c)/\(∀x,(x,NameKind.free)∈names->∃c,cl.lookup x=some c)/\∀x c,cs.lookup x=some c->∃c,cl.lookup x=some c:=by
 intro names
 induction names with
 |nil=>intro cs h1 h2;exact⟨cs,rfl,h2,by simp,fun x c e=>⟨c,e⟩⟩
 |cons p r ih=>
  intro cs h1 h2
  obtain⟨n,k⟩:=p
  by_cases hk:k=.free
  ·subst hk
   obtain⟨c,hc⟩:=h1 _ QYz rfl
   have q2:∀x d,((n,c)::cs).lookup x=some d->env.cells.lookup x=some d:=fun x d e=>by
    rw[QHz]at e
    cases hx:x==n with
    |true=>rw[hx]at e;cases e;rw[eq_of_beq hx];exact hc
    |false=>rw[hx]at e;exact h2 x d e
   obtain⟨cl,e1,e2,e3,e4⟩:=ih _ (fun x hx=>h1 x (QYq _ hx)) q2
   have own:=e4 n c (by simp[QHz])
   refine⟨cl,?_,e2,fun x hx=>?_,fun x d e=>?_⟩
   ·rw[<-e1]
    have:cellOf env n=pure c:=by unfold cellOf;rw[hc]
    simp only[List.forIn_cons]
    rw[if_pos (show(NameKind.free==NameKind.free)=true from rfl),this]
    rfl
   ·rcases QCq.mp hx with z|z
    ·cases z;exact own
    ·exact e3 x z
   ·cases hx:x==n with
    |true=>rw[eq_of_beq hx];exact own
    |false=>exact e4 x d (by rw[QHz,hx];exact e)
  ·obtain⟨cl,e1,e2,e3,e4⟩:=ih cs (fun x hx=>h1 x (QYq _ hx)) h2
   refine⟨cl,?_,e2,fun x hx=>?_,e4⟩
   ·rw[<-e1]
    simp only[List.forIn_cons]
    rw[if_neg (fun z=>hk (eq_of_beq z))]
    rfl
   ·rcases QCq.mp hx with z|z
    ·cases z;exact absurd rfl hk
    ·exact e3 x z
def af2{env:Env}(h:∀x∈scope.names,x.2=.free->∃c,env.cells.lookup x.1=some c):∃cl,Ou scope env cl:=by
 obtain⟨cl,e1,e2,e3,_⟩:=Cj env scope.names [] h (by simp)
 refine⟨cl,?_,e2,fun x hx=>e3 x (PySem.mem_of_lookup hx)⟩
 have q:closureFor scope env=(forIn scope.names [] (fun(x:Str×NameKind)cs=>match x with
    |(name,kind)=>if (kind==NameKind.free)=true then do
      let a<-cellOf env name
      pure (ForInStep.yield ((name,a)::cs))
     else pure (ForInStep.yield cs)))>>=pure:=rfl
 rw[q,e1]
 rfl
section
variable{it cond elt:E}{pos spos py:Pos}
theorem Fw{env:Ev}{H:Hp}{Q:VK}
  (q:tM K W env (ev c (.comp nl tg it cond elt) env) σ H Q)
  (k:∀J H1 δ xs ys τ,Nx K env σ H δ H1->Gives K J xs H1->aO tg (ev c cond) (ev c elt) xs [] (List.replicate nl Sl.un++δ)=.ok ys τ->
   (∀v H2,Nx K env σ H (τ.drop nl) H2->gC K σ H H2 (.new (.lst ys)) v->Q v H2)->R J H1):tI K W env (ev c it env) σ H R:=by
 simp only[lD]at q
 obtain⟨S,q⟩:=q
 refine⟨S,?_⟩
 cases r:ev c it env with
 |bad=>rw[r]at q;exact q
 |exc k δ=>rw[r]at q;exact q
 |ok x δ=>
  rw[r]at q
  have go:∀d,x.gK=some d->(match (match items d with
    |some xs=>match aO tg (ev c cond) (ev c elt) xs [] (List.replicate nl Sl.un++δ)with
     |.ok ys τ=>Out.ok (Rv.new (.lst ys)) (τ.drop nl)
     |_=>.bad
    |none=>.bad)with
   |.ok x env'=>∀v H',Nx K env σ H env' H'->gC K σ H H' x v->Q v H'
   |.exc c env'=>∀H',Nx K env σ H env' H'->W c env' σ H'
   |.bad=>False)->∃d xs,x.gK=some d/\items d=some xs/\∀J H',Nx K env σ H δ H'->Gives K J xs H'->R J H':=fun d ed z=>by
   cases e1:items d with
   |none=>rw[e1]at z;exact z.elim
   |some xs=>
    rw[e1]at z
    simp only at z
    cases e2:aO tg _ _ xs [] _ with
    |bad=>rw[e2]at z;exact z.elim
    |exc k τ=>rw[e2]at z;exact z.elim
    |ok ys τ=>
     rw[e2]at z
     exact⟨d,xs,ed,e1,fun J H1 N G=>k J H1 δ xs ys τ N G e2 z⟩
  cases x with
  |val d=>exact go d rfl q
  |new o=>exact go o.d rfl q
  |ref i=>exact q.elim
def Inv.letGo{σ:St}{H:Hp}{C:Addr}(I:Inv X γ σ H s)(f:fM X γ H C)(hs:Heap.SameBut C s.heap h'):Inv X γ σ H {s with heap:=h'}:=by
 exact I.turned (fun b o hb e=>(hs.2 b hb).trans e) f.1 f.2.1 f.2.2.2.1 f.2.2.2.2.1 f.2.2.2.2.2
theorem Ik.cl{σ:St}{H:Hp}(sc:Ik X.env.scope scope η X.N)(I:Inv X γ σ H s):∃cl,Ou scope X.env cl:=
 af2 fun x hx hf=>I.ok.has x.1 (sc.fre x hx hf)
def RN(B:zR X c scope η tg cond elt Ξ Δ ifs)(hi:GI X W c it Ξ ο)(hc:X.calm=true)(hs:∀x,foldedSetIterable ο X.env x=pure x):
  GE X W c (.comp η.length tg it cond elt) (.ListComp Δ [⟨Ξ,ο,ifs,0⟩] scope pos):=by
 intro env γ s σ H Q I q
 obtain⟨cl,co⟩:=B.sc.cl I
 refine wpAny_comprehension_free rfl hs co.eq B.sc.kind B.sc.locs (bZ (hi env γ s σ H _ I (Fw q (R:=fun J H1=>∃δ xs ys τ,Nx X.K env σ H δ H1/\Gives X.K J xs H1/\aO tg _ _ xs [] _=.ok ys τ/\
  (∀v H2,Nx X.K env σ H _ H2->gC X.K σ H H2 _ v->Q v H2)) fun J H1 δ xs ys τ N G e z=>⟨δ,xs,ys,τ,N,G,e,z⟩)) fun v s1 h1=>bZ h1 fun itv s2 h2=>?_)
 obtain⟨ita,fp,tn,J,H1,rfl,I1,T,t0,hf,δ,xs,ys,τ,N,G,e,z⟩:=h2
 refine vg B hc co I1 N.eG T t0 hf G e fun D C s' H' vs m I' N' hD hl hn hC fC=>?_
 refine⟨m,hC,fun h' hs'=>⟨.ref D,H',Inv.letGo I' fC hs',rfl,z _ _ (N.trans N') ⟨D,rfl,⟨_,hD,vs,rfl,hl⟩,N.dom D hn⟩⟩⟩
def Bt{x:Str}(B:zR X c scope η tg cond elt Ξ Δ ifs)(hi:GI X W c it Ξ ο)(hc:X.calm=true)(hs:∀x,foldedSetIterable ο X.env x=pure x)
  (hN:X.N.Nodup)(hx:X.N[i]? =some x)(hl:Loc X.env.scope x)(hf:X.fn x=true\/X.env.scope.names.lookup x=some .local)
  (hsw:swapsWith (.ListComp Δ [⟨Ξ,ο,ifs,0⟩] scope pos) (some (.Name x py)) spos.line X.env=pure true):
  GS X W c (.set i (.comp η.length tg it cond elt)) (.Assign [.Name x py] (.ListComp Δ [⟨Ξ,ο,ifs,0⟩] scope pos) spos):=by
 intro env γ s σ H D I q
 obtain⟨cl,co⟩:=B.sc.cl I
 rw[exec_Assign_Name_used _ _ _ _ hsw]
 refine QKq (wpAny_standAt (QKq ?_))
 refine QKq (QGq (wpAny_comprehension_free rfl hs co.eq B.sc.kind B.sc.locs
  (bZ (hi env γ s σ H _ I (Fw (Dl q) (R:=fun J H1=>∃δ xs ys τ,Nx X.K env σ H δ H1/\Gives X.K J xs H1/\aO tg _ _ xs [] _=.ok ys τ/\
  (∀v H2,Nx X.K env σ H _ H2->gC X.K σ H H2 _ v->D.nx _ H2)) fun J H1 δ xs ys τ N G e z=>⟨δ,xs,ys,τ,N,G,e,z⟩)) fun v s1 h1=>bZ h1 fun itv s2 h2=>?_))
  (fun _ s' hq=>QKz (QKz hq)) fun _ _ e=>e)
 obtain⟨ita,fp,tn,J,H1,rfl,I1,T,t0,hf',δ,xs,ys,τ,N,G,e,z⟩:=h2
 refine vg B hc co I1 N.eG T t0 hf' G e fun A C s' H' vs m I' N' hD hl' hn hC fC=>?_
 refine wpAny_assign_Name (ut (v:=.ref A) I' hN hx hl rfl (fun s'' I''⟨a,ha,hor⟩=>?_) hf)
 have hCa:C≠a:=by
  rcases hor with rfl|hor
  ·exact fC.2.1
  ·exact fun z=>fC.2.2.2.2.1 x a hor z.symm
 refine⟨m,hC.sameBut ha hCa,fun h' hs'=>⟨_,H',Inv.letGo I'' fC hs',z _ _ (N.trans N') ⟨A,rfl,⟨_,hD,vs,rfl,hl'⟩,N.dom A hn⟩⟩⟩
end
section
theorem HJ(hq:jq K H a vs)(l:aq K H xs vs)(hz:vs.length<=sizeLine):Gives K (Itt K a) xs H where
 go:=fun H1 p i d e=>by
  obtain⟨v,ev,_⟩:=l.get e
  exact⟨vs,v,p.VN hq,ev⟩
 yld:=fun H1 p i d e x H2 y=>by
  obtain⟨rfl,y⟩:=y
  obtain⟨v,ev,dv⟩:=l.get e
  have:=y vs (p.VN hq)
  rw[ev]at this
  cases this
  exact⟨dv.mono p,.inl rfl⟩
 stop:=fun H1 p i hi=>⟨vs,p.VN hq,by rw[<-l.length];exact hi⟩
 len:=by rw[l.length];exact hz
theorem HQ(hq:FZ K H a vs)(l:aq K H xs vs)(hz:vs.length<=sizeLine):Gives K (Itl K a) xs H where
 go:=fun H1 p i d e=>by
  obtain⟨v,ev,_⟩:=l.get e
  exact⟨vs,v,(p.RT hq).sq,ev⟩
 yld:=fun H1 p i d e x H2 y=>by
  obtain⟨rfl,y⟩:=y
  obtain⟨v,ev,dv⟩:=l.get e
  have:=y vs (p.RT hq).sq
  rw[ev]at this
  cases this
  exact⟨dv.mono p,.inl rfl⟩
 stop:=fun H1 p i hi=>⟨vs,(p.RT hq).sq,by rw[<-l.length];exact hi⟩
 len:=by rw[l.length];exact hz
noncomputable def Its(x:Str):It:=⟨fun i _=>i<x.cps.size,fun i H v H'=>H'=H/\∃c,x.cps[i]? =some c/\v=.str ⟨#[c]⟩,fun i _=>x.cps.size<=i⟩
def signs_get{i:Nat}(h:(signs x)[i]? =some d):∃c,x.cps[i]? =some c/\d=.str ⟨#[c]⟩:=by
 unfold signs at h
 rw[QFz]at h
 cases e:x.cps.toList[i]? with
 |none=>rw[e]at h;cases h
 |some c=>rw[e]at h;cases h;exact⟨c,by simpa using e,rfl⟩
def nM x:(signs x).length=x.cps.size:=by simp[signs]
theorem u5{x:Str}(hz:x.cps.size<=sizeLine):Gives K (Its x) (signs x) H where
 go:=fun H1 p i d e=>by
  have:=(QCz.mp e).1
  rw[nM]at this
  exact this
 yld:=fun H1 p i d e v H2 y=>by
  obtain⟨rfl,c,e1,rfl⟩:=y
  obtain⟨c',e2,rfl⟩:=signs_get e
  rw[e1]at e2
  cases e2
  exact⟨rfl,.inl rfl⟩
 stop:=fun H1 p i hi=>by rw[nM]at hi;exact hi
 len:=by rw[nM];exact hz
noncomputable def Itk(a:Addr)(o:Obj)(kvs:List (Key×V)):It:=⟨fun i H=>H a=some (.frz o (.dK kvs))/\i<kvs.length,fun i H v H'=>H'=H/\∃k x,kvs[i]? =some (k,x)/\v=kV k,fun i H=>H a=some (.frz o (.dK kvs))/\kvs.length<=i⟩
def Rq(k:Key):bh K H (dC k) (kV k):=by cases k<;>rfl
theorem HR{o:Obj}{kvs:List (Key×V)}(ha:H a=some (.frz o (.dK kvs)))(hz:kvs.length<=sizeLine):Gives K (Itk a o kvs) (kvs.map fun p=>dC p.1) H where
 go:=fun H1 p i d e=>by
  have:=(QCz.mp e).1
  rw[QAq]at this
  exact⟨p.frzs _ _ _ ha,this⟩
 yld:=fun H1 p i d e v H2 y=>by
  obtain⟨rfl,k,x,e1,rfl⟩:=y
  rw[QFz,e1]at e
  cases e
  exact⟨Rq k,.inl rfl⟩
 stop:=fun H1 p i hi=>by rw[QAq]at hi;exact⟨p.frzs _ _ _ ha,hi⟩
 len:=by rw[QAq];exact hz
end
section
theorem xT it x t ty(W:∀A':Around,A'.handled=none->Walks P w A' it [it] [it] x.cps.size (SignAt x) (fun i h=>h.IsStrIter it ty x t i))
  (hn:["enumerate","zip","dict_itemiterator","dict_reverseitemiterator","odict_iterator","itertools.zip_longest","itertools.pairwise"].contains ty=false)
  (hself:∀(A:Around)(i:Nat)(s:Shared)(Q:QZq)(E:QZq),s.heap.IsStrIter it ty x t i->Q (.ref it) s->wpAny (model P w) A (pyIter (.ref it)) Q E s):
  Turn P w K tg (Its x) [it] it (fun i h=>h.IsStrIter it ty x t i/\i<=x.cps.size) where
 mem:=by simp
 obj:=fun i h st b hb=>by
  have e:b=it:=by simpa using hb
  subst e
  obtain⟨⟨o,e,_,d⟩,_⟩:=st
  exact⟨o,e,fun v z=>by rw[d]at z;cases z⟩
 keep:=fun i h h' st k=>⟨let ⟨o,e,r⟩:=st.1;⟨o,k it (by simp) o e,r⟩,st.2⟩
 item:=by
  intro X hP hw hK hc i γ s σ H E I hf st hg
  obtain⟨f0,f1,f2,f3,f4,f5⟩:=hf it (by simp)
  refine(W X.A (I.ok.hd hc)).item i s _ _ hg st.1 fun v h' tk hv st' kk=>?_
  obtain⟨c,t,hx,rfl⟩:=hv
  obtain⟨o,e,cl,d⟩:=id st'
  exact⟨_,rfl,uY e cl d hn ⟨.str ⟨#[c]⟩,H,(I.turned (fun b o hb e=>kk b o (by simpa using hb) e) f0 f1 f3 f4 f5),⟨t,rfl⟩,⟨rfl,c,hx,rfl⟩,⟨st',hg⟩,fun b hb=>(hf b hb).1⟩⟩
 done:=by
  intro X hP hw hK hc i γ s σ H E I hf st hg
  obtain⟨f0,f1,f2,f3,f4,f5⟩:=hf it (by simp)
  have e:=Nat.le_antisymm st.2 hg
  subst e
  exact(W X.A (I.ok.hd hc)).done s _ _ st.1 fun h' tk kk=>⟨rfl,I.turned (fun b o hb e=>kk b o (by simpa using hb) e) f0 f1 f3 f4 f5⟩
 self:=fun A i s Q E st h=>hself A i s Q E st.1 h
def KV.at_{kvs:List (Key×V)}{vs:List (Key×Value)}(r:KV kvs vs):∀{i:Nat}{k:Key}{x:V},kvs[i]? =some (k,x)->∃u,vs[i]? =some (k,u):=by
 intro i k x e
 induction r generalizing i with
 |nil=>simp at e
 | @cons p q ps qs h t ih=>
  cases i with
  |zero=>
   simp at e
   subst e
   exact⟨q.2,by simp;rw[Prod.ext_iff];exact⟨h.1.symm,rfl⟩⟩
  |succ i=>exact ih (by simpa using e)
def vf{P:Program}{w:World}{h:Heap}{a:Addr}{o:Obj}{es:Array DictEntry}{ep:Nat}{vs:List (Key×Value)}(ho:h.get? a=some o)(hd:o.data=.dict es ep)(D:h.DictOf (dH P w) a vs):h.DictAt (dH P w) a vs ep:=by
 obtain⟨o',es',ep',e,x,d,r⟩:=D
 rw[ho]at e
 cases e
 rw[hd]at d
 cases d
 exact⟨o,es,ho,x,hd,r⟩
def Rp{P:Program}{w:World}{k:Key}{v:Value}(h:(dH P w).is k v=true):RelV (kV k) v:=by
 rcases bU (k:=k) (v:=v) h with ⟨i,t,rfl,rfl⟩|⟨x,t,rfl,rfl⟩
 ·exact⟨t,rfl⟩
 ·exact⟨t,rfl⟩
theorem Ji(it a:Addr)(o:Obj)(es:Array DictEntry)(kvs:List (Key×V))(ep:Nat)(hep:o.data=.dict es ep):
  Turn P w K tg (Itk a o kvs) [it] it (fun i h=>h.IsKeyIter it a i kvs.length ep) where
 mem:=by simp
 obj:=fun i h st b hb=>by
  have e:b=it:=by simpa using hb
  subst e
  obtain⟨o,e,_,d⟩:=st
  exact⟨o,e,fun v z=>by rw[d]at z;cases z⟩
 keep:=fun i h h' st k=>st.at fun o e=>k it (by simp) o e
 item:=by
  intro X hP hw hK hc i γ s σ H E I hf st hg
  subst hP hw hK
  obtain⟨f0,f1,f2,f3,f4,f5⟩:=hf it (by simp)
  obtain⟨ha,hi⟩:=hg
  obtain⟨ho,hz,_,vs,r,D⟩:=I.hok a _ ha
  have hl:kvs.length=vs.length:=Paired.length r
  obtain⟨⟨k,x⟩,hx⟩:∃p,kvs[i]? =some p:=⟨kvs[i],by simp[hi]⟩
  obtain⟨u,hu⟩:=KV.at_ r hx
  rw[hl]at st
  refine wpAny_pyNext_dict_item st (vf ho hep D) hu fun key h' hk st' sb=>?_
  have I1:Inv X γ σ H {s with heap:=h'}:=I.turned (t':=s.toks) (fun b o hb e=>(sb.2 b hb).trans e) f0 f1 f3 f4 f5
  rw[<-hl]at st'
  obtain⟨oi,e,c,d⟩:=id st'
  exact⟨key,rfl,uY (s:={s with heap:=h'}) e c d (by decide) ⟨kV k,H,I1,Rp hk,⟨rfl,k,x,hx,rfl⟩,st',fun b hb=>(hf b hb).1⟩⟩
 done:=by
  intro X hP hw hK hc i γ s σ H E I hf st hg
  subst hP hw hK
  obtain⟨f0,f1,f2,f3,f4,f5⟩:=hf it (by simp)
  obtain⟨ha,hi⟩:=hg
  obtain⟨ho,hz,_,vs,r,D⟩:=I.hok a _ ha
  have hl:kvs.length=vs.length:=Paired.length r
  rw[hl]at st
  exact wpAny_pyNext_dict_end (I.ok.hd hc) st (vf ho hep D) (by simp;omega) fun h' eb=>⟨rfl,I.turned (t':=s.toks) (fun b o hb e=>eb b o hb e) f0 f1 f3 f4 f5⟩
 self:=fun A i s Q E st h=>wpAny_pyIter_keyiter st h
end
section
noncomputable def Itq(a:Addr)(o:Obj)(xs:List SV):It:=⟨fun i H=>H a=some (.frz o (.dS xs))/\i<xs.length,fun i H v H'=>H'=H/\∃x,xs[i]? =some x/\v=.ref x.2.1,fun i H=>H a=some (.frz o (.dS xs))/\xs.length<=i⟩
theorem HN{o:Obj}{xs:List SV}(ha:H a=some (.frz o (.dS xs))){ks ds:List D}(hk:gq K H ks ds xs)(hz:xs.length<=sizeLine):Gives K (Itq a o xs) ks H where
 go:=fun H1 p i d e=>by
  have:=(QCz.mp e).1
  rw[hk.len.1]at this
  exact⟨p.frzs _ _ _ ha,this⟩
 yld:=fun H1 p i d e v H2 y=>by
  obtain⟨rfl,x,e1,rfl⟩:=y
  obtain⟨w,w1,w2⟩:=hk.2.2.1.get e
  rw[QFz,e1]at w1
  cases w1
  exact⟨w2.mono p,.inl rfl⟩
 stop:=fun H1 p i hi=>by rw[hk.len.1]at hi;exact⟨p.frzs _ _ _ ha,hi⟩
 len:=by rw[hk.len.1];exact hz
end
section
def Wj{xs:List SV}{ys:List (SK×Addr×Value)}{x:SV}(pr:Paired Oo xs ys):∀{i:Nat},xs[i]? =some x->∃y,ys[i]? =some y/\y.2.1=x.2.1:=by
 induction pr with
 |nil=>intro i e;simp at e
 |cons h t ih=>
  intro i e
  cases i with
  |zero=>
   simp at e
   subst e
   exact⟨_,rfl,h.2.1.symm⟩
  |succ i=>exact ih (by simpa using e)
def vO{H:Hp}{h:Heap}{a:Addr}{o:Obj}{es:Array DictEntry}{ep:Nat}{xs:List SV}(ok:nF P w H h)(ha:H a=some (.frz o (.dS xs)))(hep:o.data=.dict es ep):
  h.get? a=some o/\xs.length<=sizeLine/\(a==sysModules)=false/\es.size=xs.length/\o7 h a es ep/\∀(i:Nat)(x:SV),xs[i]? =some x->∃e:DictEntry,es[i]? =some e/\e.key=Value.ref x.2.1:=by
 obtain⟨ho,z,y,nd,ys,o',es',ep',pr,h1,h2,h3,h4⟩:=ok a _ ha
 rw[ho]at h1
 cases h1
 rw[hep]at h3
 cases h3
 have l:es.size=ys.length:=by rw[<-Array.length_toList,h4,QAq]
 refine⟨ho,z,y,l.trans (Paired.length pr).symm,⟨o,ho,h2,hep⟩,fun i x e=>?_⟩
 obtain⟨q,e1,e2⟩:=Wj pr e
 refine⟨entryOfKey (dU P w) q,?_,by rw[<-e2];rfl⟩
 rw[<-Array.getElem?_toList,h4,QFz,e1]
 rfl
theorem Jh(it a:Addr)(o:Obj)(es:Array DictEntry)(xs:List SV)(ep:Nat)(hep:o.data=.dict es ep):
  Turn P w K tg (Itq a o xs) [it] it (fun i h=>h.IsKeyIter it a i es.size ep) where
 mem:=by simp
 obj:=fun i h st b hb=>by
  have e:b=it:=by simpa using hb
  subst e
  obtain⟨o,e,_,d⟩:=st
  exact⟨o,e,fun v z=>by rw[d]at z;cases z⟩
 keep:=fun i h h' st k=>st.at fun o e=>k it (by simp) o e
 item:=by
  intro X hP hw hK hc i γ s σ H E I hf st hg
  subst hP hw hK
  obtain⟨f0,f1,f2,f3,f4,f5⟩:=hf it (by simp)
  obtain⟨ha,hi⟩:=hg
  obtain⟨ho,hz,_,sz,B,g⟩:=vO I.hok ha hep
  obtain⟨x,hx⟩:∃p,xs[i]? =some p:=⟨xs[i],by simp[hi]⟩
  obtain⟨e,e1,e2⟩:=g i x hx
  refine vG st B e1 fun h' st' sb=>?_
  have I1:Inv X γ σ H {s with heap:=h'}:=I.turned (t':=s.toks) (fun b o hb e=>(sb.2 b hb).trans e) f0 f1 f3 f4 f5
  obtain⟨oi,e,c,d⟩:=id st'
  exact⟨_,rfl,uY (s:={s with heap:=h'}) e c d (by decide) ⟨.ref x.2.1,H,I1,e2,⟨rfl,x,hx,rfl⟩,st',fun b hb=>(hf b hb).1⟩⟩
 done:=by
  intro X hP hw hK hc i γ s σ H E I hf st hg
  subst hP hw hK
  obtain⟨f0,f1,f2,f3,f4,f5⟩:=hf it (by simp)
  obtain⟨ha,hi⟩:=hg
  obtain⟨ho,hz,_,sz,B,g⟩:=vO I.hok ha hep
  exact zJ (I.ok.hd hc) st B (by omega) fun h' eb=>⟨rfl,I.turned (t':=s.toks) (fun b o hb e=>eb b o hb e) f0 f1 f3 f4 f5⟩
 self:=fun A i s Q E st h=>wpAny_pyIter_keyiter st h
end
section
theorem LC{γ:QQz}{σ:St}{H:Hp}{s:Shared}{R:It->Hp->Prop}{d:D}{xs:List D}{v:V}{u:Value}(I:Inv X γ σ H s)(rv:RelV v u)(hd:bh X.K H d v)(hi:items d=some xs)(q:∀J,Gives X.K J xs H->R J H):
  wpAny (model X.prog X.w) X.A (pyIter u) (PIE X γ σ tg R) X.xe s:=by
 have fp:∀(s':Shared),s.heap.objs.size<=s'.heap.objs.size->True:=fun _ _=>trivial
 cases d with
 |tup ds=>
  cases hi
  obtain⟨a,vs,rfl,hq,l⟩:=b7 hd
  cases rv
  obtain⟨its,r,p,hz⟩:=I.tuple hq
  refine wpAny_pyIter_tuple (show s.heap.IsTuple a its.toArray from p) ?_
  refine⟨s.heap.objs.size,[s.heap.objs.size],_,_,H,rfl,I.kept (t':=s.toks) fun b o e=>QWq _ e,z6 a _,⟨_,Qzq _ rfl,rfl,rfl⟩,fun b hb=>?_,q _ (HJ hq l hz)⟩
  have e:b=s.heap.objs.size:=by simpa using hb
  subst e
  exact I.ue (QVz _) (I.hok.fresh (QVz _))
 |lst ds=>
  cases hi
  obtain⟨a,vs,rfl,hq,l⟩:=cT hd
  cases rv
  obtain⟨its,r,p,hz⟩:=I.list hq.sq
  refine wpAny_pyIter_list p.isList ?_
  refine⟨s.heap.objs.size,[s.heap.objs.size],_,_,H,rfl,I.kept (t':=s.toks) fun b o e=>QWq _ e,Gf a _,⟨_,Qzq _ rfl,rfl,rfl⟩,fun b hb=>?_,q _ (HQ hq l hz)⟩
  have e:b=s.heap.objs.size:=by simpa using hb
  subst e
  exact I.ue (QVz _) (I.hok.fresh (QVz _))
 |str x=>
  simp only[items]at hi
  split at hi
  ·rename_i hf
   cases hi
   cases hd
   obtain⟨t,rfl⟩:=rv
   have hz:x.cps.size<=sizeLine:=dI hf
   have fin:∀b∈[s.heap.objs.size],fM X γ H b:=fun b hb=>by
    have e:b=s.heap.objs.size:=by simpa using hb
    subst e
    exact I.ue (QVz _) (I.hok.fresh (QVz _))
   cases ha:x.cps.all (· <128)
   ·refine wpAny_pyIter_wide ha ?_
    exact⟨s.heap.objs.size,[s.heap.objs.size],_,_,H,rfl,I.kept (t':=s.toks) fun b o e=>QWq _ e,xT _ x t "str_iterator" (fun A' hA=>Walks.strWide hA _ x t) (by decide) (fun A i s Q E st h=>wpAny_pyIter_striter_wide st h),⟨⟨_,Qzq _ rfl,rfl,rfl⟩,QIq _⟩,fin,q _ (u5 hz)⟩
   ·refine wpAny_pyIter_ascii ha ?_
    exact⟨s.heap.objs.size,[s.heap.objs.size],_,_,H,rfl,I.kept (t':=s.toks) fun b o e=>QWq _ e,xT _ x t "str_ascii_iterator" (fun A' hA=>Walks.strAscii hA _ x t) (by decide) (fun A i s Q E st h=>wpAny_pyIter_striter_ascii st h),⟨⟨_,Qzq _ rfl,rfl,rfl⟩,QIq _⟩,fin,q _ (u5 hz)⟩
  ·cases hi
 |cJ ks ds=>
  cases hi
  unfold bh at hd
  obtain⟨a,o,kvs,rfl,ha,rfl,l⟩:=hd
  cases rv
  obtain⟨ho,hz,hS,vs,r,D⟩:=I.hok a _ ha
  have hl:kvs.length=vs.length:=Paired.length r
  obtain⟨ep,o',es,e1,e2,e3,e4⟩:=D.dictAt
  rw[ho]at e1
  cases e1
  refine wpAny_pyIter_dict hS ⟨o,es,ho,e2,e3,e4⟩ ?_
  rw[<-hl]
  refine⟨s.heap.objs.size,[s.heap.objs.size],_,_,H,rfl,I.kept (t':=s.toks) fun b o e=>QWq _ e,Ji _ a o es kvs ep e3,⟨_,Qzq _ rfl,rfl,rfl⟩,fun b hb=>?_,q _ (HR ha hz)⟩
  have e:b=s.heap.objs.size:=by simpa using hb
  subst e
  exact I.ue (QVz _) (I.hok.fresh (QVz _))
 |gw ks ds=>
  cases hi
  unfold bh at hd
  obtain⟨a,o,kvs,rfl,ha,hk⟩:=hd
  cases rv
  obtain⟨es,ep,e3⟩:∃es ep,o.data=.dict es ep:=by
   obtain⟨ho,z,y,nd,ys,o',es',ep',pr,h1,h2,h3,h4⟩:=I.hok a _ ha
   rw[ho]at h1
   cases h1
   exact⟨_,_,h3⟩
  obtain⟨ho,hz,hS,sz,B,g⟩:=vO I.hok ha e3
  refine vC hS B ?_
  refine⟨s.heap.objs.size,[s.heap.objs.size],_,_,H,rfl,I.kept (t':=s.toks) fun b o e=>QWq _ e,Jh _ a o es kvs ep e3,⟨_,Qzq _ rfl,rfl,rfl⟩,fun b hb=>?_,q _ (HN ha hk hz)⟩
  have e:b=s.heap.objs.size:=by simpa using hb
  subst e
  exact I.ue (QVz _) (I.hok.fresh (QVz _))
 |_=>cases hi
def aca(h:GE X W c m e):GI X W c m tg e:=by
 intro env γ s σ H R I q
 refine bZ (h.d γ s σ H (fun v H'=>∃d xs,bh X.K H' d v/\items d=some xs/\∀J,Gives X.K J xs H'->R J H') I ⟨env,q.1,?_⟩) fun u s1⟨v,H1,I1,r1,d,xs,hd,hi,q1⟩=>LC I1 r1 hd hi q1
 have q2:=q.2
 cases r:ev c m env with
 |bad=>rw[r]at q2;exact q2
 |exc k δ=>rw[r]at q2;exact q2
 |ok x δ=>
  rw[r]at q2
  obtain⟨d,xs,ed,ei,q3⟩:=q2
  cases x with
  |val d'=>cases ed;exact fun v H' N Dv=>⟨d,xs,Dv,ei,fun J G=>q3 J H' N G⟩
  |new o=>cases ed;exact fun v H' N Dv=>⟨o.d,xs,Dv,ei,fun J G=>q3 J H' N G⟩
  |ref i=>cases ed
end
noncomputable def tyN:Ty->String
 |.tup=>"tuple"
 |.lst=>"list"
 |.str=>"str"
 |.bool=>"bool"
 |.int=>"int"
section
noncomputable def aeS(K:QQq):List V->Hp->VK->Prop:=fun xs H Q=>∃d v t,xs=[v,.ty (tyN t)]/\bh K H d v/\Q (.bl (oF t d)) H
def Nt:fG X (.builtin "isinstance") (aeS X.K):=by
 intro γ s σ H xs us Q I r h
 obtain⟨d,v,t,rfl,hd,q⟩:=h
 obtain⟨u,u',rfl,ru,rt⟩:=Vals.two r
 cases rt
 have fin:∀k,Q _ H->EP X γ σ Q _ {s with toks:=s.toks+1}:=fun k z=>⟨.bl k,H,I.tok _,rfl,z⟩
 have fin0:∀k,Q _ H->EP X γ σ Q _ s:=fun k z=>⟨.bl k,H,I,rfl,z⟩
 cases d with
 |non=>
  cases hd;cases ru
  cases t with
  |tup=>exact IsiPair.NoneType_tuple (fin _ q)
  |lst=>exact IsiPair.NoneType_list (fin _ q)
  |str=>exact IsiPair.NoneType_str (fin _ q)
  |bool=>exact IsiPair.NoneType_bool (fin _ q)
  |int=>exact IsiPair.NoneType_int (fin _ q)
 |bl k=>
  cases hd;cases ru
  cases t with
  |tup=>exact IsiPair.bool_tuple (fin _ q)
  |lst=>exact IsiPair.bool_list (fin _ q)
  |str=>exact IsiPair.bool_str (fin _ q)
  |bool=>exact IsiPair.bool_bool (fin0 _ q)
  |int=>exact IsiPair.bool_int (fin0 _ q)
 |int k=>
  cases hd;obtain⟨tk,rfl⟩:=ru
  cases t with
  |tup=>exact IsiPair.int_tuple (fin _ q)
  |lst=>exact IsiPair.int_list (fin _ q)
  |str=>exact IsiPair.int_str (fin _ q)
  |bool=>exact IsiPair.int_bool (fin _ q)
  |int=>exact IsiPair.int_int (fin0 _ q)
 |str k=>
  cases hd;obtain⟨tk,rfl⟩:=ru
  cases t with
  |tup=>exact IsiPair.str_tuple (fin _ q)
  |lst=>exact IsiPair.str_list (fin _ q)
  |str=>exact IsiPair.str_str (fin0 _ q)
  |bool=>exact IsiPair.str_bool (fin _ q)
  |int=>exact IsiPair.str_int (fin _ q)
 |tup ds=>
  obtain⟨a,vs,rfl,hq,_⟩:=b7 hd
  cases ru
  obtain⟨its,_,⟨o,e,cl,_⟩,_⟩:=I.tuple hq
  cases t with
  |tup=>exact IsiPair.tuple_tuple e cl (fin0 _ q)
  |lst=>exact IsiPair.tuple_list e cl (fin _ q)
  |str=>exact IsiPair.tuple_str e cl (fin _ q)
  |bool=>exact IsiPair.tuple_bool e cl (fin _ q)
  |int=>exact IsiPair.tuple_int e cl (fin _ q)
 |lst ds=>
  obtain⟨a,vs,rfl,hq,_⟩:=cT hd
  cases ru
  obtain⟨its,_,⟨o,n,e,cl,_⟩,_⟩:=I.list hq.sq
  cases t with
  |tup=>exact IsiPair.list_tuple e cl (fin _ q)
  |lst=>exact IsiPair.list_list e cl (fin0 _ q)
  |str=>exact IsiPair.list_str e cl (fin _ q)
  |bool=>exact IsiPair.list_bool e cl (fin _ q)
  |int=>exact IsiPair.list_int e cl (fin _ q)
 |cJ ks ds=>
  obtain⟨a,o,kvs,rfl,ha,_⟩:=hd
  cases ru
  obtain⟨e,_,_,_,_,o',_,_,e',ex,_⟩:=I.hok a _ ha
  rw[e]at e'
  cases e'
  have cl:=ex.1
  cases t with
  |tup=>exact IsiPair.dict_tuple e cl (fin _ q)
  |lst=>exact IsiPair.dict_list e cl (fin _ q)
  |str=>exact IsiPair.dict_str e cl (fin _ q)
  |bool=>exact IsiPair.dict_bool e cl (fin _ q)
  |int=>exact IsiPair.dict_int e cl (fin _ q)
 |gw ks ds=>
  obtain⟨a,o,kvs,rfl,ha,_⟩:=hd
  cases ru
  obtain⟨e,_,_,_,_,o',_,_,_,e',ex,_⟩:=I.hok a _ ha
  rw[e]at e'
  cases e'
  have cl:=ex.1
  cases t with
  |tup=>exact IsiPair.dict_tuple e cl (fin _ q)
  |lst=>exact IsiPair.dict_list e cl (fin _ q)
  |str=>exact IsiPair.dict_str e cl (fin _ q)
  |bool=>exact IsiPair.dict_bool e cl (fin _ q)
  |int=>exact IsiPair.dict_int e cl (fin _ q)
def Yg{x:Str}(ha:GE X W c m a)(hx:x=Str.ofString (tyN t))(hg:Gl X x)(hm:X.mg x=none)(hi:Gl X "isinstance")(hmi:X.mg "isinstance"=none)
  (hs:starEach [a,.Name x p'] X.env=(false,eval a X.env)::starEach [.Name x p'] X.env):
  GE X W c (.isi m t) (.Call (.Name "isinstance" p) [a,.Name x p'] [] pos):=by
 intro env
 have hv:bootBuiltins x=some (.type (tyN t)):=by subst hx;cases t<;>kernel_rfl
 have N:PE X (.Name x p') (tC (.ty _)):=QK hg hm hv rfl (by subst hx;cases t<;>decide+kernel) (by subst hx;cases t<;>decide+kernel)
 exact PE.imp (qM Nt hi hmi (by kernel_rfl) (cD ha.d (cD N eO rfl) hs) (by decide+kernel) (by decide+kernel) hs rfl) fun σ H Q q=>⟨env,aV q fun d δ v H1 N1 D1 q1=>⟨d,v,t,rfl,D1,dR q1 rfl⟩⟩
end
def pW(X:Cx)(r:List V->Hp->VK->Prop)(f:D->Option Rv):Prop:=
 ∀(env:Ev)(σ:St)(H:Hp)(x:D)(z:Rv)(v:V)(Q:VK),Sat X.K env σ H->cV X.K H x v->f x=some z->(∀w H',Nx X.K env σ H env H'->gC X.K σ H H' z w->Q w H')->r [v] H Q
section
def Nv{r:List V->Hp->VK->Prop}(R:pW X r (b1 bb)){σ:St}{Q:VK}(hv:m.aB=none)(q:tM X.K W env (ev c (.bi bb m) env) σ H Q):aD X W c m σ H fun v H1=>r [v] H1 Q:=by
 simp only[nG,hv]at q
 refine⟨env,aV q fun d δ v H1 N1 D1 q1=>?_⟩
 obtain⟨z,ez,S,q3⟩:=cC q1
 exact R δ σ H1 d z v Q S (.inl D1) ez q3
def FT{r:List V->Hp->VK->Prop}(R:pW X r (b1 bb)){σ:St}{Q:VK}(hv:m.aB=some k)(q:tM X.K W env (ev c (.bi bb m) env) σ H Q):Jr k σ H fun v H1=>r [v] H1 Q:=by
 simp only[nG,hv]at q
 obtain⟨z,ez,S,q3⟩:=cC q
 cases e0:aR k env with
 |none=>rw[e0]at ez;cases ez
 |some d0=>
  rw[e0]at ez
  obtain⟨u,eu,Du⟩:=cG S e0
  exact⟨u,eu,R env σ H d0 z u Q S Du ez q3⟩
theorem wO{id:String}{x:Str}(C:fG X (.builtin id) r)(R:pW X r (b1 bb))(ha:GE X W c m a)(hv:∀k,m.aB=some k->∃x p,a=.Name x p/\gr X k x)
  (hg:Gl X x)(hm:X.mg x=none)(hb:bootBuiltins x=some (.builtin id))(hn:x≠"__name__")(hd:(x==("__debug__":Str))=false)(hs:starEach [a] X.env=[(false,eval a X.env)]):
  GE X W c (.bi bb m) (.Call (.Name x p) [a] [] pos):=by
 intro env
 cases q:m.aB with
 |none=>exact PE.imp (qM C hg hm hb (cD ha.d eO hs) hn hd hs rfl) fun σ H Q h=>Nv R q h
 |some k=>
  obtain⟨y,p',rfl,nm⟩:=hv k q
  exact PE.imp (qM C hg hm hb (cD nm.pe eO hs) hn hd hs rfl) fun σ H Q h=>FT R q h
theorem By{id:String}{x:Str}(C:fG X (.type id) r)(R:pW X r (b1 bb))(ha:GE X W c m a)(hv:∀k,m.aB=some k->∃x p,a=.Name x p/\gr X k x)
  (hg:Gl X x)(hm:X.mg x=none)(hb:bootBuiltins x=some (.type id))(hn:x≠"__name__")(hd:(x==("__debug__":Str))=false)(hs:starEach [a] X.env=[(false,eval a X.env)]):
  GE X W c (.bi bb m) (.Call (.Name x p) [a] [] pos):=by
 intro env
 cases q:m.aB with
 |none=>exact PE.imp (nU C hg hm hb (cD ha.d eO hs) hn hd hs rfl) fun σ H Q h=>Nv R q h
 |some k=>
  obtain⟨y,p',rfl,nm⟩:=hv k q
  exact PE.imp (nU C hg hm hb (cD nm.pe eO hs) hn hd hs rfl) fun σ H Q h=>FT R q h
def cV.seq{H:Hp}{xs:List D}(h:cV K H d v)(e:bA d=some xs):∃a vs,v=.ref a/\(jx K H a vs\/jq K H a vs)/\aq K H xs vs:=by
 cases d with
 |tup ys=>cases e;exact h.PX
 |lst ys=>cases e;exact h.JF
 |_=>cases e
theorem cV.cJ{H:Hp}{v:V}(h:cV K H (.cJ ks ds) v):∃a kvs,v=.ref a/\Rd H a (.dK kvs)/\ks=kvs.map (fun p=>dC p.1)/\aq K H ds (kvs.map (·.2)):=by
 rcases h with h|⟨o,a,q,rfl,u,ha,hq⟩
 ·unfold bh at h
  obtain⟨a,o,kvs,rfl,ha,k,l⟩:=h
  exact⟨a,kvs,rfl,.inr ⟨o,ha⟩,k,l⟩
 ·cases o<;>cases q
  obtain⟨kvs,rfl,k,l⟩:=hq
  exact⟨a,kvs,rfl,.inl ha,k,l⟩
theorem cV.gw{K:QQq}{H:Hp}{ks ds:List D}{v:V}(h:cV K H (.gw ks ds) v):∃a xs,v=.ref a/\Rd H a (sD xs)/\gq K H ks ds xs:=by
 rcases h with h|⟨o,a,q,rfl,u,ha,hq⟩
 ·unfold bh at h
  obtain⟨a,o,xs,rfl,ha,l⟩:=h
  exact⟨a,xs,rfl,.inr ⟨o,ha⟩,l⟩
 ·cases o<;>cases q
  obtain⟨xs,rfl,l⟩:=hq
  exact⟨a,xs,rfl,.inl ha,l⟩
noncomputable def Wa(K:QQq):List V->Hp->VK->Prop:=fun xs H Q=>(∃x n,xs=[x]/\YK K x H n/\Q (.int n) H)\/(∃a kvs,xs=[.ref a]/\Rd H a (.dK kvs)/\Q (.int kvs.length) H)\/∃a ys,xs=[.ref a]/\Rd H a (sD ys)/\Q (.int ys.length) H
def Ib:fG X (.builtin "len") (Wa X.K):=by
 intro γ s σ H xs us Q I r h
 rcases h with h|⟨a,kvs,rfl,e,q⟩|⟨a,ys,rfl,e,q⟩
 ·exact Nr γ s σ H xs us Q I r h
 ·obtain⟨u,rfl,ru⟩:=vals1 r
  cases ru
  exact ack I e fun t s' I'=>⟨.int kvs.length,H,I',⟨t,rfl⟩,q⟩
 ·obtain⟨u,rfl,ru⟩:=vals1 r
  cases ru
  exact aaO I e fun t s' I'=>⟨.int ys.length,H,I',⟨t,rfl⟩,q⟩
def Qh:pW X (Wa X.K) (b1 .len):=by
 intro env σ H x z v Q S Dx e q
 have go:∀(n:Nat),Hl x=some n->YK X.K v H n->Wa X.K [v] H Q:=fun n en ln=>by
  simp only[b1,en]at e
  cases e
  exact .inl ⟨v,n,rfl,ln,q _ H (Nx.refl S) rfl⟩
 cases x with
 |tup xs=>
  obtain⟨a,vs,rfl,hq,l⟩:=Dx.PX
  refine go xs.length rfl ?_
  rcases hq with hq|hq
  ·exact .inl ⟨vs,hq,l.length⟩
  ·exact .inr ⟨vs,hq,l.length⟩
 |lst xs=>
  obtain⟨a,vs,rfl,hq,l⟩:=Dx.JF
  refine go xs.length rfl ?_
  rcases hq with hq|hq
  ·exact .inl ⟨vs,hq,l.length⟩
  ·exact .inr ⟨vs,hq,l.length⟩
 |str y=>
  have:=Dx.str
  subst this
  by_cases hf:fits y.length=true
  ·exact go y.length (by simp[Hl,hf]) ⟨dI hf,rfl⟩
  ·simp[b1,Hl,hf]at e
 |cJ ks ds=>
  cases e
  obtain⟨a,kvs,rfl,hr,hk,l⟩:=Dx.cJ
  have e2:ks.length=kvs.length:=by rw[hk,QAq]
  exact .inr (.inl ⟨a,kvs,rfl,hr,by rw[<-e2];exact q _ H (Nx.refl S) rfl⟩)
 |gw ks ds=>
  cases e
  obtain⟨a,xs,rfl,hr,l⟩:=Dx.gw
  exact .inr (.inr ⟨a,xs,rfl,hr,by rw[<-l.len.1];exact q _ H (Nx.refl S) rfl⟩)
 |_=>cases e
def Qi:pW X (fun xs H Q=>(∃i,xs=[.int i]/\Q (.int i) H)\/∃k,xs=[.bl k]/\Q (.int (if k then 1 else 0)) H) (b1 .int):=by
 intro env σ H x z v Q S Dx e q
 cases x with
 |int i=>
  cases e
  have:=Dx.int
  subst this
  exact .inl ⟨i,rfl,q _ H (Nx.refl S) rfl⟩
 |bl k=>
  cases e
  rcases Dx with h|⟨o,a,q',_⟩
  ·cases h
   exact .inr ⟨k,rfl,q _ H (Nx.refl S) (by cases k<;>rfl)⟩
  ·cases o<;>cases q'
 |_=>cases e
def Gx:pW X (fun xs H Q=>∃p ys,xs=[.ref p]/\((jx X.K H p ys/\∀l,H l=none->Q (.ref l) (upd H l (.tup ys)))\/(jq X.K H p ys/\Q (.ref p) H))) (b1 .tuple):=by
 intro env σ H x z v Q S Dx e q
 simp only[b1]at e
 cases es:bA x with
 |none=>rw[es]at e;cases e
 |some xs=>
  rw[es]at e
  cases e
  obtain⟨a,vs,rfl,hq,l⟩:=Dx.seq es
  refine⟨a,vs,rfl,?_⟩
  rcases hq with hq|hq
  ·refine .inl ⟨hq,fun p hp=>?_⟩
   have N:=Nx.laid (o:=.tup vs) S hp
   exact q _ _ N (dF (.inl (.inl aN)) (l.mono N.pers))
  ·exact .inr ⟨hq,q _ H (Nx.refl S) (dF hq l)⟩
def JP:pW X (fun xs H Q=>(∃p ys,xs=[.ref p]/\(jx X.K H p ys\/jq X.K H p ys)/\∀l,H l=none->Q (.ref l) (upd H l (.lst ys)))\/∃a ks,xs=[.ref a]/\Rd H a (sD ks)/\∀l,H l=none->Q (.ref l) (upd H l (.lst (ks.map fun x=>.ref x.2.1)))) (b1 .list):=by
 intro env σ H x z v Q S Dx e q
 simp only[b1]at e
 have go:∀{xs:List D},bA x=some xs->O6 .list xs=some z->∃p ys,[v]=[V.ref p]/\(jx X.K H p ys\/jq X.K H p ys)/\∀l,H l=none->Q (.ref l) (upd H l (.lst ys)):=fun es e=>by
  cases e
  obtain⟨a,vs,rfl,hq,l⟩:=Dx.seq es
  exact⟨a,vs,rfl,hq,fun p hp=>q _ _ (Nx.laid S hp) (j5 S l hp)⟩
 cases x with
 |gw ks ds=>
  cases e
  obtain⟨a,xs,rfl,hr,l⟩:=Dx.gw
  exact .inr ⟨a,xs,rfl,hr,fun p hp=>q _ _ (Nx.laid S hp) (j5 S l.2.2.1 hp)⟩
 |tup xs=>exact .inl (go rfl e)
 |lst xs=>exact .inl (go rfl e)
 |_=>cases e
def BoolsAre.get{bs:List Bool}(h:BoolsAre vs bs):∀{i:Nat}{v:Value},vs[i]? =some v->∃b,bs[i]? =some b/\v=.bool b:=by
 induction h with
 |nil=>intro i v e;simp at e
 |cons b t ih=>
  intro i v e
  cases i with
  |zero=>simp at e;subst e;exact⟨b,rfl,rfl⟩
  |succ i=>exact ih (by simpa using e)
def range_all(bs:List Bool):((List.range bs.length).all fun i=>bs.getD i false)=bs.all id:=by
 rw[Bool.eq_iff_iff]
 simp only[List.all_eq_true,List.mem_range,id]
 constructor
 ·intro h b hb
  obtain⟨i,hi,e⟩:=List.mem_iff_getElem.mp hb
  have:=h i hi
  rw[List.getD_eq_getElem?_getD,QXq hi]at this
  simpa[e]using this
 ·intro h i hi
  rw[List.getD_eq_getElem?_getD,QXq hi]
  exact h _ (List.getElem_mem hi)
def range_any(bs:List Bool):((List.range bs.length).any fun i=>bs.getD i false)=bs.any id:=by
 rw[Bool.eq_iff_iff]
 simp only[List.any_eq_true,List.mem_range,id]
 constructor
 ·rintro ⟨i,hi,h⟩
  rw[List.getD_eq_getElem?_getD,QXq hi]at h
  exact⟨bs[i],List.getElem_mem hi,by simpa using h⟩
 ·rintro ⟨b,hb,h⟩
  obtain⟨i,hi,e⟩:=List.mem_iff_getElem.mp hb
  exact⟨i,hi,by rw[List.getD_eq_getElem?_getD,QXq hi];simpa[e]using h⟩
noncomputable def Zg(K:QQq)(f:List Bool->Bool):List V->Hp->VK->Prop:=fun xs H Q=>∃p vs ds bs,xs=[.ref p]/\(jx K H p vs\/jq K H p vs)/\aq K H ds vs/\bools ds=some bs/\Q (.bl (f bs)) H
def o8{w:World}{its:List Value}(hb:BoolsAre its bs):TruthOf P w A (fun i v=>its.toArray[i]? =some v) fun i=>bs.getD i false:=by
 intro i v s Q E hv h
 obtain⟨b,e,rfl⟩:=hb.get (by simpa using hv)
 have h:Q (bs.getD i false) s:=h
 rw[List.getD_eq_getElem?_getD,e]at h
 exact wpAny_truthy_bool h
def sy{id:String}{g:Nat->(Nat->Bool)->Bool}(hc:X.calm=true)(hg:∀bs:List Bool,g bs.length (fun i=>bs.getD i false)=f bs)
  (hcall:∀{E:QZq}{s:Shared}{x:Value}{Q:QZq},
   wpAny (model X.prog X.w) X.A.in1 (pyIter x) (fun it Φ=>∃I fp wr n P St tr,it=.ref I/\Walks X.prog X.w X.A.in1 I fp wr n P St/\St 0 Φ.heap/\TruthOf X.prog X.w X.A.in1 P tr/\
    ∀h' tk,(∀b o,b∉wr->Φ.heap.get? b=some o->h'.get? b=some o)->Q (.bool (g n tr)) {Φ with heap:=h',toks:=tk}) E s->wpAny (model X.prog X.w) X.A (call (.builtin id) [x]) Q E s):
  fG X (.builtin id) (Zg X.K f):=by
 intro γ s σ H xs us Q I r h
 obtain⟨a,vs,ds,bs,rfl,hq,l,hb,q⟩:=h
 obtain⟨u,rfl,ru⟩:=Vals.one r
 cases ru
 have hh:X.A.in1.handled=none:=I.ok.hd hc
 refine hcall ?_
 have fin:∀its o,Vals vs its->∀h' tk,(∀b o',b∉[s.heap.objs.size]->(s.heap.push o).get? b=some o'->h'.get? b=some o')->EP X γ σ Q (.bool (g its.toArray.size fun i=>bs.getD i false)) {s with heap:=h',toks:=tk}:=fun its o rv h' tk k=>by
  have hl:its.toArray.size=bs.length:=by
   have:=(fV hb l rv).length
   simpa using this
  rw[hl,hg]
  refine⟨.bl (f bs),H,I.kept fun b o' e=>k b o' ?_ (QWq _ e),rfl,q⟩
  simp only[QDz]
  exact Qvz (Qqz e)
 rcases hq with hq|hq
 ·obtain⟨its,rv,p,hz⟩:=I.list hq
  have hlt:a≠s.heap.objs.size:=by
   obtain⟨o,n,e,_⟩:=p
   exact Qvz (Qqz e)
  refine wpAny_pyIter_list p.isList ⟨s.heap.objs.size,[s.heap.objs.size,a],[s.heap.objs.size],its.toArray.size,_,_,_,rfl,Walks.list hh _ a hlt its.toArray,⟨⟨_,Qzq _ rfl,rfl,rfl⟩,p.isList.at fun o e=>QWq _ e⟩,o8 (fV hb l rv),fin its _ rv⟩
 ·obtain⟨its,rv,p,hz⟩:=I.tuple hq
  have hlt:a≠s.heap.objs.size:=by
   obtain⟨o,e,_⟩:=p
   exact Qvz (Qqz e)
  have p':s.heap.IsTuple a its.toArray:=p
  refine wpAny_pyIter_tuple p' ⟨s.heap.objs.size,[s.heap.objs.size,a],[s.heap.objs.size],its.toArray.size,_,_,_,rfl,Walks.tuple hh _ a hlt its.toArray,⟨⟨_,Qzq _ rfl,rfl,rfl⟩,p'.at fun o e=>QWq _ e⟩,o8 (fV hb l rv),fin its _ rv⟩
def Ii(hc:X.calm=true):fG X (.builtin "all") (Zg X.K (·.all id)):=sy hc range_all call_all_walk
def Ig(hc:X.calm=true):fG X (.builtin "any") (Zg X.K (·.any id)):=sy hc range_any call_any_walk
def uz{f:List Bool->Bool}(hb:∀xs,O6 bb xs=(bools xs).map fun bs=>.val (.bl (f bs)))(h1:∀x,b1 bb x=(bA x).bind (O6 bb)):pW X (Zg X.K f) (b1 bb):=by
 intro env σ H x z v Q S Dx e q
 rw[h1]at e
 cases es:bA x with
 |none=>rw[es]at e;cases e
 |some xs=>
  rw[es]at e
  simp only[Option.bind,hb]at e
  cases eb:bools xs with
  |none=>rw[eb]at e;cases e
  |some bs=>
   rw[eb]at e
   cases e
   obtain⟨a,vs,rfl,hq,l⟩:=Dx.seq es
   exact⟨a,vs,xs,bs,rfl,hq,l,eb,q _ H (Nx.refl S) rfl⟩
def Qk:pW X (Zg X.K (·.all id)) (b1 .all):=uz (fun _=>rfl) fun _=>rfl
def Qj:pW X (Zg X.K (·.any id)) (b1 .any):=uz (fun _=>rfl) fun _=>rfl
end
end Mini
end
section
namespace HT
open PySem PySem.Spec PyProof.Rows
section
def kZ{t sl:Addr}{vl vu:Value}{lo hi:Option Int}(ht:IsTup s.heap t items)(hs:s.heap.IsSliceOf sl vl vu .none)(pl:IsPart vl lo)(pu:IsPart vu hi)
  (hw:fD items.size 0 lo=0/\fD items.size items.size hi=items.size)(h:Q (.ref t) s):wpAny (model prog w) A (getItem (.ref t) (.ref sl)) Q E s:=by
 obtain⟨os,hos,hcs,hds⟩:=id hs
 unfold getItem
 try with_reducible refine Qqq ?_
 first|refine QKq _|skip
 refine QKq (wpAny_sequenceKey ht.typeIs (by decide) ?_)
 refine QKq (wpAny_callSpecial?_slot ht.typeIs PyProof.Rows.slot_tuple_getitem
  (Qzz PyProof.Rows.slot_tuple_getitem ht.typeIs entry_tuple_getitem ?_ (args_tuple_getitem _ _)))
 show wpAny _ _ (Builtin.Tuple.tupleItemsOf _>>=_) _ _ s
 refine QKq (tupleItemsOf_ ht ?_)
 refine QKq (wpAny_typeOf ⟨os,hos,hcs⟩ ?_)
 refine QKq (ir hs pl pu ?_)
 have hno:((((fD items.size 0 lo):Int)==0&&(1:Int)==1&&(fD items.size items.size hi-fD items.size 0 lo)==items.size)=true):=by
  rw[hw.1,hw.2];simp
 show wpAny _ _ (if (((fD items.size 0 lo):Int)==0&&1==1&&_==items.size)=true then _ else _) _ _ s
 rw[if_pos hno]
 exact QKq (QKq (wpAny_typeOf ht.typeIs (QKz (QKq (wpAny_rule (QKz ⟨_,rfl,QKz h⟩))))))
end
end HT
namespace Mini
open PySem L2
section
noncomputable def T7(K:QQq):V->Option Int->Option Int->Hp->VK->Prop:=fun x lo hi H Q=>∃a xs,x=.ref a/\jq K H a xs/\
 (HT.fD xs.length 0 lo=0/\HT.fD xs.length xs.length hi=xs.length)/\Q (.ref a) H
def PJ:SQ X (T7 X.K):=by
 intro γ s σ H x v vl vu lo hi sl Q I rx hs pl pu h
 obtain⟨a,xs,rfl,hx,hw,q⟩:=h
 cases rx
 obtain⟨its,r,ht,hz⟩:=I.tuple hx
 have hlen:its.toArray.size=xs.length:=by rw[Qyq];exact r.length.symm
 exact⟨"tuple",_,PyProof.Rows.slot_tuple_getitem.lookup,ht.typeIs,HT.kZ ht hs pl pu (by rw[hlen];exact hw) ⟨.ref a,H,I,rfl,q⟩⟩
noncomputable def aa5(K:QQq):V->Option Int->Option Int->Hp->VK->Prop:=fun x lo hi H Q=>aa3 K x lo hi H Q\/T7 K x lo hi H Q\/aa4 K x lo hi H Q
def V0:SQ X (aa5 X.K):=VR.or (PJ.or PK)
def qb n i d:clip n i=HT.fD n d (some i):=by
 unfold clip HT.fD
 dsimp only
 by_cases h:i<0
 ·rw[if_pos h,if_pos h]
  split
  ·omega
  ·split<;>omega
 ·rw[if_neg h,if_neg h,if_neg h]
  split<;>omega
def Yt{α:Type}(xs:List α)a b:(xs.take b).drop a=(xs.drop a).take (b-a):=by
 rw[List.drop_take]
def w5{H:Hp}{vs:List V}(l:aq K H ds vs)lo hi:aq K H (cut ds lo hi) (w6 vs lo hi):=by
 have hl:=l.length
 unfold cut w6
 rw[Yt]
 cases lo with
 |none=>
  cases hi with
  |none=>rw[HT.mD,HT.mD,<-hl];exact(l.drop _).take _
  |some j=>rw[HT.mD,<-hl,<-qb];exact(l.drop _).take _
 |some i=>
  cases hi with
  |none=>rw[HT.mD,<-hl,<-qb];exact(l.drop _).take _
  |some j=>rw[<-hl,<-qb,<-qb];exact(l.drop _).take _
def Ia{lo hi:Option Int}(h:HT.fD vs.length 0 lo=0/\HT.fD vs.length vs.length hi=vs.length):w6 vs lo hi=vs:=by
 unfold w6
 rw[h.1,h.2]
 simp
def Ac{env:Ev}{H:Hp}{z:Rv}{lo hi:Option Int}(S:Sat K env σ H)(D1:bh K H d v)(e:gR d lo hi=some z)(q:∀w H',Nx K env σ H env H'->gC K σ H H' z w->Q w H'):aa5 K v lo hi H Q:=by
 cases d with
 |tup xs=>
  cases e
  obtain⟨a,vs,rfl,hq,l⟩:=b7 D1
  by_cases hw:HT.fD vs.length 0 lo=0/\HT.fD vs.length vs.length hi=vs.length
  ·refine .inr (.inl ⟨a,vs,rfl,hq,hw,q _ H (Nx.refl S) ?_⟩)
   have:=w5 l lo hi
   rw[Ia hw]at this
   exact dF hq this
  ·refine .inl ⟨a,vs,rfl,hq,hw,fun p hp=>?_⟩
   have N:=Nx.laid (o:=.tup (w6 vs lo hi)) S hp
   exact q _ _ N (dF (.inl (.inl aN)) ((w5 l lo hi).mono N.pers))
 |lst xs=>
  cases e
  obtain⟨a,vs,rfl,hq,l⟩:=cT D1
  exact .inr (.inr ⟨a,vs,rfl,hq.sq,fun p hp=>q _ _ (Nx.laid S hp) (j5 S (w5 l lo hi) hp)⟩)
 |_=>cases e
def GO(X:Cx)(W:Wi)(c:Cf)(m:E)(eo:Option Expr):Prop:=(m=.noneE/\eo=Option.none)\/∃e,eo=Option.some e/\m.jL=false/\GE X W c m e
noncomputable def tPt(X:Cx)(W:Wi)(c:Cf)(m:E):TO:=fun σ H Q=>∃env,tD X.K W env (ev c m env) σ H fun v H1=>∀d,bh X.K H1 d v->∃o,cW m.jL d=some o/\Q o H1
def GO.po(h:GO X W c m eo):PO X eo (tPt X W c m):=by
 rcases h with ⟨rfl,rfl⟩|⟨e,rfl,hn,h⟩
 ·intro γ s σ H Q I q
  obtain⟨env,q⟩:=q
  obtain⟨o,e,z⟩:=q.2 .non H (Nx.refl q.1) rfl .non rfl
  cases e
  exact Qz γ s σ H Q I z
 ·intro γ s σ H Q I q
  obtain⟨env,q⟩:=q
  refine Qy h.d γ s σ H Q I ⟨env,q.1,?_⟩
  have q2:=q.2
  have go:∀d v H',bh X.K H' d v->(∀d,bh X.K H' d v->∃o,cW m.jL d=some o/\Q o H')->∃i,v=.int i/\Q (some i) H':=fun d v H' Dv z=>by
   obtain⟨o,e,z⟩:=z d Dv
   rw[hn]at e
   cases d with
   |int i=>cases e;exact⟨i,Dv,z⟩
   |_=>cases e
  cases r:ev c m env with
  |bad=>rw[r]at q2;exact q2
  |exc k δ=>rw[r]at q2;exact q2
  |ok x δ=>
   rw[r]at q2
   cases x with
   |val d=>exact fun v H' N Dv=>go d v H' Dv (q2 v H' N Dv)
   |new o=>exact fun v H' N Dv=>go o.d v H' Dv (q2 v H' N Dv)
   |ref i=>exact q2
def yH{H:Hp}{d d':D}{o:Option Int}(h:bh K H d v)(e:cW jL d=some o)(h':bh K H d' v):cW jL d'=some o:=by
 cases jL with
 |true=>exact e
 |false=>
  cases d with
  |int i=>
   subst h
   cases d' with
   |int j=>cases (h');exact e
   |non=>cases (h')
   |bl b=>cases (h')
   |str x=>cases (h')
   |tup ds=>obtain⟨a,vs,z,_⟩:=b7 h';cases z
   |lst ds=>obtain⟨a,vs,z,_⟩:=cT h';cases z
   |cJ ks ds=>unfold bh at h';obtain⟨a,o,kvs,z,_⟩:=h';cases z
   |gw ks ds=>unfold bh at h';obtain⟨a,o,xs,z,_⟩:=h';cases z
  |_=>cases e
def X6(ha:GE X W c m1 a)(hl:GO X W c m2 lo)(hh:GO X W c m3 hi):GE X W c (.slc m1 m2 m3) (.Subscript a (.Slice lo hi none p2) pos):=by
 intro env
 refine PE.imp (Kq V0 ha.d hl.po hh.po) fun σ H Q q=>?_
 refine⟨env,aV q fun d δ v H1 N1 D1 q1=>⟨δ,aV q1 fun dl ε vl H2 N2 D2 q2 dl' D2'=>?_⟩⟩
 cases el:cW m2.jL dl with
 |none=>rw[el]at q2;exact q2.2.elim
 |some l=>
  rw[el]at q2
  refine⟨l,yH D2 el D2',ε,aV q2 fun dh env3 vh H3 N3 D3 q3 dh' D3'=>?_⟩
  obtain⟨z,ez,S,q4⟩:=cC q3
  cases eh:cW m3.jL dh with
  |none=>rw[eh]at ez;cases ez
  |some h=>
   rw[eh]at ez
   exact⟨h,yH D3 eh D3',Ac S (D1.mono (N2.trans N3).pers) ez q4⟩
def acN(X:Cx)(x:Str)(d:D):Prop:=∃v u,X.mg x=some u/\RelV v u/\∀H,bh X.K H d v
def RK{x:Str}(hk:c.gl k=some d)(h:acN X x d)(hg:Gl X x)(hd:(x==("__debug__":Str))=false):GE X W c (.glob k) (.Name x pos):=by
 obtain⟨v,u,hm,r,hD⟩:=h
 intro env
 refine PE.imp (QF hg hm r hd) fun σ H Q q=>?_
 simp only[v_2,hk]at q
 exact dR q (hD H)
end
def fX{a:Addr}(h:H a=some u)(hu:Ov u):bG H (upd H a u'):=by
 refine⟨fun b xs q=>?_,fun b o' w q=>?_⟩
 ·rw[aC (fun z=>by subst z;rw[h]at q;cases q;exact hu.tup xs rfl)];exact q
 ·rw[aC (fun z=>by subst z;rw[h]at q;cases q;exact hu.frz o' w rfl)];exact q
def qe{f:Ob->Option Ob}(h:cM k f env=some env'):∃o o',f o=some o'/\((env[k]? =some (.own o)/\env'=env.set k (.own o'))\/(env[k]? =some (.bor o)/\env'=env.set k (.bor o'))):=by
 unfold cM at h
 cases e:env[k]? with
 |none=>rw[e]at h;cases h
 |some s=>
  rw[e]at h
  cases s with
  |un=>cases h
  |val d=>cases h
  |own o=>
   cases e2:f o with
   |none=>simp only[e2]at h;cases h
   |some o'=>simp only[e2]at h;cases h;exact⟨o,o',e2,.inl ⟨rfl,rfl⟩⟩
  |bor o=>
   cases e2:f o with
   |none=>simp only[e2]at h;cases h
   |some o'=>simp only[e2]at h;cases h;exact⟨o,o',e2,.inr ⟨rfl,rfl⟩⟩
def Nx.turn{env:Ev}{H:Hp}{sl sl':Sl}{a:Addr}(S:Sat K env σ H)(hs:(sl=.own o/\sl'=.own o')\/(sl=.bor o/\sl'=.bor o'))(e:env[k]? =some sl)(es:σ[k]? =some (some (.ref a)))
  (ha:H a=some u)(hu:Ov u)(hd:Iw K H o' u'):Nx K env σ H (env.set k sl') (upd H a u'):=by
 have p:=fX (u':=u') ha hu
 have ow:isOwn sl=some o/\isOwn sl'=some o':=by rcases hs with ⟨rfl,rfl⟩|⟨rfl,rfl⟩<;>exact⟨rfl,rfl⟩
 have oa:aP env σ k a:=⟨⟨_,o,e,ow.1⟩,es⟩
 have hi:=(QCz.mp e).1
 have sub:∀j b,aP (env.set k sl') σ j b->aP env σ j b:=fun j b z=>by
  obtain⟨⟨s,ys,e1,e2⟩,e3⟩:=z
  by_cases hj:k=j
  ·subst hj;exact⟨⟨sl,o,e,ow.1⟩,e3⟩
  ·rw[Qxz hj]at e1;exact⟨⟨s,ys,e1,e2⟩,e3⟩
 refine⟨⟨by simpa using S.len,fun j s ej=>?_,fun j l b z w=>S.ne j l b (sub j b z) (sub l b w)⟩,sub,p,fun b w q n=>?_,fun b q=>?_,fun j ys ej=>?_⟩
 ·by_cases hj:k=j
  ·subst hj
   rw[Qwq hi]at ej
   cases ej
   have at_:jw K _ o' a:=⟨u',aN,hd.mono p⟩
   rcases hs with ⟨_,rfl⟩|⟨_,rfl⟩
   ·exact⟨a,by rw[es];rfl,at_⟩
   ·exact⟨a,by rw[es];rfl,at_⟩
  ·rw[Qxz hj]at ej
   refine(S.sl j s ej).keep p fun b w ho ev hb=>?_
   have nb:b≠a:=fun z=>by
    subst z
    exact hj (S.ne k j b oa (wg ej ho ev))
   rw[aC nb];exact hb
 ·rw[aC (fun z=>by subst z;exact n k oa)];exact q
 ·by_cases hb:b=a
  ·subst hb;rw[aN]at q;cases q
  ·rw[aC hb]at q;exact q
 ·by_cases hj:k=j
  ·subst hj
   rw[e]at ej
   cases ej
   rcases hs with ⟨z,_⟩|⟨_,rfl⟩
   ·cases z
   ·exact⟨o',by rw[Qwq hi]⟩
  ·exact⟨ys,by rw[Qxz hj];exact ej⟩
def Dc{env env':Ev}{H:Hp}{f:Ob->Option Ob}(S:Sat K env σ H)(h:cM k f env=some env'):
  ∃o o' a u,f o=some o'/\σ[k]? =some (some (.ref a))/\H a=some u/\Iw K H o u/\aR k env=some o.d/\∀u',Iw K H o' u'->Nx K env σ H env' (upd H a u'):=by
 obtain⟨o,o',ef,hh⟩:=qe h
 rcases hh with ⟨e,rfl⟩|⟨e,rfl⟩
 ·obtain⟨a,e1,u,e2,e3⟩:=S.sl k _ e
  exact⟨o,o',a,u,ef,bN e1,e2,e3,by unfold aR;rw[e],fun u' hd=>Nx.turn S (.inl ⟨rfl,rfl⟩) e (bN e1) e2 e3.uG hd⟩
 ·obtain⟨a,e1,u,e2,e3⟩:=S.sl k _ e
  exact⟨o,o',a,u,ef,bN e1,e2,e3,by unfold aR;rw[e],fun u' hd=>Nx.turn S (.inr ⟨rfl,rfl⟩) e (bN e1) e2 e3.uG hd⟩
def KJ{o o':Ob}(h:tL f o=some o'):∃xs ys,o=.lst xs/\f xs=some ys/\o'=.lst ys:=by
 cases o with
 |lst xs=>
  simp only[tL]at h
  cases e:f xs with
  |none=>rw[e]at h;cases h
  |some ys=>rw[e]at h;cases h;exact⟨xs,ys,rfl,e,rfl⟩
 |dct ks vs=>cases h
 |sdt ks vs=>cases h
def mz{env env':Ev}{H:Hp}{f:List D->Option (List D)}(S:Sat K env σ H)(h:cM k (tL f) env=some env'):
  ∃xs ys a vs,f xs=some ys/\σ[k]? =some (some (.ref a))/\H a=some (.lst vs)/\aq K H xs vs/\aR k env=some (.lst xs)/\∀ws,aq K H ys ws->Nx K env σ H env' (upd H a (.lst ws)):=by
 obtain⟨o,o',a,u,ef,es,ha,hd,lk,N⟩:=Dc S h
 obtain⟨xs,ys,rfl,e,rfl⟩:=KJ ef
 obtain⟨vs,rfl,l⟩:=hd
 exact⟨xs,ys,a,vs,e,es,ha,l,lk,fun ws hw=>N _ ⟨ws,rfl,hw⟩⟩
theorem cV.lst{K:QQq}{H:Hp}{xs:List D}{v:V}(h:cV K H (.lst xs) v):∃a vs,v=.ref a/\jx K H a vs/\aq K H xs vs:=by
 rcases h with h|⟨o,a,q,rfl,u,ha,hq⟩
 ·obtain⟨a,vs,rfl,hq,l⟩:=cT h
  exact⟨a,vs,rfl,hq.sq,l⟩
 ·cases o<;>cases q
  obtain⟨vs,rfl,l⟩:=hq
  exact⟨a,vs,rfl,.inl (.inl ha),l⟩
structure zQ(X:Cx)(o:Expr)(name:Str)(apos:Pos)(e:Expr)(cpos:Pos):Prop where
 base:attributeBase o name X.env (eval o X.env)=eval o X.env
 line:(apos.endLine==cpos.line)=true
 star:starEach [e] X.env=[(false,eval e X.env)]
section
def zQ.few(h:zQ X o name apos e cpos):((backTo cpos (starEach [e] X.env)).all (fun x=> !x.1)&&(backToKw cpos (keywordEach [] X.env)).all (fun x=>x.1.isSome)
   &&decide ([e].length+([]:List Keyword).length+(if ([]:List Keyword).isEmpty then 0 else 1)<30))=true:=by
 rw[h.star];rfl
def Ks{id:String}{to:TE}(M:zQ X o name apos e cpos)(slot:Slot "list" name id)(hty:typeOf (.builtin id)=pure (.type "method_descriptor"))(hm:YJ X id r)(ho:PE X o to)(he:PE X e te):
  PE X (.Call (.Attribute o name apos) [e] [] cpos) (tBM X.K "list" r to (Jw te aau)):=
 abn PySem.F.plainAttrs_list slot hty hm ho (cD he eO M.star) M.base M.few M.line M.star rfl
def countV{K:QQq}{H:Hp}{p:D}{x:V}(Dp:bh K H p x)(fp:flat p=true):∀{ds:List D}{vs:List V}{us:List Value},aq K H ds vs->Vals vs us->ds.all flat=true->vs.all jo=true/\us.countP (UJ x)=gm p ds:=by
 intro ds
 induction ds with
 |nil=>intro vs us l r _;rw[aq.bC.mp l]at r⊢;cases r;exact⟨rfl,rfl⟩
 |cons d ds ih=>
  intro vs us l r f
  obtain⟨v,vs',rfl,hd,l'⟩:=aq.aG.mp l
  rw[List.all_cons,QUq]at f
  cases r with
  |cons r1 r2=>
   obtain⟨i1,i2⟩:=ih l' r2 f.2
   obtain⟨j1,j2⟩:=wK Dp fp (aq.cZ hd aq.fY) (by simp[f.1])
   simp only[List.all_cons,List.all_nil,Bool.and_true]at j1
   have j3:MN v x=bK d p:=by simpa[inV,aU]using j2
   refine⟨by rw[List.all_cons,j1,i1];rfl,?_⟩
   rw[List.countP_cons,i2,BR r1 j1,j3,gm]
   split<;>omega
noncomputable def Qq(K:QQq):V->List V->Hp->VK->Prop:=fun x ys H Q=>∃a vs ds d y,x=.ref a/\ys=[y]/\(jx K H a vs\/jq K H a vs)/\aq K H ds vs/\bh K H d y/\flat d=true/\ds.all flat=true/\Q (.int (gm d ds)) H
def MF{H:Hp}{v:V}(h:bh K H d v)(f:flat d=true):jo v=true:=by
 cases d with
 |non=>cases h;rfl
 |bl b=>cases h;rfl
 |int i=>cases h;rfl
 |str x=>cases h;rfl
 |_=>cases f
def Hh:YJ X "list.count" (fun x ys H Q=>(∃a vs,x=.ref a/\jx X.K H a vs)/\Qq X.K x ys H Q):=by
 intro γ s σ H x ys v us Q I rx ry h
 obtain⟨⟨a,vs,rfl,hq⟩,a',vs',ds,d,y,e1,rfl,hq',l,hd,f1,f2,q⟩:=h
 cases e1
 cases rx
 obtain⟨u,rfl,ru⟩:=Vals.one ry
 have hv:vs'=vs:=by
  rcases hq' with z|z
  ·exact I.yR z hq
  ·obtain⟨_,_,⟨o,e,c,_⟩,_⟩:=I.tuple z
   obtain⟨_,_,⟨o',_,e',c',_⟩,_⟩:=I.list hq
   rw[e]at e';cases e';rw[c]at c';injection c' with z;exact absurd z (by decide)
 subst hv
 obtain⟨its,r,pl,hz⟩:=I.list hq
 obtain⟨⟨cls,dd,data,sl⟩,n,ho,hc,hdd,hdt⟩:=id pl
 subst hc hdt
 obtain⟨g1,g2⟩:=countV hd f1 l r f2
 refine call_meets PySem.F.slot_list_count ⟨_,ho,rfl⟩ PySem.F.entry_list_count (PySem.F.args_list_count_2 _ _) (SeqAt.list_countAt a its.toArray n dd sl u _) ⟨ho,fun w hw=>f9 ru (MF hd f1) r g1 w (by simpa using hw),?_⟩
 refine⟨.int _,H,I.tok _,⟨s.toks,?_⟩,q⟩
 rw[show its.toArray.toList=its from rfl,g2]
def Hg:YJ X "tuple.count" (fun x ys H Q=>(∃a vs,x=.ref a/\jq X.K H a vs)/\Qq X.K x ys H Q):=by
 intro γ s σ H x ys v us Q I rx ry h
 obtain⟨⟨a,vs,rfl,hq⟩,a',vs',ds,d,y,e1,rfl,hq',l,hd,f1,f2,q⟩:=h
 cases e1
 cases rx
 obtain⟨u,rfl,ru⟩:=Vals.one ry
 have hv:vs'=vs:=by
  rcases hq' with z|z
  ·obtain⟨_,_,⟨o,e,c,_⟩,_⟩:=I.tuple hq
   obtain⟨_,_,⟨o',_,e',c',_⟩,_⟩:=I.list z
   rw[e]at e';cases e';rw[c]at c';injection c' with z;exact absurd z (by decide)
  ·exact I.uq z hq
 subst hv
 obtain⟨its,r,pl,hz⟩:=I.tuple hq
 obtain⟨⟨cls,dd,data,sl⟩,ho,hc,n,hdt⟩:=id pl
 subst hc hdt
 obtain⟨g1,g2⟩:=countV hd f1 l r f2
 refine call_meets PySem.F.slot_tuple_count ⟨_,ho,rfl⟩ PySem.F.entry_tuple_count (PySem.F.args_tuple_count_2 _ _) (SeqAt.tuple_countAt a its.toArray n dd sl u _) ⟨ho,fun w hw=>f9 ru (MF hd f1) r g1 w (by simpa using hw),?_⟩
 refine⟨.int _,H,I.tok _,⟨s.toks,?_⟩,q⟩
 rw[show its.toArray.toList=its from rfl,g2]
noncomputable def ad1(K:QQq)(to te:TE):TE:=fun σ H Q=>to σ H fun x H1=>∃a vs,x=.ref a/\((jx K H1 a vs/\te σ H1 fun y H2=>(∃a vs,x=.ref a/\jx K H2 a vs)/\Qq K x [y] H2 Q)\/(jq K H1 a vs/\te σ H1 fun y H2=>(∃a vs,x=.ref a/\jq K H2 a vs)/\Qq K x [y] H2 Q))
def Ww(M:zQ X o "count" apos e cpos)(ho:PE X o to)(he:PE X e te):PE X (.Call (.Attribute o "count" apos) [e] [] cpos) (ad1 X.K to te):=by
 intro γ s σ H Q I h
 refine wpAny_Call_method_late M.base M.few M.line rfl (bZ (ho γ s σ H _ I h) fun v s1⟨x,H1,I1,r1,a,vs,ex,q1⟩=>?_)
 subst ex
 cases r1
 have arg:∀{id:String}{r:V->List V->Hp->VK->Prop},YJ X id r->(te σ H1 fun y H2=>r _ [y] H2 Q)->wpAny _ X.A (callWith cpos _ [.ref a] (backTo cpos (starEach [e] X.env)) _) _ X.xe s1:=fun{id r}hm z=>by
  have hA:=cD he eO M.star cpos γ s1 σ H1 (fun vs H2=>r (.ref a) vs H2 Q) I1 z
  rw[M.star]at hA⊢
  exact Calls.callWith_builtin rfl (Calls.evalArgs_plain (bZ hA fun us s2⟨vs,H2,I2,r2,q2⟩=>hm γ s2 σ H2 (.ref a) vs _ us Q I2 rfl r2 q2))
 rcases q1 with ⟨hq,z⟩|⟨hq,z⟩
 ·obtain⟨its,r,pl,hz⟩:=I1.list hq
  refine⟨"list","list.count",PySem.F.plainAttrs_list,PySem.F.slot_list_count,PySem.F.type_list_count,pl.isList.typeIs,fun b eb=>?_,arg Hh z⟩
  cases eb
  obtain⟨o,n,e,c,hd,_⟩:=pl
  exact⟨o,e,hd⟩
 ·obtain⟨its,r,⟨o,eo,ec,hd,n,dt⟩,hz⟩:=I1.z8 hq
  refine⟨"tuple","tuple.count",PySem.F.plainAttrs_tuple,PySem.F.slot_tuple_count,PySem.F.type_tuple_count,⟨o,eo,ec⟩,fun b eb=>?_,arg Hg z⟩
  cases eb
  exact⟨o,eo,hd⟩
def Mw(M:zQ X o "count" apos e cpos)(ho:GE X W c m1 o)(he:GE X W c m2 e):GE X W c (.count m1 m2) (.Call (.Attribute o "count" apos) [e] [] cpos):=by
 intro env
 refine PE.imp (Ww M ho.d he.d) fun σ H Q q=>?_
 refine⟨env,aV q fun d δ v H1 N1 D1 q1=>?_⟩
 cases d with
 |tup xs=>
  obtain⟨a,vs,rfl,hq,l⟩:=b7 D1
  refine⟨a,vs,rfl,.inr ⟨hq,δ,aV q1 fun d2 ε y H2 N2 D2 q2=>?_⟩⟩
  obtain⟨z,ez,S,q3⟩:=cC q2
  simp only[zB]at ez
  split at ez
  ·rename_i hf
   cases ez
   rw[QUq]at hf
   exact⟨⟨a,vs,rfl,N2.pers.VN hq⟩,a,vs,xs,d2,y,rfl,rfl,.inr (N2.pers.VN hq),l.mono N2.pers,D2,hf.1,hf.2,q3 _ H2 (Nx.refl S) rfl⟩
  ·cases ez
 |lst xs=>
  obtain⟨a,vs,rfl,hq,l⟩:=cT D1
  refine⟨a,vs,rfl,.inl ⟨hq.sq,δ,aV q1 fun d2 ε y H2 N2 D2 q2=>?_⟩⟩
  obtain⟨z,ez,S,q3⟩:=cC q2
  simp only[zB]at ez
  split at ez
  ·rename_i hf
   cases ez
   rw[QUq]at hf
   exact⟨⟨a,vs,rfl,(N2.pers.RT hq).sq⟩,a,vs,xs,d2,y,rfl,rfl,.inl (N2.pers.RT hq).sq,l.mono N2.pers,D2,hf.1,hf.2,q3 _ H2 (Nx.refl S) rfl⟩
  ·cases ez
 |_=>exact q1.2.elim
def Ly{i:Int}(h:ix? n i=some j)(hn:n<=sizeLine): -(2 ^63)<=i/\i<2 ^63/\seqIndex? i n=some j/\j<n:=by
 have hl:=sizeLine_eq
 unfold ix? at h
 by_cases h0:i<0
 ·simp only[h0,if_true]at h
  by_cases hj:0<=i+n/\i+n<n
  ·rw[if_pos hj]at h
   have e:=QEq h
   exact⟨by omega,by omega,by rw[seqIndex_neg (by omega) (by omega),e],by omega⟩
  ·rw[if_neg hj]at h;cases h
 ·simp only[h0,if_false]at h
  by_cases hj:0<=i/\i<n
  ·rw[if_pos hj]at h
   have e:=QEq h
   exact⟨by omega,by omega,by rw[seqIndex_of (by omega) (by omega),e],by omega⟩
  ·rw[if_neg hj]at h;cases h
def lJ(h:cH d=true):∃xs,d=some (.lst xs):=by
 cases d with
 |none=>cases h
 |some d=>cases d with
  |lst xs=>exact⟨xs,rfl⟩
  |_=>cases h
def Xk k k':bK (dC k') (dC k)=decide (k'=k):=by
 cases k'<;>cases k<;>simp[dC,bK,Bool.beq_eq_decide_eq]
def Mv{x:Str}(M:zQ X (.Name x p) "pop" apos e cpos)(nm:gr X k x)(he:GE X W c m e):GE X W c (.popAt k m) (.Call (.Attribute (.Name x p) "pop" apos) [e] [] cpos):=by
 intro env γ s σ H Q I q
 refine PE.imp (Ks M PySem.F.slot_list_pop PySem.F.type_list_pop K8 nm.pe he.d) (t':=fun ζ H' Q'=>ζ=σ/\H'=H/\Q'=Q) (fun ζ H' Q'⟨e1,e2,e3⟩=>?_) γ s σ H Q I ⟨rfl,rfl,rfl⟩
 subst e1 e2 e3
 simp only[Vm]at q
 cases hl:cH _ with
 |false=>rw[hl]at q;exact q.2.elim
 |true=>
  rw[hl]at q
  obtain⟨xs0,e0⟩:=lJ hl
  obtain⟨u,eu,Du⟩:=cG q.1 e0
  obtain⟨a0,vs0,rfl,hq0,l0⟩:=Du.lst
  refine⟨.ref a0,eu,.inl ⟨rfl,vs0,hq0⟩,env,aV q fun d δ y H1 N1 D1 q1=>?_⟩
  unfold iz at q1
  cases d with
  |int i=>
   cases e1:aR k δ with
   |none=>rw[e1]at q1;exact q1.2.elim
   |some d1=>
    rw[e1]at q1
    cases d1 with
    |lst xs=>
     simp only at q1
     cases hz:fits xs.length with
     |false=>rw[hz]at q1;exact q1.2.elim
     |true=>
     rw[hz]at q1
     cases e2:ix? xs.length i with
     |none=>rw[e2]at q1;exact q1.2.elim
     |some j=>
      rw[e2]at q1
      simp only at q1
      cases e3:xs[j]? with
      |none=>rw[e3]at q1;exact q1.2.elim
      |some dd=>
       cases e4:cM k _ δ with
       |none=>rw[e3,e4]at q1;exact q1.2.elim
       |some ε=>
        rw[e3,e4]at q1
        obtain⟨zs,ys,a,vs,ef,es,ha,l,lk,N⟩:=mz q1.1 e4
        rw[e1]at lk
        cases lk
        cases ef
        rw[eu]at es
        cases es
        subst D1
        obtain⟨w,ew,dw⟩:=l.get e3
        obtain⟨b1,b2,b3,b4⟩:=Ly e2 (dI hz)
        exact⟨a0,vs,i,j,w,rfl,rfl,ha,b1,b2,by rw[<-l.length];exact b3,ew,q1.2 w _ (N _ (l.eraseIdx j)) (dw.mono (N _ (l.eraseIdx j)).pers)⟩
    |_=>exact q1.2.elim
  |_=>exact q1.2.elim
def RJ{k:Nat}{x:Str}(hline:(apos.endLine==cpos.line)=true)(nm:gr X k x):GE X W c (.pop0 k) (.Call (.Attribute (.Name x p) "pop" apos) [] [] cpos):=by
 intro env
 refine PE.imp (Wx PySem.F.plainAttrs_list PySem.F.slot_list_pop PySem.F.type_list_pop W4 nm.pe rfl hline) fun σ H Q q=>?_
 simp only[adO]at q
 cases hl:cH (aR k env)with
 |false=>rw[hl]at q;exact q.2.elim
 |true=>
  rw[hl]at q
  simp only[Bool.not_true,Qxq,if_false]at q
  unfold iz at q
  cases e1:aR k env with
  |none=>rw[e1]at q;exact q.2.elim
  |some d1=>
   rw[e1]at q
   cases d1 with
   |lst xs=>
    simp only at q
    cases hz:fits xs.length with
    |false=>rw[hz]at q;exact q.2.elim
    |true=>
    rw[hz]at q
    simp only[Bool.not_true,Qxq,if_false]at q
    cases e2:ix? xs.length (-1)with
    |none=>rw[e2]at q;exact q.2.elim
    |some j=>
     rw[e2]at q
     simp only at q
     cases e3:xs[j]? with
     |none=>rw[e3]at q;exact q.2.elim
     |some dd=>
      cases e4:cM k (tL fun xs=>some (xs.eraseIdx j)) env with
      |none=>rw[e3,e4]at q;exact q.2.elim
      |some ε=>
       rw[e3,e4]at q
       obtain⟨u,eu,Du⟩:=cG q.1 e1
       obtain⟨a0,vs0,rfl,hq0,l0⟩:=Du.lst
       obtain⟨zs,ys,a,vs,ef,es,ha,l,lk,N⟩:=mz q.1 e4
       rw[eu]at es
       cases es
       rw[e1]at lk
       cases lk
       cases ef
       obtain⟨w,ew,dw⟩:=l.get e3
       have hj:j=vs.length-1:=by
        unfold ix? at e2
        rw[l.length]at e2
        simp only[show(-1:Int)<0 by decide,if_true]at e2
        split at e2
        ·cases e2;omega
        ·cases e2
       subst hj
       refine⟨.ref a0,eu,.inl ⟨rfl,vs0,hq0⟩,a0,vs,w,rfl,rfl,ha,ew,?_⟩
       have:=q.2 w _ (N _ (l.eraseIdx _)) (dw.mono (N _ (l.eraseIdx _)).pers)
       rw[List.eraseIdx_length_sub_one]at this
       exact this
   |_=>exact q.2.elim
def HH{x:Str}(M:zQ X (.Name x p) "append" apos e cpos)(nm:gr X k x)(he:GE X W c m e):GS X W c (.append k m) (.Expr (.Call (.Attribute (.Name x p) "append" apos) [e] [] cpos) pos):=by
 intro env
 refine PS.imp (v8 (Ks M PySem.F.slot_list_append PySem.F.type_list_append uJ nm.pe he.d) rfl) fun D σ H q=>?_
 simp only[x_9]at q
 cases hl:cH _ with
 |false=>rw[hl]at q;exact q.2.elim
 |true=>
  rw[hl]at q
  obtain⟨xs0,e0⟩:=lJ hl
  obtain⟨u,eu,Du⟩:=cG q.1 e0
  obtain⟨a0,vs0,rfl,hq0,l0⟩:=Du.lst
  refine⟨.ref a0,eu,.inl ⟨rfl,vs0,hq0⟩,env,lE q fun d δ y H1 N1 D1 q1=>?_⟩
  cases e4:cM k _ δ with
  |none=>rw[e4]at q1;exact q1.2.elim
  |some ε=>
   rw[e4]at q1
   obtain⟨zs,ys,a,vs,ef,es,ha,l,lk,N⟩:=mz q1.1 e4
   rw[eu]at es
   cases es
   split at ef
   ·rename_i hf
    cases ef
    have:=dI hf
    refine⟨a0,vs,y,rfl,rfl,ha,by rw[<-l.length];omega,q1.2 _ _ (N _ (l.append (aq.cZ D1 aq.fY))).z⟩
   ·cases ef
noncomputable def abb(K:QQq):V->List V->Hp->VK->Prop:=fun x vs H Q=>∃l b xs zs,x=.ref l/\vs=[.ref b]/\H l=some (.lst xs)/\jx K H b zs/\xs.length+zs.length<=sizeLine/\Q .non (upd H l (.lst (xs++zs)))
def tZ l items n b items2 n2 sl(hc0:¬(!items.isEmpty&&Builtin.List.listTooLong (items.size+items2.size))=true)(hc1:items.size<=sizeLine)(hs2:items.size+items2.size<=sizeLine+1):
  Meets (Builtin.«list.extend» ⟨[.ref l,.ref b],[]⟩) (fun _ R s=>s.heap.get? l=some {cls:=.type "list",dict:=none,data:=.seq items n,slots:= #[]}/\s.heap.get? b=some {cls:=.type "list",dict:=none,data:=.seq items2 n2,slots:=sl}/\R (.ok (.ret Value.none)) {s with heap:=s.heap.update l (Obj.mapSeq fun x=>x++items2),toks:=s.toks}):=
 .of_wp fun prog w A R s h=>by
  obtain⟨hp,g,d,tk,os⟩:=s;obtain⟨hl,hb,h⟩:=h;have f1:=AutoSeq1.idx_int;have f2:=AutoSeq1.sub_tuple_tuple;have f3:=AutoSeq1.sub_list_list;have f4:=AutoSeq1.sub_tuple_list;have f5:=AutoSeq1.sub_list_tuple;
  have hz':(items++items2).size<=sizeLine+1:=by rw[Array.size_append];exact hs2
  wp_walk using (wpAny_updateSeq hl rfl),AutoSeq1.wpAny_loadPart' hl,AutoSeq1.wpAny_loadPart' hb;exact⟨_,rfl,h⟩
def Q9:YJ X "list.extend" (abb X.K):=by
 intro γ s σ H x vs v us Q I rx rv h
 obtain⟨l,b,xs,zs,rfl,rfl,hH,hB,hz,q⟩:=h
 cases rx
 obtain⟨u,rfl,ru⟩:=Vals.one rv
 cases ru
 obtain⟨z,its,n,r,hl,e⟩:=I.Rc hH
 obtain⟨its2,r2,⟨⟨cls,dd,data,sl⟩,n2,e2,hc2,hd2,hdt⟩,hz2⟩:=I.list hB
 have hl2:=r2.length
 subst hc2 hdt hd2
 have hsz:its.toArray.size+its2.toArray.size<=sizeLine:=by rw[Qyq,Qyq];omega
 have hlong:¬(!its.toArray.isEmpty&&Builtin.List.listTooLong (its.toArray.size+its2.toArray.size))=true:=by
  rw[KR hsz,Bool.and_false]
  exact Qjz
 refine call_meets PySem.F.slot_list_extend ⟨_,e,rfl⟩ PySem.F.entry_list_extend (PySem.F.args_list_extend_2 _ _)
  (tZ l its.toArray n b its2.toArray n2 sl hlong (by rw[Qyq];omega) (by omega)) ⟨e,e2,?_⟩
 refine⟨.non,_,I.Rf hH e (by simp) (r.append r2) ?_,rfl,q⟩
 rw[QTq]
 omega
def HF{x:Str}(M:zQ X (.Name x p) "extend" apos e cpos)(nm:gr X k x)(he:GE X W c m e):GS X W c (.extend k m) (.Expr (.Call (.Attribute (.Name x p) "extend" apos) [e] [] cpos) pos):=by
 intro env
 refine PS.imp (v8 (Ks M PySem.F.slot_list_extend PySem.F.type_list_extend Q9 nm.pe he.d) rfl) fun D σ H q=>?_
 simp only[adM]at q
 cases hl:cH _ with
 |false=>rw[hl]at q;exact q.2.elim
 |true=>
  rw[hl]at q
  obtain⟨xs0,e0⟩:=lJ hl
  obtain⟨u,eu,Du⟩:=cG q.1 e0
  obtain⟨a0,vs0,rfl,hq0,l0⟩:=Du.lst
  refine⟨.ref a0,eu,.inl ⟨rfl,vs0,hq0⟩,env,lE q fun d δ y H1 N1 D1 q1=>?_⟩
  cases d with
  |lst ys=>
   simp only[iC,Option.bind]at q1
   cases e4:cM k _ δ with
   |none=>rw[e4]at q1;exact q1.2.elim
   |some ε=>
    rw[e4]at q1
    obtain⟨zs,ys',a,vs,ef,es,ha,l,lk,N⟩:=mz q1.1 e4
    rw[eu]at es
    cases es
    obtain⟨b,ws,rfl,hb,l1⟩:=cT D1
    split at ef
    ·rename_i hf
     cases ef
     exact⟨a0,b,vs,ws,rfl,rfl,ha,hb.sq,by rw[<-l.length,<-l1.length];exact dI hf,q1.2 _ _ (N _ (l.append l1)).z⟩
    ·cases ef
  |_=>exact q1.2.elim
noncomputable def Ua:V->V->V->Hp->(Hp->Prop)->Prop:=fun o i v H Q=>∃a H',o=.ref a/\Ot H a i v H'/\Q H'
def PN(hu:X.A.units+1<cLine):Il X Ua:=by
 intro γ s σ H o i v ov iv u Q I ro ri rv h
 obtain⟨a,H',rfl,g,q⟩:=h
 cases ro
 exact H8 hu I g ri rv fun s4 I4=>⟨H',I4,q⟩
noncomputable def T8(K:QQq):V->V->V->Hp->(Hp->Prop)->Prop:=fun o i v H Q=>∃d a k xs,o=.ref d/\i=.ref a/\H d=some (.dS xs)/\(∀x∈xs,cI K H x.1 x.2.1)/\cI K H k a/\xs.length<sizeLine/\Q (upd H d (.dS (nR k a v xs)))
def V1(hu:X.A.units+9<cLine):Il X (T8 X.K):=by
 intro γ s σ H o i v ov iv u Q I ro ri rv h
 obtain⟨d,a,k,xs,rfl,rfl,hd,hk,ka,hl,q⟩:=h
 cases ro
 cases ri
 exact Gu hu I hd hk ka hl rv fun s4 I4=>⟨_,I4,q⟩
noncomputable def Ub(K:QQq):V->V->V->Hp->(Hp->Prop)->Prop:=fun o i v H Q=>∃d a k,o=.ref d/\i=.ref a/\H d=some (.dK [])/\cI K H k a/\Q (upd H d (.dS [(k,a,v)]))
def set_0(hu:X.A.units+9<cLine):Il X (Ub X.K):=by
 intro γ s σ H o i v ov iv u Q I ro ri rv h
 obtain⟨d,a,k,rfl,rfl,hd,ka,q⟩:=h
 cases ro
 cases ri
 exact Ad hu I hd ka rv fun s4 I4=>⟨_,I4,q⟩
noncomputable def aa6(K:QQq):V->V->V->Hp->(Hp->Prop)->Prop:=fun o i v H Q=>T9 o i v H Q\/Ua o i v H Q\/T8 K o i v H Q\/Ub K o i v H Q
def PQ(hu:X.A.units+9<cLine):Il X (aa6 X.K):=by
 intro γ s σ H o i v ov iv u Q I ro ri rv h
 rcases h with h|h|h|h
 ·exact set_list γ s σ H o i v ov iv u Q I ro ri rv h
 ·exact PN (by omega) γ s σ H o i v ov iv u Q I ro ri rv h
 ·exact V1 hu γ s σ H o i v ov iv u Q I ro ri rv h
 ·exact set_0 hu γ s σ H o i v ov iv u Q I ro ri rv h
def Xp{i:Int}(h:ix? n i=some j):Rt n i=some j:=by
 unfold ix? at h
 unfold Rt
 by_cases h0:i<0
 ·simp only[h0,if_true]at h
  rw[if_neg (by omega)]
  by_cases hj:0<=i+n/\i+n<n
  ·rw[if_pos hj]at h;rw[if_pos (by omega)];exact h
  ·rw[if_neg hj]at h;cases h
 ·simp only[h0,if_false]at h
  rw[if_pos (by omega)]
  by_cases hj:0<=i/\i<n
  ·rw[if_pos hj]at h;rw[if_pos hj.2];exact h
  ·rw[if_neg hj]at h;cases h
theorem yp{H:Hp}{d:D}(hv:bh K H d v):∀{kvs:List (Key×V)}{ds:List D},aq K H ds (kvs.map (·.2))->
  aq K H (qG (dC k) d (kvs.map fun p=>dC p.1) ds) ((kvs.map fun kv=>if kv.1=k then(kv.1,v)else kv).map (·.2))
 |[],ds,l=>by
  have:ds=[]:=by have:=l.length;cases ds<;>simp_all
  exact aq.fY
 |(k',u)::r,ds,l=>by
  cases ds with
  |nil=>have:=l.length;simp at this
  |cons x ds=>
   obtain⟨w,ws,e,h1,h2⟩:=aq.aG.mp l
   cases e
   have ih:=yp (k:=k) hv h2
   simp only[Qyz,qG,Xk]
   by_cases q:k'=k
   ·simp only[q,decide_true,if_true]
    exact aq.cZ hv ih
   ·simp only[q,decide_false,Qxq,if_false]
    exact aq.cZ h1 ih
theorem uC{v:V}:∀(kvs:List (Key×V)),(kvs.map fun kv=>if kv.1=k then(kv.1,v)else kv).map (fun p=>dC p.1)=kvs.map fun p=>dC p.1
 |[]=>rfl
 |(k',u)::r=>by
  simp only[Qyz,uC r]
  split<;>rfl
def Dt{H:Hp}{d:D}(hv:bh K H d v){ds:List D}(l:aq K H ds (kvs.map (·.2))):
  (putD (dC k) d (kvs.map fun p=>dC p.1) ds).1=(putK kvs k v).map (fun p=>dC p.1)/\aq K H (putD (dC k) d (kvs.map fun p=>dC p.1) ds).2 ((putK kvs k v).map (·.2)):=by
 unfold putD putK
 rw[<-jZ,<-xR]
 split
 ·rename_i h
  exact⟨(uC kvs).symm,yp hv l⟩
 ·refine⟨by simp,?_⟩
  rw[List.map_append]
  exact l.append (aq.cZ hv aq.fY)
theorem Mr{k:Nat}{x:Str}{ix:E}{ixe:Expr}{tp:Pos}(nm:gr X k x)(he:GE X W c m e)(hi:GE X W c ix ixe)
  (ha:∀v,assign (.Subscript (.Name x p) ixe tp) X.env v=(do
   let ov<-holding [v] (eval (.Name x p) X.env)
   let iv<-holding [v,ov] (eval ixe X.env)
   standAt tp
   holding [v,ov,iv] (setItem ov iv v)
   release [v,ov,iv] []))
  (hs:swapsWithSole [.Subscript (.Name x p) ixe tp] e pos.line X.env=pure false)(hw:swappedStores [.Subscript (.Name x p) ixe tp] e X.env=pure none)(hu:X.A.units+9<cLine)
  (h1:(assignEach [.Subscript (.Name x p) ixe tp] X.env).map (·.2)=[assign (.Subscript (.Name x p) ixe tp) X.env]):
  GS X W c (.setIx k ix m) (.Assign [.Subscript (.Name x p) ixe tp] e pos):=by
 intro env
 refine PS.imp (Kc he.d (Wo nm.pe hi.d (PQ hu) ha) hs hw h1) fun D σ H q=>?_
 simp only[x_7]at q
 refine⟨env,lE q fun d δ v H1 N1 D1 q1=>?_⟩
 cases e0:aR k δ with
 |none=>rw[e0]at q1;exact q1.2.elim
 |some d0=>
  rw[e0]at q1
  simp only[Option.isNone_some,Qxq,if_false]at q1
  obtain⟨u,eu,Du⟩:=cG q1.1 e0
  refine⟨u,eu,δ,lE q1 fun d2 ε y H2 N2 D2 q2=>?_⟩
  cases e4:cM k (pP d2 d) ε with
  |none=>rw[e4]at q2;exact q2.2.elim
  |some env3=>
   rw[e4]at q2
   obtain⟨o,o',a,w,ef,es,hA,hd,lk,N⟩:=Dc q2.1 e4
   rw[eu]at es
   cases es
   cases o with
   |lst xs=>
    obtain⟨vs,rfl,l⟩:=hd
    cases d2 with
    |int i=>
     simp only[pP]at ef
     cases e5:ix? xs.length i with
     |none=>rw[e5]at ef;cases ef
     |some j=>
      rw[e5]at ef
      cases ef
      have D2':y=.int i:=D2
      subst D2'
      exact .inl ⟨a,vs,i,j,rfl,rfl,hA,by rw[<-l.length];exact Xp e5,q2.2 _ _ (N _ ⟨_,rfl,l.set (D1.mono N2.pers) j⟩).z⟩
    |_=>cases ef
   |dct ks ds=>
    obtain⟨kvs,rfl,rfl,l⟩:=hd
    simp only[pP]at ef
    split at ef
    ·rename_i hk
     rw[QUq]at hk
     cases ef
     obtain⟨kk,rfl⟩:=fU hk.1
     have ek:=kI D2
     subst ek
     obtain⟨g1,g2⟩:=Dt (k:=kk) (D1.mono N2.pers) l
     have hf:=dI hk.2
     rw[QAq]at hf
     exact .inr (.inl ⟨a,_,rfl,Ot.k hA (by omega),q2.2 _ _ (N _ ⟨_,rfl,g1,g2⟩).z⟩)
    ·split at ef
     ·rename_i hk
      rw[QUq,List.isEmpty_iff]at hk
      cases ef
      obtain⟨b,rfl,kb⟩:=iT hk.1 D2
      have hn:kvs=[]:=by simpa using hk.2
      subst hn
      exact .inr (.inr (.inr ⟨a,b,_,rfl,rfl,hA,kb,q2.2 _ _ (N _ ⟨_,rfl,gq.aG.mpr ⟨_,_,rfl,rfl,hk.1,D2,D1.mono N2.pers,gq.nil⟩⟩).z⟩))
     ·cases ef
   |sdt ks ds=>
    obtain⟨xs,rfl,l⟩:=hd
    simp only[pP]at ef
    split at ef
    ·rename_i hk
     rw[QUq]at hk
     cases ef
     obtain⟨b,rfl,kb⟩:=iT hk.1 D2
     have g:=l.put hk.1 D2 (D1.mono N2.pers)
     have hf:=dI hk.2
     rw[l.len.1]at hf
     exact .inr (.inr (.inl ⟨a,b,_,xs,rfl,rfl,hA,l.yW,kb,by omega,q2.2 _ _ (N _ ⟨_,rfl,g⟩).z⟩))
    ·cases ef
end
section
def XJ(he:GE X W c m e)(hv:∀k,m.aB=some k->∃x p,e=.Name x p/\gr X k x):GS X W c (.ret m) (.Return (some e) pos):=by
 intro env
 have plain:∀D σ H,tS X.K W env ((ev c m env).fl tQ) D σ H->aar (aM X W c m) D σ H:=fun D σ H q=>by
  refine⟨env,TJ q fun x δ v H1 N z q1=>?_⟩
  cases x with
  |val d=>exact q1.2 v σ H1 N.z z
  |new o=>
   obtain⟨a,e1,e2,e3⟩:=z
   exact q1.2 v σ H1 N.z ⟨a,e1,e2,.inl e3⟩
  |ref i=>exact q1.2.elim
 cases q0:m.aB with
 |none=>exact PS.imp (nT he.am) fun D σ H q=>plain D σ H (by simpa only[zW,q0]using q)
 |some k=>
  cases e0:env[k]? with
  |none=>exact PS.imp (nT he.am) fun D σ H q=>plain D σ H (by simpa only[zW,q0,e0]using q)
  |some sl=>
   cases sl with
   |un=>exact PS.imp (nT he.am) fun D σ H q=>plain D σ H (by simpa only[zW,q0,e0]using q)
   |val d=>exact PS.imp (nT he.am) fun D σ H q=>plain D σ H (by simpa only[zW,q0,e0]using q)
   |bor o=>exact PS.imp (nT he.am) fun D σ H q=>plain D σ H (by simpa only[zW,q0,e0]using q)
   |own o=>
    obtain⟨x,p,rfl,nm⟩:=hv k q0
    refine PS.imp (nT nm.pe) fun D σ H q=>?_
    simp only[zW,q0,e0]at q
    obtain⟨a,e1,e2⟩:=q.1.sl k _ e0
    have es:=bN e1
    have hi:k<env.length:=(QCz.mp e0).1
    have sub:∀j b,aP (env.set k .un) σ j b->aP env σ j b:=fun j b z=>by
     obtain⟨⟨s,ys,z1,z2⟩,z3⟩:=z
     by_cases hj:k=j
     ·subst hj;rw[Qwq hi]at z1;cases z1;cases z2
     ·rw[Qxz hj]at z1;exact⟨⟨s,ys,z1,z2⟩,z3⟩
    refine⟨.ref a,es,q.2 (.ref a) σ H ⟨⟨by simpa using q.1.len,fun j s ej=>?_,fun j l b z w=>q.1.ne j l b (sub j b z) (sub l b w)⟩,fun j b z=>.inl ⟨j,sub j b z⟩,bG.refl H,fun _ _ z _=>z,fun _ z=>z,fun j ys ej=>?_⟩ ⟨a,rfl,e2,.inr ⟨k,o,e0,es⟩⟩⟩
    ·by_cases hj:k=j
     ·subst hj;rw[Qwq hi]at ej;cases ej;trivial
     ·rw[Qxz hj]at ej;exact q.1.sl j s ej
    ·have hj:k≠j:=fun z=>by subst z;rw[e0]at ej;cases ej
     exact⟨⟨ys,by rw[Qxz hj];exact ej⟩,rfl⟩
def XQ{i:Nat}{x:Str}(he:GE X W c m e)(hN:X.N.Nodup)(hi:X.N[i]? =some x)(hx:Loc X.env.scope x)(hf:X.fn x=true\/X.env.scope.names.lookup x=some .local):GS X W c (.aug i m) (.AugAssign (.Name x p) .Add e pos):=by
 intro env
 refine PS.imp (Wm hN hi hx he.d Xu hf) fun D σ H q=>?_
 simp only[adK]at q
 cases e0:aR i env with
 |none=>rw[e0]at q;exact q.2.elim
 |some d0=>
  rw[e0]at q
  cases d0 with
  |int a=>
   obtain⟨u,eu,Du⟩:=cG q.1 e0
   have du:u=.int a:=by
    rcases Du with z|⟨q,_,z,_⟩
    ·exact z
    ·cases q<;>cases z
   subst du
   refine⟨.int a,eu,env,lE q fun d δ y H1 N1 D1 q1=>?_⟩
   cases d with
   |int b=>
    have dy:y=.int b:=D1
    subst dy
    refine⟨a,b,rfl,rfl,?_⟩
    simp only at q1
    cases e2:cu i (.val (.int (a+b))) δ with
    |none=>rw[e2]at q1;exact q1.2.elim
    |some ε=>
     rw[e2]at q1
     exact q1.2 _ _ (Nz.put (x:=.val (.int (a+b))) q1.1 (Nx.refl q1.1) rfl rfl e2)
   |_=>exact q1.2.elim
  |_=>exact q.2.elim
theorem XM{i j:Nat}{x y:Str}(nm:gr X j y)(ij:i≠j)(he:GE X W c (.var j) (.Name y p))(hN:X.N.Nodup)(hi:X.N[i]? =some x)(hx:Loc X.env.scope x)(hf:X.fn x=true\/X.env.scope.names.lookup x=some .local)
  (hs:swapsWith (.Name y p) (some (.Name x p2)) pos.line X.env=pure false):GS X W c (.mov i j) (.Assign [.Name x p2] (.Name y p) pos):=by
 intro env
 have plain:ex c (.mov i j) env=ex c (.set i (.var j)) env->PS X (.Assign [.Name x p2] (.Name y p) pos) (tS X.K W env (ex c (.mov i j) env)):=fun z=>by
  rw[z];exact wL he hN hi hx hf hs env
 cases e0:env[j]? with
 |none=>exact plain (by simp only[IW,Z2,Vq,e0])
 |some sl=>
  cases sl with
  |un=>exact plain (by simp only[IW,Z2,Vq,e0])
  |val d=>exact plain (by simp only[IW,Z2,Vq,e0])
  |bor o=>exact plain (by simp only[IW,Z2,Vq,e0])
  |own o=>
   refine PS.imp (J9 hN hi hx nm.pe hs hf) fun D σ H q=>?_
   simp only[IW,e0]at q
   cases e2:cu i (.own o) (env.set j .un)with
   |none=>rw[e2]at q;exact q.2.elim
   |some ε=>
    rw[e2]at q
    obtain⟨a,e1,oa⟩:=q.1.sl j _ e0
    have es:=bN e1
    have hj:j<env.length:=(QCz.mp e0).1
    have own:aP env σ j a:=⟨⟨_,o,e0,rfl⟩,es⟩
    have sub:∀k b,aP (env.set j .un) σ k b->aP env σ k b/\k≠j:=fun k b z=>by
     obtain⟨⟨s,ys,z1,z2⟩,z3⟩:=z
     by_cases hk:j=k
     ·subst hk;rw[Qwq hj]at z1;cases z1;cases z2
     ·rw[Qxz hk]at z1;exact⟨⟨⟨s,ys,z1,z2⟩,z3⟩,Ne.symm hk⟩
    have S1:Sat X.K (env.set j .un) σ H:=⟨by simpa using q.1.len,fun k s ek=>by
     by_cases hk:j=k
     ·subst hk;rw[Qwq hj]at ek;cases ek;trivial
     ·rw[Qxz hk]at ek;exact q.1.sl k s ek,fun k l b z w=>q.1.ne k l b (sub k b z).1 (sub l b w).1⟩
    obtain⟨rfl,hi',nb⟩:=lF e2
    have hsl:i<σ.length:=by rw[<-S1.len];exact hi'
    refine⟨.ref a,es,q.2 _ _ ⟨S1.v7 hi' oa fun k z=>(sub k a z).2 (q.1.ne k j a (sub k a z).1 own),fun k b z=>.inl ?_,bG.refl H,fun _ _ z _=>z,fun _ z=>z,fun k xs e=>?_⟩⟩
    ·by_cases hk:i=k
     ·subst hk
      obtain⟨_,z⟩:=jF hi' hsl z
      cases z
      exact⟨j,own⟩
     ·exact⟨k,(sub k b (iY z hk)).1⟩
    ·have hjk:j≠k:=fun z=>by subst z;rw[e0]at e;cases e
     have e3:(env.set j .un)[k]? =some (.bor xs):=by rw[Qxz hjk];exact e
     have hik:i≠k:=fun z=>by subst z;exact nb xs e3
     exact⟨⟨xs,by rw[Qxz hik];exact e3⟩,by rw[Qxz hik]⟩
def RC:GS X W c (.ret ABg) (.Return none pos):=fun env=>PS.imp Qw fun D σ H q=>by
 simp only[zW,E.aB,Vq,v_1,v_2,v_3,v_4,v_5,v_6,Z8,v_8,Za,Ge,Pr,aad,Jd,aac,aab,Vp,Pq,Pn,aaa,nG,Vo,Vn,Z9,Vm,lD,Out.fl,tQ]at q
 exact q.2 .non σ H (Nz.refl q.1) rfl
theorem iU lo:∀(n i:Nat)(d:D),(bF lo n)[i]? =some d->d=.int (lo+i)/\i<n
 |0,i=>fun d h=>by simp[bF]at h
 |n+1,0=>fun d h=>by simp[bF]at h;exact⟨by rw[<-h];simp,by omega⟩
 |n+1,i+1=>fun d h=>by
  obtain⟨e,l⟩:=iU _ n i d h
  refine⟨by rw[e];congr 1;push_cast;omega,by omega⟩
theorem fW lo:∀n,(bF lo n).length=n
 |0=>rfl
 |n+1=>by rw[bF,QBq,fW]
theorem zg{H:Hp}{n:Nat}(hz:n<=sizeLine):Gives K (Itr lo n) (bF lo n) H where
 go:=fun H1 p i d e=>(iU lo n i d e).2
 yld:=fun H1 p i d e x H2 y=>by
  obtain⟨rfl,rfl⟩:=y
  rw[(iU lo n i d e).1]
  exact⟨rfl,.inl rfl⟩
 stop:=fun H1 p i hi=>by rw[fW]at hi;exact hi
 len:=by rw[fW];exact hz
def La(h:DX i=true): -(2 ^62)<=i/\i<2 ^62:=by
 simp only[DX,QUz]at h
 omega
def HS{tg:Expr}(ha:GE X W c m a)(hg:Gl X "range")(hm:X.mg "range"=none)(hs:starEach [a] X.env=[(false,eval a X.env)]):GI X W c (.range1 m) tg (.Call (.Name "range" p) [a] [] pos):=by
 intro env γ s σ H R I q
 refine G6 hg hm (cD ha.d eO hs) hs γ s σ H R I ⟨env,q.1,?_⟩
 have q2:=q.2
 simp only[Vo]at q2
 have go:∀d δ v H',Nx X.K env σ H δ H'->bh X.K H' d v->(match (lift δ (match d with|.int n=>if fits n.toNat&&DX n then some (Rv.val (.lst (bF 0 n.toNat)))else none|_=>none))with
   |.ok x env'=>∃d xs,x.gK=some d/\items d=some xs/\∀J H',Nx X.K env σ H env' H'->Gives X.K J xs H'->R J H'
   |.exc c env'=>∀H',Nx X.K env σ H env' H'->W c env' σ H'
   |.bad=>False)->∃j:Int,[v]=[.int j]/\ -(2 ^62)<=j/\j<2 ^62/\R (Itr 0 j.toNat) H':=fun d δ v H' N Dv z=>by
  cases d with
  |int n=>
   simp only at z
   by_cases hf:(fits n.toNat&&DX n)=true
   ·rw[if_pos hf]at z
    rw[QUq]at hf
    obtain⟨d',xs,e1,e2,z⟩:=z
    cases e1
    cases e2
    have hv:v=.int n:=Dv
    subst hv
    exact⟨n,rfl,(La hf.2).1,(La hf.2).2,z _ H' N (zg (dI hf.1))⟩
   ·rw[if_neg hf]at z;exact z.elim
  |_=>exact z.elim
 cases r:ev c m env with
 |bad=>rw[r]at q2;exact q2
 |exc k δ=>rw[r]at q2;exact q2
 |ok x δ=>
  rw[r]at q2
  cases x with
  |val d=>exact fun v H' N Dv=>go d δ v H' N Dv q2
  |new o=>exact fun v H' N Dv=>go o.d δ v H' N Dv q2
  |ref i=>exact q2
theorem jr.z{K:QQq}{tg:Tg}{env env':Ev}{σ ζ:St}{H:Hp}(st:jr K tg env σ env' ζ H):Nz K env σ H env' ζ H:=
 ⟨st.eG,fun i a z=>.inl ⟨i,st.sub z⟩,bG.refl _,fun _ _ z _=>z,fun _ z=>z,fun i xs e=>⟨⟨xs,(st.same i (st.bors i xs e)).1.trans e⟩,(st.same i (st.bors i xs e)).2⟩⟩
theorem Dg{env:Ev}{H:Hp}{f:Fl}{D:Ends}(q:tS K W env (f.turn g) D σ H)
  (k:∀ε υ H2,Nz K env σ H ε υ H2->tS K W ε (g ε) D υ H2->N υ H2):tS K W env f {D with nx:=N,ct:=N,bk:=D.nx} σ H:=by
 refine⟨q.1,?_⟩
 cases f with
 |next ε=>exact fun υ H2 N2=>k ε υ H2 N2 (qj q N2)
 |cont ε=>exact fun υ H2 N2=>k ε υ H2 N2 (qj q N2)
 |brk ε=>exact q.2
 |ret r ε=>exact q.2
 |exc j ε=>exact q.2
 |bad=>exact q.2
theorem XN{tg:Tg}{it:E}{b:S}(hp:PassesOwn (model X.prog X.w) X.A X.env X.xe)(hc:X.calm=true)(hi:GI X W c it Ξ ο)(hg:GG X tg Ξ)(hb:O7 X W c b body)
  (hs:∀x,foldedSetIterable ο X.env x=pure x):GS X W c (.for_ tg it b) (.For Ξ ο body [] pos):=by
 intro env γ s σ H D I q
 refine(Wl (pos:=pos) hp hc (wi:=fun ζ H' R=>ζ=σ/\H'=H/\tI X.K W env (ev c it env) σ H R) (fun γ s ζ H' R I'⟨e1,e2,z⟩=>by subst e1 e2;exact hi env γ s _ _ R I' z) hg (tb:=fun D σ H=>∃env,tS X.K W env _ D σ H) (fun γ s σ H D I⟨env,z⟩=>hb env γ s σ H D I z) hs) γ s σ H D I ⟨rfl,rfl,?_⟩
 simp only[adL]at q
 have tur:∀δ xs J H1,Nx X.K env σ H δ H1->Gives X.K J xs H1->tS X.K W δ _ D σ H1->∃W':Nat->Nat->St->Hp->Prop,(∃m,W' 0 m σ H1)/\∀i m σ H,W' i m σ H->
   (J.stop i H/\D.nx σ H)\/(J.go i H/\∃N:St->Hp->Prop,(∀ζ H',N ζ H'->∃m',m'<m/\W' (i+1) m' ζ H')/\∀x H',J.yld i H x H'->tG X.K tg x σ H' fun υ H2=>∃env,tS X.K W env (ex c b env) {D with nx:=N,ct:=N,bk:=D.nx} υ H2):=fun δ xs J H1 N1 G z=>by
  refine⟨fun i m ζ H'=>i<=xs.length/\m=xs.length-i/\bG H1 H'/\∃env',tS X.K W env' (bI tg (ex c b) (xs.drop i) env') D ζ H',⟨xs.length,QIq _,by simp,bG.refl _,δ,z⟩,?_⟩
  rintro i m ζ H' ⟨hi,rfl,pe,env',z⟩
  by_cases hl:i<xs.length
  ·obtain⟨d,hd⟩:∃d,xs[i]? =some d:=⟨xs[i],by simp[hl]⟩
   rw[vd hd,bI]at z
   cases e:bV tg d env' with
   |none=>rw[e]at z;exact z.2.elim
   |some ε=>
    rw[e]at z
    refine .inr ⟨G.go H' pe i d hd,fun υ H2=>bG H1 H2/\∃env3,tS X.K W env3 _ D υ H2,fun υ H2⟨p2,w⟩=>⟨xs.length- (i+1),by omega,hl,rfl,p2,w⟩,fun x H2 y=>?_⟩
    obtain⟨Dx,lay⟩:=G.yld H' pe i d hd x H2 y
    have N2:=z.1.lay lay
    refine⟨env',d,ε,N2.eG,Dx,e,fun υ st=>⟨ε,Dg (qj z (N2.z.trans st.z)) fun env3 σ3 H3 N3 w=>⟨(pe.trans N2.pers).trans N3.pers,env3,w⟩⟩⟩
  ·have e:i=xs.length:=by omega
   subst e
   rw[List.drop_length,bI]at z
   exact .inl ⟨G.stop H' pe _ (QVz _),z.2 ζ H' (Nz.refl z.1)⟩
 refine⟨q.1,?_⟩
 have go:∀(x:Rv)δ d,x.gK=some d->(match (match items d with|some xs=>bI tg (ex c b) xs δ|none=>Fl.bad)with
   |.next env'=>∀ζ H',Nz X.K env σ H env' ζ H'->D.nx ζ H'
   |.ret r env'=>∀v ζ H',Nz X.K env σ H env' ζ H'->Om X.K env σ H H' r v->D.rt v H'
   |.brk env'=>∀ζ H',Nz X.K env σ H env' ζ H'->D.bk ζ H'
   |.cont env'=>∀ζ H',Nz X.K env σ H env' ζ H'->D.ct ζ H'
   |.exc c env'=>∀ζ H',Nz X.K env σ H env' ζ H'->W c env' ζ H'
   |.bad=>False)->∃d xs,x.gK=some d/\items d=some xs/\∀J H',Nx X.K env σ H δ H'->Gives X.K J xs H'->∃W':Nat->Nat->St->Hp->Prop,(∃m,W' 0 m σ H')/\∀i m σ H,W' i m σ H->
   (J.stop i H/\D.nx σ H)\/(J.go i H/\∃N:St->Hp->Prop,(∀ζ H',N ζ H'->∃m',m'<m/\W' (i+1) m' ζ H')/\∀x H',J.yld i H x H'->tG X.K tg x σ H' fun υ H2=>∃env,tS X.K W env (ex c b env) {D with nx:=N,ct:=N,bk:=D.nx} υ H2):=fun x δ d ed z=>by
  cases e1:items d with
  |none=>rw[e1]at z;exact z.elim
  |some xs=>
   rw[e1]at z
   exact⟨d,xs,ed,e1,fun J H1 N G=>tur δ xs J H1 N G (qj ⟨q.1,z⟩ N.z)⟩
 have q2:=q.2
 cases r:ev c it env with
 |bad=>rw[r]at q2;exact q2
 |exc k δ=>rw[r]at q2;exact fun H' N=>q2 σ H' N.z
 |ok x δ=>
  rw[r]at q2
  cases x with
  |val d=>exact go _ δ d rfl q2
  |new o=>exact go _ δ o.d rfl q2
  |ref i=>exact q2.elim
def Mq{t:E}{b:S}(hp:PassesOwn (model X.prog X.w) X.A X.env X.xe)(ht:GT X W c t te)(hb:O7 X W c b body):GS X W c (.while_ t b) (.While te body [] pos):=by
 intro env
 refine PS.imp (J8 hp ht (tb:=fun D σ H=>∃env,tS X.K W env _ D σ H) (fun γ s σ H D I⟨env,z⟩=>hb env γ s σ H D I z)) fun D σ H q=>?_
 refine⟨fun n ζ H'=>∃env',tS X.K W env' (aZ _ _ n env') D ζ H',⟨c.turns,env,q⟩,?_⟩
 rintro n ξ H1 ⟨δ,q1⟩
 cases n with
 |zero=>exact q1.2.elim
 |succ n=>
  refine⟨δ,Jt q1 fun k ε H2 N2 q2=>?_⟩
  cases k with
  |true=>
   refine⟨fun ζ H'=>∃env',tS X.K W env' _ D ζ H',fun ζ H' w=>⟨n,Nat.lt_succ_self n,w⟩,ε,Dg q2 fun env3 σ3 H3 N3 w=>⟨env3,w⟩⟩
  |false=>
   exact q2.2 ξ H2 (Nz.refl q2.1)
end
structure Cz(K:QQq)(ps:List Sl)(vs:List V)(H:Hp)(qs:List Sl)(H':Hp):Prop where
 bor:∀(i:Nat)o,ps[i]? =some (.bor o)->∃o' a,qs[i]? =some (.bor o')/\vs[i]? =some (.ref a)/\jw K H' o' a
 pers:bG H H'
 keep:∀b u,H b=some u->(∀i,¬aP ps (vs.map some) i b)->H' b=some u
 dom:∀b,H' b=none->H b=none
noncomputable def agc(K:QQq)(H H':Hp):Rv->V->Prop
 |.val d,v=>bh K H' d v
 |.new q,v=>∃a,v=.ref a/\jw K H' q a/\H a=none
 |_,_=>False
def noOwn(ps:List Sl):Prop:=∀(i:Nat)o,ps[i]? ≠some (.own o)
noncomputable def vR(K:QQq)(n:Nat)(f:List Sl->Res):Sp:=fun vs H Q _=>∃ps,vs.length=n/\Sat K ps (vs.map some) H/\noOwn ps/\match f ps with
 |.ok r qs=>∀v H',Cz K ps vs H qs H'->agc K H H' r v->Q v H'
 |.exc _ qs=>∀H',Cz K ps vs H qs H'->False
 |.bad=>False
def v9{ps:List Sl}{vs:List V}{b:Addr}(hl:ps.length=vs.length):aP (ps++List.replicate k .un) (vs.map some++List.replicate k none) i b↔aP ps (vs.map some) i b:=by
 constructor
 ·rintro ⟨⟨s,o,e1,e2⟩,e3⟩
  by_cases hi:i<ps.length
  ·rw[Qwz hi]at e1
   rw[Qwz (by simpa[<-hl]using hi)]at e3
   exact⟨⟨s,o,e1,e2⟩,e3⟩
  ·rw[QIz (by omega),List.getElem?_replicate]at e1
   split at e1
   ·cases e1;cases e2
   ·cases e1
 ·rintro ⟨⟨s,o,e1,e2⟩,e3⟩
  have hi:=(QCz.mp e1).1
  exact⟨⟨s,o,by rw[Qwz hi];exact e1,e2⟩,by rw[Qwz (by simpa[<-hl]using hi)];exact e3⟩
def Sat.pad{ps:List Sl}{vs:List V}(S:Sat K ps (vs.map some) H)k:Sat K (ps++List.replicate k .un) (vs.map some++List.replicate k none) H:=by
 have hl:ps.length=vs.length:=by simpa using S.len
 refine⟨by simp[hl],fun i s e=>?_,fun i j a h1 h2=>S.ne i j a ((v9 hl).mp h1) ((v9 hl).mp h2)⟩
 by_cases hi:i<ps.length
 ·rw[Qwz hi]at e
  rw[Qwz (by simpa[<-hl]using hi)]
  exact S.sl i s e
 ·rw[QIz (by omega),List.getElem?_replicate]at e
  split at e
  ·cases e;trivial
  ·cases e
def Nz.cz{ps:List Sl}{H H':Hp}{k n:Nat}{ζ:St}(S:Sat K ps (vs.map some) H)(hn:vs.length=n)(N:Nz K (ps++List.replicate k .un) (vs.map some++List.replicate k none) H env' ζ H'):Cz K ps vs H (env'.take n) H':=by
 have hl:ps.length=vs.length:=by simpa using S.len
 refine⟨fun i o e=>?_,N.pers,fun b u hb no=>N.keep b u hb fun i z=>no i ((v9 hl).mp z),N.dom⟩
 have hi:=(QCz.mp e).1
 obtain⟨⟨o',e1⟩,e2⟩:=N.bors i o (by rw[Qwz hi];exact e)
 obtain⟨a,z1,z2⟩:=N.eG.sl i _ e1
 rw[e2,Qwz (by simpa[<-hl]using hi),QFz]at z1
 refine⟨o',a,by rw[List.getElem?_take_of_lt (by omega)];exact e1,?_,z2⟩
 cases q:vs[i]? with
 |none=>rw[q]at z1;cases z1
 |some v=>rw[q]at z1;simp at z1;rw[z1]
section
theorem RV{st:Stmt}{fd:FuncData}{k:Nat}{g:Fn}(F:YQ K x qual st f fd)(S:kW N ps (bf st))(hp:g.pars=ps.length)(hn:g.names=N.length)
  (hb:∀(cdv:Value)(A:Around)(outer:List Env)(s:Shared)(H:Hp)(E:XK),ju k (A.deeper (PyProof.Rows.envOfC qual (bf st) s.heap.objs.size f cdv))->O7 (Cd Ox P w K mg base N qual (bf st) f cdv A outer s H E).nox W0 c g.body (dY st)):
  o6 P w K mg base Ox (k+1) f fd ps (vR K ps.length (iy c g)):=by
 refine F.ok S (fun vs H Q E h=>?_) (fun cdv A outer s H vs Q E hr h=>?_)
 ·obtain⟨_,h,_⟩:=h
  exact h
 ·obtain⟨sl,hl,S0,no,q⟩:=h
  refine⟨_,hb cdv A outer s H E hr (sl++List.replicate (g.names-g.pars) .un),?_⟩
  have hlen:sl.length=vs.length:=by simpa using S0.len
  have hst:L2.start N vs=vs.map some++List.replicate (g.names-g.pars) none:=by
   unfold L2.start
   rw[hn,hp,hl]
  have e0:iy c g sl=match ex c g.body (sl++List.replicate (g.names-g.pars) .un)with
    |.next σ=>.ok (.val .non) (σ.take g.pars)
    |.ret r σ=>.ok r (σ.take g.pars)
    |.exc k σ=>.exc k (σ.take g.pars)
    |_=>.bad:=by
   unfold iy
   rw[if_pos (by rw[hp,<-hl,hlen])]<;>cases ex c g.body _<;>rfl
  rw[e0]at q
  rw[hst]
  refine⟨S0.pad _,?_⟩
  have hg:vs.length=g.pars:=by rw[hl,hp]
  cases r:ex c g.body _ with
  |next env'=>rw[r]at q;exact fun ζ H' N=>q .non H' (N.cz S0 hg) rfl
  |ret rv env'=>
   rw[r]at q
   refine fun v ζ H' N z=>q v H' (N.cz S0 hg) ?_
   cases rv with
   |val d=>exact z
   |new o=>
    obtain⟨a,e1,e2,e3⟩:=z
    refine⟨a,e1,e2,?_⟩
    rcases e3 with e3|⟨i,ys,e3,_⟩
    ·exact e3
    ·by_cases hi:i<sl.length
     ·rw[Qwz hi]at e3
      exact absurd e3 (no i ys)
     ·rw[QIz (by omega),List.getElem?_replicate]at e3
      split at e3<;>cases e3
   |ref i=>exact z.elim
  |brk env'=>rw[r]at q;exact q.elim
  |cont env'=>rw[r]at q;exact q.elim
  |exc j env'=>rw[r]at q;exact fun ζ H' N=>q H' (N.cz S0 hg)
  |bad=>rw[r]at q;exact q.elim
end
inductive En(K:QQq)(env:Ev)(σ:St)(H0 H:Hp):List Rv->List Sl->List V->Prop
 |nil:En K env σ H0 H [] [] []
 |val {d:D} {v:V} {rs:List Rv} {ps:List Sl} {vs:List V}:bh K H d v->En K env σ H0 H rs ps vs->En K env σ H0 H (.val d::rs) (.val d::ps) (v::vs)
 |ref {o:Ob} {j:Nat} {a:Addr} {s:Sl} {rs:List Rv} {ps:List Sl} {vs:List V}:env[j]? =some s->isOwn s=some o->σ[j]? =some (some (.ref a))->jw K H o a->Rv.ref j∉rs->En K env σ H0 H rs ps vs->En K env σ H0 H (.ref j::rs) (.bor o::ps) (.ref a::vs)
section
theorem m6(S:Sat K env σ H):∀{rs:List Rv}{ps:List Sl}{vs:List V},enter rs env=some ps->iJ K σ H0 H rs vs->En K env σ H0 H rs ps vs
 |[],ps,vs,h,r=>by
  cases h
  have:=r
  subst this
  exact .nil
 |x::rs,ps,vs,h,r=>by
  obtain⟨v,vr,rfl,h1,h2⟩:=r
  cases x with
  |val d=>
   simp only[enter]at h
   cases e:enter rs env with
   |none=>rw[e]at h;cases h
   |some ps'=>rw[e]at h;cases h;exact .val h1 (m6 S e h2)
  |new o=>cases h
  |ref j=>
   simp only[enter]at h
   split at h
   ·cases h
   ·rename_i hn
    have nr:Rv.ref j∉rs:=fun hq=>hn (List.any_eq_true.mpr ⟨_,hq,by simp[j9]⟩)
    cases e1:env[j]? with
    |none=>rw[e1]at h;cases h
    |some s=>
     rw[e1]at h
     have h1':=h1
     cases s with
     |un=>cases h
     |val d=>cases h
     |own o=>
      cases e:enter rs env with
      |none=>simp only[e]at h;cases h
      |some ps'=>
       simp only[e]at h
       cases h
       obtain⟨a,z1,z2⟩:=S.sl j _ e1
       rw[h1']at z1
       cases z1
       exact .ref e1 rfl h1' z2 nr (m6 S e h2)
     |bor o=>
      cases e:enter rs env with
      |none=>simp only[e]at h;cases h
      |some ps'=>
       simp only[e]at h
       cases h
       obtain⟨a,z1,z2⟩:=S.sl j _ e1
       rw[h1']at z1
       cases z1
       exact .ref e1 rfl h1' z2 nr (m6 S e h2)
def En.len{ps:List Sl}(h:En K env σ H0 H rs ps vs):ps.length=vs.length/\rs.length=vs.length:=by
 induction h with
 |nil=>exact⟨rfl,rfl⟩
 |val _ _ ih=>simp[ih.1,ih.2]
 |ref _ _ _ _ _ _ ih=>simp[ih.1,ih.2]
theorem En.noOwn{ps:List Sl}(h:En K env σ H0 H rs ps vs):noOwn ps:=by
 induction h with
 |nil=>intro i o e;simp at e
 |val _ _ ih=>intro i o e;cases i with
  |zero=>simp at e
  |succ i=>exact ih i o (by simpa using e)
 |ref _ _ _ _ _ _ ih=>intro i o e;cases i with
  |zero=>simp at e
  |succ i=>exact ih i o (by simpa using e)
def En.lent{ps:List Sl}(h:En K env σ H0 H rs ps vs):∀{i:Nat}{a:Addr},aP ps (vs.map some) i a->∃j,rs[i]? =some (.ref j)/\aP env σ j a:=by
 induction h with
 |nil=>rintro i a ⟨⟨s,o,e,_⟩,_⟩;simp at e
 |val _ _ ih=>
  rintro i a ⟨⟨s,o,e1,e2⟩,e3⟩
  cases i with
  |zero=>simp at e1;subst e1;cases e2
  |succ i=>simpa using ih ⟨⟨s,o,by simpa using e1,e2⟩,by simpa using e3⟩
 | @ref o j b s rs ps vs e1 e2 e3 oa nr _ ih=>
  rintro i a ⟨⟨s',o',z1,z2⟩,z3⟩
  cases i with
  |zero=>
   simp at z3
   subst z3
   exact⟨j,rfl,⟨⟨s,o,e1,e2⟩,e3⟩⟩
  |succ i=>simpa using ih ⟨⟨s',o',by simpa using z1,z2⟩,by simpa using z3⟩
def En.eG(S0:Sat K env0 σ H0)(S:Sat K env σ H)(sub:∀(i:Nat)a,aP env σ i a->aP env0 σ i a){ps:List Sl}(h:En K env σ H0 H rs ps vs):Sat K ps (vs.map some) H:=by
 refine⟨by simpa using h.len.1,?_,?_⟩
 ·clear S0 sub
  induction h with
  |nil=>intro i s e;simp at e
  |val hd _ ih=>
   intro i s e
   cases i with
   |zero=>simp at e;subst e;exact⟨_,rfl,hd⟩
   |succ i=>simpa using ih i s (by simpa using e)
  |ref _ _ _ oa _ _ ih=>
   intro i s e
   cases i with
   |zero=>simp at e;subst e;exact⟨_,rfl,oa⟩
   |succ i=>simpa using ih i s (by simpa using e)
 ·--no two slots have one address
  induction h with
  |nil=>rintro i j a ⟨⟨s,o,e,_⟩,_⟩;simp at e
  |val hd t ih=>
   rintro i j a ⟨⟨s,o,e1,e2⟩,e3⟩ ⟨⟨s',o',e1',e2'⟩,e3'⟩
   cases i with
   |zero=>simp at e1;subst e1;cases e2
   |succ i=>cases j with
    |zero=>simp at e1';subst e1';cases e2'
    |succ j=>rw[ih i j a ⟨⟨s,o,by simpa using e1,e2⟩,by simpa using e3⟩ ⟨⟨s',o',by simpa using e1',e2'⟩,by simpa using e3'⟩]
  | @ref o k b s0 rs ps vs z1 z2 z3 oa nr t ih=>
   have ok:aP env σ k b:=⟨⟨s0,o,z1,z2⟩,z3⟩
   have clash:∀i,¬aP ps _ i b:=fun i z=>by
    obtain⟨q,e,ow⟩:=t.lent z
    have:=S.ne k q b ok ow
    subst this
    exact nr (QBz e)
   rintro i j a ⟨⟨s,o,e1,e2⟩,e3⟩ ⟨⟨s',o',e1',e2'⟩,e3'⟩
   cases i with
   |zero=>
    simp at e3
    subst e3
    cases j with
    |zero=>rfl
    |succ j=>exact absurd ⟨⟨s',o',by simpa using e1',e2'⟩,by simpa using e3'⟩ (clash j)
   |succ i=>cases j with
    |zero=>
     simp at e3'
     subst e3'
     exact absurd ⟨⟨s,o,by simpa using e1,e2⟩,by simpa using e3⟩ (clash i)
    |succ j=>rw[ih i j a ⟨⟨s,o,by simpa using e1,e2⟩,by simpa using e3⟩ ⟨⟨s',o',by simpa using e1',e2'⟩,by simpa using e3'⟩]
end
def Sl.Ef(o':Ob):Sl->Option Sl
 |.own _=>some (.own o')
 |.bor _=>some (.bor o')
 |_=>none
def Jg{o':Ob}(h:cM j (fun _=>some o') env=some env'):∃s s',env[j]? =some s/\s.Ef o'=some s'/\env'=env.set j s':=by
 obtain⟨o,q,e,hh⟩:=qe h
 cases e
 rcases hh with ⟨e,rfl⟩|⟨e,rfl⟩
 ·exact⟨_,_,e,rfl,rfl⟩
 ·exact⟨_,_,e,rfl,rfl⟩
theorem oJ:∀{rs:List Rv}{qs:List Sl}{env ε:Ev},giveBack rs qs env=some ε->ε.length=env.length/\∀j:Nat,
  ((∀i:Nat,rs[i]? ≠some (Rv.ref j))/\ε[j]? =env[j]?)\/∃(i:Nat)(o':Ob)(s s':Sl),rs[i]? =some (.ref j)/\qs[i]? =some (.bor o')/\env[j]? =some s/\s.Ef o'=some s'/\ε[j]? =some s'
 |[],[],env,ε,h=>by
  cases h
  exact⟨rfl,fun j=>.inl ⟨fun i=>by simp,rfl⟩⟩
 |[],_::_,env,ε,h=>by cases h
 |x::rs,[],env,ε,h=>by cases x<;>cases h
 |x::rs,q::qs,env,ε,h=>by
  have skip:giveBack rs qs env=some ε->(∀j,x≠ .ref j)->ε.length=env.length/\∀j:Nat,
    ((∀i:Nat,(x::rs)[i]? ≠some _)/\ε[j]? =env[j]?)\/∃(i:Nat)(o':Ob)(s s':Sl),(x::rs)[i]? =some _/\(q::qs)[i]? =some (.bor o')/\env[j]? =some s/\s.Ef o'=some s'/\ε[j]? =some s':=fun h nx=>by
   obtain⟨l,g⟩:=oJ h
   refine⟨l,fun j=>?_⟩
   rcases g j with ⟨g1,g2⟩|⟨i,o',s,s',g1,g2,g3⟩
   ·refine .inl ⟨fun i e=>?_,g2⟩
    cases i with
    |zero=>simp at e;exact nx j e
    |succ i=>exact g1 i (by simpa using e)
   ·exact .inr ⟨i+1,o',s,s',by simpa using g1,by simpa using g2,g3⟩
  cases x with
  |val d=>exact skip h fun j z=>by cases z
  |new o=>exact skip h fun j z=>by cases z
  |ref k=>
   cases q with
   |bor o=>
    change Option.bind _ _=some ε at h
    cases e:cM k _ env with
    |none=>rw[e]at h;cases h
    |some δ=>
     rw[e]at h
     obtain⟨s0,s1,z1,z2,rfl⟩:=Jg e
     have hk:=(QCz.mp z1).1
     obtain⟨l,g⟩:=oJ h
     refine⟨by simpa using l,fun j=>?_⟩
     rcases g j with ⟨g1,g2⟩|⟨i,o',s,s',g1,g2,g3,g4,g5⟩
     ·by_cases hj:k=j
      ·subst hj
       rw[Qwq hk]at g2
       exact .inr ⟨0,o,s0,s1,rfl,rfl,z1,z2,g2⟩
      ·rw[Qxz hj]at g2
       refine .inl ⟨fun i e=>?_,g2⟩
       cases i with
       |zero=>simp at e;exact hj e
       |succ i=>exact g1 i (by simpa using e)
     ·by_cases hj:k=j
      ·subst hj
       rw[Qwq hk]at g3
       cases g3
       refine .inr ⟨i+1,o',s0,s',by simpa using g1,by simpa using g2,z1,?_,g5⟩
       cases s0 with
       |own q=>cases z2;exact g4
       |bor q=>cases z2;exact g4
       |un=>cases z2
       |val d=>cases z2
      ·rw[Qxz hj]at g3
       exact .inr ⟨i+1,o',s,s',by simpa using g1,by simpa using g2,g3,g4,g5⟩
   |un=>cases h
   |val d=>cases h
   |own o=>cases h
def Lg{o':Ob}(h:s.Ef o'=some s'):(∃o,isOwn s=some o)/\isOwn s'=some o':=by
 cases s with
 |own q=>cases h;exact⟨⟨q,rfl⟩,rfl⟩
 |bor q=>cases h;exact⟨⟨q,rfl⟩,rfl⟩
 |un=>cases h
 |val d=>cases h
section
def En.V6(h:En K env σ H0 H rs ps vs):∀{i j:Nat},rs[i]? =some (.ref j)->∃o a,ps[i]? =some (.bor o)/\vs[i]? =some (.ref a)/\σ[j]? =some (some (.ref a)):=by
 induction h with
 |nil=>intro i j e;simp at e
 |val _ _ ih=>intro i j e;cases i with
  |zero=>simp at e
  |succ i=>simpa using ih (by simpa using e)
 | @ref o k a s rs ps vs e1 e2 e3 oa nr t ih=>
  intro i j e
  cases i with
  |zero=>simp at e;subst e;exact⟨o,a,rfl,rfl,e3⟩
  |succ i=>simpa using ih (by simpa using e)
def Sq(S0:Sat K env0 σ H0)(N:Nx K env0 σ H0 env H)(E:En K env σ H0 H rs ps vs)(C:Cz K ps vs H qs H2)(g:giveBack rs qs env=some ε):Nx K env0 σ H0 ε H2:=by
 have S:=N.eG
 have sub:=N.sub
 obtain⟨gl,gs⟩:=oJ g
 have own2:∀j b,aP ε σ j b->aP env σ j b:=fun j b z=>by
  obtain⟨⟨s,o,e1,e2⟩,e3⟩:=z
  rcases gs j with ⟨_,g2⟩|⟨i,o',s0,s1,_,_,g3,g4,g5⟩
  ·rw[g2]at e1;exact⟨⟨s,o,e1,e2⟩,e3⟩
  ·obtain⟨⟨q,hq⟩,_⟩:=Lg g4
   exact⟨⟨s0,q,g3,hq⟩,e3⟩
 have notLent:∀j b,aP env σ j b->(∀i:Nat,rs[i]? ≠some _)->∀i,¬aP ps _ i b:=fun j b ow nr i z=>by
  obtain⟨k,e,ow'⟩:=E.lent z
  have:=S.ne j k b ow ow'
  subst this
  exact nr i e
 refine⟨⟨by rw[gl];exact S.len,fun j s e=>?_,fun j k b z w=>S.ne j k b (own2 j b z) (own2 k b w)⟩,fun j b z=>sub j b (own2 j b z),N.pers.trans C.pers,fun b u hb no=>C.keep b u (N.keep b u hb no) fun i z=>?_,fun b z=>N.dom b (C.dom b z),fun j xs e=>?_⟩
 ·rcases gs j with ⟨g1,g2⟩|⟨i,o',s0,s1,g1,g2,g3,g4,g5⟩
  ·rw[g2]at e
   exact(S.sl j s e).keep C.pers fun b u ho ev hb=>C.keep b u hb (notLent j b (wg e ho ev) g1)
  ·rw[g5]at e
   cases e
   obtain⟨o,a,p1,p2,p3⟩:=E.V6 g1
   obtain⟨o'',a',c1,c2,c3⟩:=C.bor i o p1
   rw[g2]at c1
   cases c1
   rw[p2]at c2
   cases c2
   cases s0 with
   |own q=>cases g4;exact⟨a,by rw[p3];rfl,c3⟩
   |bor q=>cases g4;exact⟨a,by rw[p3];rfl,c3⟩
   |un=>cases g4
   |val d=>cases g4
 ·obtain⟨k,e,ow⟩:=E.lent z
  exact no k (sub k b ow)
 ·obtain⟨xs,e⟩:=N.bors j xs e
  rcases gs j with ⟨g1,g2⟩|⟨i,o',s0,s1,g1,g2,g3,g4,g5⟩
  ·exact⟨xs,by rw[g2];exact e⟩
  ·rw[e]at g3
   cases g3
   cases g4
   exact⟨o',g5⟩
end
section
theorem RP(F:o6 X.prog X.w X.K X.mg X.base Ox k f fd ps (vR X.K ps.length (c.fn g)))(hr:ju k X.A)(hg:Gl X x)(hm:X.mg x=some (.ref f))(hk:PySem.W.keepIn X.K (.ref f)=true)(hb:Binds X.K fd ps [])
  (hd:(x==("__debug__":Str))=false)(ha:GA X W c m (e::es))(he:starEach (e::es) X.env=(false,eval e X.env)::starEach es X.env)(hpl:(backTo pos (starEach es X.env)).any (·.1)=false)(hn:∀sl,c.fn g sl=.bad\/sl.length=ps.length):
  GE X W c (.call g m) (.Call (.Name x p) (e::es) [] pos):=by
 intro env γ s σ H Q I q
 refine QJ F hr hg hm hk hb .nil abp (t:=fun ζ H' R=>ζ=σ/\H'=H/\TQ X.K W env (evs c m env) σ H R) (fun p γ s ζ H' R I'⟨e1,e2,z⟩=>by subst e1 e2;exact ha env p γ s _ _ R I' z) hd he hpl γ s σ H Q I ⟨rfl,rfl,?_⟩
 simp only[Vp]at q
 obtain⟨S,q⟩:=q
 refine⟨S,?_⟩
 cases r:evs c m env with
 |bad=>rw[r]at q;exact q
 |exc j δ=>rw[r]at q;exact q
 |ok rs δ=>
  rw[r]at q
  simp only[Out.bind,sG]at q
  intro vs H1 N rv
  rw[List.append_nil]
  cases e1:enter rs δ with
  |none=>rw[e1]at q;exact q.elim
  |some sl=>
   rw[e1]at q
   simp only at q
   have E:=m6 N.eG e1 rv
   refine⟨sl,?_,E.eG S N.eG N.sub,E.noOwn,?_⟩
   ·rcases hn sl with z|z
    ·rw[z]at q;exact q.elim
    ·rw[<-E.len.1,z]
   ·cases e2:c.fn g sl with
    |bad=>rw[e2]at q;exact q.elim
    |ok rv qs=>
     rw[e2]at q
     simp only at q
     intro v H2 C z
     cases e3:giveBack rs qs δ with
     |none=>rw[e3]at q;exact q.elim
     |some ε=>
      rw[e3]at q
      refine q v H2 (Sq S N E C e3) ?_
      cases rv with
      |val d=>exact z
      |new o=>obtain⟨a,z1,z2,z3⟩:=z;exact⟨a,z1,z2,N.dom a z3⟩
      |ref i=>exact z.elim
    |exc j qs=>rw[e2]at q;exact q.elim
end
def Gw c g sl:iy c g sl=.bad\/sl.length=g.pars:=by
 unfold iy
 split
 ·exact .inr (by assumption)
 ·exact .inl rfl
end Mini
end
section
namespace Mini
open PySem L2 PyProof.Rows
structure zO(z TI TO i1 i2:Addr)(b1 b2:Bool)(l1 l2:Addr)(k:Nat)(h:Heap):Prop where
 zr:∃f0 f1,jk h z TI TO f0 f1/\F0 f0
 ti:IsPair h TI (.ref i1) (.ref i2)
 to:∃a b,IsPair h TO a b
 it1:tH b1 h i1 l1 k
 it2:tH b2 h i2 l2 k
section
variable{E:QZq}
def vp{b1 b2:Bool}{xs ys:Array Value}(hl1:xN b1 s.heap l1 xs)(hl2:xN b2 s.heap l2 ys)
  (h:∀h',zO (s.heap.objs.size+4) (s.heap.objs.size+2) (s.heap.objs.size+3) s.heap.objs.size (s.heap.objs.size+1) b1 b2 l1 l2 0 h'->h'.objs.size=s.heap.objs.size+5->
   (∀c o,s.heap.get? c=some o->h'.get? c=some o)->Q (.ref (s.heap.objs.size+4)) {s with heap:=h'}):
  wpAny (model prog w) A (call (.type "zip") [.ref l1,.ref l2]) Q E s:=by
 refine callType_new PySem.F.called_zip (by decide) (PySem.F.typeCall_zip_2 _ _) (PySem.F.newCall_zip_2 _ _) (fun obj=>PySem.F.args_object_init_3 obj _ _) PySem.F.entry_zip_new
  (IK b1 b2 l1 l2 xs ys) ⟨hl1,hl2,?_⟩
 have z1:(zH1 b1 s.heap l1).objs.size=s.heap.objs.size+1:=Heap.size_push ..
 have z2:(zH2 b1 b2 s.heap l1 l2).objs.size=s.heap.objs.size+2:=by rw[Heap.size_push,z1]
 have z3:(zH3 b1 b2 s.heap l1 l2).objs.size=s.heap.objs.size+3:=by rw[Heap.size_push,z2]
 have z4:(zH4 b1 b2 s.heap l1 l2).objs.size=s.heap.objs.size+4:=by rw[Heap.size_push,z3]
 have g5:(YT b1 b2 s.heap l1 l2).get? (zH4 b1 b2 s.heap l1 l2).objs.size=some _:=Qzq _ rfl
 have g4:(YT b1 b2 s.heap l1 l2).get? (zH3 b1 b2 s.heap l1 l2).objs.size=some _:=QWq _ (Qzq _ rfl)
 have g3:(YT b1 b2 s.heap l1 l2).get? (zH2 b1 b2 s.heap l1 l2).objs.size=some _:=QWq _ (QWq _ (Qzq _ rfl))
 have g2:(YT b1 b2 s.heap l1 l2).get? (zH1 b1 s.heap l1).objs.size=some _:=QWq _ (QWq _ (QWq _ (Qzq _ rfl)))
 rw[z2,z3,z4]at g5
 rw[z1,z2]at g3
 rw[z3]at g4
 rw[z1]at g2
 rw[z4]
 have i1:tH b1 (YT b1 b2 s.heap l1 l2) s.heap.objs.size l1 0:=by cases b1<;>exact⟨_,(QWq _ (QWq _ (QWq _ (QWq _ (Qzq _ rfl))))),rfl,rfl⟩
 exact⟨⟨_,g5,rfl⟩,h _ ⟨⟨_,_,g5,.inl rfl⟩,g3,⟨_,_,g4⟩,i1,(by cases b2<;>exact⟨_,g2,rfl,rfl⟩)⟩ (by rw[Heap.size_push,z4]) fun c o x=>
  QWq _ (QWq _ (QWq _ (QWq _ (QWq _ x))))⟩
end
def ul(h1:l1<n)(h2:l2<n):ZipApart (n+4) (n+2) (n+3) n (n+1) l1 l2:=zipApart_new h1 h2
def Inv.CZ{X:Cx}{σ:L2.St}{H:Hp}{h':Heap}{ch:List Addr}(I:Inv X γ σ H s)(k:∀b o,b∉ch->s.heap.get? b=some o->h'.get? b=some o)(hf:∀b∈ch,fM X γ H b):
  Inv X γ σ H {s with heap:=h',toks:=t'}:=by
 have nit:∀b u,H b=some u->b∉ch:=fun b u e z=>by rw[(hf b z).1]at e;cases e
 refine I.step (fun b hb=>⟨(hf b hb).2.2.2.1,(hf b hb).2.1,(hf b hb).2.2.2.2.1,(hf b hb).2.2.2.2.2⟩) (fun b o _ _ hc e _=>k b o hc e) (fun b o _ _ hc e _=>⟨o.slots,k b o hc e⟩) (fun _ _ _ _ n=>n)
  (fun b o hc e=>⟨o,k b o hc e⟩) (fun _ _ e=>e) (fun _ _ _ e=>e) (fun b ps e=>⟨#[],by rw[e];simp⟩) (fun m hm=>?_) (fun b u e=>?_) I.bare
 ·obtain⟨o,es,ep,ho,r⟩:=hm
  exact⟨o,es,ep,k _ o (fun z=>(hf _ z).2.1 rfl) ho,r⟩
 ·refine(I.hok b u e).stay (fun c v hc q=>k c v ?_ q) (fun _ q=>q) fun _ _ q=>q
  rcases hc with z|z
  ·rw[z];exact nit b u e
  ·exact nit c _ z
def Inv.uo{X:Cx}{σ:L2.St}{H:Hp}{h':Heap}{ch:List Addr}{a:Addr}(I:Inv X γ σ H s)(k:∀b o,b∉ch->s.heap.get? b=some o->h'.get? b=some o)(hf:∀b∈ch,fM X γ H b)
  (ha:s.heap.objs.size<=a)(new:bY X.prog X.w (upd H a u) h' a u):Inv X γ σ (upd H a u) {s with heap:=h',toks:=t'}:=by
 have nit:∀b u,H b=some u->b∉ch:=fun b u e z=>by rw[(hf b z).1]at e;cases e
 have ne:∀b w,H b=some w->b≠a:=fun b w e z=>by subst z;rw[I.hok.fresh ha]at e;cases e
 refine I.step (fun b hb=>⟨(hf b hb).2.2.2.1,(hf b hb).2.1,(hf b hb).2.2.2.2.1,(hf b hb).2.2.2.2.2⟩) (fun b o _ _ hc e _=>k b o hc e) (fun b o _ _ hc e _=>⟨o.slots,k b o hc e⟩)
  (fun b o _ e n=>by rw[aC (Qvz (Qvq (Qqz e) ha))];exact n)
  (fun b o hc e=>⟨o,k b o hc e⟩) (fun b xs e=>by rw[aC (ne b _ e)];exact e) (fun b o w e=>by rw[aC (ne b _ e)];exact e) (fun b ps e=>⟨#[],by rw[aC (ne b _ e),e];simp⟩) (fun m hm=>?_) (fun b w e=>?_) I.bare
 ·obtain⟨o,es,ep,ho,r⟩:=hm
  exact⟨o,es,ep,k _ o (fun z=>(hf _ z).2.1 rfl) ho,r⟩
 ·by_cases hb:b=a
  ·subst hb
   rw[aN]at e
   cases e
   exact new
  ·rw[aC hb]at e
   refine(I.hok b w e).stay (fun c v hc q=>k c v ?_ q) (fun c q=>by rw[aC (ne c _ q)];exact q) fun c xs q=>by rw[aC (ne c _ q)];exact q
   rcases hc with z|z
   ·rw[z];exact nit b w e
   ·exact nit c _ z
def Oj(K:QQq)(b:Bool)(H:Hp)(l:Addr)(vs:List V):Prop:=match b with|true=>FZ K H l vs|false=>jq K H l vs
def bG.vQ{K:QQq}{b:Bool}{l:Addr}(p:bG H H')(h:Oj K b H l vs):Oj K b H' l vs:=by
 cases b with
 |true=>exact p.RT h
 |false=>exact p.VN h
def Inv.vQ{X:Cx}{σ:L2.St}{H:Hp}{b:Bool}{l:Addr}(I:Inv X γ σ H s)(h:Oj X.K b H l vs):∃its:List Value,Vals vs its/\xN b s.heap l its.toArray/\vs.length<=sizeLine/\l<s.heap.objs.size:=by
 cases b with
 |true=>
  obtain⟨its,r,p,z⟩:=I.list (FZ.sq h)
  obtain⟨o,e,_⟩:=p.isList
  exact⟨its,r,p.isList,z,Qqz e⟩
 |false=>
  obtain⟨its,r,p,z⟩:=I.tuple h
  obtain⟨o,e,_⟩:=id p
  exact⟨its,r,p,z,Qqz e⟩
noncomputable def Itz(K:QQq)(b1 b2:Bool)(l1 l2:Addr)(vs ws:List V):It:=
 ⟨fun i H=>Oj K b1 H l1 vs/\Oj K b2 H l2 ws/\∃v u,vs[i]? =some v/\ws[i]? =some u,
  fun i H x H'=>∃p v u,H p=none/\x=.ref p/\vs[i]? =some v/\ws[i]? =some u/\H'=upd H p (.tup [v,u]),
  fun i H=>Oj K b1 H l1 vs/\Oj K b2 H l2 ws/\(vs.length<=i\/ws.length<=i)⟩
theorem jC{w:World}{K:QQq}{z TI TO i1 i2 l1 l2:Addr}{b1 b2:Bool}(D:ZipApart z TI TO i1 i2 l1 l2):
  Turn P w K tg (Itz K b1 b2 l1 l2 vs ws) [z,TI,TO,i1,i2] z (fun i h=>zO z TI TO i1 i2 b1 b2 l1 l2 i h) where
 mem:=by simp
 obj:=fun i h st b hb=>by
  obtain⟨f0,f1,zr,_⟩:=st.zr
  obtain⟨x,y,to⟩:=st.to
  simp only[QCq,QAz,or_false]at hb
  rcases hb with rfl|rfl|rfl|rfl|rfl
  ·exact⟨_,zr,fun v z=>by cases z⟩
  ·exact⟨_,st.ti,fun v z=>by cases z⟩
  ·exact⟨_,to,fun v z=>by cases z⟩
  ·exact st.it1.obj
  ·exact st.it2.obj
 keep:=fun i h h' st k=>by
  obtain⟨f0,f1,zr,hf⟩:=st.zr
  obtain⟨x,y,to⟩:=st.to
  exact⟨⟨f0,f1,k z (by simp) _ zr,hf⟩,k TI (by simp) _ st.ti,⟨x,y,k TO (by simp) _ to⟩,st.it1.at fun o e=>k i1 (by simp) o e,st.it2.at fun o e=>k i2 (by simp) o e⟩
 item:=by
  intro X hP hw hK hc i γ s σ H E I hf st hg
  subst hP hw hK
  obtain⟨hq1,hq2,v,u,ev,eu⟩:=hg
  obtain⟨its,r1,p1,_,_⟩:=Inv.vQ I hq1
  obtain⟨its2,r2,p2,_,_⟩:=Inv.vQ I hq2
  obtain⟨x,ex,rx⟩:=r1.get ev
  obtain⟨y,ey,ry⟩:=r2.get eu
  obtain⟨f0,f1,zr,h0⟩:=st.zr
  obtain⟨a,b,to⟩:=st.to
  refine pO D zr h0 st.ti to st.it1 st.it2 p1 p2 (by simpa using ex) (by simpa using ey) fun h' T=>?_
  obtain⟨g0,g1,zr',h0'⟩:=T.zr
  refine⟨_,rfl,Hk zr' h0' fun h'' q0 zr'' hq0 sb=>?_⟩
  have f1':∀b∈[z,TO,i1,i2],fM X γ H b:=fun b hb=>hf b (by
   simp only[QCq,QAz,or_false]at hb⊢
   rcases hb with h|h|h|h<;>simp[h])
  have kk:∀b o,b∉[z,TO,i1,i2]->s.heap.get? b=some o->h''.get? b=some o:=fun b o hb e=>by
   simp only[QCq,QAz,or_false,not_or]at hb
   exact sb.extBut _ _ hb.1 (T.keep b o hb.1 hb.2.1 hb.2.2.1 hb.2.2.2 e)
  have new'':=sb.extBut _ _ (by
   obtain⟨q,e,_⟩:∃q,s.heap.get? z=some q/\True:=⟨_,zr,trivial⟩
   exact Nat.ne_of_gt (Qqz e)) T.new
  have I1:Inv X γ σ (upd H s.heap.objs.size (.tup [v,u])) {s with heap:=h''}:=by
   refine Inv.uo I kk f1' (QVz _) ⟨by show 2<=sizeLine;rw[sizeLine_eq];decide,[x,y],.cons rx (.cons ry .nil),_,new'',rfl,rfl,_,rfl⟩
  refine⟨.ref s.heap.objs.size,upd H s.heap.objs.size _,I1,rfl,⟨_,v,u,I.hok.fresh (QVz _),rfl,ev,eu,rfl⟩,?_,fun b hb=>?_⟩
  ·have up:∀c o,c≠z->h'.get? c=some o->h''.get? c=some o:=fun c o hcz e=>sb.extBut _ _ hcz e
   obtain⟨a',b',to'⟩:=T.to
   exact⟨⟨q0,g1,zr'',hq0⟩,up _ _ D.TIz T.ti,⟨a',b',up _ _ D.TOz to'⟩,T.it1.at fun o e=>up _ o D.i1z e,T.it2.at fun o e=>up _ o D.i2z e⟩
  ·have lt:b<s.heap.objs.size:=by
    simp only[QCq,QAz,or_false]at hb
    rcases hb with rfl|rfl|rfl|rfl|rfl
    ·exact Qqz zr
    ·exact Qqz st.ti
    ·exact Qqz to
    ·exact st.it1.lt
    ·exact st.it2.lt
   rw[aC (Qvz lt)]
   exact(hf b hb).1
 done:=by
  intro X hP hw hK hc i γ s σ H E I hf st hg
  subst hP hw hK
  obtain⟨hq1,hq2,hend⟩:=hg
  obtain⟨its,r1,p1,_,_⟩:=Inv.vQ I hq1
  obtain⟨its2,r2,p2,_,_⟩:=Inv.vQ I hq2
  have l1:=r1.length
  have l2:=r2.length
  obtain⟨f0,f1,zr,h0⟩:=st.zr
  obtain⟨a,b,to⟩:=st.to
  refine qK (I.ok.hd hc) D zr h0 st.ti to st.it1 st.it2 p1 p2 ?_ fun h' kk=>⟨rfl,?_⟩
  ·rcases hend with h|h
   ·exact .inl (by simp;omega)
   ·exact .inr (by simp;omega)
  ·refine Inv.CZ (ch:=[z,TO,i1,i2]) I (fun b o hb e=>?_) fun b hb=>hf b (by
    simp only[QCq,QAz,or_false]at hb⊢
    rcases hb with h|h|h|h<;>simp[h])
   simp only[QCq,QAz,or_false,not_or]at hb
   exact kk b o hb.1 hb.2.1 hb.2.2.1 hb.2.2.2 e
 self:=fun A i s Q E st h=>by
  obtain⟨f0,f1,zr,h0⟩:=st.zr
  exact iW zr h
end Mini
end
section
namespace Mini
open PySem L2
theorem jz:∀{xs ys:List D}{i:Nat}{d:D},(aQ xs ys)[i]? =some d->∃x y,xs[i]? =some x/\ys[i]? =some y/\d=.tup [x,y]
 |[],_,i,d,h=>by simp[aQ]at h
 |_::_,[],i,d,h=>by simp[aQ]at h
 |x::xs,y::ys,0,d,h=>by simp[aQ]at h;exact⟨x,y,rfl,rfl,h.symm⟩
 |x::xs,y::ys,i+1,d,h=>by
  rw[aQ,List.getElem?_cons_succ]at h
  simpa using jz h
theorem jy:∀(xs ys:List D),(aQ xs ys).length=min xs.length ys.length
 |[],ys=>by simp[aQ]
 |_::_,[]=>by simp[aQ]
 |x::xs,y::ys=>by rw[aQ,QBq,jy xs ys,QBq,QBq];omega
theorem uZ{H:Hp}{b1 b2:Bool}{vs ws:List V}(h1:Oj K b1 H l1 vs)(h2:Oj K b2 H l2 ws)(d1:aq K H xs vs)(d2:aq K H ys ws)(hz:vs.length<=sizeLine):
  Gives K (Itz K b1 b2 l1 l2 vs ws) (aQ xs ys) H where
 go:=fun H1 p i d e=>by
  obtain⟨x,y,ex,ey,_⟩:=jz e
  obtain⟨v,ev,_⟩:=d1.get ex
  obtain⟨u,eu,_⟩:=d2.get ey
  exact⟨p.vQ h1,p.vQ h2,v,u,ev,eu⟩
 yld:=fun H1 p i d e x H2 y=>by
  obtain⟨a,v,u,hn,rfl,ev,eu,rfl⟩:=y
  obtain⟨dx,dy,ex,ey,rfl⟩:=jz e
  obtain⟨v',ev',dv⟩:=d1.get ex
  obtain⟨u',eu',du⟩:=d2.get ey
  rw[ev]at ev'
  rw[eu]at eu'
  cases ev'
  cases eu'
  have pp:bG H1 (upd H1 a (.tup [v,u])):=by
   refine⟨fun b xs q=>?_,fun b o w q=>?_⟩
   ·rw[aC (fun z=>by subst z;rw[hn]at q;cases q)];exact q
   ·rw[aC (fun z=>by subst z;rw[hn]at q;cases q)];exact q
  exact⟨dF (.inl (.inl aN)) (aq.cZ ((dv.mono p).mono pp) (aq.cZ ((du.mono p).mono pp) aq.fY)),.inr ⟨a,_,hn,rfl⟩⟩
 stop:=fun H1 p i hi=>by
  rw[jy]at hi
  have:=d1.length
  have:=d2.length
  exact⟨p.vQ h1,p.vQ h2,by omega⟩
 len:=by rw[jy];have:=d1.length;omega
def bh.vQ{H:Hp}{xs:List D}(h:bh K H d v)(e:bA d=some xs):∃b l vs,v=.ref l/\Oj K b H l vs/\aq K H xs vs:=by
 cases d with
 |tup ys=>cases e;obtain⟨a,vs,rfl,hq,l⟩:=b7 h;exact⟨false,a,vs,rfl,hq,l⟩
 |lst ys=>cases e;obtain⟨a,vs,rfl,hq,l⟩:=cT h;exact⟨true,a,vs,rfl,hq,l⟩
 |_=>cases e
section
def aaw{H1:Hp}(h:tI K W env r σ H R)(N:Nx K env σ H δ H1):tI K W δ r σ H1 R:=by
 obtain⟨_,h⟩:=h
 refine⟨N.eG,?_⟩
 cases r with
 |bad=>exact h
 |exc c ε=>exact fun H' N'=>h H' (N.trans N')
 |ok x ε=>
  obtain⟨d,xs,e1,e2,z⟩:=h
  exact⟨d,xs,e1,e2,fun J H' N' G=>z J H' (N.trans N') G⟩
theorem ql{f:D->Ev->Out Rv}(h:tI K W env (r.ao f) σ H R)
  (k:∀d δ v H1,Nx K env σ H δ H1->bh K H1 d v->tI K W δ (f d δ) σ H1 R->R' v H1):tD K W env r σ H R':=by
 have step:∀d δ,r.ao f=f d δ->∀v H1,Nx K env σ H δ H1->bh K H1 d v->R' v H1:=fun d δ e v H1 N D=>by
  rw[e]at h
  exact k d δ v H1 N D (aaw h N)
 obtain⟨S,h⟩:=h
 refine⟨S,?_⟩
 cases r with
 |bad=>exact h
 |exc c δ=>exact h
 |ok x δ=>
  cases x with
  |val d=>exact fun v H1 N D=>step d δ rfl v H1 N D
  |new xs=>exact fun v H1 N D=>step xs.d δ rfl v H1 N D
  |ref i=>exact h
end
section
theorem XX(ha:GE X W c m1 a)(hb:GE X W c m2 b)(hg:Gl X "zip")(hm:X.mg "zip"=none)(hs:starEach [a,b] X.env=[(false,eval a X.env),(false,eval b X.env)])(hs2:starEach [b] X.env=[(false,eval b X.env)]):
  GI X W c (.zip m1 m2) tg (.Call (.Name "zip" p) [a,b] [] pos):=by
 intro env γ s σ H R I q
 let RR:List V->Hp->Prop:=fun vs H'=>∃ε d1 d2 xs ys v1 v2,vs=[v1,v2]/\bh X.K H' d1 v1/\bh X.K H' d2 v2/\bA d1=some xs/\bA d2=some ys/\Sat X.K ε σ H'/\∀J H2,Nx X.K ε σ H' ε H2->Gives X.K J (aQ xs ys) H2->R J H2
 have go:aD X W c m1 σ H fun v1 H1=>aD X W c m2 σ H1 fun v2 H2=>RR [v1,v2] H2:=by
  refine⟨env,ql q fun d1 δ v1 H1 N1 D1 q1=>⟨δ,ql q1 fun d2 ε v2 H2 N2 D2 q2=>?_⟩⟩
  cases e1:bA d1 with
  |none=>rw[e1]at q2;exact q2.2.elim
  |some xs=>
   cases e2:bA d2 with
   |none=>rw[e1,e2]at q2;exact q2.2.elim
   |some ys=>
    rw[e1,e2]at q2
    obtain⟨S,d,zs,z1,z2,z3⟩:=q2
    cases z1
    cases z2
    exact⟨ε,d1,d2,xs,ys,v1,v2,rfl,D1.mono N2.pers,D2,e1,e2,S,z3⟩
 refine wpAny_Call_Name_kw (jb I hg hm PyProof.Rows.boot_zip ?_ (by decide) (by decide))
 refine PyProof.Rows.callWith_type1 (bZ (cD ha.d (cD hb.d eO hs2) (by rw[hs,hs2]) pos γ s σ H RR I go) fun us s1⟨vs,H1,I1,r1,q1⟩=>?_) (by rw[hs,hs2]) (by rw[hs2];rfl)
 obtain⟨ε,d1,d2,xs,ys,v1,v2,rfl,D1,D2,e1,e2,S2,q3⟩:=q1
 obtain⟨b1,l1,vs,rfl,h1,dl1⟩:=D1.vQ e1
 obtain⟨b2,l2,ws,rfl,h2,dl2⟩:=D2.vQ e2
 obtain⟨u1,u2,rfl,ru1,ru2⟩:=Vals.two r1
 cases ru1
 cases ru2
 obtain⟨its,rr1,p1,z1,lt1⟩:=Inv.vQ I1 h1
 obtain⟨its2,rr2,p2,z2,lt2⟩:=Inv.vQ I1 h2
 refine vp p1 p2 fun h' st sz kk=>?_
 obtain⟨f0,f1,zr,h0⟩:=st.zr
 refine iW zr ?_
 refine⟨s1.heap.objs.size+4,[s1.heap.objs.size+4,s1.heap.objs.size+2,s1.heap.objs.size+3,s1.heap.objs.size,s1.heap.objs.size+1],_,_,H1,rfl,I1.kept kk,jC (ul lt1 lt2),st,fun b hb=>?_,q3 _ H1 (Nx.refl S2) (uZ h1 h2 dl1 dl2 z1)⟩
 have hb':s1.heap.objs.size<=b:=by
  simp only[QCq,QAz,or_false]at hb
  rcases hb with rfl|rfl|rfl|rfl|rfl<;>omega
 exact I1.ue hb' (I1.hok.fresh hb')
end
def Nx.chg{env:Ev}{H0 H:Hp}{u u':HO}(N:Nx K env σ H0 env H)(S:Sat K env σ H0)(h0:H0 d=none)(h:H d=some u)(hu:Ov u):Nx K env σ H0 env (upd H d u'):=by
 have p:=fX (u':=u') h hu
 refine⟨N.eG.keep p fun i b w ow hb=>?_,N.sub,N.pers.trans p,fun b w q n=>?_,fun b q=>?_,N.bors⟩
 ·rw[aC (fun z=>by subst z;exact S.qP h0 i (N.sub i b ow))];exact hb
 ·rw[aC (fun z=>by subst z;rw[h0]at q;cases q)];exact N.keep b w q n
 ·refine N.dom b ?_
  by_cases hb:b=d
  ·subst hb;rw[aN]at q;cases q
  ·rw[aC hb]at q;exact q
def Nm:Ov (.dK kvs):=by
 constructor
 all_goals (intros;intro z;cases z)
def FN:Ov (.lst vs):=by
 constructor
 all_goals (intros;intro z;cases z)
def Cx.under(X:Cx)(A:Around):Cx:={X with A:=A}
theorem Inv.under{A:Around}{σ:St}{H:Hp}(I:Inv X γ σ H s)(h1:A.handled=X.A.handled)(h2:A.frames=X.A.frames):Inv (Cx.under X A) γ σ H s:=
 ⟨⟨I.ok.mod,I.ok.kind,I.ok.glob,I.ok.blt,I.ok.above,I.ok.inj,I.ok.has,I.ok.cab,fun hc=>h1.trans (I.ok.hd hc),h2.trans I.ok.frames,I.ok.stk,I.ok.exf,I.ok.bs,I.ok.bsz,I.ok.noex,I.ok.exfs,I.ok.lM,I.ok.frf⟩,
  I.os,I.bare,I.base,I.loc,I.cell,I.free,I.freeC,I.pin,I.hok,I.len⟩
def Inv.back{A:Around}{σ:St}{H:Hp}(I:Inv (Cx.under X A) γ σ H s)(h1:X.A.handled=A.handled)(h2:X.A.frames=A.frames):Inv X γ σ H s:=
 Inv.under (X:=Cx.under X A) I h1 h2
def wM{M:Model}{β:Type}{p:Pos}{m:Sem β}{Q:β->Shared->Prop}{E:QZq}
  (h:wpAny M A (letOwnedTupleGo (.Name x p) it u) (fun _ s=>wpAny M A m Q E s) E s):wpAny M A m Q E s:=by
 have:=QKq h
 exact this
def dJ:entryFor table "dict.update.loop"=some Builtin.«dict.update.loop»:=entryFor_of_tree (by kernel_rfl)
def bQ:plainId "dict.update.loop"=true:=by decide+kernel
def zz{d:D}(h:dictOf ks vs (d::r)=some p):∃k v,d=.tup [k,v]/\keyOk k=true/\dictOf (putD k v ks vs).1 (putD k v ks vs).2 r=some p:=by
 unfold dictOf at h
 split at h
 ·rename_i e;cases e
 ·rename_i k v r' e
  cases e
  split at h
  ·rename_i hk
   exact⟨k,v,rfl,hk,h⟩
  ·cases h
 ·cases h
def wU{xs:List D}(h:i<xs.length):∃d,xs[i]? =some d/\xs.drop i=d::xs.drop (i+1):=⟨xs[i],QXq h,List.drop_eq_getElem_cons h⟩
def BZ{d:D}(h:gk ks vs (d::r)=some p):∃k v,d=.tup [k,v]/\cj k=true/\gk (putD k v ks vs).1 (putD k v ks vs).2 r=some p:=by
 unfold gk at h
 split at h
 ·rename_i e;cases e
 ·rename_i k v r' e
  cases e
  split at h
  ·rename_i hk
   exact⟨k,v,rfl,hk,h⟩
  ·cases h
 ·cases h
def Nk:Ov (.dS xs):=by
 constructor
 all_goals (intros;intro z;cases z)
def MT{w:World}(h:Heap)(hb:sysModules<h.objs.size):bY P w H (h.push {cls:=.type "dict",data:=.dict #[]}) h.objs.size (.dS []):=
 ⟨QIq _,beq_eq_false_iff_ne.mpr (Ne.symm (Qvz hb)),List.nodup_nil,[],_, #[],0,.nil,Qzq _ rfl,⟨rfl,rfl,rfl⟩,rfl,rfl⟩
noncomputable def zA(xs:List D):Option Ob:=((dictOf [] [] xs).map fun p=>Ob.dct p.1 p.2).or ((gk [] [] xs).map fun p=>Ob.sdt p.1 p.2)
def zH xs:O6 .dict xs=(zA xs).map .new:=by
 unfold zA
 simp only[O6]
 cases dictOf [] [] xs<;>cases gk [] [] xs<;>rfl
def M9{o:Ob}(h:zA xs=some o):(∃p,dictOf [] [] xs=some p/\o=.dct p.1 p.2)\/∃p,gk [] [] xs=some p/\o=.sdt p.1 p.2:=by
 unfold zA at h
 cases e:dictOf [] [] xs with
 |some p=>rw[e]at h;cases h;exact .inl ⟨p,rfl,rfl⟩
 |none=>
  rw[e]at h
  cases e2:gk [] [] xs with
  |some p=>rw[e2]at h;cases h;exact .inr ⟨p,rfl,rfl⟩
  |none=>rw[e2]at h;cases h
section
theorem HX(hA:X.A=A.in1)(hc:X.calm=true)(T:Turn X.prog X.w X.K (.Name x p) J fp it tn)(G:Gives X.K J xs H1)(S:Sat X.K env τ H0)(h0:H0 d=none)
  (fin:∀s H,Inv X γ σ H s->Nx X.K env τ H0 env H->jw X.K H (.dct ks' vs') d->R (.ok (.ret .none)) s):
  ∀(n i:Nat)(s:Shared)(H:Hp)(kvs:List (Key×V))(vs:List D),xs.length-i=n->Inv X γ σ H s->(∀b∈fp,fM X γ H b)->tn i s.heap->bG H1 H->Nx X.K env τ H0 env H->H d=some (.dK kvs)->
   aq X.K H vs (kvs.map (·.2))->dictOf (kvs.map fun q=>dC q.1) vs (xs.drop i)=some (ks',vs')->kvs.length<=i->i<=xs.length->
   codeAny (model X.prog X.w) A (.builtin "dict.update.loop" ⟨[.ref d,.ref it,rawInt ((i:Nat):Int),.none],[]⟩) R s:=by
 intro n
 induction n with
 |zero=>
  intro i s H kvs vs hn I hf st P N hd dl ho hk hi
  refine codeAny_builtin dJ ?_
  rw[Around.under_plainId bQ _,<-hA]
  refine QKq (QGq (T.done X rfl rfl rfl hc i γ s σ H _ I hf st (G.stop H P i (by omega))) (fun r s1 h=>?_) fun _ _ h=>h)
  obtain⟨rfl,I1⟩:=h
  rw[List.drop_eq_nil_of_le (by omega)]at ho
  cases ho
  exact QKq (QKz (QKz (fin s1 H I1 N ⟨_,hd,kvs,rfl,rfl,dl⟩)))
 |succ n ih=>
  intro i s H kvs vs hn I hf st P N hd dl ho hk hi
  have hlt:i<xs.length:=by omega
  obtain⟨dd,ed,edr⟩:=wU hlt
  rw[edr]at ho
  obtain⟨k,v,rfl,hkk,ho'⟩:=zz ho
  refine codeAny_builtin dJ ?_
  rw[Around.under_plainId bQ _,<-hA]
  refine QKq (QGq (T.item X rfl rfl rfl hc i γ s σ H _ I hf st (G.go H P i _ ed)) (fun r s1 h=>?_) fun _ _ h=>h)
  obtain⟨u,rfl,h⟩:=h
  refine wM (QGq h (fun _ s2 h2=>?_) fun _ _ h=>h)
  obtain⟨y,H',I',ry,yl,st',nf⟩:=h2
  obtain⟨Dy,hH⟩:=G.yld H P i _ ed y H' yl
  obtain⟨a,ws,rfl,hq,l⟩:=b7 Dy
  cases ry
  obtain⟨vk,r1,rfl,Dk,l⟩:=aq.aG.mp l
  obtain⟨vv,r2,rfl,Dv,l⟩:=aq.aG.mp l
  have:=aq.bC.mp l
  subst this
  obtain⟨kk,rfl⟩:=fU hkk
  have ek:=kI Dk
  subst ek
  obtain⟨its,rr,pt,_⟩:=I'.tuple hq
  obtain⟨uk,uv,rfl,rk,rv⟩:=Vals.two rr
  obtain⟨o,eo,ec,nn,edt⟩:=pt
  have N':Nx X.K env τ H0 env H'/\bG H H'/\H' d=some (.dK kvs):=by
   rcases hH with rfl|⟨q,ws,hq0,rfl⟩
   ·exact⟨N,bG.refl _,hd⟩
   ·have NL:=Nx.laid (o:=.tup ws) N.eG hq0
    exact⟨N.trans NL,NL.pers,by rw[aC (fun z=>by subst z;rw[hq0]at hd;cases hd)];exact hd⟩
  obtain⟨N',PP,hd'⟩:=N'
  refine QKq (Qqq ?_)
  refine QKq (wpAny_tryCatch ?_)
  have hty:s2.TypeIs (.ref a) "tuple":=⟨o,eo,ec⟩
  refine QKq (wpAny_typeOf hty ?_)
  refine QKq (wpAny_seqItems eo edt (QKz ?_))
  refine Qqq ?_
  obtain⟨z,hds,vvs,rel,dd⟩:=M4 I'.hok hd'
  have hz:vvs.length<=sizeLine:=by rw[<-rel.length];exact z
  have hG:=G.len
  have hl:(putK kvs kk vv).length<=i+1:=by have:=pF kvs kk vv;omega
  refine wpAny_dictSet_pairs (uU rk) dd fun h' dd' hs=>?_
  have he:∃q,h'.get? d=some q:=let ⟨q,_,_,hq,_⟩:=dd';⟨q,hq⟩
  have I2:Inv X γ σ (upd H' d (.dK (putK kvs kk vv))) {s2 with heap:=h',toks:=s2.toks+1}:=kJ I' (by rw[hd'];exact True.intro) hs he (M5 (by omega) hds (rel.put kk rv) dd')
  have N2:=Nx.chg (u':=.dK (putK kvs kk vv)) N' S h0 hd' Nm
  have p2:=fX (u':=.dK (putK kvs kk vv)) hd' Nm
  obtain⟨g1,g2⟩:=Dt Dv (dl.mono PP)
  refine QKz ⟨plainId_quiet bQ _,?_⟩
  refine ih (i+1) _ _ (putK kvs kk vv) _ (by omega) I2 (fun b hb=>?_) (T.keep _ _ _ st' fun b hb o e=>?_) ((P.trans PP).trans p2) N2 aN (g2.mono p2) ?_ hl (by omega)
  ·have nb:b≠d:=fun e=>by subst e;rw[nf b hb]at hd';cases hd'
   exact⟨by rw[aC nb];exact nf b hb,(hf b hb).2⟩
  ·have nb:b≠d:=fun e=>by subst e;rw[nf b hb]at hd';cases hd'
   exact(hs.2 b nb).trans e
  ·rw[<-g1];exact ho'
theorem BX(hA:X.A=A.in1)(hu:X.A.units+8<cLine)(hc:X.calm=true)(T:Turn X.prog X.w X.K (.Name x p) J fp it tn)(G:Gives X.K J xs H1)(S:Sat X.K env τ H0)(h0:H0 d=none)
  (fin:∀s H,Inv X γ σ H s->Nx X.K env τ H0 env H->jw X.K H (.sdt ks' vs') d->R (.ok (.ret .none)) s):
  ∀(n i:Nat)(s:Shared)(H:Hp)(kvs:List SV)(ks vs:List D),xs.length-i=n->Inv X γ σ H s->(∀b∈fp,fM X γ H b)->tn i s.heap->bG H1 H->Nx X.K env τ H0 env H->H d=some (.dS kvs)->
   gq X.K H ks vs kvs->gk ks vs (xs.drop i)=some (ks',vs')->kvs.length<=i->i<=xs.length->
   codeAny (model X.prog X.w) A (.builtin "dict.update.loop" ⟨[.ref d,.ref it,rawInt ((i:Nat):Int),.none],[]⟩) R s:=by
 intro n
 induction n with
 |zero=>
  intro i s H kvs ks vs hn I hf st P N hd dl ho hk hi
  refine codeAny_builtin dJ ?_
  rw[Around.under_plainId bQ _,<-hA]
  show wpAny _ X.A (pyNext (.ref it)>>=_) _ _ s
  refine QKq (QGq (T.done X rfl rfl rfl hc i γ s σ H _ I hf st (G.stop H P i (by omega))) (fun r s1 h=>?_) fun _ _ h=>h)
  obtain⟨rfl,I1⟩:=h
  rw[List.drop_eq_nil_of_le (by omega)]at ho
  cases ho
  show wpAny _ X.A (Builtin.Dict.addKeywords d []>>=_) _ _ s1
  exact QKq (QKz (QKz (fin s1 H I1 N ⟨_,hd,kvs,rfl,dl⟩)))
 |succ n ih=>
  intro i s H kvs ks vs hn I hf st P N hd dl ho hk hi
  have hlt:i<xs.length:=by omega
  obtain⟨dd,ed,edr⟩:=wU hlt
  rw[edr]at ho
  obtain⟨k,v,rfl,hkk,ho'⟩:=BZ ho
  refine codeAny_builtin dJ ?_
  rw[Around.under_plainId bQ _,<-hA]
  show wpAny _ X.A (pyNext (.ref it)>>=_) _ _ s
  refine QKq (QGq (T.item X rfl rfl rfl hc i γ s σ H _ I hf st (G.go H P i _ ed)) (fun r s1 h=>?_) fun _ _ h=>h)
  obtain⟨u,rfl,h⟩:=h
  refine wM (QGq h (fun _ s2 h2=>?_) fun _ _ h=>h)
  obtain⟨y,H',I',ry,yl,st',nf⟩:=h2
  obtain⟨Dy,hH⟩:=G.yld H P i _ ed y H' yl
  obtain⟨a,ws,rfl,hq,l⟩:=b7 Dy
  cases ry
  obtain⟨vk,r1,rfl,Dk,l⟩:=aq.aG.mp l
  obtain⟨vv,r2,rfl,Dv,l⟩:=aq.aG.mp l
  have:=aq.bC.mp l
  subst this
  obtain⟨ka,rfl,hka⟩:=iT hkk Dk
  obtain⟨its,rr,pt,_⟩:=I'.tuple hq
  obtain⟨uk,uv,rfl,rk,rv⟩:=Vals.two rr
  cases rk
  obtain⟨o,eo,ec,nn,edt⟩:=pt
  have N':Nx X.K env τ H0 env H'/\bG H H'/\H' d=some (.dS kvs):=by
   rcases hH with rfl|⟨q,ws,hq0,rfl⟩
   ·exact⟨N,bG.refl _,hd⟩
   ·have NL:=Nx.laid (o:=.tup ws) N.eG hq0
    exact⟨N.trans NL,NL.pers,by rw[aC (fun z=>by subst z;rw[hq0]at hd;cases hd)];exact hd⟩
  obtain⟨N',PP,hd'⟩:=N'
  have sr:=dl.mono PP
  show wpAny _ X.A (holding [.ref a] _>>=_) _ _ s2
  refine QKq (Qqq ?_)
  refine QKq (wpAny_tryCatch ?_)
  unfold Builtin.Dict.pairItems
  have hty:s2.TypeIs (.ref a) "tuple":=⟨o,eo,ec⟩
  refine QKq (wpAny_typeOf hty ?_)
  rw[if_pos (by decide)]
  refine QKq (wpAny_seqItems eo edt (QKz ?_))
  show wpAny _ X.A (holding [.ref ka,uv] (dictSet d (.ref ka) uv)) _ _ s2
  refine Qqq ?_
  obtain⟨ys,pr,dd,y,z⟩:=kE I' (.inl hd') sr.yW
  have hz:ys.length<=sizeLine:=by
   have:=congrArg List.length (j8 pr)
   simp at this
   omega
  have hG:=G.len
  have hl:(nR (kC k) ka vv kvs).length<=i+1:=by have:=Ds (k:=kC k) (a:=ka) (xs:=kvs) vv;omega
  refine wpAny_dictSet_heap (knd:=dU X.prog X.w) (hsz:=hz) hu (gZ I' hka) dd fun h' dd' hs=>?_
  have he:∃q,h'.get? d=some q:=let ⟨q,_,_,hq,_⟩:=dd';⟨q,hq⟩
  have I2:Inv X γ σ (upd H' d (.dS (nR (kC k) ka vv kvs))) {s2 with heap:=h',toks:=s2.toks+(dU X.prog X.w).draws (kC k)}:=kJ I' (by rw[hd'];exact True.intro) hs he (Dm (by omega) y (mJ rv pr) dd')
  have N2:=Nx.chg (u':=.dS (nR (kC k) ka vv kvs)) N' S h0 hd' Nk
  have p2:=fX (u':=.dS (nR (kC k) ka vv kvs)) hd' Nk
  have g:=sr.put hkk Dk Dv
  refine QKz ⟨plainId_quiet bQ _,?_⟩
  refine ih (i+1) _ _ (nR (kC k) ka vv kvs) _ _ (by omega) I2 (fun b hb=>?_) (T.keep _ _ _ st' fun b hb o e=>?_) ((P.trans PP).trans p2) N2 aN (g.mono p2) ho' hl (by omega)
  ·have nb:b≠d:=fun e=>by subst e;rw[nf b hb]at hd';cases hd'
   exact⟨by rw[aC nb];exact nf b hb,(hf b hb).2⟩
  ·have nb:b≠d:=fun e=>by subst e;rw[nf b hb]at hd';cases hd'
   exact(hs.2 b nb).trans e
end
section
variable{E:QZq}
def sE{oo:Ob}(hc:X.calm=true)(hu:X.A.units+60<cLine)(I:Inv X γ σ H s)(S:Sat X.K env τ H)(ho:s.heap.get? o=some ob)(hcl:ob.cls=.type T)(hT:(T !="dict")=true)(hd:zA xs=some oo)
  (hkey:∀(s1:Shared)(E:QZq)(Q:Option Value->Shared->Prop),s1.heap.get? o=some ob->(∀h' tk,(∀b u,s1.heap.get? b=some u->h'.get? b=some u)->Q none {s1 with heap:=h',toks:=tk})->
   wpAny (model X.prog X.w) X.A.in1.in1 (getAttr? (.ref o) "keys") Q E s1)
  (hit:∀(s1:Shared)(u:HO)(E:QZq)(Q:QZq),Inv (Cx.under X X.A.in1.in1) γ σ (upd H s.heap.objs.size u) s1->Nx X.K env τ H env (upd H s.heap.objs.size u)->(∀b u,s.heap.get? b=some u->s1.heap.get? b=some u)->
   (∀s2 it fp tn J,Inv (Cx.under X X.A.in1.in1) γ σ (upd H s.heap.objs.size u) s2->Turn X.prog X.w X.K (.Name x p) J fp it tn->tn 0 s2.heap->(∀b∈fp,fM X γ (upd H s.heap.objs.size u) b)->Gives X.K J xs (upd H s.heap.objs.size u)->Q (.ref it) s2)->
   wpAny (model X.prog X.w) X.A.in1.in1 (pyIter (.ref o)) Q E s1)
  (h:∀a s' H',Inv X γ σ H' s'->Nx X.K env τ H env H'->jw X.K H' oo a->H a=none->Q (.ref a) s'):
  wpAny (model X.prog X.w) X.A (call (.type "dict") [.ref o]) Q E s:=by
 have hfr:H s.heap.objs.size=none:=I.hok.fresh (QVz _)
 have LP:∃u0,(∀H',bY X.prog X.w H' (s.heap.push {cls:=.type "dict",data:=.dict #[]}) s.heap.objs.size u0)/\∀(s3:Shared)it fp tn J(R:Result->Shared->Prop),(∀s4 H4,Inv (Cx.under X X.A.in1.in1) γ σ H4 s4->Nx X.K env τ H env H4->jw X.K H4 oo s.heap.objs.size->R (.ok (.ret .none)) s4)->
   Inv (Cx.under X X.A.in1.in1) γ σ (upd H s.heap.objs.size u0) s3->Turn X.prog X.w X.K (.Name x p) J fp it tn->tn 0 s3.heap->(∀b∈fp,fM X γ (upd H s.heap.objs.size u0) b)->Gives X.K J xs (upd H s.heap.objs.size u0)->Nx X.K env τ H env (upd H s.heap.objs.size u0)->
   codeAny (model X.prog X.w) X.A.in1 (.builtin "dict.update.loop" ⟨[.ref s.heap.objs.size,.ref it,rawInt ((0:Nat):Int),.none],[]⟩) R s3:=by
  have hu2:(Cx.under X X.A.in1.in1).A.units+8<cLine:=by
   show X.A.in1.in1.units+8<cLine
   have:X.A.in1.in1.units<=X.A.units+2:=by simp[Around.in1]
   omega
  rcases M9 hd with ⟨pr,hd1,rfl⟩|⟨pr,hd1,rfl⟩
  ·exact⟨.dK [],fun H'=>rR s.heap I.big,fun s3 it fp tn J R fin I3 Tn st hf G N1=>HX (X:=Cx.under X X.A.in1.in1) (A:=X.A.in1) rfl hc Tn G S hfr fin xs.length 0 s3 _ [] [] rfl I3 hf st (bG.refl _) N1 aN aq.fY hd1 (QVz _) (QIq _)⟩
  ·exact⟨.dS [],fun H'=>MT s.heap I.big,fun s3 it fp tn J R fin I3 Tn st hf G N1=>BX (X:=Cx.under X X.A.in1.in1) (A:=X.A.in1) rfl hu2 hc Tn G S hfr fin xs.length 0 s3 _ [] [] [] rfl I3 hf st (bG.refl _) N1 aN gq.nil hd1 (QVz _) (QIq _)⟩
 obtain⟨u0,ok0,LP⟩:=LP
 refine callType_codes (Q₁:=fun obj ι=>obj=.ref s.heap.objs.size/\ι={s with heap:=s.heap.push {cls:=.type "dict",data:=.dict #[]}}) PySem.F.kt_called_dict (PySem.F.kt_typeCall_dict_1 _) PySem.F.entry_dict_init (kt_code_dict_new _ ⟨rfl,rfl⟩) ?_
 rintro obj ι ⟨rfl,rfl⟩
 have hnew:(s.heap.push {cls:=.type "dict",data:=.dict #[]}).DictOf (dH X.prog X.w) s.heap.objs.size []:=Heap.DictOf.new s.heap
 have k1:∀b u,s.heap.get? b=some u->(s.heap.push {cls:=.type "dict",data:=.dict #[]}).get? b=some u:=fun _ _ q=>QWq _ q
 have I1:=I.laid (a:=s.heap.objs.size) (o:=u0) (h':=s.heap.push {cls:=.type "dict",data:=.dict #[]}) (t':=s.toks) k1 (QVz _) (ok0 _)
 have N1:=Nx.laid (o:=u0) S hfr
 refine⟨hnew.typeIs,PySem.F.args_dict_init_2 _ _,?_⟩
 unfold Builtin.«dict.__init__»
 refine QKq ?_
 unfold Builtin.Dict.selfAndRest
 refine QKq (wpAny_notOrdered_dict hnew.typeIs ?_)
 show wpAny _ _ (pure (s.heap.objs.size,[Value.ref o])) _ _ _
 refine QKz ?_
 show wpAny _ _ (Builtin.Dict.updateFrom "dict.__init__" s.heap.objs.size (.ref o) [] .none) _ _ _
 unfold Builtin.Dict.updateFrom
 have hty:(⟨s.heap.push {cls:=.type "dict",data:=.dict #[]},s.gens,s.drawn,s.toks,s.os⟩:Shared).TypeIs (.ref o) T:=⟨ob,k1 o ob ho,hcl⟩
 refine QKq (wpAny_typeOf hty ?_)
 have ht:((Value.type T) !=(Value.type "dict"))=true:=by
  have:T≠"dict":=by simpa using hT
  simpa using this
 rw[if_pos ht]
 refine QKq (hkey _ _ _ (k1 o ob ho) fun h2 tk k2=>?_)
 simp only[Option.isNone_none,if_true]
 refine QKq (wpAny_rule ?_)
 have I2:Inv X γ σ _ {s with heap:=h2,toks:=tk}:=I1.kept (t':=tk) k2
 refine QKq (hit _ _ _ _ (Inv.under I2 rfl rfl) N1 (fun b u q=>k2 b u (k1 b u q)) fun s3 it fp tn J I3 Tn st hf G=>?_)
 refine QKq (QKz (QKz ⟨plainId_quiet bQ _,?_⟩))
 exact LP s3 it fp tn J _ (fun s4 H4 I4 N4 O4=>⟨rfl,h _ s4 H4 (Inv.back I4 rfl rfl) N4 O4 hfr⟩) I3 Tn st hf G N1
end
def zV:typeLookup (.type "zip") "__len__"=pure none:=by rw[typeLookup_type,builtinLookup_eq_fast];kernel_rfl
def xO:typeLookup (.type "zip") "__length_hint__"=pure none:=by rw[typeLookup_type,builtinLookup_eq_fast];kernel_rfl
section
def Inv.abj{s:Shared}{y:V}{u:Value}{E:QZq}(I:Inv X γ σ H s)(hd:H d=some (.lst vs))(ry:RelV y u)(hz:vs.length<sizeLine)
  (h:∀h',(∀b o,b≠d->s.heap.get? b=some o->h'.get? b=some o)->Inv X γ σ (upd H d (.lst (vs++[y]))) {s with heap:=h'}->Q () {s with heap:=h'}):
  wpAny (model X.prog X.w) A (updateSeq d (·.push u)) Q E s:=by
 obtain⟨z,its,n,r,e⟩:=(I.hok d _ hd)
 have hl:=r.length
 refine wpAny_updateSeq e rfl ?_ (by show its.toArray.size<=_;rw[Qyq];omega) (by show(its.toArray.push u).size<=_;rw[Array.size_push,Qyq];omega)
 have es:=Heap.get?_update_self (Obj.mapSeq (·.push u)) e rfl
 have oth:∀b o,b≠d->s.heap.get? b=some o->(s.heap.update d (Obj.mapSeq (·.push u))).get? b=some o:=fun b o hb q=>(Heap.get?_update_other _ _ (Ne.symm hb)).trans q
 refine h _ oth (I.write (by rw[hd];exact True.intro) (.inl rfl) (fun b q hb z=>oth b q hb z) ⟨_,es⟩ ?_)
 have ea:(its++[u]).toArray=its.toArray.push u:=by simp
 exact⟨by simp;omega,its++[u],_,Vals.append r (.cons ry .nil),by rw[ea];exact es⟩
theorem Hj(hA:X.A=A.in1)(hc:X.calm=true)(T:Turn X.prog X.w X.K (.Name x p) J fp it tn)(G:Gives X.K J xs H1)(S:Sat X.K env τ H0)(h0:H0 d=none)
  (fin:∀s H,Inv X γ σ H s->Nx X.K env τ H0 env H->jw X.K H (.lst xs) d->R (.ok (.ret .none)) s):
  ∀(n i:Nat)(s:Shared)(H:Hp)(vs:List V),xs.length-i=n->Inv X γ σ H s->(∀b∈fp,fM X γ H b)->tn i s.heap->bG H1 H->Nx X.K env τ H0 env H->H d=some (.lst vs)->
   aq X.K H (xs.take i) vs->i<=xs.length->
   codeAny (model X.prog X.w) A (.builtin "list.extend.loop" ⟨[.ref d,.ref it,.none],[]⟩) R s:=by
 intro n
 induction n with
 |zero=>
  intro i s H vs hn I hf st P N hd dl hi
  refine codeAny_builtin PySem.F.entry_extend_loop ?_
  rw[Around.under_plainId PySem.F.plain_extend_loop _,<-hA]
  refine QKq (QGq (T.done X rfl rfl rfl hc i γ s σ H _ I hf st (G.stop H P i (by omega))) (fun r s1 h=>?_) fun _ _ h=>h)
  obtain⟨rfl,I1⟩:=h
  rw[List.take_of_length_le (by omega)]at dl
  exact QKz (fin s1 H I1 N ⟨_,hd,vs,rfl,dl⟩)
 |succ n ih=>
  intro i s H vs hn I hf st P N hd dl hi
  have hlt:i<xs.length:=by omega
  obtain⟨dd,ed,edr⟩:=wU hlt
  refine codeAny_builtin PySem.F.entry_extend_loop ?_
  rw[Around.under_plainId PySem.F.plain_extend_loop _,<-hA]
  refine QKq (QGq (T.item X rfl rfl rfl hc i γ s σ H _ I hf st (G.go H P i _ ed)) (fun r s1 h=>?_) fun _ _ h=>h)
  obtain⟨u,rfl,h⟩:=h
  refine wM (QGq h (fun _ s2 h2=>?_) fun _ _ h=>h)
  obtain⟨y,H',I',ry,yl,st',nf⟩:=h2
  obtain⟨Dy,hH⟩:=G.yld H P i _ ed y H' yl
  have N':Nx X.K env τ H0 env H'/\bG H H'/\H' d=some (.lst vs):=by
   rcases hH with rfl|⟨q,ws,hq0,rfl⟩
   ·exact⟨N,bG.refl _,hd⟩
   ·have NL:=Nx.laid (o:=.tup ws) N.eG hq0
    exact⟨N.trans NL,NL.pers,by rw[aC (fun z=>by subst z;rw[hq0]at hd;cases hd)];exact hd⟩
  obtain⟨N',PP,hd'⟩:=N'
  have hG:=G.len
  have lv:=dl.length
  rw[List.length_take]at lv
  refine QKq (Inv.abj I' hd' ry (by omega) fun h' oth I2=>?_)
  have p2:=fX (u':=.lst (vs++[y])) hd' FN
  refine QKz ⟨plainId_quiet PySem.F.plain_extend_loop _,?_⟩
  refine ih _ _ _ _ (by omega) I2 (fun b hb=>?_) (T.keep _ _ _ st' fun b hb o e=>?_) ((P.trans PP).trans p2) (Nx.chg (u':=.lst (vs++[y])) N' S h0 hd' FN) aN ?_ (by omega)
  ·exact⟨by rw[aC (fun e=>by subst e;rw[nf b hb]at hd';cases hd')];exact nf b hb,(hf b hb).2⟩
  ·exact oth b o (fun e=>by subst e;rw[nf b hb]at hd';cases hd') e
  ·have:xs.take (i+1)=xs.take i++[dd]:=by rw[List.take_add_one,ed];rfl
   rw[this]
   exact((dl.mono PP).append (aq.cZ Dy aq.fY)).mono p2
end
section
variable{E:QZq}
def Cv(hc:X.calm=true)(I:Inv X γ σ H s)(S:Sat X.K env τ H)(ho:s.heap.get? o=some ob)(hcl:ob.cls=.type "zip")
  (hself:∀(s1:Shared)(E:QZq)(Q:QZq),(∀b u,s.heap.get? b=some u->s1.heap.get? b=some u)->Q (.ref o) s1->wpAny (model X.prog X.w) X.A.in1.in1 (pyIter (.ref o)) Q E s1)
  (hit:∀(s1:Shared)(u:HO),Nx X.K env τ H env (upd H s.heap.objs.size u)->(∀b u,s.heap.get? b=some u->s1.heap.get? b=some u)->
   ∃fp tn J,Turn X.prog X.w X.K (.Name x p) J fp o tn/\tn 0 s1.heap/\(∀b∈fp,fM X γ (upd H s.heap.objs.size u) b)/\Gives X.K J xs (upd H s.heap.objs.size u))
  (h:∀a s' H',Inv X γ σ H' s'->Nx X.K env τ H env H'->jw X.K H' (.lst xs) a->H a=none->Q (.ref a) s'):
  wpAny (model X.prog X.w) X.A (call (.type "list") [.ref o]) Q E s:=by
 refine callType_codes (Q₁:=fun obj ι=>obj=.ref s.heap.objs.size/\ι={s with heap:=s.heap.push {cls:=.type "list",data:=.seq #[]}}) PySem.F.called_list (PySem.F.typeCall_list_1 _) PySem.F.entry_list_init
  (code_list_new _ ⟨rfl,rfl⟩) fun obj ι ω=>?_
 obtain⟨rfl,rfl⟩:=ω
 have hS:(s.heap.push {cls:=.type "list",data:=.seq #[]}).get? s.heap.objs.size=some {cls:=.type "list",data:=.seq #[]}:=Qzq _ rfl
 have hfr:=I.hok.fresh (QVz _)
 have hne:s.heap.objs.size≠o:=fun e=>absurd (Qqz ho) (by rw[e];exact Nat.lt_irrefl _)
 have oth:∀f(h':Heap)b u,b≠s.heap.objs.size->h'.get? b=some u->(h'.update s.heap.objs.size (Obj.mapSeq f)).get? b=some u:=
  fun f h' b u hb e=>(Heap.get?_update_other _ _ (Ne.symm hb)).trans e
 have old:∀b u,s.heap.get? b=some u->b≠s.heap.objs.size:=fun b u e=>Qvz (Qqz e)
 refine⟨⟨_,hS,rfl⟩,PySem.F.args_list_init_2 _ _,?_⟩
 refine QKq ?_
 refine QKq (wpAny_seqItems hS rfl (QKz ?_))
 refine QKq (wpAny_updateSeq hS rfl ?_)
 have hS₂:=Heap.get?_update_self (Obj.mapSeq (fun _=>(#[]))) hS rfl
 have k2:∀b u,s.heap.get? b=some u->((s.heap.push {cls:=.type "list",data:=.seq #[]}).update s.heap.objs.size (Obj.mapSeq (fun _=>(#[])))).get? b=some u:=fun b u e=>oth _ _ b u (old b u e) ((fun _ _ q=>QWq _ q) b u e)
 refine QKq (wpAny_letGo ?_)
 have hty:(⟨(s.heap.push {cls:=.type "list",data:=.seq #[]}).update s.heap.objs.size (Obj.mapSeq (fun _=>(#[]))),s.gens,s.drawn,s.toks,s.os⟩:Shared).TypeIs (.ref o) "zip":=⟨ob,k2 o ob ho,hcl⟩
 refine QKq (wpAny_typeOf hty ?_)
 have h1:Builtin.List.listSameRef (.ref s.heap.objs.size) (.ref o)=false:=by simp[Builtin.List.listSameRef,hne]
 have h2:(Value.type "zip"==Value.type "list")=false:=by decide
 have h3:(Value.type "zip"==Value.type "tuple")=false:=by decide
 simp only[h1,h2,h3,Bool.or_false,Qxq,if_false]
 refine QKq (hself _ _ _ k2 ?_)
 refine QKq (Qqq ?_)
 refine QKq (wpAny_specialOf hty zV ?_)
 refine QKq (wpAny_specialOf hty xO ?_)
 refine QKz ?_
 refine QKq (wpAny_rule ?_)
 refine QKq ?_
 refine QKq (wpAny_updateSeq hS₂ rfl ?_)
 have hS₃:=Heap.get?_update_self (Obj.mapSeq (·.push Value.none)) hS₂ rfl
 refine wpAny_updateSeq hS₃ rfl ?_
 have k4:∀b u,s.heap.get? b=some u->((((s.heap.push {cls:=.type "list",data:=.seq #[]}).update s.heap.objs.size (Obj.mapSeq (fun _=>(#[])))).update s.heap.objs.size (Obj.mapSeq (·.push Value.none))).update s.heap.objs.size (Obj.mapSeq (·.pop))).get? b=some u:=
  fun b u e=>oth _ _ b u (old b u e) (oth _ _ b u (old b u e) (k2 b u e))
 have N1:=Nx.laid (o:=.lst []) S hfr
 obtain⟨fp,tn,J,Tn,st,hf,G⟩:=hit {s with heap:=_} _ N1 k4
 refine QKz ⟨plainId_quiet PySem.F.plain_extend_loop _,?_⟩
 exact Hj (X:=Cx.under X X.A.in1.in1) rfl hc Tn G S hfr (fun s4 H4 I4 N4 O4=>⟨rfl,h _ s4 H4 (Inv.back I4 rfl rfl) N4 O4 hfr⟩) xs.length 0 _ _ [] rfl (Inv.under (I.laid (o:=.lst []) (t':=s.toks) k4 (QVz _) ⟨QIq _,[],_,.nil,Heap.get?_update_self (Obj.mapSeq (·.pop)) hS₃ rfl⟩) rfl rfl) hf st (bG.refl _) N1 aN aq.fY (QIq _)
end
def Gives.mono{J:It}{H H':Hp}(g:Gives K J xs H)(p:bG H H'):Gives K J xs H':=
 ⟨fun H1 q=>g.go H1 (p.trans q),fun H1 q=>g.yld H1 (p.trans q),fun H1 q=>g.stop H1 (p.trans q),g.len⟩
def Inv.S8{E:QZq}{σ:St}{H:Hp}(I:Inv X γ σ H s):Inv {X with xe:=E} γ σ H s:=
 ⟨⟨I.ok.mod,I.ok.kind,I.ok.glob,I.ok.blt,I.ok.above,I.ok.inj,I.ok.has,I.ok.cab,I.ok.hd,I.ok.frames,I.ok.stk,I.ok.exf,I.ok.bs,I.ok.bsz,I.ok.noex,I.ok.exfs,I.ok.lM,I.ok.frf⟩,
  I.os,I.bare,I.base,I.loc,I.cell,I.free,I.freeC,I.pin,I.hok,I.len⟩
def Inv.unE{E:QZq}{σ:St}{H:Hp}(I:Inv {X with xe:=E} γ σ H s):Inv X γ σ H s:=Inv.S8 (X:={X with xe:=E}) I
theorem Inv.seqObj{X:Cx}{σ:St}{H:Hp}{b:Bool}{l:Addr}(I:Inv X γ σ H s)(h:Oj X.K b H l vs):
  ∃(its:Array Value)(k:Nat)(sl:Array (Option Value)),s.heap.get? l=some {cls:=.type (if b then "list" else "tuple"),dict:=none,data:=.seq its k,slots:=sl}:=by
 cases b with
 |true=>
  obtain⟨its,r,⟨o,n,e,c,d,dt⟩,z⟩:=I.list (FZ.sq h)
  obtain⟨oc,od,odt,os⟩:=o
  subst c d dt
  exact⟨_,_,_,e⟩
 |false=>
  obtain⟨its,r,⟨o,e,c,d,n,dt⟩,z⟩:=I.z8 h
  obtain⟨oc,od,odt,os⟩:=o
  subst c d dt
  exact⟨_,_,_,e⟩
def wH{xs:List D}(h:bA d=some xs):items d=some xs:=by
 cases d<;>simp[bA]at h<;>simp[items,h]
noncomputable def Ud(K:QQq):List V->Hp->VK->Prop:=fun us H Q=>∃env τ v d xs pr,us=[v]/\Sat K env τ H/\bh K H d v/\bA d=some xs/\zA xs=some pr/\
 ∀a H',Nx K env τ H env H'->jw K H' pr a->H a=none->Q (.ref a) H'
section
def Cw(hc:X.calm=true)(hu:X.A.units+60<cLine):fG X (.type "dict") (Ud X.K):=by
 intro γ s σ H us ws Q I r h
 obtain⟨env,τ,v,d,xs,pr,rfl,S,Dv,es,hd,q⟩:=h
 obtain⟨u,rfl,ru⟩:=vals1 r
 obtain⟨bb,l,vs,rfl,hq,dl⟩:=Dv.vQ es
 cases ru
 obtain⟨its,k,sl,eo⟩:=Inv.seqObj I hq
 refine sE (x:=("_")) (p:=default) hc hu I S eo rfl (by cases bb<;>decide) hd (fun s1 E Q e1 k1=>?_) (fun s1 u E Q I1 N1 k1 hQ=>?_) fun a s' H' I' N' O' h'=>⟨.ref a,H',I',rfl,q a H' N' O' h'⟩
 ·cases bb with
  |true=>exact rm e1 (I.ok.hd hc) k1
  |false=>exact pQ e1 (I.ok.hd hc) k1
 ·refine QGq (LC (tg:=.Name ("_") default) (R:=fun J H'=>Gives X.K J xs H'/\H'=upd H s.heap.objs.size u) (Inv.S8 I1) (show RelV (.ref l) _ from rfl) (Dv.mono N1.pers) (wH es) fun J g=>⟨g,rfl⟩) (fun v2 s2 h2=>?_) fun _ _ h=>h
  obtain⟨it,fp,tn,J,H',rfl,I2,T,st,hf,g,rfl⟩:=h2
  exact hQ s2 it fp tn J (Inv.unE I2) T st hf g
def M7{σ:St}{Q:VK}(hv:m.aB=none)(q:tM X.K W env (ev c (.bi .dict m) env) σ H Q):aD X W c m σ H fun v H1=>Ud X.K [v] H1 Q:=by
 simp only[nG,hv]at q
 refine⟨env,aV q fun d δ v H1 N1 D1 q1=>?_⟩
 obtain⟨z,ez,S,q3⟩:=cC q1
 simp only[b1]at ez
 cases es:bA d with
 |none=>rw[es]at ez;cases ez
 |some xs=>
  rw[es]at ez
  simp only[QHq,zH]at ez
  cases ed:zA xs with
  |none=>rw[ed]at ez;cases ez
  |some pr=>
   rw[ed]at ez
   cases ez
   exact⟨δ,σ,v,d,xs,pr,rfl,S,D1,es,ed,fun a H' N O h0=>q3 _ H' N ⟨a,rfl,O,h0⟩⟩
def RM(hc:X.calm=true)(hu:X.A.units+60<cLine)(ha:GE X W c m a)(hv:m.aB=none)(hg:Gl X "dict")(hm:X.mg "dict"=none)(hs:starEach [a] X.env=[(false,eval a X.env)]):
  GE X W c (.bi .dict m) (.Call (.Name "dict" p) [a] [] pos):=fun env=>
 PE.imp (nU (Cw hc hu) hg hm PyProof.Rows.boot_dict (cD ha.d eO hs) (by decide) (by decide) hs rfl) fun σ H Q h=>M7 hv h
structure af9(X:Cx)(W:Wi)(γ:QQz)(σ:St)(Q:VK)(f:D->Ev->Out Rv)(v:Value)(s:Shared):Prop where
 go:∃z TI TO i1 i2 b1 b2 l1 l2 vs ws xs ys env H,v=.ref z/\Inv X γ σ H s/\zO z TI TO i1 i2 b1 b2 l1 l2 0 s.heap/\ZipApart z TI TO i1 i2 l1 l2/\(∀b∈[z,TI,TO,i1,i2],fM X γ H b)/\
  Gives X.K (Itz X.K b1 b2 l1 l2 vs ws) (aQ xs ys) H/\tM X.K W env (f (.lst (aQ xs ys)) env) σ H Q
theorem xP{env:Ev}{s:Shared}{σ:St}{Q:VK}(ha:GE X W c m1 a)(hb:GE X W c m2 b)(hg:Gl X "zip")(hm:X.mg "zip"=none)
  (hs:starEach [a,b] X.env=[(false,eval a X.env),(false,eval b X.env)])(hs2:starEach [b] X.env=[(false,eval b X.env)])(I:Inv X γ σ H s)(q:tM X.K W env ((ev c (.zip m1 m2) env).ao f) σ H Q):
  wpAny (model X.prog X.w) X.A (eval (.Call (.Name "zip" p) [a,b] [] pos) X.env) (af9 X W γ σ Q f) X.xe s:=by
 simp only[Vn]at q
 let RR:List V->Hp->Prop:=fun vs H'=>∃ε d1 d2 xs ys v1 v2,vs=[v1,v2]/\bh X.K H' d1 v1/\bh X.K H' d2 v2/\bA d1=some xs/\bA d2=some ys/\tM X.K W ε (f (.lst (aQ xs ys)) ε) σ H' Q
 have asc:∀(o:Out Rv)g,(o.ao g).ao f=o.ao fun d e=>(g d e).ao f:=fun o g=>by
  cases o with
  |ok x e=>cases x<;>rfl
  |exc c e=>rfl
  |bad=>rfl
 rw[asc]at q
 have go:aD X W c m1 σ H fun v1 H1=>aD X W c m2 σ H1 fun v2 H2=>RR [v1,v2] H2:=by
  refine⟨env,aV q fun d1 δ v1 H1 N1 D1 q1=>⟨δ,?_⟩⟩
  rw[asc]at q1
  refine aV q1 fun d2 ε v2 H2 N2 D2 q2=>?_
  cases e1:bA d1 with
  |none=>rw[e1]at q2;exact q2.2.elim
  |some xs=>
   cases e2:bA d2 with
   |none=>rw[e1,e2]at q2;exact q2.2.elim
   |some ys=>
    rw[e1,e2]at q2
    exact⟨ε,d1,d2,xs,ys,v1,v2,rfl,D1.mono N2.pers,D2,e1,e2,q2⟩
 refine wpAny_Call_Name_kw (jb I hg hm PyProof.Rows.boot_zip ?_ (by decide) (by decide))
 refine PyProof.Rows.callWith_type1 (bZ (cD ha.d (cD hb.d eO hs2) (by rw[hs,hs2]) pos γ s σ H RR I go) fun us s1⟨vs,H1,I1,r1,q1⟩=>?_) (by rw[hs,hs2]) (by rw[hs2];rfl)
 obtain⟨ε,d1,d2,xs,ys,v1,v2,rfl,D1,D2,e1,e2,q3⟩:=q1
 obtain⟨b1,l1,vs,rfl,h1,dl1⟩:=D1.vQ e1
 obtain⟨b2,l2,ws,rfl,h2,dl2⟩:=D2.vQ e2
 obtain⟨u1,u2,rfl,ru1,ru2⟩:=Vals.two r1
 cases ru1
 cases ru2
 obtain⟨its,rr1,p1,z1,lt1⟩:=Inv.vQ I1 h1
 obtain⟨its2,rr2,p2,z2,lt2⟩:=Inv.vQ I1 h2
 refine vp p1 p2 fun h' st sz kk=>?_
 refine⟨s1.heap.objs.size+4,s1.heap.objs.size+2,s1.heap.objs.size+3,s1.heap.objs.size,s1.heap.objs.size+1,b1,b2,l1,l2,vs,ws,xs,ys,ε,H1,rfl,I1.kept kk,st,ul lt1 lt2,fun b hb=>?_,uZ h1 h2 dl1 dl2 z1,q3⟩
 have hb':s1.heap.objs.size<=b:=by
  simp only[QCq,QAz,or_false]at hb
  rcases hb with rfl|rfl|rfl|rfl|rfl<;>omega
 exact I1.ue hb' (I1.hok.fresh hb')
theorem zO.lt{z TI TO i1 i2:Addr}{b1 b2:Bool}{k:Nat}(st:zO z TI TO i1 i2 b1 b2 l1 l2 k h):∀b∈[z,TI,TO,i1,i2],b<h.objs.size:=by
 intro b hb
 obtain⟨f0,f1,zr,_⟩:=st.zr
 obtain⟨x,y,to⟩:=st.to
 simp only[QCq,QAz,or_false]at hb
 rcases hb with rfl|rfl|rfl|rfl|rfl
 ·exact Qqz zr
 ·exact Qqz st.ti
 ·exact Qqz to
 ·exact st.it1.lt
 ·exact st.it2.lt
theorem Bx(hc:X.calm=true)(hu:X.A.units+60<cLine)(ha:GE X W c m1 a)(hb:GE X W c m2 b)(hg:Gl X "zip")(hm:X.mg "zip"=none)
  (hs:starEach [a,b] X.env=[(false,eval a X.env),(false,eval b X.env)])(hs2:starEach [b] X.env=[(false,eval b X.env)])(hg':Gl X "dict")(hm':X.mg "dict"=none)
  (hs':starEach [.Call (.Name "zip" q1) [a,b] [] q2] X.env=[(false,eval (.Call (.Name "zip" q1) [a,b] [] q2) X.env)]):
  GE X W c (.bi .dict (.zip m1 m2)) (.Call (.Name "dict" p) [.Call (.Name "zip" q1) [a,b] [] q2] [] pos):=by
 intro env γ s σ H Q I q
 simp only[nG,E.aB]at q
 refine wpAny_Call_Name_kw (jb I hg' hm' PyProof.Rows.boot_dict ?_ (by decide) (by decide))
 refine PyProof.Rows.callWith_type1 ?_ hs' rfl
 refine Calls.spliced_cons (bZ (xP ha hb hg hm hs hs2 I (by simpa only[nG]using q)) fun u s1 h1=>Calls.spliced_nil ?_)
 obtain⟨z,TI,TO,i1,i2,b1,b2,l1,l2,vs,ws,xs,ys,δ,H1,rfl,I1,st,ap,hf,G,q1⟩:=h1.go
 obtain⟨r,er,S,q3⟩:=cC q1
 simp only[Mini.b1,bA,QHq,zH]at er
 cases ed:zA _ with
 |none=>rw[ed]at er;cases er
 |some pr=>
  rw[ed]at er
  cases er
  obtain⟨f0,f1,zr,h0⟩:=st.zr
  refine sE (x:=("_")) (p:=default) hc hu I1 S zr rfl (by decide) ed (fun s2 E Q e1 k1=>ud e1 (I1.ok.hd hc) k1) (fun s2 u E Q I2 N2 k2 hQ=>?_)
   fun a s' H' I' N' O' h'=>⟨.ref a,H',I',rfl,q3 _ H' N' ⟨a,rfl,O',h'⟩⟩
  refine iW (k2 _ _ zr) (hQ s2 z [z,TI,TO,i1,i2] _ _ I2 (jC ap) ((jC (P:=X.prog) (w:=X.w) (K:=X.K) (tg:=.Name ("_") default) (vs:=vs) (ws:=ws) ap).keep 0 _ _ st fun b _ o e=>k2 b o e) (fun b hb=>⟨?_,(hf b hb).2⟩) (G.mono N2.pers))
  rw[aC (Qvz (st.lt b hb))]
  exact(hf b hb).1
def Bw(hc:X.calm=true)(ha:GE X W c m1 a)(hb:GE X W c m2 b)(hg:Gl X "zip")(hm:X.mg "zip"=none)
  (hs:starEach [a,b] X.env=[(false,eval a X.env),(false,eval b X.env)])(hs2:starEach [b] X.env=[(false,eval b X.env)])(hg':Gl X "list")(hm':X.mg "list"=none)
  (hs':starEach [.Call (.Name "zip" q1) [a,b] [] q2] X.env=[(false,eval (.Call (.Name "zip" q1) [a,b] [] q2) X.env)]):
  GE X W c (.bi .list (.zip m1 m2)) (.Call (.Name "list" p) [.Call (.Name "zip" q1) [a,b] [] q2] [] pos):=by
 intro env γ s σ H Q I q
 simp only[nG,E.aB]at q
 refine wpAny_Call_Name_kw (jb I hg' hm' PyProof.Rows.boot_list ?_ (by decide) (by decide))
 refine PyProof.Rows.callWith_type1 ?_ hs' rfl
 refine Calls.spliced_cons (bZ (xP ha hb hg hm hs hs2 I (by simpa only[nG]using q)) fun u s1 h1=>Calls.spliced_nil ?_)
 obtain⟨z,TI,TO,i1,i2,b1,b2,l1,l2,vs,ws,xs,ys,δ,H1,rfl,I1,st,ap,hf,G,q1⟩:=h1.go
 obtain⟨r,er,S,q3⟩:=cC q1
 cases er
 obtain⟨f0,f1,zr,h0⟩:=st.zr
 refine Cv (x:=("_")) (p:=default) hc I1 S zr rfl (fun s2 E Q k2 hQ=>iW (k2 _ _ zr) hQ) (fun s2 u N2 k2=>?_)
  fun a s' H' I' N' O' h'=>⟨.ref a,H',I',rfl,q3 _ H' N' ⟨a,rfl,O',h'⟩⟩
 refine⟨[z,TI,TO,i1,i2],_,_,jC ap,(jC (P:=X.prog) (w:=X.w) (K:=X.K) (tg:=.Name ("_") default) (vs:=vs) (ws:=ws) ap).keep 0 _ _ st fun b _ o e=>k2 b o e,fun b hb=>⟨?_,(hf b hb).2⟩,G.mono N2.pers⟩
 rw[aC (Qvz (st.lt b hb))]
 exact(hf b hb).1
end
section
variable{E:QZq}
def xq{Q:QZq}(h:Q (.bool (!a&&b)) s):wpAny (model prog w) A (call (.builtin "int.__lt__") [.bool a,.bool b]) Q E s:=by
 refine Qzz PySem.F.slot_bool_lt (PyProof.Rows.typeIs_bool' s a) PySem.F.entry_int_lt ?_ (PySem.F.args_int_lt_2 _ _)
 have e:(decide ((if a=true then 1 else 0)< (if b=true then(1:Int)else 0)))=(!a&&b):=by cases a<;>cases b<;>rfl
 show wpAny _ _ (ret (.bool (decide ((if a=true then 1 else 0)< (if b=true then 1 else 0))))) _ _ s
 rw[e]
 exact QKz ⟨_,rfl,h⟩
def yJ{Q:Bool->Shared->Prop}(h:Q (!a&&b) s):wpAny (model prog w) A (PyProof.Rows.oneLt' true (.bool a) (.bool b)) Q E s:=by
 rw[PyProof.Rows.oneLt'_eq]
 refine QKq (wpAny_cRoomFor_byValue rfl ?_)
 refine QKq (wpAny_callSpecialIfBound?_slot (PyProof.Rows.typeIs_bool' s a) PySem.F.slot_bool_lt (xq ?_))
 exact wpAny_truthy_bool h
def Ba{Q:Bool->Shared->Prop}(h:Q (!a&&b) s):wpAny (model prog w) A (PyProof.Rows.oneLt' c (.bool a) (.bool b)) Q E s:=by
 cases c with
 |true=>exact yJ h
 |false=>exact PySem.W.kat_one _ _ (uD A s a b prog w _ _ h)
theorem uT{b fin:Bool}{Q:Bool->Shared->Prop}{nx ny:Nat}:∀{vs ws:List Value}{ns ms:List Bool}(i:Nat),BoolsAre vs ns->BoolsAre ws ms->ns.length+ny=ms.length+nx->fin=decide (nx<ny)->Q (kY ns ms) s->
  PySem.W.KatLex prog w A b fin Q (vs.zip ws) i s
 |_,_,_,_,i,.nil,hw=>fun hl hf h=>by
  refine PySem.W.kat_nil ?_
  cases hw with
  |nil=>rw[Eg]at h;rw[hf];simp at hl;rw[QEz (by omega)];exact h
  |cons c hw=>rw[Eh]at h;rw[hf];simp at hl;rw[QFq (by omega)];exact h
 |_,_,_,_,i,.cons a hv,.nil=>fun hl hf h=>by
  refine PySem.W.kat_nil ?_
  rw[hf]
  simp at hl
  rw[QEz (by omega)]
  exact h
 |_,_,_,_,i,.cons a hv,.cons c hw=>fun hl hf h=>by
  rw[uM]at h
  simp only[QBq]at hl
  refine PySem.W.kat_cons (SeqAt.EqAt.bool_bool a c prog w _ _ ?_)
  by_cases hac:a=c
  ·subst hac
   rw[if_pos rfl]at h
   rw[beq_self_eq_true]
   exact PySem.W.kat_yes (uT _ hv hw (by omega) hf h)
  ·rw[if_neg hac]at h
   rw[beq_eq_false_iff_ne.mpr hac]
   exact PySem.W.kat_no (Ba h)
def yV{x y:Addr}{ns ms:List Bool}(hx:∃o n,s.heap.get? x=some o/\o.data=.seq xs n)(hy:∃o n,s.heap.get? y=some o/\o.data=.seq ys n)(bx:BoolsAre xs.toList ns)(by':BoolsAre ys.toList ms)
  (h:Q (kY ns ms) s):wpAny (model prog w) A (PyProof.Rows.keyLt' (PyProof.Rows.tuples' b) (.ref x) (.ref y)) Q E s:=by
 obtain⟨ox,nx,ex,dx⟩:=hx
 obtain⟨oy,ny,ey,dy⟩:=hy
 have l1:=bx.length
 have l2:=by'.length
 simp at l1 l2
 exact PySem.W.kat_lt ex dx ey dy (uT 0 bx by' (by omega) rfl h)
end
end Mini
end
section
namespace Mini
open PySem L2 PyProof.Rows
section
variable{E:QZq}
def wA{vs out:List Value}{P:PySem.Fin->Shared->Prop}(ho:s.heap.get? a=some (seqObj "list" vs.toArray n))(h64:vs.length<64)(hl:out.length=vs.length)
  (h1:vs.length<2->out=vs)
  (h2:2<=vs.length->∀h':Heap,(∀b o,b≠a->s.heap.get? b=some o->h'.get? b=some o)->wpAny (model prog w) A (keyKind' vs.toArray) (fun κ s'=>s'={s with heap:=h'}/\
   (PySem.W.kas_sort vs.length).kasWp (PySem.W.kas_ask prog w A κ vs) (fun p s''=>s''={s with heap:=h'}/\(p.toList.map fun i=>vs.getD i Value.none)=out) s') (fun _ _=>False) {s with heap:=h'})
  (h:P (.done (.ret .none)) {s with heap:=sortedHeap s.heap a vs out.toArray}):
  wpAny (model prog w) A (Builtin.«list.sort» ⟨[.ref a],[]⟩) P E s:=by
 rw[list_sort_plain]
 have ha:=Qqz ho
 have hz:vs.length<=sizeLine:=by rw[sizeLine_eq];omega
 refine QKq (listItems_at ho rfl ?_)
 refine QKq (listUpdate_at ho rfl ?_ (by rw[Qyq];exact hz) (QIq _))
 obtain⟨e1,ho1⟩:∃e1,(s.heap.update a _).get? a=some (seqObj "list" #[] e1):=⟨_,get?_update_seq ho (fun _=> #[])⟩
 refine QKq (seqEpoch_at ho1 rfl ?_)
 refine QKq (wpAny_newTuple ?_ (by show vs.length<=_;exact hz))
 refine QKq (wpAny_newList ?_ (QIq _))
 refine Qqq ?_
 have ho6:(((s.heap.update a (Obj.mapSeq fun _=> #[])).push (seqObj "tuple" vs.toArray 0)).push (seqObj "list" #[] 0)).get? a=some (seqObj "list" #[] e1):=by
  rw[Heap.get?_push_ne _ _ _ (by rw[size_push',Heap.size_update];exact Qvz (Nat.lt_succ_of_lt ha)),Heap.get?_push_ne _ _ _ (by rw[Heap.size_update];exact Qvz ha)]
  exact ho1
 have kp:∀b o,b≠a->s.heap.get? b=some o->(((s.heap.update a (Obj.mapSeq fun _=> #[])).push (seqObj "tuple" vs.toArray 0)).push (seqObj "list" #[] 0)).get? b=some o:=fun b o hb e=>
  QWq _ (QWq _ ((Heap.get?_update_other _ _ (Ne.symm hb)).trans e))
 by_cases hn:vs.toArray.size<2
 ·rw[if_pos hn,if_pos hn]
  refine QKq (QKz ?_)
  refine QKq (QKz ?_)
  have em:(arrOf (SortSt.mk' general' (vs.toArray.zip vs.toArray) #[] 7 none)).map (·.2)=out.toArray:=by
   rw[h1 (by simpa using hn)]
   apply Array.toList_inj.mp
   simp[List.map_snd_zip]
  refine QKq (seqEpoch_at ho6 rfl ?_)
  rw[em]
  refine QKq (listUpdate_at ho6 rfl ?_ (QIq _) (by show out.toArray.size<=_;rw[Qyq];omega))
  simp only[bne_self_eq_false,Qxq,if_false]
  exact QKz h
 ·rw[if_neg hn,if_neg hn]
  have hn2:2<=vs.length:=by simpa using hn
  refine QKq (QGq (h2 hn2 _ kp) (fun κ s0 hk=>?_) fun _ _ x=>x.elim)
  obtain⟨rfl,hk⟩:=hk
  refine QKq (QGq (PySem.W.kat_run (Q:=fun st' s'=>∃p:Array Nat,arrOf st'=p.map _/\failedOf st'=none/\s'={s with heap:=((s.heap.update a _).push _).push _}/\(p.toList.map fun i=>vs.getD i Value.none)=out)
   rfl hn2 h64 (fun p' st' s' a1 a2 a3 a4=>⟨p',a2,a3,a4.1,a4.2⟩) hk) ?_ fun _ _ e=>e)
  rintro ⟨⟨⟩,st'⟩ s' ⟨p,har,hf,rfl,hp⟩
  have em:(arrOf st').map (·.2)=out.toArray:=by rw[PySem.W.kat_snds rfl har,hp]
  refine QKq (seqEpoch_at ho6 rfl ?_)
  rw[em]
  refine QKq (listUpdate_at ho6 rfl ?_ (QIq _) (by show out.toArray.size<=_;rw[Qyq];omega))
  rw[hf]
  simp only[bne_self_eq_false,Qxq,if_false]
  exact QKz h
def uw{vs out:List Value}(hls:s.heap.IsList l vs.toArray)(h64:vs.length<64)(hl:out.length=vs.length)(h1:vs.length<2->out=vs)
  (h2:2<=vs.length->∀h':Heap,(∀b o,s.heap.get? b=some o->h'.get? b=some o)->wpAny (model prog w) A.in1.in1 (keyKind' vs.toArray) (fun κ s'=>s'={s with heap:=h'}/\
   (PySem.W.kas_sort vs.length).kasWp (PySem.W.kas_ask prog w A.in1.in1 κ vs) (fun p s''=>s''={s with heap:=h'}/\(p.toList.map fun i=>vs.getD i Value.none)=out) s') (fun _ _=>False) {s with heap:=h'})
  (h:Q (.ref (s.heap.objs.size+1)) {s with heap:=sortedAll s.heap vs out.toArray}):
  wpAny (model prog w) A (call (.builtin "sorted") [.ref l]) Q E s:=by
 refine Calls.call_function_entry kind_sorted plain_sorted entry_sorted (args_sorted1 _) ?_
 have hz:vs.length<=sizeLine:=by rw[sizeLine_eq];omega
 refine QKq (QKz ?_)
 refine QKq (collect_list hls ?_ hz)
 refine QKq (wpAny_newList ?_ hz)
 have hsz:((s.heap.push (seqObj "list" #[] 0)).update s.heap.objs.size (Obj.mapSeq (· ++vs.toArray))).objs.size=s.heap.objs.size+1:=by
  rw[Heap.size_update,size_push']
 have hoL:(((s.heap.push (seqObj "list" #[] 0)).update s.heap.objs.size (Obj.mapSeq (· ++vs.toArray))).push (seqObj "list" vs.toArray 0)).get? (s.heap.objs.size+1)=some (seqObj "list" vs.toArray 0):=by
  rw[<-hsz];exact Qzq _ rfl
 have keep:∀b o,s.heap.get? b=some o->(((s.heap.push _).update s.heap.objs.size _).push (seqObj "list" vs.toArray 0)).get? b=some o:=fun b o q=>by
  have hlt:=Qqz q
  rw[Heap.get?_push_ne _ _ _ (by rw[hsz];exact Qvz (Nat.lt_succ_of_lt hlt)),Heap.get?_update_ne _ _ _ _ (Qvz hlt),Heap.get?_push_ne _ _ _ (Qvz hlt)]
  exact q
 rw[hsz]
 refine QKq (Qqq (Qzz slot_list_sort ⟨_,hoL,rfl⟩ entry_list_sort (wA hoL h64 hl h1 (fun hn h' kp=>?_) ⟨_,rfl,?_⟩) (args_list_sort _)))
 ·exact h2 hn h' fun b o e=>kp b o (Qvz (Nat.lt_succ_of_lt (Qqz e))) (keep b o e)
 ·exact QKz ⟨_,rfl,h⟩
theorem rn{α:Type}{cmp:Nat->Nat->(Bool->Shared->Prop)->Shared->Prop}{f:Nat->Nat->Option Bool}{Q:α->Shared->Prop}{a:α}(hc:∀i j b(C:Bool->Shared->Prop),f i j=some b->C b s->cmp i j C s):
  ∀(t:PySem.W.KasT α),JN f t=some a->Q a s->t.kasWp cmp Q s
 |.ret x,e,q=>by cases e;exact q
 |.ask i j k,e,q=>by
  simp only[JN]at e
  cases z:f i j with
  |none=>rw[z]at e;cases e
  |some b=>rw[z]at e;exact hc i j b _ z (rn hc (k b) e q)
end
end Mini
end
section
namespace Mini
open PySem L2
inductive fj(h:Heap):List Value->List (List Bool)->Prop
 |nil:fj h [] []
 |cons {a:Addr} {o:Obj} {arr:Array Value} {n:Nat} {b:Bool} {bs:List Bool} {vs:List Value} {rs:List (List Bool)}:h.get? a=some o->o.cls=.type "tuple"->o.data=.seq arr n->BoolsAre arr.toList (b::bs)->fj h vs rs->fj h (.ref a::vs) ((b::bs)::rs)
theorem fj.mono(k:∀b o,h.get? b=some o->h'.get? b=some o):∀{vs:List Value}{rs:List (List Bool)},fj h vs rs->fj h' vs rs
 |_,_,.nil=>.nil
 |_,_,.cons e c d b r=>.cons (k _ _ e) c d b (fj.mono k r)
theorem fj.tups:∀{vs:List Value}{rs:List (List Bool)},fj h vs rs->∃fs,PySem.W.KatTups h vs fs/\fs.length=vs.length/\∀v∈fs,∃b,v=.bool b
 |_,_,.nil=>⟨[],PySem.W.KatTups.nil,rfl,fun v z=>nomatch z⟩
 |_,_,.cons (b:=b) e c d bb r=>by
  obtain⟨fs,t,l,f⟩:=r.tups
  have h0:∃x,(‹Array Value›)[0]? =some x/\x=.bool b:=by
   rename_i arr _ _ _ _
   cases q:arr.toList with
   |nil=>rw[q]at bb;cases bb
   |cons x xs=>
    rw[q]at bb
    cases bb
    refine⟨.bool b,?_,rfl⟩
    have:arr=(Value.bool b::xs).toArray:=by rw[<-q]
    rw[this]
    rfl
  obtain⟨x,hx,rfl⟩:=h0
  refine⟨.bool b::fs,PySem.W.KatTups.cons e c d hx t,by simp[l],fun v z=>?_⟩
  rcases QCq.mp z with rfl|z
  ·exact⟨b,rfl⟩
  ·exact f v z
theorem fj.at{h:Heap}:∀{vs:List Value}{rs:List (List Bool)},fj h vs rs->∀{i:Nat}{r:List Bool},rs[i]? =some r->∃a o arr n,vs.getD i Value.none=.ref a/\h.get? a=some o/\o.data=.seq arr n/\BoolsAre arr.toList r
 |_,_,.cons e c d b t,0,r,q=>by cases q;exact⟨_,_,_,_,rfl,e,d,b⟩
 |_,_,.cons e c d b t,i+1,r,q=>by
  obtain⟨a,o,arr,n,z⟩:=t.at (by simpa using q)
  exact⟨a,o,arr,n,by simpa using z⟩
theorem sH{K:QQq}{H:Hp}:∀{ys:List D}{bs:List Bool}{vs:List V}{us:List Value},bools ys=some bs->aq K H ys vs->Vals vs us->BoolsAre us bs
 |[],bs,vs,us,e,d,v=>by
  cases e
  rw[aq.bC.mp d]at v
  cases v
  exact .nil
 |y::ys,bs,vs,us,e,d,v=>by
  obtain⟨w,ws,rfl,h1,h2⟩:=aq.aG.mp d
  cases v with
  |cons r t=>
   cases y with
   |bl b=>
    simp only[bools]at e
    cases q:bools ys with
    |none=>rw[q]at e;cases e
    |some bs'=>
     rw[q]at e
     cases e
     cases h1
     cases r
     exact .cons b (sH q h2 t)
   |_=>simp[bools]at e
theorem Dn{X:Cx}{γ:QQz}{σ:St}{H:Hp}{s:Shared}(I:Inv X γ σ H s):∀{xs:List D}{rs:List (List Bool)}{vs:List V}{us:List Value},jn xs=some rs->aq X.K H xs vs->Vals vs us->fj s.heap us rs
 |[],rs,vs,us,e,d,v=>by
  cases e
  rw[aq.bC.mp d]at v
  cases v
  exact .nil
 |y::ys,rs,vs,us,e,d,v=>by
  obtain⟨w,ws,rfl,h1,h2⟩:=aq.aG.mp d
  cases v with
  |cons r t=>
   cases y with
   |tup zs=>
    simp only[jn]at e
    cases q:bools zs with
    |none=>rw[q]at e;cases e
    |some bs=>
     cases bs with
     |nil=>rw[q]at e;cases e
     |cons b bs=>
      rw[q]at e
      cases q2:jn ys with
      |none=>rw[q2]at e;cases e
      |some rs'=>
       rw[q2]at e
       cases e
       obtain⟨a,us',rfl,hq,l⟩:=b7 h1
       cases r
       obtain⟨its,rr,⟨o,eo,c,n,dt⟩,_⟩:=I.tuple hq
       exact .cons eo c dt (by simpa using sH q l rr) (Dn I q2 h2 t)
   |_=>simp[jn]at e
theorem pG{H:Hp}{vs:List V}(d:aq K H xs vs)(v:Vals vs us):∀{is:List Nat}{ys:List D},rG xs is=some ys->∃ws,aq K H ys ws/\Vals ws (is.map fun i=>us.getD i Value.none)
 |[],ys,e=>by cases e;exact⟨[],aq.fY,.nil⟩
 |i::is,ys,e=>by
  simp only[rG]at e
  cases q:xs[i]? with
  |none=>rw[q]at e;cases e
  |some x=>
   rw[q]at e
   cases q2:rG xs is with
   |none=>rw[q2]at e;cases e
   |some ys'=>
    rw[q2]at e
    cases e
    obtain⟨ws,h1,h2⟩:=pG d v q2
    obtain⟨w,ew,dw⟩:=d.get q
    obtain⟨u,eu,ru⟩:=v.get ew
    refine⟨w::ws,aq.cZ dw h1,?_⟩
    rw[Qyz]
    have:us.getD i Value.none=u:=by simp[List.getD,eu]
    rw[this]
    exact .cons ru h2
def cV.aeZ{H:Hp}{v:V}(h:cV K H (.lst xs) v):∃a vs,v=.ref a/\jx K H a vs/\aq K H xs vs:=by
 rcases h with h|⟨o,a,q,rfl,u,ha,hq⟩
 ·obtain⟨a,vs,rfl,hq,l⟩:=cT h
  exact⟨a,vs,rfl,hq.sq,l⟩
 ·cases o<;>cases q
  obtain⟨vs,rfl,l⟩:=hq
  exact⟨a,vs,rfl,.inl (.inl ha),l⟩
noncomputable def T6(K:QQq):List V->Hp->VK->Prop:=fun us H Q=>∃l vs xs ys,us=[.ref l]/\jx K H l vs/\aq K H xs vs/\ph xs=some ys/\∀ws,aq K H ys ws->∀a,H a=none->Q (.ref a) (upd H a (.lst ws))
section
def xm:fG X (.builtin "sorted") (T6 X.K):=by
 intro γ s σ H us ws Q I r h
 obtain⟨l,vs,xs,ys,rfl,hq,dl,es,q⟩:=h
 obtain⟨u,rfl,ru⟩:=vals1 r
 cases ru
 obtain⟨its,rr,pl,hz⟩:=I.list hq
 have lx:=dl.length
 have lv:=rr.length
 have fin:∀zs out,aq X.K H ys zs->Vals zs out->out.length<=sizeLine->EP X γ σ Q _ {s with heap:=PyProof.Rows.sortedAll s.heap its out.toArray}:=fun zs out d v lz=>by
  obtain⟨e,ea⟩:=PyProof.Rows.sortedAll_at s.heap its out.toArray
  exact⟨.ref _,_,I.laid (fun b o x=>PyProof.Rows.sortedAll_old x) (Nat.le_succ _) (show bY X.prog X.w _ _ _ (.lst zs)from⟨by rw[v.length];exact lz,out,e,v,ea⟩),rfl,q zs d _ (I.hok.fresh (Nat.le_succ _))⟩
 unfold ph at es
 by_cases h1:xs.length<2
 ·rw[if_pos h1]at es
  cases es
  exact uw pl.isList (by omega) rfl (fun _=>rfl) (fun z=>absurd z (by omega)) (fin vs its dl rr (by omega))
 ·rw[if_neg h1]at es
  by_cases h64:xs.length<64
  ·rw[if_pos h64]at es
   unfold acz at es
   cases e1:jn xs with
   |none=>
    rw[e1]at es
    cases es
   |some rs=>
    rw[e1]at es
    simp only[QHq]at es
    cases e2:JN _ _ with
    |none=>rw[e2]at es;cases es
    |some p=>
     rw[e2]at es
     simp only[QHq]at es
     by_cases e3:p.size=xs.length
     ·rw[if_pos e3]at es
      obtain⟨zs,d,v⟩:=pG dl rr es
      have lo:(p.toList.map fun i=>its.getD i Value.none).length=its.length:=by rw[QAq,Array.length_toList];omega
      refine uw pl.isList (by omega) lo (fun z=>absurd z (by omega)) (fun _ h' kp=>?_) (fin zs _ d v (by omega))
      have RA':=(Dn I e1 dl rr).mono kp
      obtain⟨fs,t,lf,fb⟩:=RA'.tups
      refine PySem.W.kat_kind (T:=.type "bool") t (by omega) (fun v hv=>?_) (by decide) ⟨rfl,?_⟩
      ·obtain⟨b,rfl⟩:=fb v hv
       exact PySem.W.Looks.of_pure rfl
      ·have el:its.length=xs.length:=by omega
       rw[el]
       refine rn (fun i j b C e c=>?_) _ e2 ⟨rfl,rfl⟩
       unfold acA at e
       cases ei:rs[i]? with
       |none=>rw[ei]at e;cases e
       |some ri=>
        cases ej:rs[j]? with
        |none=>rw[ei,ej]at e;cases e
        |some rj=>
         rw[ei,ej]at e
         cases e
         obtain⟨ai,oi,arri,ni,x1,x2,x3,x4⟩:=RA'.at ei
         obtain⟨aj,oj,arrj,nj,y1,y2,y3,y4⟩:=RA'.at ej
         show wpAny _ _ _ _ _ _
         rw[x1,y1]
         exact yV ⟨oi,ni,x2,x3⟩ ⟨oj,nj,y2,y3⟩ x4 y4 c
     ·rw[if_neg e3]at es;cases es
  ·rw[if_neg h64]at es;cases es
def Ae:pW X (T6 X.K) (b1 .sorted):=by
 intro env σ H x z v Q S Dx e q
 simp only[b1]at e
 cases x with
 |lst xs=>
  simp only[iC,QHq,O6]at e
  cases es:ph xs with
  |none=>rw[es]at e;cases e
  |some ys=>
   rw[es]at e
   cases e
   obtain⟨a,vs,rfl,hq,l⟩:=Dx.aeZ
   exact⟨a,vs,xs,ys,rfl,hq,l,es,fun ws d p hp=>q _ _ (Nx.laid S hp) (j5 S d hp)⟩
 |_=>simp[iC]at e
end
section
def X7{x:Str}(nm:gr X k x):GE X W c (.ref k) (.Name x pos):=by
 intro env
 refine PE.imp nm.pe fun σ H Q q=>?_
 simp only[Pq]at q
 have go:∀o,(env[k]? =some (.own o)\/env[k]? =some (.bor o))->tM X.K W env (.ok (.ref k) env) σ H Q->Jr k σ H Q:=fun o e q=>by
  have:∃a,(σ[k]?).join=some (.ref a):=by
   rcases e with e|e
   ·obtain⟨a,z,_⟩:=q.1.sl k _ e;exact⟨a,z⟩
   ·obtain⟨a,z,_⟩:=q.1.sl k _ e;exact⟨a,z⟩
  obtain⟨a,z⟩:=this
  exact⟨.ref a,bN z,q.2 _ H (Nx.refl q.1) (bN z)⟩
 cases e:env[k]? with
 |none=>rw[e]at q;exact q.2.elim
 |some s=>
  rw[e]at q
  cases s with
  |un=>exact q.2.elim
  |val d=>exact q.2.elim
  |own o=>exact go o (.inl e) q
  |bor o=>exact go o (.inr e) q
theorem Js{env:Ev}{H:Hp}{f:Bool->Ev->Out Rv}(h:tT K W env (r.cA gP f) σ H Q)
  (k:∀b δ H1,Nx K env σ H δ H1->tT K W δ (f b δ) σ H1 Q->R b H1):tT K W env r σ H R:=by
 have step:∀d δ x,x.gK=some d->r=.ok x δ->∃b,gP d=some b/\∀H1,Nx K env σ H δ H1->R b H1:=fun d δ x ex er=>by
  subst er
  cases q:gP d with
  |none=>
   cases x with
   |val d'=>cases ex;simp only[Out.cA,Out.ao,q]at h;exact h.2.elim
   |new xs=>cases ex;simp only[Out.cA,Out.ao,q]at h;exact h.2.elim
   |ref i=>cases ex
  |some b=>
   refine⟨b,rfl,fun H1 N=>k b δ H1 N (TF ?_ N)⟩
   cases x with
   |val d'=>cases ex;simp only[Out.cA,Out.ao,q]at h;exact h
   |new xs=>cases ex;simp only[Out.cA,Out.ao,q]at h;exact h
   |ref i=>cases ex
 refine⟨h.1,?_⟩
 cases r with
 |bad=>exact h.2
 |exc c δ=>exact h.2
 |ok x δ=>
  cases x with
  |val d=>obtain⟨b,e,q⟩:=step d δ _ rfl rfl;exact⟨d,b,rfl,e,q⟩
  |new xs=>obtain⟨b,e,q⟩:=step xs.d δ _ rfl rfl;exact⟨xs.d,b,rfl,e,q⟩
  |ref i=>exact h.2.elim
def XD(ht:GT X W c m1 t)(ha:GT X W c m2 a)(hb:GT X W c m3 b):GT X W c (.ite m1 m2 m3) (.IfExp t a b pos):=by
 intro γ s σ H Q I ⟨env,q⟩
 have e:∀w,isTrue (.IfExp t a b pos) X.env w=(isTrue t X.env _>>=fun q=>if q=true then isTrue a X.env _ else isTrue b X.env _):=fun w=>by first|rfl|rw[PySem.isTrue]|simp only[PySem.isTrue]
 refine QKq (bZ (ht γ s σ H (fun k H1=>∃δ,tT X.K W δ _ σ H1 Q) I ⟨env,Js q fun k δ H1 N q1=>⟨δ,q1⟩⟩) fun k s1⟨H1,I1,δ,q1⟩=>?_)
 cases k with
 |true=>rw[if_pos rfl]at q1⊢;exact ha γ s1 σ H1 Q I1 ⟨δ,q1⟩
 |false=>rw[if_neg Qjz]at q1⊢;exact hb γ s1 σ H1 Q I1 ⟨δ,q1⟩
end
section
variable{X:Cx}{W:Wi}{c:Cf}{m m1 m2 m3:E}{o a b e:Expr}{pos p p2 apos cpos:Pos}{name:Str}
end
section
def Mt{H:Hp}{v y w:V}{Q:VK}(D1:cV K H d v)(D2:bh K H k y)(D3:bh K H x w)(e:rH d k x=some z)(q:∀u,bh K H z u->Q u H):∃a,v=.ref a/\∃o,uh H a y o/\Q (o.getD w) H:=by
 cases d with
 |cJ ks ds=>
  simp only[rH]at e
  split at e
  ·rename_i hk
   cases e
   obtain⟨kk,rfl⟩:=fU hk
   have ek:=kI D2
   subst ek
   obtain⟨a,kvs,rfl,ha,rfl,l⟩:=jd D1
   refine⟨a,rfl,jA kvs kk,⟨kvs,kk,ha,rfl,rfl⟩,q _ ?_⟩
   cases e1:b8 _ _ ds with
   |some d=>
    obtain⟨w,e2,e3⟩:=oA kk e1 l
    rw[e2]
    exact e3
   |none=>
    have n:=jZ (kvs:=kvs) kk
    have e4:∀{ks vs:List D},vs.length=ks.length->b8 (dC kk) ks vs=none->aU (dC kk) ks=false:=by
     intro ks
     induction ks with
     |nil=>intro vs _ _;rfl
     |cons k' ks ih=>
      intro vs hl h
      cases vs with
      |nil=>simp at hl
      |cons v vs=>
       simp only[b8]at h
       split at h
       ·cases h
       ·rename_i ne
        simp[aU,ne,ih (by simpa using hl) h]
    rw[e4 (by have:=l.length;simpa using this) e1]at n
    have e5:jA kvs kk=none:=by
     cases e6:jA kvs kk with
     |none=>rfl
     |some w=>rw[e6]at n;cases n
    rw[e5]
    exact D3
  ·cases e
 |_=>cases e
def LQ{H:Hp}{v:V}(D1:cV K H d v)(e:rB (some d)=true):∃a,v=.ref a/\IsD H a:=by
 cases d with
 |cJ ks ds=>
  obtain⟨a,kvs,rfl,ha,_⟩:=jd D1
  exact⟨a,rfl,kvs,ha⟩
 |_=>cases e
def RL(hu:X.A.units+1<cLine)(M:M2 X o "get" apos e f cpos)(hv:∀k,m1.aB=some k->∃x p,o=.Name x p/\gr X k x)(hd:GE X W c m1 o)(hk:GE X W c m2 e)(hx:GE X W c m3 f):GE X W c (.get2 m1 m2 m3) (.Call (.Attribute o "get" apos) [e,f] [] cpos):=by
 intro env
 cases qv:m1.aB with
 |some i=>
  obtain⟨x,p,rfl,nm⟩:=hv i qv
  refine PE.imp (Ky hu nm.pe hk.d hx.d M) fun σ H Q q=>?_
  simp only[Vl,qv]at q
  cases e0:rB _ with
  |false=>rw[e0]at q;exact q.2.elim
  |true=>
   rw[e0]at q
   cases e1:aR i env with
   |none=>rw[e1]at e0;cases e0
   |some d0=>
    rw[e1]at e0
    obtain⟨u,eu,D0⟩:=cG q.1 e1
    obtain⟨a,rfl,ia⟩:=LQ D0 e0
    refine⟨.ref a,eu,a,rfl,ia,env,aV q fun k ε y H2 N2 D2 q2=>⟨ε,aV q2 fun x env3 z H3 N3 D3 q3=>?_⟩⟩
    obtain⟨r,er,S,q4⟩:=cC q3
    cases e2:aR i env3 with
    |none=>rw[e2]at er;cases er
    |some d3=>
     rw[e2]at er
     simp only[Option.bind]at er
     obtain⟨u',eu',D4⟩:=cG S e2
     rw[eu]at eu'
     cases eu'
     cases e3:rH d3 k x with
     |none=>rw[e3]at er;cases er
     |some w=>
      rw[e3]at er
      cases er
      obtain⟨a',ea,o,g,q5⟩:=Mt D4 (D2.mono N3.pers) D3 e3 fun u hu=>q4 u H3 (Nx.refl S) hu
      cases ea
      exact⟨o,g,q5⟩
 |none=>
  intro γ s σ H Q I q
  simp only[Vl,qv]at q
  exact q.2.elim
def aA(X:Cx)(W:Wi)(c:Cf)(m:E):TE:=fun σ H Q=>∃env,tA X.K W env (ev c m env) σ H Q
inductive Kv(X:Cx)(W:Wi)(c:Cf):E->List (Option Expr)->List Expr->List (TE×TE)->Prop
 |nil:Kv X W c .nil [] [] []
 |cons {k v r:E} {ke ve:Expr} {ks:List (Option Expr)} {vs:List Expr} {nC:List (TE×TE)}:GE X W c k ke->GE X W c v ve->Kv X W c r ks vs nC->Kv X W c (.cons k (.cons v r)) (some ke::ks) (ve::vs) ((aA X W c k,aA X W c v)::nC)
def xY{env:Ev}{H:Hp}{Q:VK}(q:TQ K W env (evs c (.cons m1 m2) env) σ H R)(k:∀v H1 δ,TQ K W δ (evs c m2 δ) σ H1 (fun vs H2=>R (v::vs) H2)->Q v H1):tA K W env (ev c m1 env) σ H Q:=by
 obtain⟨S,q⟩:=q
 refine⟨S,?_⟩
 simp only[evs]at q
 cases r:ev c m1 env with
 |bad=>rw[r]at q;exact q.elim
 |exc k δ=>rw[r]at q;exact q
 |ok x δ=>
  rw[r]at q
  intro v H1 N1 k1
  refine k v H1 δ ⟨N1.eG,?_⟩
  simp only[Out.bind]at q
  cases r2:evs c m2 δ with
  |bad=>rw[r2]at q;exact q.elim
  |exc k ε=>rw[r2]at q;exact fun H2 N2=>q H2 (N1.trans N2)
  |ok xs ε=>
   rw[r2]at q
   intro vs H2 N2 k2
   exact q _ H2 (N1.trans N2) ⟨v,vs,rfl,k1.on S N1 N2,k2.weaken N1.dom⟩
def nH:List (V×V)->List V
 |[]=>[]
 |p::r=>p.1::p.2::nH r
theorem qd:∀{a b:List (V×V)},nH a=nH b->a=b
 |[],[]=>fun _=>rfl
 |[],_::_=>fun h=>by cases h
 |_::_,[]=>fun h=>by cases h
 |(x,y)::a,_::b=>fun h=>by
  simp only[nH,List.cons.injEq]at h
  obtain⟨rfl,rfl,h⟩:=h
  rw[qd h]
def Kv.pps{ks:List (Option Expr)}{nC:List (TE×TE)}(h:Kv X W c es ks vs nC):PPs X pos ks vs nC:=by
 induction h with
 |nil=>exact Qx
 |cons hk hv _ ih=>exact Kd (fun γ s σ H Q I⟨env,q⟩=>hk.ag env γ s σ H Q I q) (fun γ s σ H Q I⟨env,q⟩=>hv.ag env γ s σ H Q I q) ih
def Kv.go{ks:List (Option Expr)}{nC:List (TE×TE)}(h:Kv X W c es ks vs nC):∀{env:Ev}{σ:St}{H:Hp}{R:List V->Hp->Prop},TQ X.K W env (evs c es env) σ H R->vM nC σ H fun ps H2=>R (nH ps) H2:=by
 induction h with
 |nil=>
  intro env σ H R q
  obtain⟨S,q⟩:=q
  exact q [] H (Nx.refl S) rfl
 |cons hk hv _ ih=>
  intro env σ H R q
  exact⟨env,xY q fun x H1 δ q1=>⟨δ,xY q1 fun y H2 ε q2=>ih q2⟩⟩
def Nx.relaid{env δ:Ev}{σ:St}{p:Addr}(S:Sat K env σ H)(hp:H p=none)(hu:Ov u)(N:Nx K env σ (upd H p u) δ H2):H2 p=some u/\Nx K env σ H δ (upd H2 p u'):=by
 have no:=S.qP hp
 have e:=N.keep p u aN no
 have N0:=(Nx.laid S hp).trans N
 have P:=fX (u':=u') e hu
 refine⟨e,⟨N.eG.keep P fun i b w o q=>?_,N0.sub,N0.pers.trans P,fun b w q n=>?_,fun b q=>?_,N0.bors⟩⟩
 ·rw[aC (fun z=>by subst z;exact no i (N.sub i _ o))];exact q
 ·rw[aC ((fun b w q z=>by subst z;rw[hp]at q;cases q) b w q)];exact N0.keep b w q n
 ·by_cases hb:b=p
  ·subst hb;exact hp
  ·rw[aC hb]at q;exact N0.dom b q
def MP{ds:List D}{r:Rv}(h:HW ds=some r):∃k v:D,ds=[k,v]/\cj k=true/\r=.new (.sdt [k] [v]):=by
 unfold HW at h
 split at h
 ·split at h
  ·rename_i hk
   cases h
   exact⟨_,_,rfl,hk,rfl⟩
  ·cases h
 ·cases h
def Yj(hu:X.A.units+9<cLine){es:E}{ks:List (Option Expr)}{vs:List Expr}{nC:List (TE×TE)}(h:Kv X W c es ks vs nC)(hall:ks.all (·.isSome)=true)(hl:ks.length=vs.length)(h0:ks≠[])(h15:ks.length<=15):GE X W c (.dsp es) (.Dict ks vs pos):=by
 intro env
 refine PE.imp (QG hu h.pps hall hl h0 h15) fun σ H Q q p hp=>?_
 simp only[adP]at q
 obtain⟨S,q⟩:=q
 have S1:=(Nx.laid (o:=.dK []) S hp).eG
 have go:TQ X.K W env (evs c es env) σ (upd H p (.dK [])) (fun us H2=>H2 p=some (.dK [])/\∃k a v,us=nH [(.ref a,v)]/\cI X.K H2 k a/\Q (.ref p) (upd H2 p (sD [(k,a,v)]))):=by
  refine⟨S1,?_⟩
  cases r:evs c es env with
  |bad=>rw[r]at q;exact q.elim
  |exc k δ=>rw[r]at q;exact fun H2 N=>q H2 ((Nx.laid S hp).trans N)
  |ok rs δ=>
   rw[r]at q
   simp only[Out.bind]at q
   cases e1:aX rs with
   |none=>rw[e1]at q;exact q.elim
   |some ds=>
    rw[e1]at q
    simp only[QHq]at q
    unfold zu at q
    by_cases hd:(decide (ds.length<=30)&& !ds.isEmpty)=true
    ·rw[if_pos hd]at q
     simp only[QUq,QUz]at hd
     cases e0:HW ds with
     |some rv0=>
      rw[e0]at q
      intro us H2 N rv
      have l:aq X.K H2 ds us:=iJ.ds (by rw[zm es env r];exact rv) e1
      obtain⟨k,v,rfl,hk,rfl⟩:=MP e0
      obtain⟨x,w1,rfl,h1,l1⟩:=aq.aG.mp l
      obtain⟨y,w2,rfl,h2,l2⟩:=aq.aG.mp l1
      cases aq.bC.mp l2
      obtain⟨a,rfl,ka⟩:=iT hk h1
      obtain⟨b1,b2⟩:=Nx.relaid (u':=sD [(kC k,a,y)]) S hp (by constructor<;>(intros;intro z;cases z)) N
      have P:=fX (u':=sD [(kC k,a,y)]) b1 (by constructor<;>(intros;intro z;cases z))
      exact⟨b1,⟨kC k,a,y,rfl,ka,q _ _ b2 ⟨p,rfl,⟨_,aN,_,rfl,gq.aG.mpr ⟨_,_,rfl,rfl,hk,h1.mono P,h2.mono P,gq.nil⟩⟩,hp⟩⟩⟩
     |none=>rw[e0]at q;exact q.elim
    ·rw[if_neg hd]at q;exact q.elim
 have:=h.go go
 refine cast ?_ this
 congr 1
 funext ps H2
 refine propext ⟨fun⟨z,f⟩=>⟨z,?_⟩,fun⟨z,f⟩=>⟨z,?_⟩⟩
 ·obtain⟨k,a,v,e,h⟩:=f
  exact⟨k,a,v,qd e,h⟩
 ·obtain⟨k,a,v,e,h⟩:=f
  exact⟨k,a,v,by rw[e],h⟩
def Yi:GE X W c .emp (.Dict [] [] pos):=by
 intro env
 refine PE.imp Kw fun σ H Q q p hp=>?_
 obtain⟨S,q⟩:=q
 exact q _ _ (Nx.laid S hp) ⟨p,rfl,⟨_,aN,[],rfl,rfl,aq.fY⟩,hp⟩
end
noncomputable def Ite(K:QQq)(l:Addr)(vs:List V):It:=
 ⟨fun i H=>FZ K H l vs/\i<vs.length,
  fun i H x H'=>∃p v,H p=none/\x=.ref p/\vs[i]? =some v/\H'=upd H p (.tup [.int i,v]),
  fun i H=>FZ K H l vs/\vs.length<=i⟩
theorem Gg{w:World}{elts:List Expr}{pos:Pos}{vs:List V}(ne:e≠it):
  Turn P w K (.Tuple elts x1 pos) (Ite K l vs) [e,it] e (fun i h=>(∃old,IsEnum h e it i old)/\h.IsListIter it l i) where
 mem:=by simp
 obj:=fun i h st b hb=>by
  obtain⟨⟨old,he⟩,o,ho,_,hd⟩:=st
  simp only[QCq,QAz,or_false]at hb
  rcases hb with rfl|rfl
  ·exact⟨_,he,fun v z=>by cases z⟩
  ·exact⟨o,ho,fun v z=>by rw[hd]at z;cases z⟩
 keep:=fun i h h' st k=>by
  obtain⟨⟨old,he⟩,hit⟩:=st
  exact⟨⟨old,k e (by simp) _ he⟩,hit.at fun o q=>k it (by simp) o q⟩
 item:=by
  intro X hP hw hK hc i γ s σ H E I hf st hg
  subst hP hw hK
  obtain⟨hq,hi⟩:=hg
  obtain⟨its,r,p,_⟩:=I.list hq.sq
  have ev:=QXq hi
  obtain⟨x,ex,rx⟩:=r.get ev
  obtain⟨⟨old,he⟩,hit⟩:=st
  have lt:∀b∈[e,it],b<s.heap.objs.size:=fun b hb=>by
   obtain⟨o,ho,_⟩:=id hit
   simp only[QCq,QAz,or_false]at hb
   rcases hb with rfl|rfl
   ·exact Qqz he
   ·exact Qqz ho
  refine wpAny_pyNext_enum_item he hit p.isList (by simpa using ex) ne fun h' ho hit' hT hsz hk=>?_
  refine⟨_,rfl,wpAny_letOwnedTupleGo_enum ho fun h'' he'' sb=>?_⟩
  have kk:∀b o,b∉[e,it]->s.heap.get? b=some o->h''.get? b=some o:=fun b o hb q=>by
   simp only[QCq,QAz,or_false,not_or]at hb
   exact sb.extBut _ _ hb.1 (hk b o hb.1 hb.2 q)
  have I1:Inv X γ σ (upd H s.heap.objs.size (.tup [.int i,vs[i]])) {s with heap:=h'',toks:=s.toks+1}:=
   Inv.uo I kk hf (QVz _) ⟨by show 2<=sizeLine;rw[sizeLine_eq];decide,[.int i s.toks,x],.cons ⟨s.toks,rfl⟩ (.cons rx .nil),_,sb.extBut _ _ (Nat.ne_of_gt (lt e (by simp))) hT,rfl,rfl,_,rfl⟩
  refine⟨.ref s.heap.objs.size,_,I1,rfl,⟨_,_,I.hok.fresh (QVz _),rfl,ev,rfl⟩,⟨⟨x,by simpa using he''⟩,hit'.at fun o q=>sb.extBut _ _ (Ne.symm ne) q⟩,fun b hb=>?_⟩
  rw[aC (Qvz (lt b hb))]
  exact(hf b hb).1
 done:=by
  intro X hP hw hK hc i γ s σ H E I hf st hg
  subst hP hw hK
  obtain⟨hq,hi⟩:=hg
  obtain⟨its,r,p,_⟩:=I.list hq.sq
  obtain⟨⟨old,he⟩,hit⟩:=st
  have l1:=r.length
  exact wpAny_pyNext_enum_end (I.ok.hd hc) he hit p.isList (by simp;omega) fun h' kk=>⟨rfl,Inv.CZ I (fun b o hb q=>kk b o (fun z=>hb (by simp[z])) q) hf⟩
 self:=fun A i s Q E st h=>by
  obtain⟨⟨old,he⟩,_⟩:=st
  exact wpAny_pyIter_enum he h
def Fi(xs:List D):List D:=aQ (bF 0 xs.length) xs
theorem Bu{H:Hp}{vs:List V}(h1:FZ K H l vs)(d1:aq K H xs vs)(hz:vs.length<=sizeLine):Gives K (Ite K l vs) (Fi xs) H where
 go:=fun H1 p i d e=>by
  obtain⟨x,y,ex,ey,_⟩:=jz e
  obtain⟨v,ev,_⟩:=d1.get ey
  exact⟨p.RT h1,(QCz.mp ev).1⟩
 yld:=fun H1 p i d e x H2 y=>by
  obtain⟨a,v,hn,rfl,ev,rfl⟩:=y
  obtain⟨dx,dy,ex,ey,rfl⟩:=jz e
  obtain⟨v',ev',dv⟩:=d1.get ey
  rw[ev]at ev'
  cases ev'
  rw[(iU 0 xs.length i dx ex).1]
  have pp:bG H1 (upd H1 a (.tup [.int i,v])):=by
   refine⟨fun b xs q=>?_,fun b o w q=>?_⟩
   ·rw[aC (fun z=>by subst z;rw[hn]at q;cases q)];exact q
   ·rw[aC (fun z=>by subst z;rw[hn]at q;cases q)];exact q
  exact⟨dF (.inl (.inl aN)) (aq.cZ (by simp[bh]) (aq.cZ ((dv.mono p).mono pp) aq.fY)),.inr ⟨a,_,hn,rfl⟩⟩
 stop:=fun H1 p i hi=>by
  rw[Fi,jy,fW]at hi
  have:=d1.length
  exact⟨p.RT h1,by omega⟩
 len:=by rw[Fi,jy,fW];have:=d1.length;omega
section
theorem RG{x1:_}(ha:GE X W c m1 a)(hg:Gl X "enumerate")(hm:X.mg "enumerate"=none)(hs:starEach [a] X.env=[(false,eval a X.env)]):
  GI X W c (.enum m1) (.Tuple elts x1 tp) (.Call (.Name "enumerate" p) [a] [] pos):=by
 intro env γ s σ H R I q
 let RR:List V->Hp->Prop:=fun vs H'=>∃ε xs v1,vs=[v1]/\bh X.K H' (.lst xs) v1/\Sat X.K ε σ H'/\∀J H2,Nx X.K ε σ H' ε H2->Gives X.K J (Fi xs) H2->R J H2
 have go:aD X W c m1 σ H fun v1 H1=>RR [v1] H1:=by
  refine⟨env,ql q fun d1 δ v1 H1 N1 D1 q1=>?_⟩
  cases d1 with
  |lst xs=>
   obtain⟨S,d,zs,z1,z2,z3⟩:=q1
   cases z1
   cases z2
   exact⟨δ,xs,v1,rfl,D1,S,z3⟩
  |_=>exact q1.2.elim
 refine wpAny_Call_Name_kw (jb I hg hm PyProof.Rows.boot_enumerate ?_ (by decide) (by decide))
 refine PyProof.Rows.callWith_type1 (bZ (cD ha.d eO hs pos γ s σ H RR I go) fun us s1⟨vs,H1,I1,r1,q1⟩=>?_) hs rfl
 obtain⟨ε,xs,v1,rfl,D1,S2,q3⟩:=q1
 obtain⟨l,vs,rfl,hq,dl⟩:=cT D1
 obtain⟨u1,rfl,ru1⟩:=Vals.one r1
 cases ru1
 obtain⟨its,rr1,p1,z1⟩:=I1.list hq.sq
 refine call_enumerate_list p1.isList fun h' he hit sz kk=>?_
 refine wpAny_pyIter_enum he ?_
 refine⟨s1.heap.objs.size+1,[s1.heap.objs.size+1,s1.heap.objs.size],_,_,H1,rfl,I1.kept kk,Gg (Nat.succ_ne_self _),⟨⟨.none,he⟩,hit⟩,fun b hb=>?_,q3 _ H1 (Nx.refl S2) (Bu hq dl z1)⟩
 have hb':s1.heap.objs.size<=b:=by
  simp only[QCq,QAz,or_false]at hb
  rcases hb with rfl|rfl<;>omega
 exact I1.ue hb' (I1.hok.fresh hb')
end
end Mini
end
section
namespace Mini
open PySem
structure Ct where
 N:List Str
 sc:Scope
 fns:List (Str×List Bool)
 nD:List Str
 exs:List Str:=[]
 rz:List Str:=[]
noncomputable def mV:List Str->Str->Option Nat
 |[],_=>none
 |y::r,x=>if x=y then some 0 else(mV r x).map (· +1)
noncomputable def Nf:Const->Option D
 |.none=>some .non
 |.bool b=>some (.bl b)
 |.int i=>some (.int i)
 |.str x=>some (.str x)
 |_=>none
noncomputable def Vk(sc:Scope)(x:Str):Bool:=match sc.names.lookup x with
 |some .local=>true
 |some .cell=>true
 |some .free=>true
 |_=>false
def lL(sc:Scope)(x:Str):Bool:=sc.names.lookup x==some .globalImplicit
def Hd(x:Str):Bool:= !(x==("__debug__":Str))&& !(x==("__classdict__":Str))
noncomputable def eF(C:Ct)(x:Str):Option E:=
 if Hd x then
  match mV C.N x with
  |some k=>if Vk C.sc x then some (.var k)else none
  |none=>if lL C.sc x then(mV C.nD x).map .glob else none
 else none
noncomputable def opB:Operator->Option YH
 |.Add=>some .add
 |.Sub=>some .sub
 |.Mult=>some .mul
 |.Mod=>some .mod
 |_=>none
noncomputable def cmB:CmpOp->Option Cm
 |.Eq=>some .eq
 |.NotEq=>some .ne
 |.Lt=>some .lt
 |.LtE=>some .le
 |.Gt=>some .gt
 |.In=>some .isin
 |.NotIn=>some .notin
 |.Is=>some .jL
 |.IsNot=>some .notN
 |_=>none
noncomputable def tyB(x:Str):Option Ty:=
 if x="tuple" then some .tup else if x="list" then some .lst else if x="str" then some .str else if x="bool" then some .bool else if x="int" then some .int else none
noncomputable def ZD(x:Str):Option Bi:=
 if x="len" then some .len else if x="int" then some .int else if x="tuple" then some .tuple else if x="list" then some .list else if x="all" then some .all else if x="any" then some .any
 else if x="sorted" then some .sorted else if x="dict" then some .dict else none
noncomputable def plain:Expr->Bool
 |.BoolOp .. |.BinOp .. |.UnaryOp .. |.IfExp .. |.ListComp .. |.Compare .. |.Call .. |.Constant .. |.Subscript .. |.Name .. |.List .. |.Tuple .. |.Dict .. =>true
 |_=>false
def E.Ma:E->Bool
 |.nil=>true
 |_=>false
noncomputable def fnAt(C:Ct)(x:Str):Option (Nat×List Bool):=(mV (C.fns.map (·.1)) x).bind fun g=>(C.fns[g]?).map fun p=>(g,p.2)
noncomputable def qH(scope outer:Scope):Scope:=
 {scope with names:=scope.names.map fun(n,k)=>if (k== .free&&outer.kind== .function&&outer.names.lookup n==some .cell)then(n,.cell)else(n,k)}
def qD(η N:List Str):List Str:=η++N.map fun x=>if η.contains x then(".":Str)++x else x
def tY:Expr->Option Str
 |.Name x _=>some x
 |_=>none
noncomputable def Vu:Expr->Option (List Str×Tg)
 |.Name x _=>some ([x],.name 0)
 |.Tuple es _ _=>(es.mapM tY).map fun xs=>(xs,.tup (List.range xs.length))
 |_=>none
noncomputable def V3(outer inner:Scope)(η N:List Str):Bool:=
 decide (inner.kind=.function)&&decide ((qD η N).Nodup)
 &&(inner.names.all fun p=>(p.2 != .local)||((η.contains p.1||p.1==(".0":Str))&&inner.names.lookup p.1==some .local))
 &&(η.all fun x=>inner.names.lookup x==some .local)
 &&(inner.names.all fun p=>p.2 != .cell)
 &&(inner.names.all fun p=>(p.2 != .free)||outer.names.lookup p.1==some .cell||outer.names.lookup p.1==some .free)
 &&(N.all fun x=> !η.contains x||(inner.names.lookup ((".":Str)++x)).isNone)
 && !N.contains (".0":Str)
def isCall:Expr->Bool
 |.Call .. =>true
 |_=>false
def Bb(ap cp:Pos):Bool:=ap.endLine==cp.line
def mvS(i:Nat):E->S
 |.var j=>if i=j then .set i (.var j)else .mov i j
 |m=>.set i m
def isTup:Expr->Bool
 |.Tuple .. =>true
 |_=>false
noncomputable def Fj(C:Ct)(tg it:Expr):Option Expr:=if isTup tg then(match it with
  |.Call f as kw _=>(match f,as,kw with
   |.Name x _,[a],[]=>if x="enumerate"&&lL C.sc x&&(fnAt C x).isNone then some a else none
   |_,_,_=>none)
  |_=>none)else none
mutual
noncomputable def di:Nat->Ct->Expr->Option E
 |0,_,_=>none
 |n+1,C,e=>match e with
  |.Constant k _ _=>(Nf k).map .con
  |.Name x _=>eF C x
  |.Tuple es _ _=>(vL n C es).map .tup
  |.List es _=>(vL n C es).map .lis
  |.BinOp a o b _=>(opB o).bind fun o=>(di n C a).bind fun a=>(di n C b).map fun b=>.op o a b
  |.UnaryOp o a _=>match o with
   |.USub=>(di n C a).map .neg
   |.Not=>(di n C a).map .not
   |_=>none
  |.BoolOp o es _=>(vL n C es).bind fun m=>if m.Ma then none else match o with
   |.And=>some (.and m)
   |.Or=>some (.or m)
  |.Compare a ops cs _=>match ops,cs with
   |[o],[b]=>(cmB o).bind fun o=>(di n C a).bind fun a=>(di n C b).map fun b=>.cmp o a b
   |[o,o2],[b,d]=>(cmB o).bind fun o=>(cmB o2).bind fun o2=>(di n C a).bind fun a=>(di n C b).bind fun b=>(di n C d).map fun d=>.chain o o2 a b d
   |_,_=>none
  |.IfExp t a b _=>(di n C t).bind fun t=>(di n C a).bind fun a=>(di n C b).map fun b=>.ite t a b
  |.Subscript a i _=>match i with
   |.Slice lo hi st _=>match st with
    |none=>(di n C a).bind fun a=>(Zc n C lo).bind fun lo=>(Zc n C hi).map fun hi=>.slc a lo hi
    |some _=>none
   |i=>(di n C a).bind fun a=>(di n C i).map fun i=>.idx a i
  |.Call f args kw cp=>match kw with
   |[]=>match f with
    |.Name x _=>if Hd x&&lL C.sc x then(match fnAt C x with
      |some (g,fl)=>(Gi n C fl args).bind fun m=>if m.Ma then none else some (.call g m)
      |none=>trB n C x args)else none
    |.Attribute o name ap=>if Bb ap cp then(match args with
      |[e]=>if name="count" then(di n C o).bind fun m1=>(if plain o&& !isCall o then some ()else none).bind fun _=>(di n C e).map fun m2=>.count m1 m2
       else if name="pop" then(match o with
        |.Name x _=>(eF C x).bind fun m=>match m with
         |.var k=>(di n C e).map fun m2=>.popAt k m2
         |_=>none
        |_=>none)
       else none
      |[]=>if name="pop" then(match o with
        |.Name x _=>(eF C x).bind fun m=>match m with
         |.var k=>some (.pop0 k)
         |_=>none
        |_=>none)
       else none
      |[e,f]=>if name="get" then(di n C o).bind fun m1=>(if plain o&& !isCall o then some ()else none).bind fun _=>(di n C e).bind fun m2=>(di n C f).map fun m3=>.get2 m1 m2 m3 else none
      |_=>none)else none
    |_=>none
   |_=>none
  |.Dict ks vs _=>if ks.isEmpty&&vs.isEmpty then some .emp else if ks.length=vs.length&&decide (ks.length<=15)&& !ks.isEmpty then(Gh n C ks vs).map .dsp else none
  |.ListComp elt gens sc _=>match gens with
   |[g]=>trC n C elt g sc
   |_=>none
  |_=>none
noncomputable def Gh:Nat->Ct->List (Option Expr)->List Expr->Option E
 |0,_,_,_=>none
 |n+1,C,ks,vs=>match ks,vs with
  |[],[]=>some .nil
  |some k::ks,v::vs=>(di n C k).bind fun k=>(di n C v).bind fun v=>(Gh n C ks vs).map fun r=>.cons k (.cons v r)
  |_,_=>none
noncomputable def trC:Nat->Ct->Expr->Comprehension->Scope->Option E
 |0,_,_,_,_=>none
 |n+1,C,elt,g,sc=>if g.is_async=0 then(Vu g.target).bind fun(η,tg)=>
   if V3 C.sc sc η C.N then
    let C2:Ct:={C with N:=qD η C.N,sc:=qH sc C.sc}
    (match Fj C g.target g.iter with|some a=>(di n C a).map E.enum|none=>Zd n C g.iter).bind fun it=>(match g.ifs with
     |[]=>some (E.con (.bl true))
     |[c]=>di n C2 c
     |_=>none).bind fun cond=>(di n C2 elt).map fun m=>.comp η.length tg it cond m
   else none else none
noncomputable def Zd:Nat->Ct->Expr->Option E
 |0,_,_=>none
 |n+1,C,e=>match e with
  |.Call f args kw cp=>match f,args,kw with
   |.Name x _,[a],[]=>if x="range"&&lL C.sc x&&(fnAt C x).isNone then(di n C a).map .range1 else di n C e
   |.Name x _,[a,b],[]=>if x="zip"&&lL C.sc x&&(fnAt C x).isNone then(di n C a).bind fun a=>(di n C b).map fun b=>.zip a b else di n C e
   |_,_,_=>di n C e
  |_=>di n C e
noncomputable def trB:Nat->Ct->Str->List Expr->Option E
 |0,_,_,_=>none
 |n+1,C,x,args=>match args with
  |[a,t]=>if x="isinstance" then(match t with
    |.Name y _=>if lL C.sc y then(tyB y).bind fun t=>(di n C a).map fun a=>.isi a t else none
    |_=>none)else none
  |[a]=>match a with
   |.Call f zs kw _=>(match f,zs,kw with
    |.Name z _,[p,q],[]=>if z="zip"&&lL C.sc z&&(fnAt C z).isNone then
      (if x="dict" then(di n C p).bind fun p=>(di n C q).map fun q=>.bi .dict (.zip p q)
       else if x="list" then(di n C p).bind fun p=>(di n C q).map fun q=>.bi .list (.zip p q)else none)
     else(ZD x).bind fun b=>(di n C a).bind fun m=>if b=.dict&&m.aB.isSome then some (.bi b (.rd m))else some (.bi b m)
    |_,_,_=>(ZD x).bind fun b=>(di n C a).bind fun m=>if b=.dict&&m.aB.isSome then some (.bi b (.rd m))else some (.bi b m))
   |a=>(ZD x).bind fun b=>(di n C a).bind fun m=>if b=.dict&&m.aB.isSome then some (.bi b (.rd m))else some (.bi b m)
  |_=>none
noncomputable def Gi:Nat->Ct->List Bool->List Expr->Option E
 |0,_,_,_=>none
 |n+1,C,fl,es=>match fl,es with
  |[],[]=>some .nil
  |false::fl,e::es=>(di n C e).bind fun m=>(Gi n C fl es).map fun ms=>.cons m ms
  |true::fl,e::es=>(match e with
    |.Name x _=>(eF C x).bind fun m=>match m with
     |.var k=>some (E.ref k)
     |_=>none
    |_=>none).bind fun m=>(Gi n C fl es).map fun ms=>.cons m ms
  |_,_=>none
noncomputable def Zc:Nat->Ct->Option Expr->Option E
 |0,_,_=>none
 |n+1,C,o=>match o with
  |none=>some .noneE
  |some e=>di n C e
noncomputable def vL:Nat->Ct->List Expr->Option E
 |0,_,_=>none
 |n+1,C,es=>match es with
  |[]=>some .nil
  |e::es=>(di n C e).bind fun m=>(vL n C es).map fun ms=>.cons m ms
end
noncomputable def JW(C:Ct)(e f:Option Expr):Nat:=match e,f with
 |some (.Call (.Name x _) [.Constant (.str _) _ _] [] _),none=>if lL C.sc x&&Hd x then(match mV C.exs x with|some k=>k+1|none=>0)else 0
 |_,_=>0
def Bh(sc:Scope)(x:Str):Bool:=sc.names.lookup x==some .local||sc.names.lookup x==some .cell
noncomputable def slotsOf(C:Ct):List Expr->Option (List Nat)
 |[]=>some []
 |.Name x _::es=>if Bh C.sc x then(mV C.N x).bind fun i=>(slotsOf C es).map (i:: ·)else none
 |_=>none
noncomputable def Jo(C:Ct):Expr->Option Tg
 |.Name x _=>if Bh C.sc x then(mV C.N x).map .name else none
 |.Tuple es _ _=>(slotsOf C es).map .tup
 |_=>none
def oH:Expr->Bool
 |.ListComp .. =>true
 |_=>false
def isSlice:Expr->Bool
 |.Slice .. =>true
 |_=>false
noncomputable def trF(n:Nat)(C:Ct)(tg it:Expr):Option E:=match Fj C tg it with
 |some a=>(di n C a).map E.enum
 |none=>Zd n C it
def Lb:E->E
 |.var k=>.bi .tuple (.var k)
 |m=>m
noncomputable def trT(n:Nat)(C:Ct)(w:Bool)(e:Expr):Option E:=match e with
 |.Name x _=>if w then(eF C x).map Lb else di n C e
 |.UnaryOp o a _=>(match o,a with
  |.Not,.Name x _=>(eF C x).map fun m=>.not (Lb m)
  |_,_=>di n C e)
 |_=>di n C e
def rzB(C:Ct):Expr->Bool
 |.Name x _=>C.rz.contains x
 |_=>false
noncomputable def trX(n:Nat)(C:Ct)(f:Expr)(args:List Expr)(kw:List Keyword):Option S:=
 match f,kw with
 |.Name x _,[]=>if Hd x&&lL C.sc x then(match fnAt C x with
   |some (g,fl)=>(Gi n C fl args).bind fun m=>if m.Ma then none else some (.callx g m)
   |none=>none)else none
 |_,_=>none
mutual
noncomputable def Tw:Nat->Ct->Stmt->Option S
 |0,_,_=>none
 |n+1,C,st=>match st with
  |.Return v _=>match v with
   |none=>some (.ret ABg)
   |some e=>(di n C e).map .ret
  |.Assign ts e _=>match ts with
   |[t]=>match t with
    |.Name x _=>if Bh C.sc x then(mV C.N x).bind fun i=>(di n C e).map fun m=>mvS i m else none
    |.Tuple es _ _=>if isTup e||oH e then none else(slotsOf C es).bind fun is=>(di n C e).map fun m=>.setT is m
    |.Subscript o ix _=>match o with
     |.Name x _=>if oH e||isSlice ix then none else(eF C x).bind fun v=>match v with
      |.var k=>(di n C ix).bind fun i=>(di n C e).map fun m=>.setIx k i m
      |_=>none
     |_=>none
    |_=>none
   |_=>none
  |.Expr e _=>match e with
   |.Call f args kw cp=>match f,args,kw with
    |.Attribute o name ap,[a],[]=>match o with
     |.Name x _=>if Bb ap cp&&name="append" then(eF C x).bind fun v=>(match v with
       |.var k=>(di n C a).map fun m=>.append k m
       |_=>none)
      else if Bb ap cp&&name="extend" then(eF C x).bind fun v=>(match v with
       |.var k=>(di n C a).map fun m=>.extend k m
       |_=>none)
      else(di n C e).map .expr
     |_=>none
    |f,args,kw=>if rzB C f then trX n C f args kw else(di n C e).map .expr
   |_=>none
  |.If t a b _=>(trT n C false t).bind fun t=>(qi n C a).bind fun a=>(qi n C b).map fun b=>.ite t a b
  |.For tg it b el _=>match el with
   |[]=>(Jo C tg).bind fun tg'=>(trF n C tg it).bind fun it=>(qi n C b).map fun b=>.for_ tg' it b
   |_=>none
  |.While t b el _=>match el with
   |[]=>(trT n C true t).bind fun t=>(qi n C b).map fun b=>.while_ t b
   |_=>none
  |.Raise e f _=>some (.raise (JW C e f))
  |.AugAssign t op e _=>match t,op with
   |.Name x _,.Add=>if Bh C.sc x then(mV C.N x).bind fun i=>(di n C e).map fun m=>.aug i m else none
   |_,_=>none
  |_=>none
noncomputable def qi:Nat->Ct->List Stmt->Option S
 |0,_,_=>none
 |n+1,C,ss=>match ss with
  |[]=>some .nil
  |s::ss=>(Tw n C s).bind fun m=>(qi n C ss).map fun ms=>.cons m ms
end
end Mini
end
section
namespace Mini
open PySem L2
noncomputable def m8:List Str:=["isinstance","tuple","list","str","bool","int","dict","len","all","any","sorted","zip","range","enumerate"]
def YS(X:Cx)(c:Cf)(g:Nat)(x:Str):Prop:=∃k f fd ps,o6 X.prog X.w X.K X.mg X.base Ox k f fd ps (vR X.K ps.length (c.fn g))/\ju k X.A/\X.mg x=some (.ref f)/\PySem.W.keepIn X.K (.ref f)=true/\Binds X.K fd ps []/\∀sl,c.fn g sl=.bad\/sl.length=ps.length
structure ig(C:Ct)(X:Cx)(c:Cf):Prop where
 N:X.N=C.N
 sc:X.env.scope=C.sc
 nd:C.N.Nodup
 calm:X.calm=true
 hu:X.A.units+60<cLine
 bi:∀x∈m8,X.mg x=none
 gl:∀k x,C.nD[k]? =some x->∃d,c.gl k=some d/\acN X x d
 fn:∀g x fl,C.fns[g]? =some (x,fl)->YS X c g x
structure Sd(X:Cx)(c:Cf)(m:E)(e:Expr):Prop where
 ge:GE X W0 c m e
 gt:GT X W0 c m e
 pl:plain e=true
 va:∀k,m.aB=some k->∃x p,e=.Name x p/\gr X k x
 nn:m.jL=false
theorem gG:∀{N:List Str}{x:Str}{k:Nat},mV N x=some k->N[k]? =some x
 |[],_,_,h=>by cases h
 |y::r,x,k,h=>by
  unfold mV at h
  split at h
  ·rename_i e;cases h;subst e;rfl
  ·cases q:mV r x with
   |none=>rw[q]at h;cases h
   |some j=>rw[q]at h;cases h;simpa using gG q
def Vj{x:Str}(h:Vk sc x=true):YF sc x:=by
 unfold Vk at h
 unfold YF
 cases q:sc.names.lookup x with
 |none=>rw[q]at h;cases h
 |some k=>rw[q]at h;cases k<;>simp at h<;>simp
def DQ(h:Hd x=true):(x==("__debug__":Str))=false/\(x==("__classdict__":Str))=false:=by
 unfold Hd at h
 rw[QUq]at h
 exact⟨by simpa using h.1,by simpa using h.2⟩
section
def lB(O:ig C X c)(h:lL C.sc x=true):Gl X x:=by
 unfold lL at h
 show X.env.scope.names.lookup x=_
 rw[O.sc]
 simpa using h
def bj(h:plain e=true)es env:starEach (e::es) env=(false,eval e env)::starEach es env:=by
 cases e<;>first|rfl|exact absurd (h) Qjz
def qW(h:plain e=true)o:behindInMarks o e=false:=by
 cases e<;>first|rfl|exact absurd (h) Qjz
def wQ(h:plain e=true)env x:foldedSetIterable e env x=pure x:=by
 cases e<;>first|rfl|exact absurd (h) Qjz
def Ax(h:plain e=true):xG e:=by
 intro o i
 cases e<;>first|rfl|exact absurd (h) Qjz
def tame:Expr->Bool
 |.UnaryOp .Not .. |.BoolOp .. |.IfExp .. |.Compare .. =>false
 |_=>true
def Mj(h:GE X W0 c m e)(hp:plain e=true)(ht:tame e=true):GT X W0 c m e:=by
 refine h.t fun whole=>?_
 cases e with
 |UnaryOp o a q=>cases o<;>first|rfl|exact absurd (ht) Qjz
 |_=>first|rfl|exact absurd (hp) Qjz|exact absurd (ht) Qjz
def vX(O:ig C X c)(h:eF C x=some m):Sd X c m (.Name x p):=by
 unfold eF at h
 split at h
 ·rename_i nb
  obtain⟨n1,n2⟩:=DQ nb
  cases q:mV C.N x with
  |some k=>
   rw[q]at h
   simp only at h
   split at h
   ·rename_i hv
    cases h
    have nm:gr X k x:=⟨by rw[O.N];exact gG q,by rw[O.sc];exact Vj hv,n1,n2⟩
    exact⟨nm.ge,Mj nm.ge rfl rfl,rfl,fun k' e=>by cases e;exact⟨x,p,rfl,nm⟩,rfl⟩
   ·cases h
  |none=>
   rw[q]at h
   simp only at h
   split at h
   ·rename_i hg
    cases q2:mV C.nD x with
    |none=>rw[q2]at h;cases h
    |some k=>
     rw[q2]at h
     cases h
     obtain⟨d,hk,ok⟩:=O.gl k x (gG q2)
     have ge:GE X W0 c _ (.Name x p):=RK hk ok (lB O hg) n1
     exact⟨ge,Mj ge rfl rfl,rfl,fun k' e=>(by cases e),rfl⟩
   ·cases h
 ·cases h
def qQ(O:ig C X c)(h:eF C x=some (.var k)):gr X k x:=by
 obtain⟨y,q,e,nm⟩:=(vX (p:=default) O h).va k rfl
 cases e
 exact nm
inductive Al(X:Cx)(c:Cf):E->List Expr->Prop
 |nil:Al X c .nil []
 |cons {m ms:E} {e:Expr} {es:List Expr}:Sd X c m e->Al X c ms es->Al X c (.cons m ms) (e::es)
theorem Al.ga:∀{ms:E}{es:List Expr},Al X c ms es->GA X W0 c ms es
 |_,_,.nil=>My
 |_,_,.cons h t=>EY h.ge t.ga (bj h.pl _ _)
theorem Al.and{es:List Expr}:∀{m ms:E}{e:Expr},Al X c (.cons m ms) (e::es)->GE X W0 c (.and (.cons m ms)) (.BoolOp .And (e::es) pos)/\GW X W0 c (.and (.cons m ms)) (.BoolOp .And (e::es) pos):=by
 induction es with
 |nil=>intro m ms e h;cases h with|cons h t=>cases t;exact⟨RQ h.ge,Ry h.gt⟩
 |cons e2 es ih=>intro m ms e h;cases h with|cons h t=>cases t with|cons h2 t=>exact⟨Ym h.ge (ih (.cons h2 t)).1,XH h.gt (ih (.cons h2 t)).2⟩
theorem Al.or{es:List Expr}:∀{m ms:E}{e:Expr},Al X c (.cons m ms) (e::es)->GE X W0 c (.or (.cons m ms)) (.BoolOp .Or (e::es) pos)/\GW X W0 c (.or (.cons m ms)) (.BoolOp .Or (e::es) pos):=by
 induction es with
 |nil=>intro m ms e h;cases h with|cons h t=>cases t;exact⟨X8 h.ge,XC h.gt⟩
 |cons e2 es ih=>intro m ms e h;cases h with|cons h t=>cases t with|cons h2 t=>exact⟨acd h.ge (ih (.cons h2 t)).1,ab6 h.gt (ih (.cons h2 t)).2⟩
def WX{q:YH}(h:opB o=some q):o=abw q:=by
 cases o<;>first|(cases (h);rfl)|cases (h)
def Ci{q:Cm}(h:cmB o=some q):o=eE q:=by
 cases o<;>first|(cases (h);rfl)|cases (h)
def Nb{d:D}(h:Nf k=some d):DP d k=true:=by
 cases k<;>simp[Nf]at h<;>subst h<;>simp[DP]
def Vt(h:tyB x=some t):x=Str.ofString (tyN t)/\x∈m8:=by
 unfold tyB at h
 split at h
 ·rename_i e;cases h;subst e;exact⟨rfl,by decide⟩
 split at h
 ·rename_i e;cases h;subst e;exact⟨rfl,by decide⟩
 split at h
 ·rename_i e;cases h;subst e;exact⟨rfl,by decide⟩
 split at h
 ·rename_i e;cases h;subst e;exact⟨rfl,by decide⟩
 split at h
 ·rename_i e;cases h;subst e;exact⟨rfl,by decide⟩
 cases h
def Uz(O:ig C X c){bb:Bi}(h:ZD x=some bb)(hg:lL C.sc x=true)(ha:Sd X c m a)(hd:bb=.dict->m.aB=none):GE X W0 c (.bi bb m) (.Call (.Name x p) [a] [] pos):=by
 have hs:=bj ha.pl [] X.env
 have hG:=lB O hg
 unfold ZD at h
 split at h
 ·rename_i e;cases h;subst e;exact wO Ib Qh ha.ge ha.va hG (O.bi _ (by decide)) PySem.boot_len (by decide) (by decide) hs
 split at h
 ·rename_i e;cases h;subst e;exact By Ie Qi ha.ge ha.va hG (O.bi _ (by decide)) PyProof.Rows.boot_int (by decide) (by decide) hs
 split at h
 ·rename_i e;cases h;subst e;exact By ug Gx ha.ge ha.va hG (O.bi _ (by decide)) PyProof.Rows.boot_tuple (by decide) (by decide) hs
 split at h
 ·rename_i e;cases h;subst e;exact By (Cu O.calm) JP ha.ge ha.va hG (O.bi _ (by decide)) PyProof.Rows.boot_list (by decide) (by decide) hs
 split at h
 ·rename_i e;cases h;subst e;exact wO (Ii O.calm) Qk ha.ge ha.va hG (O.bi _ (by decide)) PyProof.Rows.boot_all (by decide) (by decide) hs
 split at h
 ·rename_i e;cases h;subst e;exact wO (Ig O.calm) Qj ha.ge ha.va hG (O.bi _ (by decide)) PyProof.Rows.boot_any (by decide) (by decide) hs
 split at h
 ·rename_i e;cases h;subst e;exact wO xm Ae ha.ge ha.va hG (O.bi _ (by decide)) PyProof.Rows.boot_sorted (by decide) (by decide) hs
 split at h
 ·rename_i e;cases h;subst e;exact RM O.calm O.hu ha.ge (hd rfl) hG (O.bi _ (by decide)) hs
 cases h
end
def Ag{env:Env}(h:env.scope=outer):relabel sc env=qH sc outer:=by
 subst h
 rfl
def JK{η N:List Str}(h:V3 outer inner η N=true):(qD η N).Nodup:=by
 unfold V3 at h
 simp only[QUq,QUz]at h
 exact h.1.1.1.1.1.1.2
def JH{η N:List Str}(h:V3 outer inner η N=true):Ik outer inner η N:=by
 unfold V3 at h
 simp only[QUq,QUz,List.all_eq_true,Bool.or_eq_true,bne_iff_ne,beq_iff_eq,Bool.not_eq_true',ne_eq]at h
 obtain⟨⟨⟨⟨⟨⟨⟨h1,h2⟩,h3⟩,h4⟩,h5⟩,h6⟩,h7⟩,h8⟩:=h
 refine⟨h1,h2,fun x hx=>?_,fun p hp hl=>?_,h4,h5,fun p hp hf=>?_,fun x hx ht=>?_,fun hx=>?_⟩
 ·rcases h3 _ (PySem.mem_of_lookup hx)with z|z
  ·exact absurd rfl z
  ·rcases z.1 with z|z
   ·exact .inl (by simpa using z)
   ·exact .inr z
 ·rcases h3 p hp with z|z
  ·exact absurd hl z
  ·exact z.2
 ·rcases h6 p hp with (z|z)|z
  ·exact absurd hf z
  ·exact .inl z
  ·exact .inr z
 ·rcases h7 x hx with z|z
  ·rw[ht]at z;cases z
  ·simpa using z
 ·have:N.contains (".0")=true:=by simpa using hx
  rw[this]at h8;cases h8
section
variable{sc:Scope}
theorem ig.blk(O:ig C X c)(hs:V3 C.sc sc η C.N=true){fp:List Addr}{H₀:Hp}:ig {C with N:=qD η C.N,sc:=qH sc C.sc} (Mini.blk X sc cl (bT η X.N) fp s₀ H₀) c:=
 ⟨by show bT η X.N=qD η C.N;rw[O.N];rfl,Ag O.sc,JK hs,O.calm,O.hu,O.bi,O.gl,O.fn⟩
theorem qO{sc:Scope}{N:List Str}:∀{es:List Expr}{xs:List Str}(k:Nat),es.mapM tY=some xs->(∀j x,xs[j]? =some x->N[k+j]? =some x)->(∀x∈xs,sc.names.lookup x=some .local)->gF sc N (List.range' k xs.length) es=true
 |[],xs,k,h,_,_=>by
  simp at h;subst h;rfl
 |e::es,xs,k,h,hN,hl=>by
  rw[List.mapM_cons]at h
  cases q:tY e with
  |none=>rw[q]at h;cases h
  |some x=>
   rw[q]at h
   cases q2:es.mapM tY with
   |none=>rw[q2]at h;cases h
   |some ys=>
    rw[q2]at h
    cases h
    cases e<;>simp[tY]at q
    subst q
    rw[QBq,List.range'_succ]
    unfold gF
    rw[qO _ q2 (fun j y e=>by have:=hN (j+1) y (by simpa using e);rw[<-this];congr 1;omega) (fun y hy=>hl y (QYq _ hy))]
    have:=hN 0 _ rfl
    simp at this
    simp[this,hl _ QYz]
theorem qT:∀{es:List Expr}{xs:List Str},es.mapM tY=some xs->(assignEach es env).length=xs.length/\(assignEach es env).findIdx? (·.1)=none
 |[],xs,h=>by simp at h;subst h;exact⟨rfl,rfl⟩
 |e::es,xs,h=>by
  rw[List.mapM_cons]at h
  cases q:tY e with
  |none=>rw[q]at h;cases h
  |some x=>
   rw[q]at h
   cases q2:es.mapM tY with
   |none=>rw[q2]at h;cases h
   |some ys=>
    rw[q2]at h
    cases h
    obtain⟨i1,i2⟩:=qT (env:=env) q2
    cases e<;>simp[tY]at q
    constructor
    ·show(_::assignEach es env).length=_
     simp[i1]
    ·show(List.findIdx? (·.1) ((false,_)::assignEach es env))=none
     rw[List.findIdx?_cons]
     simp[i2]
def aao(O:ig C X c){Ξ:Expr}(ht:Vu Ξ=some (η,tg))(hs:V3 C.sc sc η C.N=true):(∀i∈slots tg,i<η.length)/\∀(cl:List (Str×Addr))(fp:List Addr)(s₀:Shared)(H₀:Hp),GG (Mini.blk X sc cl (bT η X.N) fp s₀ H₀) tg Ξ:=by
 have lc:∀x∈η,∀cl fp s₀ H₀,(Mini.blk X sc cl (bT η X.N) fp s₀ H₀).env.scope.names.lookup x=some .local:=fun x hx cl fp s₀ H₀=>lookup_relabel_local ((JH hs).tg x hx)
 have nd:∀cl fp s₀ H₀,(Mini.blk X sc cl (bT η X.N) fp s₀ H₀).N.Nodup:=fun cl fp s₀ H₀=>by
  rw[O.N]
  exact JK hs
 cases Ξ<;>simp only[Vu]at ht<;>try (cases ht;done)
 ·rename_i x q
  cases ht
  refine⟨fun i hi=>?_,fun cl fp s₀ H₀=>wN (nd cl fp s₀ H₀) rfl (.inl (lc x (by simp) cl fp s₀ H₀)) (.inr (lc x (by simp) cl fp s₀ H₀))⟩
  simp[slots]at hi
  subst hi
  simp
 ·rename_i es k q
  cases qm:es.mapM tY with
  |none=>rw[qm]at ht;cases ht
  |some xs=>
   rw[qm]at ht
   cases ht
   refine⟨fun i hi=>by simpa[slots]using hi,fun cl fp s₀ H₀=>?_⟩
   obtain⟨l1,l2⟩:=qT qm
   refine Bv (nd cl fp s₀ H₀) O.calm (KZ ?_) (by simp[l1]) l2
   have:=qO (N:=(Mini.blk X sc cl (bT η X.N) fp s₀ H₀).N) 0 qm (fun j x e=>?_) (fun x hx=>lc x hx cl fp s₀ H₀)
   ·rwa[List.range_eq_range']
   ·show(bT η X.N)[0+j]? =some x
    unfold bT
    rw[Nat.zero_add,Qwz (QCz.mp e).1]
    exact e
end
inductive Ar(X:Cx)(c:Cf):E->List Expr->Prop
 |nil:Ar X c .nil []
 |cons {m ms:E} {e:Expr} {es:List Expr}:GE X W0 c m e->plain e=true->Ar X c ms es->Ar X c (.cons m ms) (e::es)
theorem Ar.ga{c:Cf}:∀{ms:E}{es:List Expr},Ar X c ms es->GA X W0 c ms es
 |_,_,.nil=>My
 |_,_,.cons h p t=>EY h t.ga (bj p _ _)
theorem Ar.plain{c:Cf}:∀{ms:E}{es:List Expr},Ar X c ms es->(backTo pos (starEach es X.env)).any (·.1)=false
 |_,_,.nil=>rfl
 |_,_,.cons h p t=>by
  rw[bj p]
  have:=t.plain (pos:=pos)
  simpa[backTo]using this
def CQ(X:Cx)(c:Cf)(m:E)(elt:Expr)(g:Comprehension)(sc:Scope):Prop:=
 ∃η tg it cond m',m=.comp η.length tg it cond m'/\zR X c sc η tg cond m' g.target elt g.ifs/\GI X W0 c it g.target g.iter/\plain g.iter=true/\g.is_async=0
structure Ih(c:Cf)(n:Nat):Prop where
 e:∀C X e m,ig C X c->di n C e=some m->Sd X c m e
 es:∀C X es m,ig C X c->vL n C es=some m->Al X c m es
 a:∀C X fl es m,ig C X c->Gi n C fl es=some m->Ar X c m es
 o:∀C X o m,ig C X c->Zc n C o=some m->GO X W0 c m o
 b:∀C X x args m p pos,ig C X c->lL C.sc x=true->trB n C x args=some m->GE X W0 c m (.Call (.Name x p) args [] pos)/\m.aB=none/\m.jL=false
 i:∀C X tg e m,ig C X c->Zd n C e=some m->GI X W0 c m tg e/\plain e=true
 k:∀C X elt g sc m,ig C X c->trC n C elt g sc=some m->CQ X c m elt g sc
 d:∀C X ks vs m,ig C X c->Gh n C ks vs=some m->∃nC,Kv X W0 c m ks vs nC/\ks.all (·.isSome)=true
def ih0 c:Ih c 0:=by
 constructor
 all_goals (intros;rename_i h;first|(rw[di]at h;cases h)|(rw[vL]at h;cases h)|(rw[Gi]at h;cases h)|(rw[Zc]at h;cases h)|(rw[trB]at h;cases h)|(rw[Zd]at h;cases h)|(rw[trC]at h;cases h)|(rw[Gh]at h;cases h))
section
def PB(I:Ih c n)(O:ig C X c)(h:vL (n+1) C es=some m):Al X c m es:=by
 cases es with
 |nil=>rw[vL]at h;cases h;exact .nil
 |cons e es=>
  rw[vL]at h
  simp only[QJq,QJz]at h
  obtain⟨m1,h1,m2,h2,rfl⟩:=h
  exact .cons (I.e C X e m1 O h1) (I.es C X es m2 O h2)
def VJ(I:Ih c n)(O:ig C X c){vs:List Expr}(h:Gh (n+1) C ks vs=some m):∃nC,Kv X W0 c m ks vs nC/\ks.all (·.isSome)=true:=by
 unfold Gh at h
 split at h
 ·cases h;exact⟨[],.nil,rfl⟩
 ·simp only[QJq,QJz]at h
  obtain⟨k1,h1,v1,h2,r,h3,rfl⟩:=h
  obtain⟨nC,K,a⟩:=I.d C X _ _ r O h3
  exact⟨_,.cons (I.e C X _ k1 O h1).ge (I.e C X _ v1 O h2).ge K,by simpa using a⟩
 ·cases h
def VB(I:Ih c n)(O:ig C X c)(h:Zc (n+1) C o=some m):GO X W0 c m o:=by
 cases o with
 |none=>rw[Zc]at h;cases h;exact .inl ⟨rfl,rfl⟩
 |some e=>
  have s:=I.e C X e m O h
  exact .inr ⟨e,rfl,s.nn,s.ge⟩
def VM(I:Ih c n)(O:ig C X c){es:List Expr}(h:Gi (n+1) C fl es=some m):Ar X c m es:=by
 cases fl with
 |nil=>
  cases es with
  |nil=>rw[Gi]at h;cases h;exact .nil
  |cons e es=>rw[Gi]at h<;>first|cases h|(intros;simp_all)
 |cons f fl=>
  cases es with
  |nil=>rw[Gi]at h<;>first|cases h|(intros;simp_all)
  |cons e es=>
   cases f with
   |false=>
    rw[Gi]at h
    simp only[QJq,QJz]at h
    obtain⟨m1,h1,m2,h2,rfl⟩:=h
    have s:=I.e C X e m1 O h1
    exact .cons s.ge s.pl (I.a C X fl es m2 O h2)
   |true=>
    by_cases hN:∃x p,e=.Name x p
    ·obtain⟨x,p,rfl⟩:=hN
     rw[Gi]at h
     simp only[QJq,QJz]at h
     obtain⟨m1,⟨m3,h3,h4⟩,m2,h2,rfl⟩:=h
     split at h4
     ·cases h4
      exact .cons (X7 (qQ O h3)) rfl (I.a C X fl es m2 O h2)
     ·cases h4
    ·rw[Gi]at h
     ·simp only[QJq,QJz]at h
      obtain⟨m1,h3,_⟩:=h
      cases h3
     ·exact fun x p z=>hN ⟨x,p,z⟩
def V8{x:Str}(O:ig C X c)(h:(decide (x="range")&&lL C.sc x&&(fnAt C x).isNone)=true):x="range"/\Gl X "range":=by
 simp only[QUq,QUz]at h
 obtain⟨⟨rfl,h2⟩,_⟩:=h
 exact⟨rfl,lB O h2⟩
def Z1{x:Str}(O:ig C X c)(h:(decide (x="zip")&&lL C.sc x&&(fnAt C x).isNone)=true):x="zip"/\Gl X "zip":=by
 simp only[QUq,QUz]at h
 obtain⟨⟨rfl,h2⟩,_⟩:=h
 exact⟨rfl,lB O h2⟩
def VF(I:Ih c n)(O:ig C X c)(h:Zd (n+1) C e=some m):GI X W0 c m tg e/\plain e=true:=by
 have dflt:di n C e=some m->GI X W0 c m tg e/\plain e=true:=fun h=>let s:=I.e C X e m O h;⟨aca s.ge,s.pl⟩
 unfold Zd at h
 split at h
 ·split at h
  ·split at h
   ·rename_i hr
    obtain⟨rfl,hg⟩:=V8 O hr
    simp only[QJz]at h
    obtain⟨m1,h1,rfl⟩:=h
    have s:=I.e C X _ m1 O h1
    exact⟨HS s.ge hg (O.bi _ (by decide)) (bj s.pl _ _),rfl⟩
   ·exact dflt h
  ·split at h
   ·rename_i hr
    obtain⟨rfl,hg⟩:=Z1 O hr
    simp only[QJq,QJz]at h
    obtain⟨m1,h1,m2,h2,rfl⟩:=h
    have s1:=I.e C X _ m1 O h1
    have s2:=I.e C X _ m2 O h2
    exact⟨XX s1.ge s2.ge hg (O.bi _ (by decide)) (by rw[bj s1.pl,bj s2.pl];rfl) (bj s2.pl _ _),rfl⟩
   ·exact dflt h
  ·exact dflt h
 ·exact dflt h
def acj{x:Str}(O:ig C X c)(h:(decide (x="enumerate")&&lL C.sc x&&(fnAt C x).isNone)=true):x="enumerate"/\Gl X "enumerate":=by
 simp only[QUq,QUz]at h
 obtain⟨⟨rfl,h2⟩,_⟩:=h
 exact⟨rfl,lB O h2⟩
def Fg(J:Ih c n)(O:ig C X c){tg e a:Expr}{m1:E}(e1:Fj C tg e=some a)(h1:di n C a=some m1):GI X W0 c (.enum m1) tg e/\plain e=true:=by
 unfold Fj at e1
 split at e1
 ·rename_i ht
  split at e1
  ·split at e1
   ·split at e1
    ·rename_i hx
     obtain⟨rfl,hg⟩:=acj O hx
     cases e1
     have s1:=J.e C X _ m1 O h1
     cases tg with
     |Tuple elts x1 tp=>exact⟨RG s1.ge hg (O.bi _ (by decide)) (bj s1.pl _ _),rfl⟩
     |_=>cases ht
    ·cases e1
   ·cases e1
  ·cases e1
 ·cases e1
def VD(I:Ih c n)(O:ig C X c){elt:Expr}{g:Comprehension}{sc:Scope}(h:trC (n+1) C elt g sc=some m):CQ X c m elt g sc:=by
 rw[trC]at h
 split at h
 ·rename_i ha
  simp only[QJq]at h
  obtain⟨⟨η,tg⟩,ht,h⟩:=h
  simp only at h
  split at h
  ·rename_i hs
   simp only[QJq,QJz]at h
   obtain⟨it,h1,cond,h2,m',h3,rfl⟩:=h
   obtain⟨sm,gg⟩:=aao O ht hs
   have S:=JH hs
   obtain⟨gi,gp⟩:GI X W0 c it g.target g.iter/\plain g.iter=true:=by
    split at h1
    ·rename_i a e1
     simp only[QJz]at h1
     obtain⟨m1,h1,rfl⟩:=h1
     exact Fg I O e1 h1
    ·exact I.i C X g.target g.iter it O h1
   refine⟨η,tg,it,cond,m',rfl,⟨by rw[O.sc,O.N];exact S,sm,fun cl fp s₀ H₀ _=>gg cl fp s₀ H₀,?_,fun cl fp s₀ H₀ _=>(I.e _ _ elt m' (O.blk hs) h3).ge⟩,gi,gp,ha⟩
   split at h2
   ·rename_i hi
    cases h2
    exact .inl ⟨hi,rfl⟩
   ·rename_i ce hi
    exact .inr ⟨ce,hi,fun cl fp s₀ H₀ _=>(I.e _ _ ce cond (O.blk hs) h2).gt⟩
   ·cases h2
  ·cases h
 ·cases h
end
section
theorem KH(I:Ih c n)(O:ig C X c){a:Expr}(hg:lL C.sc x=true)(h:((ZD x).bind fun b=>(di n C a).bind fun m=>if (decide (b=.dict)&&m.aB.isSome)=true then some (E.bi b (.rd m))else some (E.bi b m))=some m):
  GE X W0 c m (.Call (.Name x p) [a] [] pos)/\m.aB=none/\m.jL=false:=by
 simp only[QJq]at h
 obtain⟨bb,h1,m1,h2,h3⟩:=h
 split at h3
 ·cases h3
  have s:=I.e C X a m1 O h2
  exact⟨Uz O h1 hg ⟨(fun env=>PE.imp (s.ge env) fun σ H Q q=>by simpa only[Pn]using q),fun γ sh σ H Q I⟨env,q⟩=>s.gt γ sh σ H Q I ⟨env,by simpa only[Pn]using q⟩,s.pl,fun k z=>(by cases z),rfl⟩ fun _=>rfl,rfl,rfl⟩
 ·rename_i hn
  cases h3
  refine⟨Uz O h1 hg (I.e C X a m1 O h2) (fun z=>?_),rfl,rfl⟩
  subst z
  cases q:m1.aB with
  |none=>rfl
  |some k=>rw[q]at hn;exact absurd rfl hn
def VL(I:Ih c n)(O:ig C X c){x:Str}{args:List Expr}{p pos:Pos}(hg:lL C.sc x=true)(h:trB (n+1) C x args=some m):GE X W0 c m (.Call (.Name x p) args [] pos)/\m.aB=none/\m.jL=false:=by
 unfold trB at h
 split at h
 ·--isinstance
  split at h
  ·rename_i hx
   subst hx
   split at h
   ·split at h
    ·rename_i hy
     simp only[QJq,QJz]at h
     obtain⟨t,h1,m1,h2,rfl⟩:=h
     have s:=I.e C X _ m1 O h2
     obtain⟨e1,e2⟩:=Vt h1
     exact⟨Yg s.ge e1 (lB O hy) (O.bi _ e2) (lB O hg) (O.bi _ (by decide)) (bj s.pl _ _),rfl,rfl⟩
    ·cases h
   ·cases h
  ·cases h
 ·split at h
  ·split at h
   ·split at h
    ·rename_i hz
     obtain⟨rfl,hgz⟩:=Z1 O hz
     split at h
     ·rename_i hx
      subst hx
      simp only[QJq,QJz]at h
      obtain⟨m1,h1,m2,h2,rfl⟩:=h
      have s1:=I.e C X _ m1 O h1
      have s2:=I.e C X _ m2 O h2
      exact⟨Bx O.calm O.hu s1.ge s2.ge hgz (O.bi _ (by decide)) (by rw[bj s1.pl,bj s2.pl];rfl) (bj s2.pl _ _) (lB O hg) (O.bi _ (by decide)) rfl,rfl,rfl⟩
     ·split at h
      ·rename_i hx
       subst hx
       simp only[QJq,QJz]at h
       obtain⟨m1,h1,m2,h2,rfl⟩:=h
       have s1:=I.e C X _ m1 O h1
       have s2:=I.e C X _ m2 O h2
       exact⟨Bw O.calm s1.ge s2.ge hgz (O.bi _ (by decide)) (by rw[bj s1.pl,bj s2.pl];rfl) (bj s2.pl _ _) (lB O hg) (O.bi _ (by decide)) rfl,rfl,rfl⟩
      ·cases h
    ·exact KH I O hg h
   ·exact KH I O hg h
  ·exact KH I O hg h
 ·cases h
def fB(ge:GE X W0 c m e)(hp:plain e=true)(hv:m.aB=none)(hi:m.jL=false)(ht:tame e=true):Sd X c m e:=
 ⟨ge,Mj ge hp ht,hp,fun k z=>(by rw[hv]at z;cases z),hi⟩
def hu1(O:ig C X c):X.A.units+1<cLine:=by have:=O.hu;omega
def RW{g:Nat}(h:fnAt C x=some (g,fl)):C.fns[g]? =some (x,fl):=by
 unfold fnAt at h
 simp only[QJq,QJz]at h
 obtain⟨g',h1,⟨y,fl'⟩,h2,h3⟩:=h
 cases h3
 have:=gG h1
 rw[QFz,h2]at this
 simp at this
 rw[h2,this]
def m9{name:Str}(h:isCall o=false):attributeBase o name env (eval o env)=eval o env:=by
 cases o<;>first|rfl|simp[isCall]at h
def VH(I:Ih c n)(O:ig C X c){e:Expr}(h:di (n+1) C e=some m):Sd X c m e:=by
 have no:∀{P:Prop},(none:Option E)=some m->P:=fun z=>nomatch z
 unfold di at h
 split at h
 ·simp only[QJz]at h
  obtain⟨d,h1,rfl⟩:=h
  exact fB (Yk (Nb h1)) rfl rfl rfl rfl
 ·exact vX O h
 ·simp only[QJz]at h
  obtain⟨m1,h1,rfl⟩:=h
  exact fB (X5 (I.es C X _ m1 O h1).ga) rfl rfl rfl rfl
 ·simp only[QJz]at h
  obtain⟨m1,h1,rfl⟩:=h
  exact fB (Yd (I.es C X _ m1 O h1).ga) rfl rfl rfl rfl
 ·simp only[QJq,QJz]at h
  obtain⟨o,h0,m1,h1,m2,h2,rfl⟩:=h
  rw[WX h0]
  exact fB (ace (I.e C X _ m1 O h1).ge (I.e C X _ m2 O h2).ge) rfl rfl rfl rfl
 ·split at h
  ·simp only[QJz]at h
   obtain⟨m1,h1,rfl⟩:=h
   exact fB (Yc (I.e C X _ m1 O h1).ge) rfl rfl rfl rfl
  ·simp only[QJz]at h
   obtain⟨m1,h1,rfl⟩:=h
   have s:=I.e C X _ m1 O h1
   exact⟨Yb s.ge,Ml s.gt,rfl,fun k z=>(by cases z),rfl⟩
  ·exact no h
 ·simp only[QJq]at h
  obtain⟨m1,h1,h2⟩:=h
  have A:=I.es C X _ m1 O h1
  split at h2
  ·exact no h2
  ·rename_i hn
   cases A with
   |nil=>exact absurd rfl hn
   |cons s t=>
    split at h2
    ·cases h2
     exact⟨(Al.cons s t).and.1,(Al.cons s t).and.2.t,rfl,fun k z=>(by cases z),rfl⟩
    ·cases h2
     exact⟨(Al.cons s t).or.1,(Al.cons s t).or.2.t,rfl,fun k z=>(by cases z),rfl⟩
 ·split at h
  ·simp only[QJq,QJz]at h
   obtain⟨o,h0,m1,h1,m2,h2,rfl⟩:=h
   rw[Ci h0]
   have s1:=I.e C X _ m1 O h1
   have s2:=I.e C X _ m2 O h2
   exact⟨Yl (nP O.hu o) s1.ge s2.ge s2.va (qW s2.pl _),XF (nP O.hu o) s1.ge s2.ge s2.va (qW s2.pl _),rfl,fun k z=>(by cases z),rfl⟩
  ·simp only[QJq,QJz]at h
   obtain⟨o,h0,o2,h02,m1,h1,m2,h2,m3,h3,rfl⟩:=h
   rw[Ci h0,Ci h02]
   have s1:=I.e C X _ m1 O h1
   have s2:=I.e C X _ m2 O h2
   have s3:=I.e C X _ m3 O h3
   have hm:∀b,lastMarks [eE o,eE o2] [b,_]=false:=fun b=>qW s3.pl (eE o2)
   exact⟨Mx (nP O.hu o) (nP O.hu o2) s1.ge s2.ge s3.ge (hm _),Mm (nP O.hu o) (nP O.hu o2) s1.ge s2.ge s3.ge (hm _),rfl,fun k z=>(by cases z),rfl⟩
  ·exact no h
 ·simp only[QJq,QJz]at h
  obtain⟨m1,h1,m2,h2,m3,h3,rfl⟩:=h
  have s1:=I.e C X _ m1 O h1
  have s2:=I.e C X _ m2 O h2
  have s3:=I.e C X _ m3 O h3
  exact⟨Ye s1.gt s2.ge s3.ge,XD s1.gt s2.gt s3.gt,rfl,fun k z=>(by cases z),rfl⟩
 ·split at h
  ·split at h
   ·simp only[QJq,QJz]at h
    obtain⟨m1,h1,m2,h2,m3,h3,rfl⟩:=h
    exact fB (X6 (I.e C X _ m1 O h1).ge (I.o C X _ m2 O h2) (I.o C X _ m3 O h3)) rfl rfl rfl rfl
   ·exact no h
  ·simp only[QJq,QJz]at h
   obtain⟨m1,h1,m2,h2,rfl⟩:=h
   have s1:=I.e C X _ m1 O h1
   have s2:=I.e C X _ m2 O h2
   exact fB (Yh (by have:=O.hu;omega) s1.ge s2.ge s1.va (Ax s2.pl)) rfl rfl rfl rfl
 ·split at h
  ·split at h
   ·split at h
    ·rename_i hx
     rw[QUq]at hx
     split at h
     ·rename_i g fl hf
      simp only[QJq]at h
      obtain⟨m1,h1,h2⟩:=h
      split at h2
      ·exact no h2
      ·rename_i hn
       cases h2
       have A:=I.a C X _ _ m1 O h1
       obtain⟨k,f,fd,ps,F,hr,hm,hk,hb,hl⟩:=O.fn g _ fl (RW hf)
       cases A with
       |nil=>exact absurd rfl hn
       |cons ge pl t=>
        exact fB (RP F hr (lB O hx.2) hm hk hb (DQ hx.1).1 (Ar.cons ge pl t).ga (bj pl _ _) t.plain hl) rfl rfl rfl rfl
     ·obtain⟨ge,h1,h2⟩:=I.b C X _ _ m _ _ O hx.2 h
      exact fB ge rfl h1 h2 rfl
    ·exact no h
   ·split at h
    ·rename_i hl
     split at h
     ·split at h
      ·rename_i hx
       subst hx
       simp only[QJq,QJz]at h
       obtain⟨m1,h1,u,h0,m2,h2,rfl⟩:=h
       split at h0
       ·rename_i hp
        rw[QUq]at hp
        have s1:=I.e C X _ m1 O h1
        have s2:=I.e C X _ m2 O h2
        exact fB (Mw ⟨m9 (by simpa using hp.2),hl,bj s2.pl _ _⟩ s1.ge s2.ge) rfl rfl rfl rfl
       ·cases h0
      ·split at h
       ·rename_i hx
        subst hx
        split at h
        ·simp only[QJq]at h
         obtain⟨v,h1,h2⟩:=h
         split at h2
         ·simp only[QJz]at h2
          obtain⟨m2,h3,rfl⟩:=h2
          have s2:=I.e C X _ m2 O h3
          exact fB (Mv ⟨rfl,hl,bj s2.pl _ _⟩ (qQ O h1) s2.ge) rfl rfl rfl rfl
         ·exact no h2
        ·exact no h
       ·exact no h
     ·split at h
      ·rename_i hx
       subst hx
       split at h
       ·simp only[QJq]at h
        obtain⟨v,h1,h2⟩:=h
        split at h2
        ·cases h2
         exact fB (RJ hl (qQ O h1)) rfl rfl rfl rfl
        ·exact no h2
       ·exact no h
      ·exact no h
     ·split at h
      ·rename_i hx
       subst hx
       simp only[QJq,QJz]at h
       obtain⟨m1,h1,u,h0,m2,h2,m3,h3,rfl⟩:=h
       split at h0
       ·rename_i hp
        rw[QUq]at hp
        have s1:=I.e C X _ m1 O h1
        have s2:=I.e C X _ m2 O h2
        have s3:=I.e C X _ m3 O h3
        exact fB (RL (hu1 O) ⟨m9 (by simpa using hp.2),by rw[bj s2.pl,bj s3.pl];rfl,hl,by rw[bj s2.pl,bj s3.pl];rfl⟩ s1.va s1.ge s2.ge s3.ge) rfl rfl rfl rfl
       ·cases h0
      ·exact no h
     ·exact no h
    ·exact no h
   ·exact no h
  ·exact no h
 ·split at h
  ·rename_i hx
   simp only[QUq,List.isEmpty_iff]at hx
   obtain⟨rfl,rfl⟩:=hx
   cases h
   exact fB Yi rfl rfl rfl rfl
  ·split at h
   ·rename_i hx
    simp only[QUq,QUz]at hx
    simp only[QJz]at h
    obtain⟨m1,h1,rfl⟩:=h
    obtain⟨nC,K,a⟩:=I.d C X _ _ m1 O h1
    exact fB (Yj (by have:=O.hu;omega) K a hx.1.1 (fun z=>by rw[z]at hx;simp at hx) hx.1.2) rfl rfl rfl rfl
   ·exact no h
 ·split at h
  ·rename_i elt sc pos g
   obtain⟨η,tg,it,cond,m',rfl,B,gi,gp,ha⟩:=I.k C X _ _ _ m O h
   obtain⟨ta,ti,tf,tn⟩:=g
   simp only at ha
   subst ha
   exact fB (RN B gi O.calm (fun x=>wQ gp _ _)) rfl rfl rfl rfl
  ·exact no h
 ·exact no h
end
theorem ih c:∀n,Ih c n
 |0=>ih0 c
 |n+1=>let I:=ih c n
  ⟨fun C X e m O h=>VH I O h,fun C X es m O h=>PB I O h,fun C X fl es m O h=>VM I O h,fun C X o m O h=>VB I O h,fun C X x args m p pos O hg h=>VL I O hg h,fun C X tg e m O h=>VF I O h,fun C X elt g sc m O h=>VD I O h,fun C X ks vs m O h=>VJ I O h⟩
def NE{α:Type}(r:Out α):Prop:=∀k σ,r≠ .exc k σ
section
theorem NE.ok(a:α)σ:NE (.ok a σ):=fun _ _ z=>nomatch z
theorem NE.bad:NE (.bad:Out α):=fun _ _ z=>nomatch z
theorem NE.lift σ(o:Option α):NE (lift σ o):=by cases o<;>(intro _ _ z;cases z)
theorem NE.bind{f:α->Ev->Out β}(h:NE r)(g:∀a σ,NE (f a σ)):NE (r.bind f):=by
 cases r with
 |ok a σ=>exact g a σ
 |exc k σ=>exact absurd rfl (h k σ)
 |bad=>exact NE.bad
theorem NE.ao{f:D->Ev->Out β}(h:NE r)(g:∀a σ,NE (f a σ)):NE (r.ao f):=by
 cases r with
 |ok a σ=>cases a<;>first|exact g _ _|exact NE.bad
 |exc k σ=>exact absurd rfl (h k σ)
 |bad=>exact NE.bad
theorem NE.cA{r:Out Rv}{f:Bool->Ev->Out β}(h:NE r)(g:∀a σ,NE (f a σ)):NE (r.cA tr f):=
 NE.ao h fun d σ=>by
  cases tr d with
  |none=>exact NE.bad
  |some b=>exact g b σ
def NE.ite{p:Prop}[Decidable p]{a b:Out α}(h:NE a)(g:NE b):NE (if p then a else b):=by split<;>assumption
end
def Q7 c f as σ:NE (sG c f as σ):=by
 unfold sG
 split
 ·exact NE.bad
 ·split
  ·split
   ·exact NE.ok _ _
   ·exact NE.bad
  ·exact NE.bad
def K5 k y σ:NE (iz k y σ):=by
 unfold iz
 split
 ·refine NE.ite NE.bad ?_
  split
  ·split
   ·exact NE.ok _ _
   ·exact NE.bad
  ·exact NE.bad
 ·exact NE.bad
def Q6 k σ:NE (lu k σ):=by
 unfold lu
 split<;>first|exact NE.ok _ _|exact NE.bad
def ww(c:Cf):∀(m:E)(σ:Ev),NE (ev c m σ)/\NE (evs c m σ)/\NE (gJ c m σ)/\NE (mZ c m σ):=by
 have k3:∀{m:E},(∀σ,NE (ev c m σ))->(∀σ,evs c m σ=.bad)->(∀σ,gJ c m σ=.bad)->(∀σ,mZ c m σ=.bad)->∀σ,NE (ev c m σ)/\NE (evs c m σ)/\NE (gJ c m σ)/\NE (mZ c m σ):=fun h a b d σ=>by
  rw[a,b,d]
  exact⟨h σ,NE.bad,NE.bad,NE.bad⟩
 intro m
 induction m with
 |var i=>exact k3 (fun σ=>Q6 i σ) (fun _=>rfl) (fun _=>rfl) fun _=>rfl
 |con d=>exact k3 (fun σ=>NE.ok _ _) (fun _=>rfl) (fun _=>rfl) fun _=>rfl
 |glob k=>exact k3 (fun σ=>by rw[v_2];split<;>first|exact NE.ok _ _|exact NE.bad) (fun _=>rfl) (fun _=>rfl) fun _=>rfl
 |nil=>exact fun σ=>⟨NE.bad,NE.ok _ _,NE.bad,NE.bad⟩
 |cons h t ih jh=>
  intro σ
  refine⟨NE.bad,NE.bind (ih σ).1 fun x σ=>NE.bind (jh σ).2.1 fun _ _=>NE.ok _ _,?_,?_⟩
  ·cases t with
   |nil=>exact(ih σ).1
   |_=>exact NE.ao (ih σ).1 fun x σ=>(by split<;>first|exact(jh σ).2.2.1|exact NE.ok _ _|exact NE.bad)
  ·cases t with
   |nil=>exact(ih σ).1
   |_=>exact NE.ao (ih σ).1 fun x σ=>(by split<;>first|exact(jh σ).2.2.2|exact NE.ok _ _|exact NE.bad)
 |tup es ih=>exact k3 (fun σ=>NE.bind (ih σ).2.1 fun _ _=>NE.lift _ _) (fun _=>rfl) (fun _=>rfl) fun _=>rfl
 |lis es ih=>exact k3 (fun σ=>NE.bind (ih σ).2.1 fun _ _=>NE.lift _ _) (fun _=>rfl) (fun _=>rfl) fun _=>rfl
 |op o a b ih jh=>exact k3 (fun σ=>NE.ao (ih σ).1 fun _ σ=>NE.ao (jh σ).1 fun _ _=>NE.lift _ _) (fun _=>rfl) (fun _=>rfl) fun _=>rfl
 |neg a ih=>exact k3 (fun σ=>NE.ao (ih σ).1 fun _ σ=>NE.lift _ _) (fun _=>rfl) (fun _=>rfl) fun _=>rfl
 |cmp o a b ih jh=>exact k3 (fun σ=>NE.ao (ih σ).1 fun _ σ=>by split<;>first|exact NE.lift _ _|exact NE.ao (jh σ).1 fun _ _=>NE.lift _ _) (fun _=>rfl) (fun _=>rfl) fun _=>rfl
 |chain o p a b d ih jh kh=>exact k3 (fun σ=>NE.ao (ih σ).1 fun _ σ=>NE.ao (jh σ).1 fun _ σ=>NE.bind (NE.lift _ _) fun _ σ=>NE.ite (NE.ao (kh σ).1 fun _ _=>NE.lift _ _) (NE.ok _ _)) (fun _=>rfl) (fun _=>rfl) fun _=>rfl
 |and es ih=>exact k3 (fun σ=>(ih σ).2.2.1) (fun _=>rfl) (fun _=>rfl) fun _=>rfl
 |or es ih=>exact k3 (fun σ=>(ih σ).2.2.2) (fun _=>rfl) (fun _=>rfl) fun _=>rfl
 |not a ih=>exact k3 (fun σ=>NE.cA (ih σ).1 fun _ _=>NE.ok _ _) (fun _=>rfl) (fun _=>rfl) fun _=>rfl
 |ite t a b ih jh kh=>exact k3 (fun σ=>NE.cA (ih σ).1 fun _ σ=>NE.ite (jh σ).1 (kh σ).1) (fun _=>rfl) (fun _=>rfl) fun _=>rfl
 |idx a i ih jh=>exact k3 (fun σ=>by rw[Jd];split<;>first|exact NE.ite NE.bad (NE.ao (jh σ).1 fun _ _=>NE.lift _ _)|exact NE.ao (ih σ).1 fun _ σ=>NE.ao (jh σ).1 fun _ _=>NE.lift _ _) (fun _=>rfl) (fun _=>rfl) fun _=>rfl
 |slc a lo hi ih jh kh=>exact k3 (fun σ=>NE.ao (ih σ).1 fun _ σ=>NE.ao (jh σ).1 fun _ σ=>by split<;>first|exact NE.bad|exact NE.ao (kh σ).1 fun _ _=>NE.lift _ _) (fun _=>rfl) (fun _=>rfl) fun _=>rfl
 |noneE=>exact k3 (fun σ=>NE.ok _ _) (fun _=>rfl) (fun _=>rfl) fun _=>rfl
 |call f as ih=>exact k3 (fun σ=>NE.bind (ih σ).2.1 fun _ _=>Q7 _ _ _ _) (fun _=>rfl) (fun _=>rfl) fun _=>rfl
 |ref i=>exact k3 (fun σ=>by rw[Pq];split<;>first|exact NE.ok _ _|exact NE.bad) (fun _=>rfl) (fun _=>rfl) fun _=>rfl
 |rd e ih=>exact k3 (fun σ=>(ih σ).1) (fun _=>rfl) (fun _=>rfl) fun _=>rfl
 |isi a t ih=>exact k3 (fun σ=>NE.ao (ih σ).1 fun _ _=>NE.ok _ _) (fun _=>rfl) (fun _=>rfl) fun _=>rfl
 |bi b a ih=>exact k3 (fun σ=>by rw[nG];split<;>first|exact NE.lift _ _|exact NE.ao (ih σ).1 fun _ _=>NE.lift _ _) (fun _=>rfl) (fun _=>rfl) fun _=>rfl
 |range1 a ih=>exact k3 (fun σ=>NE.ao (ih σ).1 fun _ _=>NE.lift _ _) (fun _=>rfl) (fun _=>rfl) fun _=>rfl
 |zip a b ih jh=>exact k3 (fun σ=>NE.ao (ih σ).1 fun _ σ=>NE.ao (jh σ).1 fun _ _=>NE.lift _ _) (fun _=>rfl) (fun _=>rfl) fun _=>rfl
 |count a b ih jh=>exact k3 (fun σ=>NE.ao (ih σ).1 fun _ σ=>NE.ite NE.bad (NE.ao (jh σ).1 fun _ _=>NE.lift _ _)) (fun _=>rfl) (fun _=>rfl) fun _=>rfl
 |popAt i a ih=>exact k3 (fun σ=>NE.ite NE.bad (NE.ao (ih σ).1 fun _ _=>K5 _ _ _)) (fun _=>rfl) (fun _=>rfl) fun _=>rfl
 |index a b ih jh=>exact k3 (fun σ=>NE.ao (ih σ).1 fun _ σ=>NE.ite NE.bad (NE.ao (jh σ).1 fun _ _=>NE.lift _ _)) (fun _=>rfl) (fun _=>rfl) fun _=>rfl
 |get2 a b d ih jh kh=>
  refine k3 (fun σ=>?_) (fun _=>rfl) (fun _=>rfl) fun _=>rfl
  rw[Vl]
  split
  ·exact NE.ite NE.bad (NE.ao (jh σ).1 fun _ σ=>NE.ao (kh σ).1 fun _ _=>NE.lift _ _)
  ·exact NE.bad
 |dsp es ih=>exact k3 (fun σ=>NE.bind (ih σ).2.1 fun _ _=>NE.lift _ _) (fun _=>rfl) (fun _=>rfl) fun _=>rfl
 |pop0 i=>exact k3 (fun σ=>NE.ite NE.bad (K5 _ _ _)) (fun _=>rfl) (fun _=>rfl) fun _=>rfl
 |emp=>exact k3 (fun σ=>NE.ok _ _) (fun _=>rfl) (fun _=>rfl) fun _=>rfl
 |enum a ih=>exact k3 (fun σ=>NE.ao (ih σ).1 fun _ _=>NE.lift _ _) (fun _=>rfl) (fun _=>rfl) fun _=>rfl
 |comp nl tg it cond elt ih _ _=>
  refine k3 (fun σ=>?_) (fun _=>rfl) (fun _=>rfl) fun _=>rfl
  rw[lD]
  refine NE.ao (ih σ).1 fun _ σ=>?_
  split
  ·split
   ·exact NE.ok _ _
   ·exact NE.bad
  ·exact NE.bad
section
def GE.w(h:GE X W0 c m e):GE X W c m e:=fun env=>PE.imp (h env) fun σ H Q⟨S,q⟩=>by
 refine⟨S,?_⟩
 cases r:ev c m env with
 |exc k ζ=>exact absurd r ((ww c m env).1 k ζ)
 |_=>rw[r]at q;exact q
def GA.w(h:GA X W0 c m es):GA X W c m es:=fun env p γ s σ H R I q=>h env p γ s σ H R I (by
 obtain⟨S,q⟩:=q
 refine⟨S,?_⟩
 cases r:evs c m env with
 |exc k ζ=>exact absurd r ((ww c m env).2.1 k ζ)
 |_=>rw[r]at q;exact q)
def GT.w(h:GT X W0 c m e):GT X W c m e:=PT.imp h fun σ H Q⟨env,S,q⟩=>by
 refine⟨env,S,?_⟩
 cases r:ev c m env with
 |exc k ζ=>exact absurd r ((ww c m env).1 k ζ)
 |_=>rw[r]at q;exact q
def GI.w(h:GI X W0 c m tg e):GI X W c m tg e:=fun env γ s σ H R I q=>h env γ s σ H R I (by
 obtain⟨S,q⟩:=q
 refine⟨S,?_⟩
 cases r:ev c m env with
 |exc k ζ=>exact absurd r ((ww c m env).1 k ζ)
 |_=>rw[r]at q;exact q)
end
structure Top(C:Ct)(X:Cx)(W:Wi)(c:Cf):Prop where
 fn:∀x,X.fn x=true
 po:PassesOwn (model X.prog X.w) X.A X.env X.xe
 ra:∀e f p n m,Tw (n+1) C (.Raise e f p)=some m->GS X W c m (.Raise e f p)
 cx:∀f args kw cp p n m,Ih c n->rzB C f=true->trX n C f args kw=some m->GS X W c m (.Expr (.Call f args kw cp) p)
section
theorem R8(O:ig C X c):∀{n:Nat}{elt:Expr}{gens:List Comprehension}{sc:Scope}{pos:Pos},di n C (.ListComp elt gens sc pos)=some m->∃g,gens=[g]/\CQ X c m elt g sc
 |0,_,_,_,_,h=>by rw[di]at h;cases h
 |n+1,elt,gens,sc,pos,h=>by
  unfold di at h
  simp only at h
  split at h
  ·exact⟨_,rfl,(ih c n).k C X _ _ _ m O h⟩
  ·cases h
def jH(O:ig C X c)(h:Bh C.sc x=true):Loc X.env.scope x:=by
 unfold Bh at h
 rw[O.sc]
 rw[Bool.or_eq_true]at h
 rcases h with h|h
 ·exact .inl (by simpa using h)
 ·exact .inr (by simpa using h)
def ik{t:Option Expr}{env:Env}(hp:plain e=true)(hc:oH e=false):swapsWith e t l env=pure false:=by
 cases e<;>first|rfl|exact absurd (hp) Qjz|exact absurd (hc) (fun h=>Qjz h.symm)
def Aa{es:List Expr}{q:Pos}(h:isTup e=false):swappedStores [.Tuple es k q] e env=pure none:=by
 cases e<;>first|rfl|exact absurd (h) (fun h=>Qjz h.symm)
def yd{q:Pos}:swappedStores [.Subscript o i q] e env=pure none:=by
 cases e<;>rfl
def Dj{l:Nat}:swapsWithSole [t] e l env=swapsWith e (some t) l env:=rfl
def Sx{tp:Pos}{v:Value}(h:isSlice i=false):assign (.Subscript o i tp) env v=(do
   let ov<-holding [v] (eval o env)
   let iv<-holding [v,ov] (eval i env)
   standAt tp
   holding [v,ov,iv] (setItem ov iv v)
   release [v,ov,iv] []):=by
 cases i<;>first|rfl|(simp[isSlice]at h;done)
theorem qz(O:ig C X c)(T:Top C X W c):∀{es:List Expr}{is:List Nat},slotsOf C es=some is->tE X is es/\(assignEach es X.env).length=is.length/\(assignEach es X.env).findIdx? (·.1)=none
 |[],is,h=>by cases h;exact⟨.nil,rfl,rfl⟩
 |e::es,is,h=>by
  cases e<;>simp only[slotsOf]at h<;>try (cases h;done)
  rename_i x q
  split at h
  ·rename_i hl
   simp only[QJq,QJz]at h
   obtain⟨i,h1,js,h2,rfl⟩:=h
   obtain⟨a1,a2,a3⟩:=qz O T h2
   refine⟨.cons (by rw[O.N];exact gG h1) (jH O hl) (.inl (T.fn x)) a1,?_,?_⟩
   ·show(_::assignEach es X.env).length=_
    simp[a2]
   ·show(List.findIdx? (·.1) ((false,_)::assignEach es X.env))=none
    rw[List.findIdx?_cons]
    simp[a3]
  ·cases h
def mL(O:ig C X c):X.N.Nodup:=by rw[O.N];exact O.nd
def Jm(O:ig C X c)(T:Top C X W c){e:Expr}(h:Jo C e=some tg):GG X tg e:=by
 cases e<;>simp only[Jo]at h<;>try (cases h;done)
 ·rename_i x q
  split at h
  ·rename_i hl
   simp only[QJz]at h
   obtain⟨i,h1,rfl⟩:=h
   exact wN (mL O) (by rw[O.N];exact gG h1) (jH O hl) (.inl (T.fn x))
  ·cases h
 ·simp only[QJz]at h
  obtain⟨is,h1,rfl⟩:=h
  obtain⟨a1,a2,a3⟩:=qz O T h1
  exact Bv (mL O) O.calm a1 a2 a3
def VG(J:Ih c n)(O:ig C X c){tg e:Expr}(h:trF n C tg e=some m):GI X W0 c m tg e/\plain e=true:=by
 unfold trF at h
 split at h
 ·rename_i a e1
  simp only[QJz]at h
  obtain⟨m1,h1,rfl⟩:=h
  exact Fg J O e1 h1
 ·exact J.i C X _ _ m O h
def Rx{k:Nat}{x:Str}{p:Pos}(nm:gr X k x):GT X W0 c (.bi .tuple (.var k)) (.Name x p):=by
 refine PT.imp (yG nm.pe fun _=>rfl) fun σ H Q⟨env,S,q⟩=>?_
 simp only[nG,E.aB]at q
 cases e1:aR k env with
 |none=>rw[e1]at q;exact q.elim
 |some d=>
  obtain⟨v,e2,D⟩:=cG S e1
  rw[e1]at q
  have hb:b1 .tuple d=(bA d).bind (O6 .tuple):=rfl
  simp only[QHq,hb]at q
  cases e3:bA d with
  |none=>rw[e3]at q;exact q.elim
  |some xs=>
   rw[e3]at q
   obtain⟨d',b,z1,z2,z3⟩:=q
   cases z1
   have z2:(!xs.isEmpty)=b:=QEq z2
   obtain⟨a,vs,rfl,hq,l⟩:=D.seq e3
   have hl:=l.length
   have hb:b= !vs.isEmpty:=by rw[<-z2];cases xs<;>cases vs<;>simp_all
   refine⟨_,e2,b,?_,z3 H (Nx.refl S)⟩
   rcases hq with hq|hq
   ·exact .inl ⟨vs,hq,hb⟩
   ·exact .inr (.inl ⟨vs,hq,hb⟩)
def zc(O:ig C X c){x:Str}{p:Pos}{v:E}(h:eF C x=some v):GT X W0 c (Lb v) (.Name x p):=by
 cases v with
 |var k=>exact Rx (qQ O h)
 |_=>exact(vX (p:=p) O h).gt
def De(J:Ih c n)(O:ig C X c){w:Bool}{e:Expr}(h:trT n C w e=some m):GT X W0 c m e:=by
 unfold trT at h
 split at h
 ·split at h
  ·simp only[QJz]at h
   obtain⟨v,h1,rfl⟩:=h
   exact zc O h1
  ·exact(J.e C X _ m O h).gt
 ·split at h
  ·simp only[QJz]at h
   obtain⟨v,h1,rfl⟩:=h
   exact Ml (zc O h1)
  ·exact(J.e C X _ m O h).gt
 ·exact(J.e C X _ m O h).gt
theorem HD(O:ig C X c)(T:Top C X W c){scope:Scope}{tg:Tg}{it cond elt:E}{ifs:List Expr}{i:Nat}(B:zR X c scope η tg cond elt Ξ Δ ifs)(hi:GI X W c it Ξ ο)(gp:plain ο=true)
  (ge:GE X W c (.comp η.length tg it cond elt) (.ListComp Δ [⟨Ξ,ο,ifs,0⟩] scope cp))(hN:X.N[i]? =some x)(hl:Bh C.sc x=true):
  GS X W c (.set i (.comp η.length tg it cond elt)) (.Assign [.Name x np] (.ListComp Δ [⟨Ξ,ο,ifs,0⟩] scope cp) sp):=by
 have key:∃b:Bool,swapsWith (.ListComp Δ [⟨Ξ,ο,ifs,0⟩] scope cp) (some (.Name x np)) sp.line X.env=pure b:=⟨_,rfl⟩
 obtain⟨b,hb⟩:=key
 cases b with
 |false=>exact wL ge (mL O) hN (jH O hl) (.inl (T.fn x)) hb
 |true=>exact Bt B hi O.calm (fun x=>wQ gp _ _) (mL O) hN (jH O hl) (.inl (T.fn x)) hb
structure IhS(c:Cf)(n:Nat):Prop where
 s:∀C X W st m,ig C X c->Top C X W c->Tw n C st=some m->GS X W c m st
 ss:∀C X W st m,ig C X c->Top C X W c->qi n C st=some m->O7 X W c m st
def afA c:IhS c 0:=by
 constructor
 all_goals (intros;rename_i h;first|(rw[Tw]at h;cases h)|(rw[qi]at h;cases h))
def Pz(I:IhS c n)(O:ig C X c)(T:Top C X W c){m:S}(h:qi (n+1) C st=some m):O7 X W c m st:=by
 cases st with
 |nil=>rw[qi]at h;cases h;exact Rz
 |cons s st=>
  rw[qi]at h
  simp only[QJq,QJz]at h
  obtain⟨m1,h1,m2,h2,rfl⟩:=h
  exact Mp (I.s C X W s m1 O T h1) (I.ss C X W st m2 O T h2)
def Vz(I:IhS c n)(O:ig C X c)(T:Top C X W c){st:Stmt}{m:S}(h0:Tw (n+1) C st=some m):GS X W c m st:=by
 have J:=ih c n
 have no:∀{P:Prop},(none:Option S)=some m->P:=fun z=>nomatch z
 have h:=h0
 unfold Tw at h
 split at h
 ·split at h
  ·cases h;exact RC
  ·simp only[QJz]at h
   obtain⟨m1,h1,rfl⟩:=h
   have s:=J.e C X _ m1 O h1
   exact XJ s.ge.w s.va
 ·split at h
  ·split at h
   ·rename_i e _ _ _ x _
    split at h
    ·rename_i hl
     simp only[QJq,QJz]at h
     obtain⟨i,h1,m1,h2,rfl⟩:=h
     have s:=J.e C X _ m1 O h2
     have hN:X.N[i]? =some x:=by rw[O.N];exact gG h1
     cases hc:oH e with
     |false=>
      unfold mvS
      split
      ·rename_i j
       split
       ·exact wL s.ge.w (mL O) hN (jH O hl) (.inl (T.fn x)) (ik s.pl hc)
       ·rename_i ij
        obtain⟨y,p,rfl,nm⟩:=s.va j rfl
        exact XM nm ij s.ge.w (mL O) hN (jH O hl) (.inl (T.fn x)) (ik s.pl hc)
      ·exact wL s.ge.w (mL O) hN (jH O hl) (.inl (T.fn x)) (ik s.pl hc)
     |true=>
      cases e<;>simp[oH]at hc
      rename_i elt gens sc cp
      obtain⟨g,rfl,η,tg,it,cond,m',rfl,B,gi,gp,ha⟩:=R8 O h2
      obtain⟨ta,ti,tf,tn⟩:=g
      simp only at ha
      subst ha
      exact HD O T B gi.w gp s.ge.w hN hl
    ·exact no h
   ·split at h
    ·exact no h
    ·rename_i hx
     rw[Bool.not_eq_true,Bool.or_eq_false_iff]at hx
     simp only[QJq,QJz]at h
     obtain⟨is,h1,m1,h2,rfl⟩:=h
     have s:=J.e C X _ m1 O h2
     obtain⟨a1,a2,a3⟩:=qz O T h1
     exact RB s.ge.w (Bv (mL O) O.calm a1 a2 a3) (by rw[Dj];exact ik s.pl hx.2) (Aa hx.1) rfl
   ·split at h
    ·split at h
     ·exact no h
     ·rename_i hx
      rw[Bool.not_eq_true,Bool.or_eq_false_iff]at hx
      simp only[QJq]at h
      obtain⟨v,h1,h⟩:=h
      split at h
      ·simp only[QJq,QJz]at h
       obtain⟨i,h2,m1,h3,rfl⟩:=h
       have s1:=J.e C X _ i O h2
       have s:=J.e C X _ m1 O h3
       exact Mr (qQ O h1) s.ge.w s1.ge.w (fun v=>Sx hx.2) (by rw[Dj];exact ik s.pl hx.1) yd (by have:=O.hu;omega) rfl
      ·exact no h
    ·exact no h
   ·exact no h
  ·exact no h
 ·--an expression alone
  split at h
  ·have dflt:∀(e:Expr)(q:Pos),oH e=false->(di n C e).map S.expr=some m->GS X W c m (.Expr e q):=fun e q hc z=>by
    simp only[QJz]at z
    obtain⟨m1,h1,rfl⟩:=z
    have s:=J.e C X _ m1 O h1
    exact RD s.ge.w (ik s.pl hc)
   split at h
   ·split at h
    ·split at h
     ·rename_i hx
      simp only[QUq,QUz]at hx
      obtain⟨hl,rfl⟩:=hx
      simp only[QJq]at h
      obtain⟨v,h1,h⟩:=h
      split at h
      ·simp only[QJz]at h
       obtain⟨m1,h2,rfl⟩:=h
       have s:=J.e C X _ m1 O h2
       exact HH ⟨rfl,hl,bj s.pl _ _⟩ (qQ O h1) s.ge.w
      ·exact no h
     ·split at h
      ·rename_i hx
       simp only[QUq,QUz]at hx
       obtain⟨hl,rfl⟩:=hx
       simp only[QJq]at h
       obtain⟨v,h1,h⟩:=h
       split at h
       ·simp only[QJz]at h
        obtain⟨m1,h2,rfl⟩:=h
        have s:=J.e C X _ m1 O h2
        exact HF ⟨rfl,hl,bj s.pl _ _⟩ (qQ O h1) s.ge.w
       ·exact no h
      ·exact dflt _ _ rfl h
    ·exact no h
   ·split at h
    ·rename_i hz
     exact T.cx _ _ _ _ _ _ _ J hz h
    ·exact dflt _ _ rfl h
  ·exact no h
 ·simp only[QJq,QJz]at h
  obtain⟨t,h1,a,h2,b,h3,rfl⟩:=h
  exact ab7 (De J O h1).w (I.ss C X W _ a O T h2) (I.ss C X W _ b O T h3)
 ·split at h
  ·simp only[QJq,QJz]at h
   obtain⟨tg,h1,it,h2,b,h3,rfl⟩:=h
   obtain⟨gi,gp⟩:=VG J O h2
   exact XN T.po O.calm gi.w (Jm O T h1) (I.ss C X W _ b O T h3) (fun x=>wQ gp _ _)
  ·exact no h
 ·split at h
  ·simp only[QJq,QJz]at h
   obtain⟨t,h1,b,h3,rfl⟩:=h
   exact Mq T.po (De J O h1).w (I.ss C X W _ b O T h3)
  ·exact no h
 ·exact T.ra _ _ _ _ _ h0
 ·split at h
  ·split at h
   ·rename_i x _ hl
    simp only[QJq,QJz]at h
    obtain⟨i,h1,m1,h2,rfl⟩:=h
    have hN:X.N[i]? =some x:=by rw[O.N];exact gG h1
    exact XQ (J.e C X _ m1 O h2).ge.w (mL O) hN (jH O hl) (.inl (T.fn x))
   ·exact no h
  ·exact no h
 ·exact no h
end
def Qp{e f:Option Expr}{n:Nat}(h:Tw (n+1) C (.Raise e f p)=some m):m=.raise (JW C e f):=by
 unfold Tw at h
 cases h
 rfl
def aaR(hz:C.rz=[])f:rzB C f=false:=by
 cases f<;>first|rfl|(unfold rzB;rw[hz];rfl)
def Top.plain{X:Cx}(hf:∀x,X.fn x=true)(hp:PassesOwn (model X.prog X.w) X.A X.env X.xe)(hz:C.rz=[]):Top C X W0 c:=
 ⟨hf,hp,fun e f p n m h=>by rw[Qp h];exact Ms,fun f _ _ _ _ _ _ _ z=>by rw[aaR hz f]at z;cases z⟩
theorem ihS c:∀n,IhS c n
 |0=>afA c
 |n+1=>let I:=ihS c n
  ⟨fun C X W st m O T h=>Vz I O T h,fun C X W st m O T h=>Pz I O T h⟩
structure Df where
 x:Str
 st:Stmt
 N:List Str
 ps:List Str
 fl:List Bool
 exs:List Str:=[]
 rz:List Str:=[]
def ad5(ds:List Df):List (Str×List Bool):=ds.map fun d=>(d.x,d.fl)
noncomputable def acn(ds:List Df)(nD:List Str)(d:Df):Ct:={N:=d.N,sc:=bf d.st,fns:=ad5 ds,nD:=nD,exs:=d.exs}
noncomputable def fnOf(ds:List Df)(nD:List Str)(d:Df):Option Fn:=(qi 60 (acn ds nD d) (dY d.st)).map fun b=>{pars:=d.ps.length,names:=d.N.length,body:=b}
structure vH(K:QQq)(mg:QZz)(d:Df)(f:Addr)(fd:FuncData):Prop where
 fu:YQ K d.x d.x d.st f fd
 bi:Binds K fd d.ps []
 at_:mg d.x=some (.ref f)
section
variable{P:Program}{w:World}{base:Heap}{p:Pg}{fa:Nat->Addr}{fd:Nat->FuncData}
theorem Dw(hfn:∀i d,ds[i]? =some d->vH K mg d (fa i) (fd i))(hsc:∀d∈ds,kW d.N d.ps (bf d.st))(htr:∀(i:Nat)d,ds[i]? =some d->∃g,p.fns[i]? =some g/\fnOf ds nD d=some g)
  (hbi:∀x∈m8,mg x=none)(hgl:∀(k:Nat)x,nD[k]? =some x->∃d v u,p.gl k=some d/\mg x=some u/\RelV v u/\∀H,bh K H d v):
  ∀(n i:Nat)d,ds[i]? =some d->o6 P w K mg base Ox n (fa i) (fd i) d.ps (vR K d.ps.length (p.fn n i))
 |0,i,d,e=>by
  have no:∀vs H Q E,¬vR K d.ps.length (p.fn 0 i) vs H Q E:=fun vs H Q E h=>by
   obtain⟨_,_,_,_,z⟩:=h
   exact z
  exact⟨fun vs H Q E h=>absurd h (no vs H Q E),fun A outer s H args us vs Q E _ _ _ _ h=>absurd h (no vs H Q E)⟩
 |n+1,i,d,e=>by
  have IH:=Dw hfn hsc htr hbi hgl n
  have D:=hfn i d e
  obtain⟨g,hg,ht⟩:=htr i d e
  unfold fnOf at ht
  simp only[QJz]at ht
  obtain⟨b,hb,rfl⟩:=ht
  have S:=hsc d (QBz e)
  have hp:p.fn (n+1) i=iy (p.cf n) {pars:=d.ps.length,names:=d.N.length,body:=b}:=by
   funext sl
   show(match p.fns[i]? with|some g=>iy (p.cf n) g sl|none=>p.pf (p.cf n) i sl)=_
   rw[hg]
  rw[hp]
  refine RV D.fu S rfl rfl fun cdv A outer s H E hr=>?_
  refine(ihS (p.cf n) 60).ss (acn ds nD d) _ W0 _ b ⟨rfl,rfl,S.nd,rfl,?_,hbi,fun k x hk=>?_,fun g x fl hk=>?_⟩ (.plain (fun _=>rfl) PassesOwn.never rfl) hb
  ·have:=hr.un
   show(A.deeper _).units+60<cLine
   omega
  ·obtain⟨dd,v,u,h1,h2,h3,h4⟩:=hgl k x hk
   exact⟨dd,h1,v,u,h2,h3,h4⟩
  ·have hk':(ds.map fun d=>(d.x,d.fl))[g]? =some (x,fl):=hk
   rw[QFz]at hk'
   cases q:ds[g]? with
   |none=>rw[q]at hk';cases hk'
   |some d2=>
    rw[q]at hk'
    simp at hk'
    obtain⟨rfl,rfl⟩:=hk'
    have D2:=hfn g d2 q
    refine⟨n,fa g,fd g,d2.ps,IH g d2 q,hr,D2.at_,D2.fu.kp,D2.bi,fun sl=>?_⟩
    show p.fn n g sl=.bad\/_
    cases n with
    |zero=>exact .inl rfl
    |succ n=>
     obtain⟨g2,hg2,ht2⟩:=htr g d2 q
     unfold fnOf at ht2
     simp only[QJz]at ht2
     obtain⟨b2,hb2,rfl⟩:=ht2
     have:p.fn (n+1) g sl=iy (p.cf n) {pars:=d2.ps.length,names:=d2.N.length,body:=b2} sl:=by
      show(match p.fns[g]? with|some g=>iy (p.cf n) g sl|none=>p.pf (p.cf n) g sl)=_
      rw[hg2]
     rw[this]
     exact Gw (p.cf n) _ sl
end
theorem VP{K:QQq}{H:Hp}{ns:List Int}(hO:Only H)(hS:jx K H a (ns.map V.int))(hf:∃qs,f [.val (.lst (ns.map D.int))]=.ok (.val (.bl true)) qs)E:
  vR K 1 f [.ref a] H (fun v _=>v=.bl true) E:=by
 have den:bh K H (.lst (ns.map D.int)) (.ref a):=by
  have fr:FZ K H a (ns.map V.int):=by
   rcases hS with (h|⟨o,h⟩)|h
   ·rcases hO a with z|⟨o,xs,z⟩
    ·rw[z]at h;cases h
    ·rw[z]at h;cases h
   ·exact .inl ⟨o,h⟩
   ·exact .inr h
  have l:∀(ns:List Int),aq K H (ns.map D.int) (ns.map V.int):=fun ns=>by
   induction ns with
   |nil=>exact aq.fY
   |cons i r ih=>exact aq.cZ rfl ih
  exact⟨a,_,rfl,fr,l ns⟩
 obtain⟨qs,hf⟩:=hf
 refine⟨[.val (.lst (ns.map D.int))],rfl,⟨rfl,fun i s e=>?_,fun i j b h1=>?_⟩,fun i o e=>?_,?_⟩
 ·cases i with
  |zero=>simp at e;subst e;exact⟨.ref a,rfl,den⟩
  |succ i=>simp at e
 ·obtain⟨⟨s,o,e1,e2⟩,_⟩:=h1
  cases i with
  |zero=>simp at e1;subst e1;cases e2
  |succ i=>simp at e1
 ·cases i with
  |zero=>simp at e
  |succ i=>simp at e
 ·rw[hf]
  exact fun v H' _ z=>z
def Wz(a:Arguments):List Str:=a.args.map (·.arg)
noncomputable def namesOf(st:Stmt):List Str:=Wz (dZ st)++(((bf st).names.filter fun p=>(p.2== .local||p.2== .cell)&& !(Wz (dZ st)).contains p.1).map (·.1))
noncomputable def bL(x:Str)(st:Stmt)(fl:List Bool):Df:={x:=x,st:=st,N:=namesOf st,ps:=Wz (dZ st),fl:=fl}
noncomputable def JG(d:Df):Bool:=
 decide ((bf d.st).kind=.function)&& !(bf d.st).isCoroutine&& !(bf d.st).isGenerator&&decide d.N.Nodup&&decide (d.N.take d.ps.length=d.ps)
 &&(d.ps.all fun x=>(bf d.st).names.lookup x==some .local||(bf d.st).names.lookup x==some .cell)&&((bf d.st).names.all fun y=>y.2 != .free)
def P0(h:JG d=true):kW d.N d.ps (bf d.st):=by
 unfold JG at h
 simp only[QUq,QUz,Bool.not_eq_true',List.all_eq_true,Bool.or_eq_true,beq_iff_eq,bne_iff_ne,ne_eq]at h
 obtain⟨⟨⟨⟨⟨⟨h1,h2⟩,h3⟩,h4⟩,h5⟩,h6⟩,h7⟩:=h
 exact⟨h1,h2,h3,h4,h5,h6,h7⟩
noncomputable def vIs:Value->D->Bool
 |.none,.non=>true
 |.bool a,.bl b=>a==b
 |.int i _,.int j=>i==j
 |.str x _,.str y=>decide (x=y)
 |_,_=>false
noncomputable def Gd:List Value->List D->Bool
 |[],[]=>true
 |u::us,d::ds=>vIs u d&&Gd us ds
 |_,_=>false
noncomputable def Jj(o:Obj)(ds:List D):Bool:=o.cls== .type "tuple"&&o.dict.isNone&&match o.data with
 |.seq its _=>Gd its.toList ds&&decide (its.size<=1000)
 |_=>false
def S5(K:QQq)(mg:QZz)(x:Str)(d:D):Prop:=∃v u,mg x=some u/\RelV v u/\∀H,bh K H d v
def Je{u:Value}(h:vIs u d=true):∃v,RelV v u/\∀H,bh K H d v:=by
 cases u<;>cases d<;>simp[vIs]at h
 ·exact⟨.non,rfl,fun H=>rfl⟩
 ·subst h;exact⟨.bl _,rfl,fun H=>rfl⟩
 ·subst h;exact⟨.int _,⟨_,rfl⟩,fun H=>rfl⟩
 ·subst h;exact⟨.str _,⟨_,rfl⟩,fun H=>rfl⟩
theorem CW:∀{us:List Value}{ds:List D},Gd us ds=true->∃vs,Vals vs us/\∀H,aq K H ds vs
 |[],[]=>fun _=>⟨[],.nil,fun H=>aq.fY⟩
 |u::us,d::ds=>fun h=>by
  unfold Gd at h
  rw[QUq]at h
  obtain⟨v,r,e⟩:=Je h.1
  obtain⟨vs,rs,es⟩:=CW h.2
  exact⟨v::vs,.cons r rs,fun H=>aq.cZ (e H) (es H)⟩
 |[],_::_=>fun h=>by simp[Gd]at h
 |_::_,[]=>fun h=>by simp[Gd]at h
section
def XR(X:K.In h)(G:h.Ns mainGlobals mg)(e:PySem.W.nsIn K mainGlobals x=some (some u))(hv:vIs u d=true):S5 K mg x d:=by
 obtain⟨v,r,q⟩:=Je hv
 exact⟨v,u,PySem.W.mg_of X G e,r,q⟩
def XS(X:K.In h)(G:h.Ns mainGlobals mg)(e:PySem.W.nsIn K mainGlobals x=some (some (.ref a)))(l:K.lookup a=some o)(hv:Jj o ds=true):S5 K mg x (.tup ds):=by
 unfold Jj at hv
 simp only[QUq,beq_iff_eq,Option.isNone_iff_eq_none]at hv
 obtain⟨⟨hc,hd⟩,hv⟩:=hv
 split at hv
 ·rename_i its n hs
  rw[QUq,QUz]at hv
  obtain⟨vs,r,q⟩:=CW hv.1
  exact⟨.ref a,_,PySem.W.mg_of X G e,rfl,fun H=>dF (.inr ⟨o,its,n,l,hc,hd,hs,Nat.le_of_lt (Gr hv.2),r⟩) (q H)⟩
 ·cases hv
end
noncomputable def zU(K:QQq)(mg:QZz):List Df->List (Addr×FuncData)->Prop
 |[],[]=>True
 |d::ds,(f,fd)::r=>vH K mg d f fd/\zU K mg ds r
 |_,_=>False
theorem zU.at{K:QQq}{mg:QZz}:∀{ds:List Df}{fs:List (Addr×FuncData)},zU K mg ds fs->∀(i:Nat)d,ds[i]? =some d->∃q,fs[i]? =some q/\vH K mg d q.1 q.2
 |[],_,_,i=>fun d e=>by simp at e
 |_::_,[],h,_=>fun _ _=>h.elim
 |d::ds,(f,fd)::r,h,0=>fun d' e=>by cases e;exact⟨(f,fd),rfl,h.1⟩
 |d::ds,_::r,h,i+1=>fun d' e=>h.2.at i d' e
noncomputable def zT(K:QQq)(mg:QZz):List Str->List D->Prop
 |[],[]=>True
 |x::xs,d::ds=>S5 K mg x d/\zT K mg xs ds
 |_,_=>False
theorem zT.at{K:QQq}{mg:QZz}:∀{xs:List Str}{ds:List D},zT K mg xs ds->∀(k:Nat)x,xs[k]? =some x->∃d,ds[k]? =some d/\S5 K mg x d
 |[],_,_,k=>fun x e=>by simp at e
 |_::_,[],h,_=>fun _ _=>h.elim
 |x::xs,d::ds,h,0=>fun x' e=>by cases e;exact⟨d,rfl,h.1⟩
 |x::xs,d::ds,h,k+1=>fun x' e=>h.2.at k x' e
noncomputable def Km(ds:List Df)(nD:List Str)(vals:List D)(turns:Nat):Pg:=
 {fns:=ds.map fun d=>(fnOf ds nD d).getD {pars:=0,names:=0,body:=.nil},gl:=fun k=>vals[k]?,turns:=turns}
def Pu{w:World}{mg:QZz}{ds:List Df}{vals:List D}{fs:List (Addr×FuncData)}(hD:zU K mg ds fs)(hG:zT K mg nD vals)
  (hS:ds.all JG=true)(hT:ds.all (fun d=>(fnOf ds nD d).isSome)=true)(hB:∀x∈m8,mg x=none)n i d f fd(hd:ds[i]? =some d)(hf:fs[i]? =some (f,fd)):
  o6 P w K mg base Ox n f fd d.ps (vR K d.ps.length ((Km ds nD vals turns).fn n i)):=by
 have z1:∀(i:Nat)d,ds[i]? =some d->vH K mg d (((fs[i]?).map (·.1)).getD 0) (((fs[i]?).map (·.2)).getD fd):=fun i d e=>by
  obtain⟨q,e1,e2⟩:=hD.at i d e
  simp only[e1,Option.map_some,Option.getD_some]
  exact e2
 have z2:∀i d,ds[i]? =some d->∃g,(Km ds nD vals turns).fns[i]? =some g/\fnOf ds nD d=some g:=fun i d e=>by
  have hs:=List.all_eq_true.mp hT d (QBz e)
  obtain⟨g,hg⟩:=Option.isSome_iff_exists.mp hs
  refine⟨g,?_,hg⟩
  show(ds.map fun d=>(fnOf ds nD d).getD {pars:=0,names:=0,body:=.nil})[i]? =some g
  rw[QFz,e]
  simp[hg]
 have z3:∀k x,nD[k]? =some x->∃d v u,(Km ds nD vals turns).gl k=some d/\mg x=some u/\RelV v u/\∀H,bh K H d v:=fun k x e=>by
  obtain⟨dd,e1,v,u,z1,z2,z3⟩:=hG.at k x e
  exact⟨dd,v,u,e1,z1,z2,z3⟩
 have Z:=Dw (P:=P) (w:=w) (base:=base)
  z1 (fun d hd=>P0 (List.all_eq_true.mp hS d hd)) z2 hB z3 n i d hd
 simp only[hf,Option.map_some,Option.getD_some]at Z
 exact Z
def Oq(K:QQq)(x:Str)(st:Stmt):Prop:=∃(f:Addr)(od an:Option Addr)(sl:Array (Option Value))(oc kV dc pm cd ct:Value),
 PySem.W.nsIn K mainGlobals x=some (some (.ref f))/\K.lookup f=some ⟨oc,od,.func (PySem.W.fnOf x x (dZ st) (dY st) (bf st) .none kV dc pm an cd ct),sl⟩/\PySem.W.codeIn K cd x=true/\PySem.W.keepIn K (.ref f)=true
def dIn{x:Str}{f:Addr}{od an:Option Addr}{oc kV dc pm cd ct:Value}(a:PySem.W.nsIn K mainGlobals x=some (some (.ref f)))
  (l:K.lookup f=some ⟨oc,od,.func (PySem.W.fnOf x x (dZ st) (dY st) (bf st) .none kV dc pm an cd ct),sl⟩)(c:PySem.W.codeIn K cd x=true)(p:PySem.W.keepIn K (.ref f)=true):Oq K x st:=⟨f,od,an,sl,oc,kV,dc,pm,cd,ct,a,l,c,p⟩
def AllIn(K:QQq):List (Str×Stmt)->Prop
 |[]=>True
 |(x,s)::r=>Oq K x s/\AllIn K r
def Bd(d:Df):Prop:=∀(kV dc pm:Value)(an:Option Addr)(cd ct:Value)(us:List Value),us.length=d.ps.length->bindArgs (PySem.W.fnOf d.x d.x (dZ d.st) (dY d.st) (bf d.st) .none kV dc pm an cd ct) ⟨us,[]⟩=pure (d.ps.zip us)
def uc{us:List Value}(h:us.length=1):∃a,us=[a]:=List.length_eq_one_iff.mp h
def Lh{us:List Value}(h:us.length=n+1):∃a r,us=a::r/\r.length=n:=by
 cases us with
 |nil=>simp at h
 |cons a r=>exact⟨a,r,rfl,by simpa using h⟩
def lH{us:List Value}(h:us.length=2):∃a b,us=[a,b]:=by
 obtain⟨a,r,rfl,h2⟩:=Lh h;obtain⟨b,rfl⟩:=uc h2;exact⟨a,b,rfl⟩
def jt{us:List Value}(h:us.length=3):∃a b c,us=[a,b,c]:=by
 obtain⟨a,r,rfl,h2⟩:=Lh h;obtain⟨b,c,rfl⟩:=lH h2;exact⟨a,b,c,rfl⟩
def qY{us:List Value}(h:us.length=4):∃a b c d,us=[a,b,c,d]:=by
 obtain⟨a,r,rfl,h2⟩:=Lh h;obtain⟨b,c,d,rfl⟩:=jt h2;exact⟨a,b,c,d,rfl⟩
def abH{us:List Value}(h:us.length=5):∃a b c d e,us=[a,b,c,d,e]:=by
 obtain⟨a,r,rfl,h2⟩:=Lh h;obtain⟨b,c,d,e,rfl⟩:=qY h2;exact⟨a,b,c,d,e,rfl⟩
def ae2{us:List Value}(h:us.length=6):∃a b c d e f,us=[a,b,c,d,e,f]:=by
 obtain⟨a,r,rfl,h2⟩:=Lh h;obtain⟨b,c,d,e,f,rfl⟩:=abH h2;exact⟨a,b,c,d,e,f,rfl⟩
def Ga:List Df->Prop
 |[]=>True
 |d::r=>Bd d/\Ga r
inductive YM(K:QQq)(x:Str):D->Prop
 |v {u:Value} {d:D}:PySem.W.nsIn K mainGlobals x=some (some u)->vIs u d=true->YM K x d
 |t {a:Addr} {o:Obj} {ds:List D}:PySem.W.nsIn K mainGlobals x=some (some (.ref a))->K.lookup a=some o->Jj o ds=true->YM K x (.tup ds)
noncomputable def xJ(K:QQq):List Str->List D->Prop
 |[],[]=>True
 |x::xs,d::ds=>YM K x d/\xJ K xs ds
 |_,_=>False
noncomputable def Oz(K:QQq):List Str->Prop
 |[]=>True
 |x::r=>PySem.W.nsIn K mainGlobals x=some none/\Oz K r
section
theorem N7(X:K.In h)(G:h.Ns mainGlobals mg):∀(ds:List Df),Ga ds->AllIn K (ds.map fun d=>(d.x,d.st))->
  ∃fs,zU K mg ds fs/\∀(i:Nat)d,ds[i]? =some d->∃q,fs[i]? =some q/\vH K mg d q.1 q.2/\∀(s:Shared)(us:List Value),us.length=d.ps.length->BindsTo s q.2 ⟨us,[]⟩ (d.ps.zip us)
 |[],_,_=>⟨[],trivial,fun i d e=>by simp at e⟩
 |d::ds,⟨b,bs⟩,⟨⟨f,od,an,sl,oc,kV,dc,pm,cd,ct,a,l,c,p⟩,is⟩=>by
  obtain⟨fs,A,B⟩:=N7 X G ds bs is
  have F:=Yn l c p
  have D:vH K mg d f _:=⟨F,F.binds b,PySem.W.mg_of X G a⟩
  refine⟨(f,_)::fs,⟨D,A⟩,fun i e he=>?_⟩
  cases i with
  |zero=>cases he;exact⟨_,rfl,D,fun s us hl=>.of_eq (b kV dc pm an cd ct us hl)⟩
  |succ i=>exact B i e he
theorem NZ(X:K.In h)(G:h.Ns mainGlobals mg):∀(xs:List Str)(ds:List D),xJ K xs ds->zT K mg xs ds
 |[],[],_=>trivial
 |_::xs,_::ds,⟨g,r⟩=>⟨by cases g with
  |v e hv=>exact XR X G e hv
  |t e l hv=>exact XS X G e l hv,NZ X G xs ds r⟩
 |[],_::_,h=>h.elim
 |_::_,[],h=>h.elim
theorem NT(X:K.In h)(G:h.Ns mainGlobals mg):∀(xs:List Str),Oz K xs->∀x∈xs,mg x=none
 |[],_=>fun x hx=>by cases hx
 |_::r,⟨e,es⟩=>fun x hx=>by
  rcases QCq.mp hx with rfl|hx
  ·exact PySem.W.mg_none_of X G e
  ·exact NT X G r es x hx
def SJ{l:PySem.W.OpenLaw}{fa:Addr}{ds:List Df}{vals:List D}{dL:Df}(X:K.In h)(G:h.Ns mainGlobals mg)(hfa:mg "law"=some (.ref fa))(hx:dL.x="law")(hy:dL.ps=[y])(hL:ds[L]? =some dL)(b:Ga ds)
  (scp:ds.all JG=true)(nC:ds.all (fun d=>(fnOf ds nD d).isSome)=true)(A:AllIn K (ds.map fun d=>(d.x,d.st)))(B:xJ K nD vals)(Z:Oz K m8):
  ∃fd:FuncData,(∀(s:Shared)(v:Value),BindsTo s fd ⟨[v],[]⟩ [(y,v)])/\∀base:Heap,K.In base->base.Ns mainGlobals mg->o6 l.prog w K mg base Ox n fa fd [y] (vR K 1 ((Km ds nD vals 4000000).fn n L)):=by
 obtain⟨fs,A,C⟩:=N7 X G ds b A
 obtain⟨q,e1,e2,e3⟩:=C L dL hL
 have e:=hfa.symm.trans (hx▸e2.at_)
 cases e
 refine⟨q.2,fun s v=>?_,fun base _ _=>?_⟩
 ·have:=e3 s [v] (by rw[hy];rfl)
  rw[hy]at this
  exact this
 ·have:=Pu (P:=l.prog) (w:=w) (base:=base) (turns:=4000000) A (NZ X G nD vals B) scp nC (NT X G _ Z) n L dL q.1 q.2 hL e1
  rw[hy]at this
  exact this
end
def Ja{l:PySem.W.OpenLaw}{loose:List Str}{YP:World->Heap->Prop}{K:Params->QQq}{p:Pg}{L:Nat}(hn:l.most=some 63)(hdf:d.params.defaults=[])
  (hY:∀(w:World)(h:Heap),YP w h->(K w.params).In h)(math:∀ns:List Int,ns.length<=63->∃qs,p.fn 60 L [.val (.lst (ns.map D.int))]=.ok (.val (.bl true)) qs)
  (F:∀(w:World)(mg:QZz)(fa:Addr)(h:Heap),(K w.params).In h->h.Ns mainGlobals mg->mg d.name=some (.ref fa)->
   ∃fd:FuncData,(∀(s:Shared)(u:Value),BindsTo s fd ⟨[u],[]⟩ [(y,u)])/\∀base:Heap,(K w.params).In base->base.Ns mainGlobals mg->o6 l.prog w (K w.params) mg base Ox 60 fa fd [y] (vR (K w.params) 1 (p.fn 60 L))):
  PySem.W.WalkO q loose XP YP l.row.toRowW d [] (fun f vs=>PySem.call f vs):=
 L2.O8 hn (by decide) hdf ⟨rfl,by decide,by decide⟩ hY F (fun _ _ a ns hl hO hS=>VP hO hS (math ns hl) _) fun _ _ _ _ _ z=>z
section
@[simp]theorem adv{f:α->Ev->Out β}:(Out.ok a σ).bind f=f a σ:=rfl
@[simp]theorem acv{f:α->Ev->Out β}:(Out.exc k σ).bind f=.exc k σ:=rfl
@[simp]theorem acw{f:α->Ev->Out β}:(Out.bad:Out α).bind f=.bad:=rfl
@[simp]theorem bO{f:D->Ev->Out β}:(Out.ok (.val d) σ).ao f=f d σ:=rfl
@[simp]theorem kO{f:D->Ev->Out β}:(Out.ok (.new o) σ).ao f=f o.d σ:=rfl
@[simp]theorem Zz{f:D->Ev->Out β}:(Out.exc k σ).ao f=.exc k σ:=rfl
@[simp]theorem ZC{f:D->Ev->Out β}:(Out.bad).ao f=.bad:=rfl
@[simp]theorem cN{f:Bool->Ev->Out β}:(Out.ok (.val (.bl b)) σ).cA gP f=f b σ:=rfl
@[simp]theorem Zw{f:Bool->Ev->Out β}:(Out.ok (.val (.int i)) σ).cA gP f=f (i !=0) σ:=rfl
@[simp]theorem Zu{f:Bool->Ev->Out β}:(Out.ok (.val (.tup xs)) σ).cA gP f=f (!xs.isEmpty) σ:=rfl
@[simp]theorem Zv{f:Bool->Ev->Out β}:(Out.ok (.val (.lst xs)) σ).cA gP f=f (!xs.isEmpty) σ:=rfl
@[simp]theorem Zx{f:Bool->Ev->Out β}:(Out.exc k σ).cA gP f=.exc k σ:=rfl
@[simp]theorem Zy{f:Bool->Ev->Out β}:(Out.bad).cA gP f=.bad:=rfl
@[simp]theorem agB{a:α}:(Out.ok a σ).fl f=f a σ:=rfl
@[simp]theorem afJ:(Out.exc k σ:Out α).fl f=.exc k σ:=rfl
@[simp]theorem afK:(Out.bad:Out α).fl f=.bad:=rfl
@[simp]theorem RZ:(Out.ok (.val d) σ).kj f=f d σ:=rfl
@[simp]theorem adh:(Out.ok (.new o) σ).kj f=f o.d σ:=rfl
@[simp]theorem adi:(Out.exc k σ).kj f=.exc k σ:=rfl
@[simp]theorem adk:(Out.bad).kj f=.bad:=rfl
@[simp]theorem jM:(Out.ok (.val (.bl b)) σ).Iu f=f b σ:=rfl
@[simp]theorem adf:(Out.exc k σ).Iu f=.exc k σ:=rfl
@[simp]theorem adg:(Out.bad).Iu f=.bad:=rfl
@[simp]theorem uL{a:α}:Mini.lift σ (some a)=.ok a σ:=rfl
@[simp]theorem Zj:Mini.lift σ (none:Option α)=.bad:=rfl
@[simp]theorem cF:(Fl.next σ).seq f=f σ:=rfl
@[simp]theorem acX{f:Ev->Fl}:(Fl.ret r σ).seq f=.ret r σ:=rfl
@[simp]theorem acY:(Fl.exc k σ).seq f=.exc k σ:=rfl
@[simp]theorem acZ:(Fl.brk σ).seq f=.brk σ:=rfl
@[simp]theorem aaN:(Fl.cont σ).seq f=.cont σ:=rfl
@[simp]theorem ac0:(Fl.bad).seq f=.bad:=rfl
@[simp]theorem cQ:(Fl.next σ).turn f=f σ:=rfl
@[simp]theorem Zb:(Fl.cont σ).turn f=f σ:=rfl
@[simp]theorem aai:(Fl.brk σ).turn f=.next σ:=rfl
@[simp]theorem aag{f:Ev->Fl}:(Fl.ret r σ).turn f=.ret r σ:=rfl
@[simp]theorem aah:(Fl.exc k σ).turn f=.exc k σ:=rfl
@[simp]theorem aaj:(Fl.bad).turn f=.bad:=rfl
@[simp]theorem aaS:tQ (.val d) σ=.ret (.val d) σ:=rfl
@[simp]theorem aaT:tQ (.new o) σ=.ret (.new o) σ:=rfl
@[simp]theorem aby:pB (some τ)=.next τ:=rfl
@[simp]theorem abz:pB none=.bad:=rfl
@[simp]theorem acF:argv (.val d)=.val d:=rfl
@[simp]theorem acH:argv (.new o)=.val o.d:=rfl
@[simp]theorem acG:argv (.ref k)=.ref k:=rfl
@[simp]theorem aaH:Rv.vV (.val d)=some (.val d):=rfl
@[simp]theorem aaI:Rv.vV (.new o)=some (.own o):=rfl
@[simp]theorem adq:Rv.gK (.val d)=some d:=rfl
@[simp]theorem adt:Rv.gK (.new o)=some o.d:=rfl
@[simp]theorem UT:Ob.d (.lst xs)=.lst xs:=rfl
@[simp]theorem ag6:Ob.d (.dct xs ys)=.cJ xs ys:=rfl
@[simp]theorem ac5:Hl (.tup xs)=some xs.length:=rfl
@[simp]theorem ac6:Hl (.lst xs)=some xs.length:=rfl
@[simp]theorem adx:b1 .len (.tup xs)=some (.val (.int xs.length)):=rfl
@[simp]theorem adz:b1 .len (.lst xs)=some (.val (.int xs.length)):=rfl
@[simp]theorem adA:b1 .int (.int i)=some (.val (.int i)):=rfl
@[simp]theorem adB:b1 .int (.bl b)=some (.val (.int (b2i b))):=rfl
@[simp]theorem acx:b1 .tuple d=(bA d).bind fun xs=>some (.val (.tup xs)):=rfl
@[simp]theorem adw:b1 .list d=(JD d).bind fun xs=>some (.new (.lst xs)):=rfl
@[simp]theorem ad6 xs:JD (.tup xs)=some xs:=rfl
@[simp]theorem ad8 xs:JD (.lst xs)=some xs:=rfl
@[simp]theorem ad7 ks vs:JD (.gw ks vs)=some ks:=rfl
@[simp]theorem NK:b1 .all d=(bA d).bind fun xs=>(bools xs).map fun bs=>.val (.bl (bs.all id)):=rfl
@[simp]theorem af6:b1 .any d=(bA d).bind fun xs=>(bools xs).map fun bs=>.val (.bl (bs.any id)):=rfl
@[simp]theorem adC:b1 .dict d=(bA d).bind fun xs=>((dictOf [] [] xs).map fun p=>Rv.new (.dct p.1 p.2)).or ((gk [] [] xs).map fun p=>.new (.sdt p.1 p.2)):=rfl
@[simp]theorem ZF:b1 .sorted d=(iC d).bind fun xs=>(ph xs).map fun ys=>.new (.lst ys):=rfl
@[simp]theorem Zf:bA (.tup xs)=some xs:=rfl
@[simp]theorem uy:bA (.lst xs)=some xs:=rfl
@[simp]theorem Zi:iC (.lst xs)=some xs:=rfl
@[simp]theorem adc:getD (.tup xs) (.int i)=at? xs i:=rfl
@[simp]theorem ade:getD (.lst xs) (.int i)=at? xs i:=rfl
@[simp]theorem add_int:binop .add (.int i) (.int j)=some (.val (.int (i+j))):=rfl
@[simp]theorem sub_int:binop .sub (.int i) (.int j)=some (.val (.int (i-j))):=rfl
@[simp]theorem mul_int:binop .mul (.int i) (.int j)=if small i||small j then some (.val (.int (i*j)))else none:=rfl
@[simp]theorem mod_int:binop .mod (.int i) (.int j)=if 0<j then some (.val (.int (i%j)))else none:=rfl
@[simp]theorem lt_int:aH .lt (.int i) (.int j)=some (decide (i<j)):=rfl
@[simp]theorem gt_int:aH .gt (.int i) (.int j)=some (decide (j<i)):=rfl
@[simp]theorem le_int:aH .le (.int i) (.int j)=some (decide (i<=j)):=rfl
@[simp]theorem agx:aH .jL d .non=some (lA d):=rfl
@[simp]theorem aeU:aH .notN d .non=some (!lA d):=rfl
@[simp]theorem Zn:lA (.tup xs)=false:=rfl
@[simp]theorem Zo:lA .non=true:=rfl
@[simp]theorem eq_int:aH .eq (.int i) (.int j)=some (i==j):=rfl
@[simp]theorem ne_int:aH .ne (.int i) (.int j)=some (!(i==j)):=rfl
@[simp]theorem ag5:aH .eq (.bl b) (.bl c)=some (b==c):=rfl
@[simp]theorem agt:aH .ne (.bl b) (.bl c)=some (!(b==c)):=rfl
@[simp]theorem eq_str:aH .eq (.str x) (.str y)=some (decide (x=y)):=rfl
@[simp]theorem ne_str:aH .ne (.str x) (.str y)=some (!decide (x=y)):=rfl
@[simp]theorem ZJ:E.aB (.var k)=some k:=rfl
@[simp]theorem ZW d:E.aB (.con d)=none:=rfl
@[simp]theorem YC k:E.aB (.glob k)=none:=rfl
@[simp]theorem ZK a:E.aB (.tup a)=none:=rfl
@[simp]theorem ZQ a:E.aB (.lis a)=none:=rfl
@[simp]theorem acD o a b:E.aB (.op o a b)=none:=rfl
@[simp]theorem ZP a:E.aB (.neg a)=none:=rfl
@[simp]theorem ZX o a b:E.aB (.cmp o a b)=none:=rfl
@[simp]theorem U4 o p a b c:E.aB (.chain o p a b c)=none:=rfl
@[simp]theorem ZZ a:E.aB (.and a)=none:=rfl
@[simp]theorem acC a:E.aB (.or a)=none:=rfl
@[simp]theorem ZM a:E.aB (.not a)=none:=rfl
@[simp]theorem ZR a b c:E.aB (.ite a b c)=none:=rfl
@[simp]theorem ZV a b:E.aB (.idx a b)=none:=rfl
@[simp]theorem ZL a b c:E.aB (.slc a b c)=none:=rfl
@[simp]theorem YD f a:E.aB (.call f a)=none:=rfl
@[simp]theorem acE b a:E.aB (.bi b a)=none:=rfl
@[simp]theorem ZS a t:E.aB (.isi a t)=none:=rfl
@[simp]theorem ZG a b:E.aB (.zip a b)=none:=rfl
@[simp]theorem Sy a:E.aB (.range1 a)=none:=rfl
@[simp]theorem U3 a b:E.aB (.count a b)=none:=rfl
@[simp]theorem YB(i:Nat):E.aB (.pop0 i)=none:=rfl
@[simp]theorem U0 i a:E.aB (.popAt i a)=none:=rfl
@[simp]theorem sX n tg a b c:E.aB (.comp n tg a b c)=none:=rfl
@[simp]theorem acB a:E.aB (.rd a)=none:=rfl
def fc xs(j:Nat)(h:j<xs.length):at? xs (j:Int)=xs[j]? :=by
 unfold at? ix?
 rw[if_neg (by omega:¬(j:Int)<0),if_pos ⟨by omega,by omega⟩]
 simp
@[simp]theorem at0:at? (a::xs) 0=some a:=(fc _ 0 (by simp)).trans rfl
@[simp]theorem at1{a b:D}:at? (a::b::xs) 1=some b:=(fc _ 1 (by simp)).trans rfl
@[simp]theorem at2{a b c:D}:at? (a::b::c::xs) 2=some c:=(fc _ 2 (by simp)).trans rfl
@[simp]theorem at3{a b c e:D}:at? (a::b::c::e::xs) 3=some e:=(fc _ 3 (by simp)).trans rfl
end
@[simp]theorem ady{ks vs:List D}:b1 .len (.gw ks vs)=some (.val (.int ks.length)):=rfl
def aK(bs:List Bool):D:=.tup (bs.map .bl)
noncomputable def dN:Nat->List (List Bool)
 |0=>[[]]
 |k+1=>(dN k).map (· ++[false])++(dN k).map (· ++[true])
noncomputable def masks:Nat->List (List Bool)
 |0=>[[]]
 |k+1=>(masks k).map (false:: ·)++(masks k).map (true:: ·)
theorem uK:∀(bs:List Bool),bs∈masks bs.length
 |[]=>by simp[masks]
 |b::bs=>by
  have:=uK bs
  cases b<;>simp[masks,this]
noncomputable def mQ{α:Type}:List Bool->List α->List α
 |b::bs,x::xs=>if b then x::mQ bs xs else mQ bs xs
 |_,_=>[]
def yZ:List (List Bool)->Bool
 |a::b::r=>kY a b&&yZ (b::r)
 |_=>true
noncomputable def qx(k:Nat)(bs:List Bool):Bool:=match ph (mQ bs ((dN k).map aK))with
 |some ws=>if ws.isEmpty then true else match jn ws with
  |some rs=>(rs.all fun r=>r.length==k)&&yZ rs
  |none=>false
 |none=>false
def aaG:(masks 2).all (qx 1)=true:=by decide+kernel
def aaF:(masks 4).all (qx 2)=true:=by decide+kernel
def aaE:(masks 8).all (qx 3)=true:=by decide+kernel
theorem vq:∀{ys:List D}{bs:List Bool},bools ys=some bs->ys=bs.map .bl
 |[],bs,e=>by cases e;rfl
 |y::ys,bs,e=>by
  cases y with
  |bl b=>
   simp only[bools]at e
   cases q:bools ys with
   |none=>rw[q]at e;cases e
   |some r=>rw[q]at e;cases e;rw[vq q];rfl
  |_=>cases e
theorem uB:∀{xs:List D}{rs:List (List Bool)},jn xs=some rs->xs=rs.map aK
 |[],rs,e=>by cases e;rfl
 |y::ys,rs,e=>by
  cases y with
  |tup zs=>
   simp only[jn]at e
   cases q:bools zs with
   |none=>rw[q]at e;cases e
   |some bs=>
    cases bs with
    |nil=>rw[q]at e;cases e
    |cons b bs=>
     rw[q]at e
     cases q2:jn ys with
     |none=>rw[q2]at e;cases e
     |some rs'=>
      rw[q2]at e
      cases e
      rw[uB q2,vq q]
      rfl
  |_=>cases e
theorem nO:∀k,(dN k).length=2 ^k
 |0=>rfl
 |k+1=>by simp[dN,nO k];omega
def Gp k(h1:1<=k)(h3:k<=3)bs(hl:bs.length=2 ^k):∃rs,ph (mQ bs ((dN k).map aK))=some (rs.map aK)/\(∀r∈rs,r.length=k)/\yZ rs=true:=by
 have ok:qx k bs=true:=by
  have hm:=uK bs
  rw[hl]at hm
  rcases (by omega:k=1\/k=2\/k=3)with rfl|rfl|rfl
  ·exact List.all_eq_true.mp aaG bs hm
  ·exact List.all_eq_true.mp aaF bs hm
  ·exact List.all_eq_true.mp aaE bs hm
 unfold qx at ok
 cases q:ph _ with
 |none=>rw[q]at ok;cases ok
 |some ws=>
  rw[q]at ok
  simp only at ok
  split at ok
  ·rename_i he
   have:ws=[]:=by simpa using he
   subst this
   exact⟨[],rfl,fun r h=>(by cases h),rfl⟩
  ·cases q2:jn ws with
   |none=>rw[q2]at ok;cases ok
   |some rs=>
    rw[q2]at ok
    simp only[QUq,List.all_eq_true,beq_iff_eq]at ok
    exact⟨rs,by rw[uB q2],ok.1,ok.2⟩
theorem filter_tt{α:Type}:∀(xs:List α),xs.filter (fun _=>true)=xs
 |[]=>rfl
 |x::xs=>by rw[List.filter_cons_of_pos rfl,filter_tt xs]
def bB(s:Sl):Prop:=s=.un\/∃d,s=.val d
def iu(h:bB s)d(r:Ev):bV (.name 0) d (s::r)=some (.val d::r):=by
 rcases h with rfl|⟨e,rfl⟩<;>rfl
def ux(h:bB s)(h':bB t)a b(r:Ev):bV (.tup [0,1]) (.tup [a,b]) (s::t::r)=some (.val a:: .val b::r):=by
 rcases h with rfl|⟨e,rfl⟩<;>rcases h' with rfl|⟨e',rfl⟩<;>rfl
def xd c d σ:ev c (.con d) σ=.ok (.val d) σ:=rfl
section
variable{cond elt:Ev->Out Rv}
theorem go1{f:D->D}{p:D->Bool}:∀(xs acc:List D)(s:Sl),bB s->(∀x∈xs,cond (.val x::τ)=.ok (.val (.bl (p x))) (.val x::τ))->(∀x∈xs,p x=true->elt (.val x::τ)=.ok (.val (f x)) (.val x::τ))->
  ∃s',bB s'/\aO (.name 0) cond elt xs acc (s::τ)=.ok (acc++(xs.filter p).map f) (s'::τ)
 |[]=>fun acc s hs _ _=>⟨s,hs,by simp[aO]⟩
 |x::xs=>fun acc s hs hc he=>by
  rw[aO,iu hs]
  simp only
  rw[hc x QYz,cN]
  cases q:p x with
  |true=>
   obtain⟨s',a1,a2⟩:=go1 xs _ _ (.inr ⟨x,rfl⟩) (fun y hy=>hc y (QYq _ hy)) (fun y hy=>he y (QYq _ hy))
   refine⟨s',a1,?_⟩
   rw[if_pos rfl,he x QYz q,bO,a2]
   simp[q]
  |false=>
   obtain⟨s',a1,a2⟩:=go1 xs acc _ (.inr ⟨x,rfl⟩) (fun y hy=>hc y (QYq _ hy)) (fun y hy=>he y (QYq _ hy))
   refine⟨s',a1,?_⟩
   rw[if_neg (by simp),a2]
   simp[q]
def pairD(p:D×D):D:=.tup [p.1,p.2]
theorem go2{f:D×D->D}{p:D×D->Bool}:∀(xs:List (D×D))(acc:List D)(s t:Sl),bB s->bB t->(∀x∈xs,cond (.val x.1:: .val x.2::τ)=.ok (.val (.bl (p x))) (.val x.1:: .val x.2::τ))->
  (∀x∈xs,p x=true->elt (.val x.1:: .val x.2::τ)=.ok (.val (f x)) (.val x.1:: .val x.2::τ))->
  ∃s' t',aO (.tup [0,1]) cond elt (xs.map pairD) acc (s::t::τ)=.ok (acc++(xs.filter p).map f) (s'::t'::τ)
 |[]=>fun acc s t hs ht _ _=>⟨s,t,by simp[aO]⟩
 |x::xs=>fun acc s t hs ht hc he=>by
  rw[Qyz,aO,show pairD x=.tup [x.1,x.2]from rfl,ux hs ht]
  simp only
  rw[hc x QYz,cN]
  cases q:p x with
  |true=>
   obtain⟨s',t',a2⟩:=go2 xs _ _ _ (.inr ⟨_,rfl⟩) (.inr ⟨_,rfl⟩) (fun y hy=>hc y (QYq _ hy)) (fun y hy=>he y (QYq _ hy))
   refine⟨s',t',?_⟩
   rw[if_pos rfl,he x QYz q,bO,a2]
   simp[q]
  |false=>
   obtain⟨s',t',a2⟩:=go2 xs acc _ _ (.inr ⟨_,rfl⟩) (.inr ⟨_,rfl⟩) (fun y hy=>hc y (QYq _ hy)) (fun y hy=>he y (QYq _ hy))
   refine⟨s',t',?_⟩
   rw[if_neg (by simp),a2]
   simp[q]
end
section
def rY f p(hi:ev c it σ=.ok r τ)(hr:r.gK=some d)(hd:items d=some xs)(hc:∀x∈xs,ev c co (.val x::τ)=.ok (.val (.bl (p x))) (.val x::τ))(he:∀x∈xs,p x=true->ev c el (.val x::τ)=.ok (.val (f x)) (.val x::τ)):
  ev c (.comp 1 (.name 0) it co el) σ=.ok (.new (.lst ((xs.filter p).map f))) τ:=by
 obtain⟨s',_,a⟩:=go1 xs [] .un (.inl rfl) hc he
 rw[lD,hi]
 have b:∀{β:Type}(g:D->Ev->Out β),(Out.ok r τ).ao g=g d τ:=fun g=>by cases r<;>simp[Rv.gK]at hr<;>subst hr<;>rfl
 rw[b]
 simp only[hd]
 rw[show List.replicate 1 Sl.un++τ=.un::τ from rfl,a]
 simp
def pJ f(hi:ev c it σ=.ok r τ)(hr:r.gK=some d)(hd:items d=some xs)(he:∀x∈xs,ev c el (.val x::τ)=.ok (.val (f x)) (.val x::τ)):
  ev c (.comp 1 (.name 0) it AAL el) σ=.ok (.new (.lst (xs.map f))) τ:=by
 have:=rY f (fun _=>true) hi hr hd (fun x _=>xd c _ _) (fun x hx _=>he x hx)
 rw[filter_tt]at this
 exact this
def Nh{ps:List (D×D)}f p(hi:ev c it σ=.ok r τ)(hr:r.gK=some d)(hd:items d=some (ps.map pairD))(hc:∀x∈ps,ev c co (.val x.1:: .val x.2::τ)=.ok (.val (.bl (p x))) (.val x.1:: .val x.2::τ))
  (he:∀x∈ps,p x=true->ev c el (.val x.1:: .val x.2::τ)=.ok (.val (f x)) (.val x.1:: .val x.2::τ)):
  ev c (.comp 2 (.tup [0,1]) it co el) σ=.ok (.new (.lst ((ps.filter p).map f))) τ:=by
 obtain⟨s',t',a⟩:=go2 ps [] .un .un (.inl rfl) (.inl rfl) hc he
 rw[lD,hi]
 have b:∀{β:Type}(g:D->Ev->Out β),(Out.ok r τ).ao g=g d τ:=fun g=>by cases r<;>simp[Rv.gK]at hr<;>subst hr<;>rfl
 rw[b]
 simp only[hd]
 rw[show List.replicate 2 Sl.un++τ=.un:: .un::τ from rfl,a]
 simp
def Ni{ps:List (D×D)}f(hi:ev c it σ=.ok r τ)(hr:r.gK=some d)(hd:items d=some (ps.map pairD))(he:∀x∈ps,ev c el (.val x.1:: .val x.2::τ)=.ok (.val (f x)) (.val x.1:: .val x.2::τ)):
  ev c (.comp 2 (.tup [0,1]) it AAL el) σ=.ok (.new (.lst (ps.map f))) τ:=by
 have:=Nh f (fun _=>true) hi hr hd (fun x _=>xd c _ _) (fun x hx _=>he x hx)
 rw[filter_tt]at this
 exact this
end
section
theorem Yv{xs:List D}f p(hi:ev c it σ=.ok r τ0)(hr:r.gK=some d)(hd:items d=some (x0::xs))(hc0:ev c co (.val x0::τ0)=.ok (.val (.bl (p x0))) (.val x0::τ))(hc:∀x∈xs,ev c co (.val x::τ)=.ok (.val (.bl (p x))) (.val x::τ))
  (he:∀x∈x0::xs,p x=true->ev c el (.val x::τ)=.ok (.val (f x)) (.val x::τ)):ev c (.comp 1 (.name 0) it co el) σ=.ok (.new (.lst (((x0::xs).filter p).map f))) τ:=by
 rw[lD,hi]
 have b:∀{β:Type}(g:D->Ev->Out β),(Out.ok r τ0).ao g=g d τ0:=fun g=>by cases r<;>simp[Rv.gK]at hr<;>subst hr<;>rfl
 rw[b]
 simp only[hd]
 rw[show List.replicate 1 Sl.un++τ0=.un::τ0 from rfl,aO,iu (.inl rfl)]
 simp only
 rw[hc0,cN]
 cases q:p x0 with
 |true=>
  obtain⟨s',_,a⟩:=go1 xs _ _ (.inr ⟨_,rfl⟩) hc (fun x hx=>he x (QYq _ hx))
  rw[if_pos rfl,he x0 QYz q,bO,a]
  simp[q]
 |false=>
  obtain⟨s',_,a⟩:=go1 xs [] _ (.inr ⟨_,rfl⟩) hc (fun x hx=>he x (QYq _ hx))
  rw[if_neg (by simp),a]
  simp[q]
theorem Yu{ps:List (D×D)}f p(hi:ev c it σ=.ok r τ0)(hr:r.gK=some d)(hd:items d=some ((x0::ps).map pairD))(hc0:ev c co (.val x0.1:: .val x0.2::τ0)=.ok (.val (.bl (p x0))) (.val x0.1:: .val x0.2::τ))
  (hc:∀x∈ps,ev c co (.val x.1:: .val x.2::τ)=.ok (.val (.bl (p x))) (.val x.1:: .val x.2::τ))
  (he:∀x∈x0::ps,p x=true->ev c el (.val x.1:: .val x.2::τ)=.ok (.val (f x)) (.val x.1:: .val x.2::τ)):ev c (.comp 2 (.tup [0,1]) it co el) σ=.ok (.new (.lst (((x0::ps).filter p).map f))) τ:=by
 rw[lD,hi]
 have b:∀{β:Type}(g:D->Ev->Out β),(Out.ok r τ0).ao g=g d τ0:=fun g=>by cases r<;>simp[Rv.gK]at hr<;>subst hr<;>rfl
 rw[b]
 simp only[hd]
 rw[show List.replicate 2 Sl.un++τ0=.un:: .un::τ0 from rfl,Qyz,aO,show pairD x0=.tup [x0.1,x0.2]from rfl,ux (.inl rfl) (.inl rfl)]
 simp only
 rw[hc0,cN]
 cases q:p x0 with
 |true=>
  obtain⟨s',t',a⟩:=go2 ps _ _ _ (.inr ⟨_,rfl⟩) (.inr ⟨_,rfl⟩) hc (fun x hx=>he x (QYq _ hx))
  rw[if_pos rfl,he x0 QYz q,bO,a]
  simp[q]
 |false=>
  obtain⟨s',t',a⟩:=go2 ps [] _ _ (.inr ⟨_,rfl⟩) (.inr ⟨_,rfl⟩) hc (fun x hx=>he x (QYq _ hx))
  rw[if_neg (by simp),a]
  simp[q]
end
theorem jO:∀(bs:List Bool),bools (bs.map D.bl)=some bs
 |[]=>rfl
 |b::bs=>by simp[bools,jO bs]
theorem sJ:∀{α:Type}(xs:List α),bools (xs.map fun _=>D.bl true)=some (xs.map fun _=>true)
 |_,[]=>rfl
 |_,x::xs=>by simp[bools,sJ xs]
theorem CK:∀{α:Type}(xs:List α),(xs.map fun _=>true).all id=true
 |_,[]=>rfl
 |_,x::xs=>by simpa using CK xs
section
def all1(hi:ev c it σ=.ok r τ)(hr:r.gK=some d)(hd:items d=some xs)(he:∀x∈xs,ev c el (.val x::τ)=.ok (.val (.bl true)) (.val x::τ)):
  ev c (.bi .all (.comp 1 (.name 0) it AAL el)) σ=.ok (.val (.bl true)) τ:=by
 rw[nG]
 simp only[sX]
 rw[pJ _ hi hr hd he,kO]
 simp only[UT,NK,uy,QHq]
 rw[sJ]
 simp only[Option.map_some,uL,CK]
def all2{ps:List (D×D)}(hi:ev c it σ=.ok r τ)(hr:r.gK=some d)(hd:items d=some (ps.map pairD))(he:∀x∈ps,ev c el (.val x.1:: .val x.2::τ)=.ok (.val (.bl true)) (.val x.1:: .val x.2::τ)):
  ev c (.bi .all (.comp 2 (.tup [0,1]) it AAL el)) σ=.ok (.val (.bl true)) τ:=by
 rw[nG]
 simp only[sX]
 rw[Ni _ hi hr hd he,kO]
 simp only[UT,NK,uy,QHq]
 rw[sJ]
 simp only[Option.map_some,uL,CK]
end
theorem cP:∀(xs ys:List D),aQ xs ys=(xs.zip ys).map pairD
 |[],_=>by simp[aQ]
 |_::_,[]=>by simp[aQ]
 |x::xs,y::ys=>by simp[aQ,cP xs ys,pairD]
end Mini
end
section
namespace Mini
open PySem
@[simp]def fin(k:Nat):Fl->Res
 |.next σ=>.ok (.val .non) (σ.take k)
 |.ret r σ=>.ok r (σ.take k)
 |.exc c σ=>.exc c (σ.take k)
 |_=>.bad
def Qd c f ps(h:ps.length=f.pars):iy c f ps=fin f.pars (ex c f.body (ps++List.replicate (f.names-f.pars) .un)):=by
 unfold iy
 rw[if_pos h]
 cases ex c f.body _<;>rfl
def sO{α:Type}(b:Bool)(r:Out α):Out α:=if b then .bad else r
def Yy(b:Bool)(r:Fl):Fl:=if b then .bad else r
def Bc{α:Type}(b:Bool)(r:Option α):Option α:=if b then none else r
@[simp]theorem Su(r:Out α):sO false r=r:=rfl
@[simp]theorem af5 r:Yy false r=r:=rfl
@[simp]theorem abC(r:Option α):Bc false r=r:=rfl
@[simp]theorem abB(r:Option α):Bc true r=none:=rfl
@[simp]def aaV(i:Nat)(σ:Ev):Option Sl->Out Rv
 |some (.val d)=>.ok (.val d) σ
 |some (.own o)=>.ok (.val o.d) (σ.set i (.val o.d))
 |_=>.bad
@[simp]theorem aaU i σ:lu i σ=aaV i σ σ[i]? :=rfl
@[simp]def abG:Option Sl->Option D
 |some (.val d)=>some d
 |some (.own o)=>some o.d
 |some (.bor o)=>some o.d
 |_=>none
@[simp]theorem yP i σ:aR i σ=abG σ[i]? :=rfl
noncomputable def vW(i:Nat)(σ:Ev)(s:Sl):Option Sl->Option Ev
 |some (.bor _)=>none
 |some _=>some (σ.set i s)
 |none=>none
@[simp]theorem aaJ i s σ:cu i s σ=vW i σ s σ[i]? :=rfl
@[simp]theorem aaK(i σ s d):vW i σ s (some (.val d))=some (σ.set i s):=rfl
@[simp]theorem aaL(i σ s o):vW i σ s (some (.own o))=some (σ.set i s):=rfl
@[simp]theorem acW(i σ s):vW i σ s (some .un)=some (σ.set i s):=rfl
@[simp]theorem aaM(i σ s o):vW i σ s (some (.bor o))=none:=rfl
@[simp]def v7(i:Nat)(σ:Ev)(q:Ob):Ev:=σ.set i (.own q)
@[simp]def Wg(i:Nat)(σ:Ev)(q:Ob):Ev:=σ.set i (.bor q)
@[simp]def aal(i:Nat)(f:Ob->Option Ob)(σ:Ev):Option Sl->Option Ev
 |some (.own o)=>(f o).map (v7 i σ)
 |some (.bor o)=>(f o).map (Wg i σ)
 |_=>none
@[simp]theorem aak i f σ:cM i f σ=aal i f σ σ[i]? :=rfl
@[simp]def okB(r:Rv):Option Ev->Out Rv
 |some σ=>.ok r σ
 |none=>.bad
@[simp]def acr(as:List Rv)(σ:Ev):Res->Out Rv
 |.ok r qs=>okB r (giveBack as qs σ)
 |_=>.bad
@[simp]def acs(c:Cf)(f:Nat)(as:List Rv)(σ:Ev):Option (List Sl)->Out Rv
 |none=>.bad
 |some ps=>acr as σ (c.fn f ps)
@[simp]theorem acu c f as σ:sG c f as σ=acs c f as σ (enter as σ):=rfl
@[simp]theorem adp(σ):enter [] σ=some []:=rfl
@[simp]theorem ado(d as σ):enter (.val d::as) σ=(enter as σ).map (.val d:: ·):=rfl
@[simp]def afY(r:Option (List Sl)):Option Sl->Option (List Sl)
 |some (.own o)=>r.map (.bor o:: ·)
 |some (.bor o)=>r.map (.bor o:: ·)
 |_=>none
@[simp]theorem adn(i as σ):enter (.ref i::as) σ=Bc (as.any (j9 i)) (afY (enter as σ) σ[i]?):=rfl
@[simp]theorem aiy c(i σ):ev c (.var i) σ=lu i σ:=rfl
@[simp]theorem aix c(d σ):ev c (.con d) σ=.ok (.val d) σ:=rfl
@[simp]theorem aiw c(k σ):ev c (.glob k) σ=match c.gl k with|some d=>.ok (.val d) σ|none=>.bad:=rfl
@[simp]def adT(ds:List D):Option Rv:=if fits ds.length then some (.val (.tup ds))else none
@[simp]def ae1(ds:List D):Option Rv:=if fits ds.length then some (.new (.lst ds))else none
@[simp]def afa(rs:List Rv)(σ:Ev):Out Rv:=lift σ ((aX rs).bind adT)
@[simp]def afg(rs:List Rv)(σ:Ev):Out Rv:=lift σ ((aX rs).bind ae1)
@[simp]theorem aiv c(es σ):ev c (.tup es) σ=(evs c es σ).bind afa:=rfl
@[simp]theorem aiu c(es σ):ev c (.lis es) σ=(evs c es σ).bind afg:=rfl
@[simp]def afd(o:YH)(x y:D)(σ:Ev):Out Rv:=lift σ (binop o x y)
@[simp]def kOp(c:Cf)(o:YH)(b:E)(x:D)(σ:Ev):Out Rv:=(ev c b σ).ao (afd o x)
@[simp]theorem ait c(o a b σ):ev c (.op o a b) σ=(ev c a σ).ao (kOp c o b):=rfl
@[simp]theorem ais c(a σ):ev c (.neg a) σ=(ev c a σ).ao fun x σ=>lift σ (match x with|.int i=>some (.val (.int (-i)))|_=>none):=rfl
@[simp]def qV(q:Bool):Rv:=.val (.bl q)
@[simp]def af1(o:Cm)(x d:D):Option Rv:=(aH o x d).map qV
@[simp]def Lw(o:Cm)(x y:D)(σ:Ev):Out Rv:=lift σ ((aH o x y).map qV)
@[simp]def afp(c:Cf)(o:Cm)(b:E)(x:D)(σ:Ev):Option Nat->Out Rv
 |some k=>lift σ ((aR k σ).bind (af1 o x))
 |none=>(ev c b σ).ao (Lw o x)
@[simp]def ab0(c:Cf)(o:Cm)(b:E)(x:D)(σ:Ev):Out Rv:=afp c o b x σ b.aB
@[simp]theorem air c(o a b σ):ev c (.cmp o a b) σ=(ev c a σ).ao (ab0 c o b):=rfl
noncomputable def Xn(c:Cf)(o:Cm)(d:E)(y:D)(q:Bool)(σ:Ev):Out Rv:=if q then(ev c d σ).ao (Lw o y)else .ok (.val (.bl false)) σ
@[simp]theorem afq(c o d y σ):Xn c o d y true σ=(ev c d σ).ao (Lw o y):=rfl
@[simp]theorem afr(c o d y σ):Xn c o d y false σ=.ok (.val (.bl false)) σ:=rfl
@[simp]def afs(c:Cf)(o p:Cm)(d:E)(x y:D)(σ:Ev):Out Rv:=(lift σ (aH o x y)).bind (Xn c p d y)
@[simp]def kCh(c:Cf)(o p:Cm)(b d:E)(x:D)(σ:Ev):Out Rv:=(ev c b σ).ao (afs c o p d x)
@[simp]theorem aiq c(π ρ a b d σ):ev c (.chain π ρ a b d) σ=(ev c a σ).ao (kCh c π ρ b d):=rfl
@[simp]theorem aip c(es σ):ev c (.and es) σ=gJ c es σ:=rfl
@[simp]theorem ag4 c(es σ):ev c (.or es) σ=mZ c es σ:=rfl
@[simp]def afe(b:Bool)(σ:Ev):Out Rv:=.ok (.val (.bl (!b))) σ
@[simp]theorem ag3 c(a σ):ev c (.not a) σ=(ev c a σ).cA gP afe:=rfl
def Lr(c:Cf)(a b:E)(q:Bool)(σ:Ev):Out Rv:=if q then ev c a σ else ev c b σ
@[simp]theorem ac9(c a b σ):Lr c a b true σ=ev c a σ:=rfl
@[simp]theorem ada(c a b σ):Lr c a b false σ=ev c b σ:=rfl
@[simp]theorem ag2 c(t a b σ):ev c (.ite t a b) σ=(ev c t σ).cA gP (Lr c a b):=rfl
@[simp]def afF(y d:D):Option Rv:=(getD d y).map Rv.val
@[simp]def afj(k:Nat)(y:D)(σ:Ev):Out Rv:=lift σ ((aR k σ).bind (afF y))
@[simp]def abT(x y:D)(σ:Ev):Out Rv:=lift σ ((getD x y).map Rv.val)
@[simp]def abU(c:Cf)(i:E)(x:D)(σ:Ev):Out Rv:=(ev c i σ).ao (abT x)
@[simp]def afB(c:Cf)(a i:E)(σ:Ev):Option Nat->Out Rv
 |some k=>sO (aR k σ).isNone ((ev c i σ).ao (afj k))
 |none=>(ev c a σ).ao (abU c i)
@[simp]theorem ag1 c(a i σ):ev c (.idx a i) σ=afB c a i σ a.aB:=rfl
@[simp]def afb(hi:E)(x:D)(l:Option Int)(h:D)(σ:Ev):Out Rv:=lift σ ((cW hi.jL h).bind (gR x l))
@[simp]def slM(c:Cf)(hi:E)(x:D)(σ:Ev):Option (Option Int)->Out Rv
 |none=>.bad
 |some l=>(ev c hi σ).ao (afb hi x l)
@[simp]def afc(c:Cf)(lo hi:E)(x l:D)(σ:Ev):Out Rv:=slM c hi x σ (cW lo.jL l)
@[simp]def kSl(c:Cf)(lo hi:E)(x:D)(σ:Ev):Out Rv:=(ev c lo σ).ao (afc c lo hi x)
@[simp]theorem ag0 c(a lo hi σ):ev c (.slc a lo hi) σ=(ev c a σ).ao (kSl c lo hi):=rfl
@[simp]theorem agZ c(σ):ev c .noneE σ=.ok (.val .non) σ:=rfl
@[simp]theorem agY c(f as σ):ev c (.call f as) σ=(evs c as σ).bind (sG c f):=rfl
@[simp]def aeO(i:Nat)(σ:Ev):Option Sl->Out Rv
 |some (.own _)=>.ok (.ref i) σ
 |some (.bor _)=>.ok (.ref i) σ
 |_=>.bad
@[simp]theorem agX c(i σ):ev c (.ref i) σ=aeO i σ σ[i]? :=rfl
@[simp]theorem agW c(e σ):ev c (.rd e) σ=ev c e σ:=rfl
@[simp]def afi(t:Ty)(x:D)(σ:Ev):Out Rv:=.ok (.val (.bl (oF t x))) σ
@[simp]theorem agV c(a t σ):ev c (.isi a t) σ=(ev c a σ).ao (afi t):=rfl
@[simp]def kBi(b:Bi)(x:D)(σ:Ev):Out Rv:=lift σ (b1 b x)
@[simp]def biM(c:Cf)(b:Bi)(a:E)(σ:Ev):Option Nat->Out Rv
 |some k=>lift σ ((aR k σ).bind (b1 b))
 |none=>(ev c a σ).ao (kBi b)
@[simp]theorem agU c(b a σ):ev c (.bi b a) σ=biM c b a σ a.aB:=rfl
noncomputable def abP(x:D)(σ:Ev):Out Rv:=lift σ (match x with|.int n=>if fits n.toNat&&DX n then some (.val (.lst (bF 0 n.toNat)))else none|_=>none)
@[simp]theorem abO n(σ):abP (.int n) σ=lift σ (if fits n.toNat&&DX n then some (.val (.lst (bF 0 n.toNat)))else none):=rfl
@[simp]theorem agT c(a σ):ev c (.range1 a) σ=(ev c a σ).ao abP:=rfl
@[simp]def adI(xs ys:List D):Rv:=.val (.lst (aQ xs ys))
@[simp]def adJ(y:D)(xs:List D):Option Rv:=(bA y).map (adI xs)
@[simp]def abM(x y:D)(σ:Ev):Out Rv:=lift σ ((bA x).bind (adJ y))
@[simp]def ae9(c:Cf)(b:E)(x:D)(σ:Ev):Out Rv:=(ev c b σ).ao (abM x)
@[simp]theorem agS c(a b σ):ev c (.zip a b) σ=(ev c a σ).ao (ae9 c b):=rfl
@[simp]def abZ(x y:D)(σ:Ev):Out Rv:=lift σ (zB x y)
@[simp]def afo(c:Cf)(b:E)(x:D)(σ:Ev):Out Rv:=sO (bA x).isNone ((ev c b σ).ao (abZ x))
@[simp]theorem agR c(a b σ):ev c (.count a b) σ=(ev c a σ).ao (afo c b):=rfl
@[simp]theorem adb(ks vs):rB (some (.cJ ks vs))=true:=rfl
@[simp]theorem agQ c(k a σ):ev c (.popAt k a) σ=sO (!cH (aR k σ)) ((ev c a σ).ao (iz k)):=rfl
@[simp]def abY(c:Cf)(nl:Nat)(tg:Tg)(cond elt:E)(x:D)(σ:Ev):Out Rv:=match items x with
  |some xs=>match aO tg (ev c cond) (ev c elt) xs [] (List.replicate nl .un++σ)with
   |.ok ys τ=>.ok (.new (.lst ys)) (τ.drop nl)
   |_=>.bad
  |none=>.bad
@[simp]theorem u9 c(nl tg it cond elt σ):ev c (.comp nl tg it cond elt) σ=(ev c it σ).ao (abY c nl tg cond elt):=rfl
@[simp]def abW(x:Rv)(xs:List Rv)(σ:Ev):Out (List Rv):=.ok (argv x::xs) σ
@[simp]def afm(c:Cf)(t:E)(x:Rv)(σ:Ev):Out (List Rv):=(evs c t σ).bind (abW x)
@[simp]theorem agK c(σ):evs c .nil σ=.ok [] σ:=rfl
@[simp]theorem agJ c(h t σ):evs c (.cons h t) σ=(ev c h σ).bind (afm c t):=rfl
@[simp]theorem R3 c(σ):ex c .nil σ=.next σ:=rfl
@[simp]theorem iI c(h t σ):ex c (.cons h t) σ=(ex c h σ).seq (ex c t):=rfl
@[simp]theorem aio c(σ):ex c .brk σ=.brk σ:=rfl
@[simp]theorem ain c(σ):ex c .cont σ=.cont σ:=rfl
@[simp]def V2(i:Nat)(σ:Ev)(s:Sl):Option Ev:=cu i s σ
@[simp]def Xl(i:Nat)(x:Rv)(σ:Ev):Fl:=pB (x.vV.bind (V2 i σ))
@[simp]theorem afV c(i e σ):ex c (.set i e) σ=(ev c e σ).fl (Xl i):=rfl
@[simp]def abN(is:List Nat)(x:D)(σ:Ev):Fl:=pB (bV (.tup is) x σ)
@[simp]theorem aim c(is e σ):ex c (.setT is e) σ=(ev c e σ).kj (abN is):=rfl
@[simp]def afh(k:Nat)(x y:D)(σ:Ev):Fl:=pB (cM k (pP y x) σ)
@[simp]def kIx(c:Cf)(k:Nat)(ix:E)(x:D)(σ:Ev):Fl:=Yy (aR k σ).isNone ((ev c ix σ).kj (afh k x))
@[simp]theorem ail c(k ix e σ):ex c (.setIx k ix e) σ=(ev c e σ).kj (kIx c k ix):=rfl
@[simp]def abQ(_:D)(σ:Ev):Fl:=.next σ
@[simp]theorem aik c(e σ):ex c (.expr e) σ=(ev c e σ).kj abQ:=rfl
@[simp]def af7(x:D)(xs:List D):Option (List D):=if fits (xs.length+1)then some (xs++[x])else none
@[simp]def aft(k:Nat)(x:D)(σ:Ev):Fl:=pB (cM k (tL (af7 x)) σ)
@[simp]theorem agC(c:Cf)(i j σ):ex c (.mov i j) σ=match σ[j]? with
  |some (.own o)=>pB (cu i (.own o) (σ.set j .un))
  |_=>(lu j σ).fl (Xl i):=rfl
@[simp]theorem agD(c:Cf)(i e σ):ex c (.aug i e) σ=match aR i σ with
  |some (.int a)=>(ev c e σ).kj fun y σ=>match y with|.int b=>pB (cu i (.val (.int (a+b))) σ)|_=>.bad
  |_=>.bad:=rfl
@[simp]theorem aij c(k e σ):ex c (.append k e) σ=Yy (!cH (aR k σ)) ((ev c e σ).kj (aft k)):=rfl
@[simp]theorem agI(c:Cf)(k e σ):ex c (.extend k e) σ=if !cH (aR k σ)then .bad else(ev c e σ).kj fun x σ=>pB ((iC x).bind fun ys=>cM k (tL fun xs=>if fits (xs.length+ys.length)then some (xs++ys)else none) σ):=rfl
@[simp]def aeM(c:Cf)(e:E)(i:Nat)(σ:Ev):Option Sl->Fl
 |some (.own o)=>.ret (.new o) (σ.set i .un)
 |_=>(ev c e σ).fl tQ
@[simp]def aeN(c:Cf)(e:E)(σ:Ev):Option Nat->Fl
 |some i=>aeM c e i σ σ[i]?
 |none=>(ev c e σ).fl tQ
@[simp]theorem agH c(e σ):ex c (.ret e) σ=aeN c e σ e.aB:=rfl
def Xm(c:Cf)(a b:S)(q:Bool)(σ:Ev):Fl:=if q then ex c a σ else ex c b σ
@[simp]theorem Bk(c a b σ):Xm c a b true σ=ex c a σ:=rfl
@[simp]theorem wG(c a b σ):Xm c a b false σ=ex c b σ:=rfl
@[simp]theorem pH c(t a b σ):ex c (.ite t a b) σ=(ev c t σ).Iu (Xm c a b):=rfl
@[simp]def kFor(c:Cf)(tg:Tg)(b:S)(σ:Ev):Option (List D)->Fl
 |some xs=>bI tg (ex c b) xs σ
 |none=>.bad
@[simp]def abV(c:Cf)(tg:Tg)(b:S)(x:D)(σ:Ev):Fl:=kFor c tg b σ (items x)
@[simp]theorem agG c(tg it b σ):ex c (.for_ tg it b) σ=(ev c it σ).kj (abV c tg b):=rfl
@[simp]theorem agF c(t b σ):ex c (.while_ t b) σ=aZ (ev c t) (ex c b) c.turns σ:=rfl
@[simp]theorem agE c(k σ):ex c (.raise k) σ=.exc k σ:=rfl
@[simp]def afu(c:Cf)(e:E)(x:D)(σ:Ev):Out Rv:=match x with|.bl true=>gJ c e σ|.bl false=>.ok (.val (.bl false)) σ|_=>.bad
@[simp]def kOr(c:Cf)(e:E)(x:D)(σ:Ev):Out Rv:=match x with|.bl true=>.ok (.val (.bl true)) σ|.bl false=>mZ c e σ|_=>.bad
@[simp]theorem adm c(h σ):gJ c (.cons h .nil) σ=ev c h σ:=rfl
@[simp]theorem adl c(h a b σ):gJ c (.cons h (.cons a b)) σ=(ev c h σ).ao (afu c (.cons a b)):=rfl
@[simp]theorem afX c(h σ):mZ c (.cons h .nil) σ=ev c h σ:=rfl
@[simp]theorem afW c(h a b σ):mZ c (.cons h (.cons a b)) σ=(ev c h σ).ao (kOr c (.cons a b)):=rfl
@[simp high]theorem ajp x0:at? [x0] 0=some x0:=rfl
@[simp high]theorem ajo x0 x1:at? [x0,x1] 0=some x0:=rfl
@[simp high]theorem ajn x0 x1:at? [x0,x1] 1=some x1:=rfl
@[simp high]theorem ajm x0 x1 x2:at? [x0,x1,x2] 0=some x0:=rfl
@[simp high]theorem ajl x0 x1 x2:at? [x0,x1,x2] 1=some x1:=rfl
@[simp high]theorem ajk x0 x1 x2:at? [x0,x1,x2] 2=some x2:=rfl
@[simp high]theorem ajj x0 x1 x2 x3:at? [x0,x1,x2,x3] 0=some x0:=rfl
@[simp high]theorem aji x0 x1 x2 x3:at? [x0,x1,x2,x3] 1=some x1:=rfl
@[simp high]theorem ajh x0 x1 x2 x3:at? [x0,x1,x2,x3] 2=some x2:=rfl
@[simp high]theorem ajg x0 x1 x2 x3:at? [x0,x1,x2,x3] 3=some x3:=rfl
@[simp]theorem aii(σ):giveBack [] [] σ=some σ:=rfl
@[simp]theorem aih(i as o ps σ):giveBack (.ref i::as) (.bor o::ps) σ=(cM i (fun _=>some o) σ).bind (giveBack as ps):=rfl
@[simp]theorem aig(d as p ps σ):giveBack (.val d::as) (p::ps) σ=giveBack as ps σ:=rfl
@[simp]theorem ahM(i j):j9 i (.ref j)=(i==j):=rfl
@[simp]theorem ahL(i d):j9 i (.val d)=false:=rfl
@[simp]theorem ahK(i o):j9 i (.new o)=false:=rfl
@[simp]theorem ahs(xs):oF .tup (.tup xs)=true:=rfl
@[simp]theorem ahr(xs):oF .lst (.lst xs)=true:=rfl
@[simp]theorem ahq(x):oF .str (.str x)=true:=rfl
@[simp]theorem ahp(b):oF .bool (.bl b)=true:=rfl
def adR(i):oF .bool (.int i)=false:=rfl
@[simp]theorem aho(i):oF .int (.int i)=true:=rfl
@[simp]theorem afT:fits 0=true:=rfl
@[simp]theorem afS:fits 1=true:=rfl
@[simp]theorem afR:fits 2=true:=rfl
@[simp]theorem afQ:fits 3=true:=rfl
@[simp]theorem afP:fits 4=true:=rfl
@[simp]theorem afO:fits 5=true:=rfl
@[simp]theorem afN:fits 6=true:=rfl
@[simp]theorem afM:fits 7=true:=rfl
@[simp]theorem afL:fits 8=true:=rfl
@[simp↓]theorem ite_tt{α:Type}(a b:α):(if true=true then a else b)=a:=rfl
@[simp↓]theorem ite_ff{α:Type}(a b:α):(if false=true then a else b)=b:=rfl
@[simp]theorem adD xs ys:binop .add (.tup xs) (.tup ys)=if fits (xs.length+ys.length)then some (.val (.tup (xs++ys)))else none:=rfl
@[simp]theorem adE xs ys:binop .add (.lst xs) (.lst ys)=if fits (xs.length+ys.length)then some (.new (.lst (xs++ys)))else none:=rfl
@[simp]def abR(x y:D)(σ:Ev):Out Rv:=lift σ (ab2 x y)
@[simp]def abS(c:Cf)(b:E)(x:D)(σ:Ev):Out Rv:=sO (iC x).isNone ((ev c b σ).ao (abR x))
@[simp]theorem agP(c:Cf)(a b σ):ev c (.index a b) σ=(ev c a σ).ao (abS c b):=rfl
@[simp]def gtK(k x y:D):Option Rv:=(rH y k x).map Rv.val
@[simp]def afk(i:Nat)(k x:D)(σ:Ev):Out Rv:=lift σ ((aR i σ).bind (gtK k x))
@[simp]def afl(c:Cf)(i:Nat)(x:E)(k:D)(σ:Ev):Out Rv:=(ev c x σ).ao (afk i k)
@[simp]def afE(c:Cf)(d k x:E)(σ:Ev):Option Nat->Out Rv
 |some i=>sO (!rB (aR i σ)) ((ev c k σ).ao (afl c i x))
 |none=>.bad
@[simp]theorem agO c(d k x σ):ev c (.get2 d k x) σ=afE c d k x σ d.aB:=rfl
@[simp]def afn(rs:List Rv)(σ:Ev):Out Rv:=lift σ ((aX rs).bind zu)
@[simp]theorem agN c(es σ):ev c (.dsp es) σ=(evs c es σ).bind afn:=rfl
@[simp]theorem ach(c:Cf)(k σ):ev c (.pop0 k) σ=sO (!cH (aR k σ)) (iz k (.int (-1)) σ):=rfl
@[simp]theorem agL c(σ):ev c .emp σ=.ok (.new (.dct [] [])) σ:=rfl
@[simp]def aci(xs:List D):Rv:=.val (.lst (aQ (bF 0 xs.length) xs))
@[simp]def abX(x:D)(σ:Ev):Out Rv:=lift σ ((iC x).map aci)
@[simp]theorem agM c(a σ):ev c (.enum a) σ=(ev c a σ).ao abX:=rfl
@[simp high]theorem aif a0(r:Ev):(a0::r)[0]? =some a0:=rfl
@[simp high]theorem ahI a0 v(r:Ev):List.set (a0::r) 0 v=v::r:=rfl
@[simp high]theorem aie a0 a1(r:Ev):(a0::a1::r)[1]? =some a1:=rfl
@[simp high]theorem ahH a0 a1 v(r:Ev):List.set (a0::a1::r) 1 v=a0::v::r:=rfl
@[simp high]theorem aid a0 a1 a2(r:Ev):(a0::a1::a2::r)[2]? =some a2:=rfl
@[simp high]theorem ahG a0 a1 a2 v(r:Ev):List.set (a0::a1::a2::r) 2 v=a0::a1::v::r:=rfl
@[simp high]theorem aic a0 a1 a2 a3(r:Ev):(a0::a1::a2::a3::r)[3]? =some a3:=rfl
@[simp high]theorem ahF a0 a1 a2 a3 v(r:Ev):List.set (a0::a1::a2::a3::r) 3 v=a0::a1::a2::v::r:=rfl
@[simp high]theorem aib a0 a1 a2 a3 a4(r:Ev):(a0::a1::a2::a3::a4::r)[4]? =some a4:=rfl
@[simp high]theorem ahE a0 a1 a2 a3 a4 v(r:Ev):List.set (a0::a1::a2::a3::a4::r) 4 v=a0::a1::a2::a3::v::r:=rfl
@[simp high]theorem aia a0 a1 a2 a3 a4 a5(r:Ev):(a0::a1::a2::a3::a4::a5::r)[5]? =some a5:=rfl
@[simp high]theorem ahD a0 a1 a2 a3 a4 a5 v(r:Ev):List.set (a0::a1::a2::a3::a4::a5::r) 5 v=a0::a1::a2::a3::a4::v::r:=rfl
@[simp high]theorem ah9 a0 a1 a2 a3 a4 a5 a6(r:Ev):(a0::a1::a2::a3::a4::a5::a6::r)[6]? =some a6:=rfl
@[simp high]theorem ahC a0 a1 a2 a3 a4 a5 a6 v(r:Ev):List.set (a0::a1::a2::a3::a4::a5::a6::r) 6 v=a0::a1::a2::a3::a4::a5::v::r:=rfl
@[simp high]theorem ah8 a0 a1 a2 a3 a4 a5 a6 a7(r:Ev):(a0::a1::a2::a3::a4::a5::a6::a7::r)[7]? =some a7:=rfl
@[simp high]theorem ahB a0 a1 a2 a3 a4 a5 a6 a7 v(r:Ev):List.set (a0::a1::a2::a3::a4::a5::a6::a7::r) 7 v=a0::a1::a2::a3::a4::a5::a6::v::r:=rfl
@[simp high]theorem ah7 a0 a1 a2 a3 a4 a5 a6 a7 a8(r:Ev):(a0::a1::a2::a3::a4::a5::a6::a7::a8::r)[8]? =some a8:=rfl
@[simp high]theorem ahA a0 a1 a2 a3 a4 a5 a6 a7 a8 v(r:Ev):List.set (a0::a1::a2::a3::a4::a5::a6::a7::a8::r) 8 v=a0::a1::a2::a3::a4::a5::a6::a7::v::r:=rfl
@[simp high]theorem ah6 a0 a1 a2 a3 a4 a5 a6 a7 a8 a9(r:Ev):(a0::a1::a2::a3::a4::a5::a6::a7::a8::a9::r)[9]? =some a9:=rfl
@[simp high]theorem ahz a0 a1 a2 a3 a4 a5 a6 a7 a8 a9 v(r:Ev):List.set (a0::a1::a2::a3::a4::a5::a6::a7::a8::a9::r) 9 v=a0::a1::a2::a3::a4::a5::a6::a7::a8::v::r:=rfl
end Mini
end
section
namespace Tx
open PySem L2 Mini
abbrev d0:Df:=bL "checked" s0 [false]
abbrev d1:Df:=bL "is_net" s1 [false]
abbrev d2:Df:=bL "has_parts" s2 [false]
abbrev d3:Df:=bL "is_tuple" s3 [false,false,false]
abbrev d4:Df:=bL "is_number" s4 [false,false,false]
abbrev d5:Df:=bL "is_name" s5 [false]
abbrev d6:Df:=bL "are_unlike" s6 [false]
abbrev d7:Df:=bL "is_row" s7 [false,false]
abbrev d8:Df:=bL "is_wire" s8 [false,false]
abbrev d9:Df:=bL "are_wires" s9 [false,false,false,false]
abbrev d10:Df:=bL "are_rows" vZ [false,false]
abbrev d11:Df:=bL "is_kind" vY [false,false,false]
abbrev d12:Df:=bL "is_held" s12 [false,false,false]
abbrev d13:Df:=bL "wire_names" jm [false]
abbrev d14:Df:=bL "waiting_gates" fH [false,false]
abbrev d15:Df:=bL "told" s15 [false,false,false]
abbrev d16:Df:=bL "told_held" s16 [false,false,false]
abbrev d17:Df:=bL "checked_talk" s17 [false,false]
abbrev d18:Df:=bL "is_talk" s18 [false,false]
abbrev d19:Df:=bL "is_state" s19 [false,false,false]
abbrev d20:Df:=bL "stands" s20 [false,false]
abbrev d21:Df:=bL "first_stand" s21 [false]
abbrev d22:Df:=bL "steps_at" s22 [false,false,false]
abbrev d23:Df:=bL "is_unasked" s23 [false,false,false]
abbrev d24:Df:=bL "led_to" s24 [false,false,false,false]
abbrev d25:Df:=bL "changed" s25 [false,false,false]
abbrev d26:Df:=bL "newly_met" s26 [false,false,false,true]
abbrev d27:Df:=bL "needed" s27 [false,false,false,false]
abbrev d28:Df:=bL "ways_of" s28 [false,false]
abbrev d29:Df:=bL "ways_at" s29 [false,false,false,false]
abbrev d30:Df:=bL "least_ahead" s30 [false,false,false,false]
abbrev d31:Df:=bL "places_behind" s31 [false,false,false]
abbrev d32:Df:=bL "_law_cell_at" s32 [false,false]
abbrev d33:Df:=bL "_law_mixed" s33 [false,false,false]
abbrev d34:Df:=bL "_law_next" s34 [false,true,false]
abbrev d35:Df:=bL "_law_some" s35 [false,true,false,false,false]
abbrev d36:Df:=bL "_law_table" s36 [false,true,false]
abbrev d37:Df:=bL "_law_kind" s37 [false,true,false,false]
abbrev d38:Df:=bL "_law_net" s38 [false,true,false,false]
abbrev d39:Df:=bL "_law_talk" s39 [false,true,false,false]
abbrev d40:Df:=bL "_law_ring" s40 [false,true]
abbrev d41:Df:=bL "_law_chain" s41 [false,true]
abbrev d42:Df:=bL "_law_meeting" s42 [false,true]
abbrev d43:Df:=bL "_law_spoilt_kind" s43 [false,true,false]
abbrev d44:Df:=bL "_law_case" s44 [false,false]
abbrev d45:Df:=bL "_law_names" s45 [false]
abbrev d46:Df:=bL "_law_tells" s46 [false,false,false]
abbrev d47:Df:=bL "_law_waiting" s47 [false,false]
abbrev d48:Df:=bL "_law_steps" s48 [false,false,false]
abbrev d49:Df:=bL "_law_led" s49 [false,false,false,false]
abbrev d50:Df:=bL "_law_comes" s50 [false,false,false,false,false,false]
abbrev d51:Df:=bL "law" s51 [false]
noncomputable def ds:List Df:=[d0,d1,d2,d3,d4,d5,d6,d7,d8,d9,d10,d11,d12,d13,d14,d15,d16,d17,d18,d19,d20,d21,d22,d23,d24,d25,d26,d27,d28,d29,d30,d31,d32,d33,d34,d35,d36,d37,d38,d39,d40,d41,d42,d43,d44,d45,d46,d47,d48,d49,d50,d51]
noncomputable def nD:List Str:=["LETTERS","LONGEST_NAME","WORDS","MOST_INPUTS","MOST_GATES","MOST_WIRES","MOST_TABLE_WIRES","DEEPEST_HELD","MOST_STATES","MOST_NEEDED"]
noncomputable def vals:List D:=[.str "abcdefghijklmnopqrstuvwxyz",.int 6,.tup [.str "input",.str "gate",.str "start",.str "out",.str "state",.str "same",.str "not",.str "and",.str "or",.str "both",.str "held",.str "table",.str "on",.str "off"],.int 3,.int 5,.int 4,.int 8,.int 3,.int 12,.int 20]
def pg:Pg:=Km ds nD vals 4000000
def scp:ds.all JG=true:=by decide+kernel
def nC:ds.all (fun d=>(fnOf ds nD d).isSome)=true:=by decide+kernel
def bd:Ga ds:=⟨fun _ _ _ _ _ _ us hl=>by obtain⟨_,rfl⟩:=uc hl;rfl,fun _ _ _ _ _ _ us hl=>by obtain⟨_,rfl⟩:=uc hl;rfl,fun _ _ _ _ _ _ us hl=>by obtain⟨_,rfl⟩:=uc hl;rfl,fun _ _ _ _ _ _ us hl=>by obtain⟨_,_,_,rfl⟩:=jt hl;rfl,fun _ _ _ _ _ _ us hl=>by obtain⟨_,_,_,rfl⟩:=jt hl;rfl,fun _ _ _ _ _ _ us hl=>by obtain⟨_,rfl⟩:=uc hl;rfl,fun _ _ _ _ _ _ us hl=>by obtain⟨_,rfl⟩:=uc hl;rfl,fun _ _ _ _ _ _ us hl=>by obtain⟨_,_,rfl⟩:=lH hl;rfl,fun _ _ _ _ _ _ us hl=>by obtain⟨_,_,rfl⟩:=lH hl;rfl,fun _ _ _ _ _ _ us hl=>by obtain⟨_,_,_,_,rfl⟩:=qY hl;rfl,fun _ _ _ _ _ _ us hl=>by obtain⟨_,_,rfl⟩:=lH hl;rfl,fun _ _ _ _ _ _ us hl=>by obtain⟨_,_,_,rfl⟩:=jt hl;rfl,fun _ _ _ _ _ _ us hl=>by obtain⟨_,_,_,rfl⟩:=jt hl;rfl,fun _ _ _ _ _ _ us hl=>by obtain⟨_,rfl⟩:=uc hl;rfl,fun _ _ _ _ _ _ us hl=>by obtain⟨_,_,rfl⟩:=lH hl;rfl,fun _ _ _ _ _ _ us hl=>by obtain⟨_,_,_,rfl⟩:=jt hl;rfl,fun _ _ _ _ _ _ us hl=>by obtain⟨_,_,_,rfl⟩:=jt hl;rfl,fun _ _ _ _ _ _ us hl=>by obtain⟨_,_,rfl⟩:=lH hl;rfl,fun _ _ _ _ _ _ us hl=>by obtain⟨_,_,rfl⟩:=lH hl;rfl,fun _ _ _ _ _ _ us hl=>by obtain⟨_,_,_,rfl⟩:=jt hl;rfl,fun _ _ _ _ _ _ us hl=>by obtain⟨_,_,rfl⟩:=lH hl;rfl,fun _ _ _ _ _ _ us hl=>by obtain⟨_,rfl⟩:=uc hl;rfl,fun _ _ _ _ _ _ us hl=>by obtain⟨_,_,_,rfl⟩:=jt hl;rfl,fun _ _ _ _ _ _ us hl=>by obtain⟨_,_,_,rfl⟩:=jt hl;rfl,fun _ _ _ _ _ _ us hl=>by obtain⟨_,_,_,_,rfl⟩:=qY hl;rfl,fun _ _ _ _ _ _ us hl=>by obtain⟨_,_,_,rfl⟩:=jt hl;rfl,fun _ _ _ _ _ _ us hl=>by obtain⟨_,_,_,_,rfl⟩:=qY hl;rfl,fun _ _ _ _ _ _ us hl=>by obtain⟨_,_,_,_,rfl⟩:=qY hl;rfl,fun _ _ _ _ _ _ us hl=>by obtain⟨_,_,rfl⟩:=lH hl;rfl,fun _ _ _ _ _ _ us hl=>by obtain⟨_,_,_,_,rfl⟩:=qY hl;rfl,fun _ _ _ _ _ _ us hl=>by obtain⟨_,_,_,_,rfl⟩:=qY hl;rfl,fun _ _ _ _ _ _ us hl=>by obtain⟨_,_,_,rfl⟩:=jt hl;rfl,fun _ _ _ _ _ _ us hl=>by obtain⟨_,_,rfl⟩:=lH hl;rfl,fun _ _ _ _ _ _ us hl=>by obtain⟨_,_,_,rfl⟩:=jt hl;rfl,fun _ _ _ _ _ _ us hl=>by obtain⟨_,_,_,rfl⟩:=jt hl;rfl,fun _ _ _ _ _ _ us hl=>by obtain⟨_,_,_,_,_,rfl⟩:=abH hl;rfl,fun _ _ _ _ _ _ us hl=>by obtain⟨_,_,_,rfl⟩:=jt hl;rfl,fun _ _ _ _ _ _ us hl=>by obtain⟨_,_,_,_,rfl⟩:=qY hl;rfl,fun _ _ _ _ _ _ us hl=>by obtain⟨_,_,_,_,rfl⟩:=qY hl;rfl,fun _ _ _ _ _ _ us hl=>by obtain⟨_,_,_,_,rfl⟩:=qY hl;rfl,fun _ _ _ _ _ _ us hl=>by obtain⟨_,_,rfl⟩:=lH hl;rfl,fun _ _ _ _ _ _ us hl=>by obtain⟨_,_,rfl⟩:=lH hl;rfl,fun _ _ _ _ _ _ us hl=>by obtain⟨_,_,rfl⟩:=lH hl;rfl,fun _ _ _ _ _ _ us hl=>by obtain⟨_,_,_,rfl⟩:=jt hl;rfl,fun _ _ _ _ _ _ us hl=>by obtain⟨_,_,rfl⟩:=lH hl;rfl,fun _ _ _ _ _ _ us hl=>by obtain⟨_,rfl⟩:=uc hl;rfl,fun _ _ _ _ _ _ us hl=>by obtain⟨_,_,_,rfl⟩:=jt hl;rfl,fun _ _ _ _ _ _ us hl=>by obtain⟨_,_,rfl⟩:=lH hl;rfl,fun _ _ _ _ _ _ us hl=>by obtain⟨_,_,_,rfl⟩:=jt hl;rfl,fun _ _ _ _ _ _ us hl=>by obtain⟨_,_,_,_,rfl⟩:=qY hl;rfl,fun _ _ _ _ _ _ us hl=>by obtain⟨_,_,_,_,_,_,rfl⟩:=ae2 hl;rfl,fun _ _ _ _ _ _ us hl=>by obtain⟨_,rfl⟩:=uc hl;rfl,trivial⟩
noncomputable def nms:List (Str×Stmt):=("checked",s0)::("is_net",s1)::("has_parts",s2)::("is_tuple",s3)::("is_number",s4)::("is_name",s5)::("are_unlike",s6)::("is_row",s7)::("is_wire",s8)::("are_wires",s9)::("are_rows",vZ)::("is_kind",vY)::("is_held",s12)::("wire_names",jm)::("waiting_gates",fH)::("told",s15)::("told_held",s16)::("checked_talk",s17)::("is_talk",s18)::("is_state",s19)::("stands",s20)::("first_stand",s21)::("steps_at",s22)::("is_unasked",s23)::("led_to",s24)::("changed",s25)::("newly_met",s26)::("needed",s27)::("ways_of",s28)::("ways_at",s29)::("least_ahead",s30)::("places_behind",s31)::("_law_cell_at",s32)::("_law_mixed",s33)::("_law_next",s34)::("_law_some",s35)::("_law_table",s36)::("_law_kind",s37)::("_law_net",s38)::("_law_talk",s39)::("_law_ring",s40)::("_law_chain",s41)::("_law_meeting",s42)::("_law_spoilt_kind",s43)::("_law_case",s44)::("_law_names",s45)::("_law_tells",s46)::("_law_waiting",s47)::("_law_steps",s48)::("_law_led",s49)::("_law_comes",s50)::("law",s51)::[]
end Tx
end
section
open PySem
section
open Mini
namespace Tx
def aY{n i:Nat}{g:Fn}{ps us:List Sl}(h:pg.fns[i]? =some g:=by kernel_rfl)(e:us=ps++List.replicate (g.names-g.pars) .un:=by rfl)(l:ps.length=g.pars:=by rfl):pg.fn (n+1) i ps=fin g.pars (ex (pg.cf n) g.body us):=by
 subst e
 refine Eq.trans ?_ (Qd _ _ _ l)
 show(match pg.fns[i]? with|some g=>iy (pg.cf n) g ps|none=>pg.pf (pg.cf n) i ps)=_
 rw[h]
noncomputable def o4:Fn:=⟨1,1,(.cons (.ite (.not (.call 1 AAR)) ABc .nil) (.cons (.ret (.var 0)) .nil))⟩
def GX(n:Nat)(p0:Sl):pg.fn (n+1) 0 [p0]=fin 1 (ex (pg.cf n) o4.body [p0]):=aY (g:=o4)
noncomputable def sW:Fn:=⟨1,2,(.cons (.ite (.or (.cons (.not (.call 3 (.cons (.var 0) (.cons ACM AAT)))) (.cons (.not (.call 2 AAR)) .nil))) AAP .nil) (.cons (.set 1 ACU) (.cons (.ite (.or (.cons (.not (.bi .all ACv)) (.cons (.not (.call 6 AAZ)) .nil))) AAP .nil) (.cons (.ret (.and (.cons (.bi .all ACI) (.cons (.call 7 (.cons ABH ACb)) .nil)))) .nil))))⟩
def J2(n:Nat)(p0:Sl):pg.fn (n+1) 1 [p0]=fin 1 (ex (pg.cf n) sW.body [p0,.un]):=aY (g:=sW)
noncomputable def jX:Fn:=⟨1,1,(.cons (.ite (.or (.cons (.not (.call 3 (.cons AAb (.cons AAH (.cons (.glob 3) .nil))))) (.cons (.not (.call 3 (.cons AAc (.cons AAG (.cons (.glob 4) .nil))))) .nil))) AAP .nil) (.cons (.ret (.bi .all (.comp 1 (.name 0) AAc AAL AAx))) .nil))⟩
def yE(n:Nat)(p0:Sl):pg.fn (n+1) 2 [p0]=fin 1 (ex (pg.cf n) jX.body [p0]):=aY (g:=jX)
noncomputable def lW:Fn:=⟨3,3,(.cons (.ret (.and (.cons (.isi (.var 0) .tup) (.cons (.chain .le .le (.var 1) ACq (.var 2)) .nil)))) .nil)⟩
def Ao(n:Nat)(p0 p1 p2:Sl):pg.fn (n+1) 3 [p0,p1,p2]=fin 3 (ex (pg.cf n) lW.body [p0,p1,p2]):=aY (g:=lW)
noncomputable def gO:Fn:=⟨3,3,(.cons (.ret (.and (.cons (.isi (.var 0) .int) (.cons (.not (.isi (.var 0) .bool)) (.cons (.chain .le .le (.var 1) (.var 0) (.var 2)) .nil))))) .nil)⟩
def pA(n:Nat)(p0 p1 p2:Sl):pg.fn (n+1) 4 [p0,p1,p2]=fin 3 (ex (pg.cf n) gO.body [p0,p1,p2]):=aY (g:=gO)
noncomputable def jj:Fn:=⟨1,1,(.cons (.ret (.bi .all ACN)) .nil)⟩
def v6(n:Nat)(p0:Sl):pg.fn (n+1) 6 [p0]=fin 1 (ex (pg.cf n) jj.body [p0]):=aY (g:=jj)
noncomputable def sV:Fn:=⟨2,2,(.cons (.ret (.and (.cons (.call 3 (.cons (.var 0) (.cons (.var 1) AAZ))) (.cons (.bi .all ACk) .nil)))) .nil)⟩
def J1(n:Nat)(p0 p1:Sl):pg.fn (n+1) 7 [p0,p1]=fin 2 (ex (pg.cf n) sV.body [p0,p1]):=aY (g:=sV)
noncomputable def oX:Fn:=⟨2,2,(.cons (.ret (.and (.cons (.isi (.var 0) .str) (.cons (.cmp .isin (.var 0) (.var 1)) .nil)))) .nil)⟩
def GP(n:Nat)(p0 p1:Sl):pg.fn (n+1) 8 [p0,p1]=fin 2 (ex (pg.cf n) oX.body [p0,p1]):=aY (g:=oX)
noncomputable def jY:Fn:=⟨4,4,(.cons (.ite (.not (.call 3 (.cons (.var 0) (.cons (.var 2) ABM)))) AAP .nil) (.cons (.ret (.and (.cons (.bi .all ACw) (.cons (.call 6 AAR) .nil)))) .nil))⟩
def yF(n:Nat)(p0 p1 p2 p3:Sl):pg.fn (n+1) 9 [p0,p1,p2,p3]=fin 4 (ex (pg.cf n) jY.body [p0,p1,p2,p3]):=aY (g:=jY)
noncomputable def lY:Fn:=⟨2,2,(.cons (.ite (.or (.cons (.not (.isi (.var 0) .tup)) (.cons (.not (.bi .all ACx)) .nil))) AAP .nil) (.cons (.ret (.bi .all ABi)) .nil))⟩
def Av(n:Nat)(p0 p1:Sl):pg.fn (n+1) 10 [p0,p1]=fin 2 (ex (pg.cf n) lY.body [p0,p1]):=aY (g:=lY)
noncomputable def dj:Fn:=⟨3,5,(.cons (.ite (.or (.cons (.not (.call 3 (.cons (.var 0) (.cons AAQ ABd)))) (.cons (.not (.isi AAb .str)) .nil))) AAP .nil) (.cons (.set 3 AAb) (.cons (.set 4 ACq) (.cons (.ite (.cmp .isin (.var 3) (.tup AAh)) (.cons (.ret (.and (.cons ADN (.cons (.call 8 (.cons AAc AAZ)) .nil)))) .nil) .nil) (.cons (.ite (.cmp .isin (.var 3) (.tup (.cons ABh (.cons ABo .nil)))) (.cons (.ret (.and (.cons ADN (.cons (.call 9 (.cons AAc (.cons (.var 1) (.cons AAG (.cons (.glob 5) .nil))))) .nil)))) .nil) .nil) (.cons (.ite (.cmp .eq (.var 3) ABw) (.cons (.ret (.and (.cons ADN (.cons (.call 9 (.cons AAc (.cons (.var 1) (.cons AAQ (.cons (.glob 5) .nil))))) .nil)))) .nil) .nil) (.cons (.ite ADP (.cons (.ret (.and (.cons (.cmp .eq (.var 4) ACM) (.cons (.call 9 (.cons AAc (.cons (.var 1) (.cons AAG (.cons (.glob 6) .nil))))) (.cons (.call 10 (.cons ABH (.cons (.bi .len AAc) .nil))) .nil))))) .nil) .nil) (.cons (.ite ADQ (.cons (.ret (.and (.cons (.cmp .eq (.var 4) (.con (.int 4))) (.cons (.cmp .lt (.var 2) (.glob 7)) (.cons (.call 12 (.cons (.var 0) (.cons (.var 1) ADa))) .nil))))) .nil) .nil) AAP))))))))⟩
def eN(n:Nat)(p0 p1 p2:Sl):pg.fn (n+1) 11 [p0,p1,p2]=fin 3 (ex (pg.cf n) dj.body [p0,p1,p2,.un,.un]):=aY (g:=dj)
noncomputable def oZ:Fn:=⟨3,3,(.cons (.ret (.and (.cons (.call 11 (.cons AAc AAV)) (.cons (.call 8 (.cons ABH AAZ)) (.cons (.isi (.idx (.var 0) ACM) .bool) .nil))))) .nil)⟩
def GR(n:Nat)(p0 p1 p2:Sl):pg.fn (n+1) 12 [p0,p1,p2]=fin 3 (ex (pg.cf n) oZ.body [p0,p1,p2]):=aY (g:=oZ)
noncomputable def jg:Fn:=⟨1,1,ACJ⟩
def mG(n:Nat)(p0:Sl):pg.fn (n+1) 13 [p0]=fin 1 (ex (pg.cf n) jg.body [p0]):=aY (g:=jg)
noncomputable def eY:Fn:=⟨2,3,(.cons (.set 2 (.bi .dict ADd)) (.cons (.ret (.comp 2 (.tup [0,1]) AAc AAi (.var 0))) .nil))⟩
def pM(n:Nat)(p0 p1:Sl):pg.fn (n+1) 14 [p0,p1]=fin 2 (ex (pg.cf n) eY.body [p0,p1,.un]):=aY (g:=eY)
noncomputable def CG:Fn:=⟨3,5,(.cons (.set 3 AAb) (.cons (.ite (.cmp .eq (.var 3) ABv) (.cons (.ret ACn) .nil) .nil) (.cons (.ite (.cmp .eq (.var 3) ACp) (.cons (.ret (.not ACn)) .nil) .nil) (.cons (.ite ADQ ADg .nil) (.cons (.set 4 (.bi .tuple (.comp 1 (.name 0) AAc AAL (.idx (.var 3) (.var 0))))) (.cons (.ite (.cmp .eq (.var 3) ABh) ADV .nil) (.cons (.ite (.cmp .eq (.var 3) ABo) ADU .nil) (.cons (.ite ADP ACz .nil) ABP))))))))⟩
def lG(n:Nat)(p0 p1 p2:Sl):pg.fn (n+1) 15 [p0,p1,p2]=fin 3 (ex (pg.cf n) CG.body [p0,p1,p2,.un,.un]):=aY (g:=CG)
noncomputable def jP:Fn:=⟨3,5,(.cons (.set 3 (.call 15 (.cons AAc AAV))) (.cons (.set 4 (.cmp .eq (.idx (.var 2) ABH) (.var 3))) (.cons (.ret (.ite (.cmp .eq (.var 4) (.idx (.var 0) ACM)) (.var 3) (.var 1))) .nil)))⟩
def yr(n:Nat)(p0 p1 p2:Sl):pg.fn (n+1) 16 [p0,p1,p2]=fin 3 (ex (pg.cf n) jP.body [p0,p1,p2,.un,.un]):=aY (g:=jP)
noncomputable def gn:Fn:=⟨2,2,(.cons (.ite (.not (.call 18 (.cons (.call 0 AAR) AAZ))) ABc .nil) (.cons (.ret (.var 1)) .nil))⟩
def qJ(n:Nat)(p0 p1:Sl):pg.fn (n+1) 17 [p0,p1]=fin 2 (ex (pg.cf n) gn.body [p0,p1]):=aY (g:=gn)
noncomputable def oY:Fn:=⟨2,4,(.cons (.ite (.not (.call 3 (.cons (.var 1) (.cons AAQ (.cons AAQ .nil))))) AAP .nil) (.cons (.set 2 (.comp 1 (.name 0) AAc AAL AAb)) (.cons (.ite (.or (.cons (.not (.call 9 (.cons ABT (.cons (.var 2) (.cons AAH (.cons ADf .nil)))))) (.cons (.not (.call 3 (.cons ABG (.cons AAG (.cons (.glob 8) .nil))))) .nil))) AAP .nil) (.cons (.set 3 (.op .add AAb ABT)) (.cons (.ret (.bi .all ABf)) .nil)))))⟩
def GQ(n:Nat)(p0 p1:Sl):pg.fn (n+1) 18 [p0,p1]=fin 2 (ex (pg.cf n) oY.body [p0,p1,.un,.un]):=aY (g:=oY)
noncomputable def lX:Fn:=⟨3,3,(.cons (.ite (.or (.cons (.not (.call 3 (.cons (.var 0) (.cons AAH ACb)))) (.cons (.not (.bi .all ADb)) .nil))) AAP .nil) (.cons (.ite (.not (.call 9 (.cons (.bi .tuple (.comp 1 (.name 0) (.var 0) AAL AAb)) (.cons (.var 1) (.cons AAH ACb))))) AAP .nil) (.cons (.ret (.bi .all ABe)) .nil)))⟩
def Aq(n:Nat)(p0 p1 p2:Sl):pg.fn (n+1) 19 [p0,p1,p2]=fin 3 (ex (pg.cf n) lX.body [p0,p1,p2]):=aY (g:=lX)
noncomputable def sS:Fn:=⟨2,4,(.cons ACd (.cons ACj (.cons (.set 3 ACT) (.cons (.while_ ABp AAy) (.cons (.ret ACT) .nil)))))⟩
def JX(n:Nat)(p0 p1:Sl):pg.fn (n+1) 20 [p0,p1]=fin 2 (ex (pg.cf n) sS.body [p0,p1,.un,.un]):=aY (g:=sS)
noncomputable def lO:Fn:=⟨3,4,(.cons (.set 3 (.bi .dict ACt)) (.cons (.ret (.op .add (.comp 1 (.name 0) AAb ABz (.var 0)) (.call 14 (.cons (.var 0) (.cons AAv .nil))))) .nil))⟩
def Ai(n:Nat)(p0 p1 p2:Sl):pg.fn (n+1) 22 [p0,p1,p2]=fin 3 (ex (pg.cf n) lO.body [p0,p1,p2,.un]):=aY (g:=lO)
noncomputable def ji:Fn:=⟨3,3,(.cons (.ret (.and (.cons (.cmp .isin (.var 2) AAb) (.cons (.cmp .notin (.var 2) (.bi .dict (.idx AAc ABG))) .nil)))) .nil)⟩
def v5(n:Nat)(p0 p1 p2:Sl):pg.fn (n+1) 23 [p0,p1,p2]=fin 3 (ex (pg.cf n) ji.body [p0,p1,p2]):=aY (g:=ji)
noncomputable def nq:Fn:=⟨4,5,(.cons (.ite (.call 23 (.cons (.var 1) (.cons (.var 2) ABM))) ADL .nil) (.cons (.set 4 (.bi .dict ACt)) (.cons (.ret (.tup (.cons (.call 25 (.cons (.var 0) (.cons AAv ABM))) (.cons (.get2 (.var 4) (.var 3) AAg) .nil)))) .nil)))⟩
def J0(n:Nat)(p0 p1 p2 p3:Sl):pg.fn (n+1) 24 [p0,p1,p2,p3]=fin 4 (ex (pg.cf n) nq.body [p0,p1,p2,p3,.un]):=aY (g:=nq)
noncomputable def o5:Fn:=⟨3,3,(.cons (.ret (.bi .tuple (.comp 2 (.tup [0,1]) ADd AAL (.ite ACl (.not (.var 1)) (.var 1))))) .nil)⟩
def GZ(n:Nat)(p0 p1 p2:Sl):pg.fn (n+1) 25 [p0,p1,p2]=fin 3 (ex (pg.cf n) o5.body [p0,p1,p2]):=aY (g:=o5)
noncomputable def jQ:Fn:=⟨4,7,(.cons (.set 4 ACG) (.cons (.for_ (.name 5) (.call 22 ABu) (.cons ABq (.cons (.ite (.and (.cons (.cmp .notN (.var 6) ABg) ADG)) ABN .nil) .nil))) (.cons (.ret (.var 4)) .nil)))⟩
def yt(n:Nat)(p0 p1 p2 p3:Sl):pg.fn (n+1) 26 [p0,p1,p2,p3]=fin 4 (ex (pg.cf n) jQ.body [p0,p1,p2,p3,.un,.un,.un]):=aY (g:=jQ)
noncomputable def sU:Fn:=⟨4,7,(.cons ACd (.cons (.set 4 ACU) (.cons (.ite ADY ABc .nil) (.cons (.ite ACV ABc .nil) (.cons (.set 5 (.call 28 ABS)) (.cons (.set 6 ABr) (.cons (.ret (.ite (.cmp .isin ABg (.var 6)) ABg (.var 6))) .nil)))))))⟩
def JZ(n:Nat)(p0 p1 p2 p3:Sl):pg.fn (n+1) 27 [p0,p1,p2,p3]=fin 4 (ex (pg.cf n) sU.body [p0,p1,p2,p3,.un,.un,.un]):=aY (g:=sU)
noncomputable def oR:Fn:=⟨2,4,(.cons (.set 2 (.call 20 ABS)) (.cons (.set 3 (.bi .dict (.comp 2 (.tup [0,1]) (.enum (.var 2)) AAL (.tup ADZ)))) (.cons (.ret ACu) .nil)))⟩
def GD(n:Nat)(p0 p1:Sl):pg.fn (n+1) 28 [p0,p1]=fin 2 (ex (pg.cf n) oR.body [p0,p1,.un,.un]):=aY (g:=oR)
noncomputable def oU:Fn:=⟨4,5,(.cons (.set 4 ACr) (.cons (.ret (.bi .dict (.comp 2 (.tup [0,1]) (.var 4) (.cmp .notN (.var 1) ABg) (.tup ABa)))) .nil))⟩
def GF(n:Nat)(p0 p1 p2 p3:Sl):pg.fn (n+1) 29 [p0,p1,p2,p3]=fin 4 (ex (pg.cf n) oU.body [p0,p1,p2,p3,.un]):=aY (g:=oU)
noncomputable def eV:Fn:=⟨4,10,(.cons (.set 4 .emp) (.cons ACm (.cons ADS (.cons (.set 7 AAH) (.cons (.while_ AAa (.cons (.set 8 (.pop0 5)) (.cons (.ite ACg (.cons ADH (.cons (.ite ABJ (.cons (.ret (.var 7)) .nil) .nil) AAX)) .nil) (.cons (.ite (.not AAa) (.cons (.mov 5 6) (.cons ADS (.cons (.aug 7 AAG) .nil))) .nil) .nil)))) ADL)))))⟩
def tR(n:Nat)(p0 p1 p2 p3:Sl):pg.fn (n+1) 30 [p0,p1,p2,p3]=fin 4 (ex (pg.cf n) eV.body [p0,p1,p2,p3,.un,.un,.un,.un,.un,.un]):=aY (g:=eV)
noncomputable def eZ:Fn:=⟨3,4,(.cons (.set 3 (.idx (.var 0) AAv)) (.cons (.ret (.bi .dict AAj)) .nil))⟩
def pN(n:Nat)(p0 p1 p2:Sl):pg.fn (n+1) 31 [p0,p1,p2]=fin 3 (ex (pg.cf n) eZ.body [p0,p1,p2,.un]):=aY (g:=eZ)
noncomputable def dG:Fn:=⟨2,2,(.cons (.ite (.cmp .lt (.var 1) ACq) (.cons (.ret (.idx (.var 0) (.var 1))) .nil) .nil) (.cons (.ite (.cmp .eq (.var 0) ACG) (.cons (.ret AAH) .nil) .nil) (.cons (.ret (.op .add (.op .mul (.idx (.var 0) (.op .mod (.var 1) ACq)) (.con (.int 31))) (.var 1))) .nil)))⟩
def gY(n:Nat)(p0 p1:Sl):pg.fn (n+1) 32 [p0,p1]=fin 2 (ex (pg.cf n) dG.body [p0,p1]):=aY (g:=dG)
noncomputable def jV:Fn:=⟨3,4,(.cons (.set 3 (.op .mod (.op .mul (.op .add (.op .add (.call 32 ABS) (.op .mul (.con (.int 7919)) (.var 1))) AAG) (.con (.int 48271))) (.con (.int 2147483647)))) (.cons (.ret (.op .mod (.op .mod (.op .add (.op .add (.op .mul (.var 3) (.var 3)) (.op .mul (.con (.int 7)) (.var 3))) (.var 1)) (.con (.int 2147483629))) (.var 2))) .nil))⟩
def yz(n:Nat)(p0 p1 p2:Sl):pg.fn (n+1) 33 [p0,p1,p2]=fin 3 (ex (pg.cf n) jV.body [p0,p1,p2,.un]):=aY (g:=jV)
noncomputable def lV:Fn:=⟨3,3,(.cons (.setIx 1 AAH (.op .add ABT AAG)) (.cons (.ret (.call 33 (.cons (.var 0) (.cons ABT (.cons (.var 2) .nil))))) .nil))⟩
def An(n:Nat)(p0 p1 p2:Sl):pg.fn (n+1) 34 [p0,p1,p2]=fin 3 (ex (pg.cf n) lV.body [p0,p1,p2]):=aY (g:=lV)
noncomputable def lR:Fn:=⟨5,6,(.cons (.set 5 ACT) (.cons (.while_ AAz ABV) (.cons (.ret AAa) .nil)))⟩
def Ak(n:Nat)(p0 p1 p2 p3 p4:Sl):pg.fn (n+1) 35 [p0,p1,p2,p3,p4]=fin 5 (ex (pg.cf n) lR.body [p0,p1,p2,p3,p4,.un]):=aY (g:=lR)
noncomputable def jT:Fn:=⟨3,6,(.cons (.set 3 (.call 35 (.cons (.var 0) (.cons (.ref 1) (.cons (.var 2) (.cons AAG AAT)))))) (.cons (.set 4 (.lis (.cons (.tup .nil) .nil))) (.cons (.for_ (.name 5) (.var 3) (.cons (.set 4 (.op .add (.comp 1 (.name 0) (.var 4) AAL (.op .add (.var 0) (.tup (.cons (.con (.bl false)) .nil)))) (.comp 1 (.name 0) (.var 4) AAL (.op .add (.var 0) (.tup (.cons AAL .nil)))))) .nil)) (.cons (.ret (.tup (.cons ABn (.cons (.var 3) (.cons (.bi .tuple (.bi .sorted (.comp 1 (.name 0) (.var 4) AAf (.var 0)))) .nil))))) .nil))))⟩
def yu(n:Nat)(p0 p1 p2:Sl):pg.fn (n+1) 36 [p0,p1,p2]=fin 3 (ex (pg.cf n) jT.body [p0,p1,p2,.un,.un,.un]):=aY (g:=jT)
noncomputable def dg:Fn:=⟨4,6,(.cons (.set 4 (.call 34 (.cons (.var 0) (.cons (.ref 1) (.cons (.con (.int 9)) .nil))))) (.cons (.ite (.or (.cons (.cmp .lt (.var 4) (.con (.int 4))) (.cons (.cmp .lt ADf AAQ) .nil))) (.cons (.ret (.tup (.cons (.idx (.lis AAh) (.op .mod (.var 4) AAQ)) (.cons ABm .nil)))) .nil) .nil) (.cons (.ite (.cmp .lt (.var 4) (.con (.int 7))) (.cons (.ret (.tup (.cons (.idx (.lis (.cons ABh (.cons ABo (.cons ABw .nil)))) (.op .sub (.var 4) (.con (.int 4)))) (.cons (.call 35 (.cons (.var 0) (.cons (.ref 1) (.cons (.var 2) (.cons AAQ AAT))))) .nil)))) .nil) .nil) (.cons (.ite (.or (.cons (.cmp .eq (.var 4) (.con (.int 7))) (.cons (.cmp .eq (.var 3) AAH) .nil))) (.cons (.ret (.call 36 (.cons (.var 0) (.cons (.ref 1) (.cons (.var 2) .nil))))) .nil) .nil) (.cons (.set 5 (.call 37 (.cons (.var 0) (.cons (.ref 1) (.cons (.var 2) (.cons (.op .sub (.var 3) AAG) .nil)))))) (.cons (.ret (.tup (.cons ABb (.cons (.var 5) (.cons ABm (.cons ACs .nil)))))) .nil))))))⟩
def iV(n:Nat)(p0 p1 p2 p3:Sl):pg.fn (n+1) 37 [p0,p1,p2,p3]=fin 4 (ex (pg.cf n) dg.body [p0,p1,p2,p3,.un,.un]):=aY (g:=dg)
noncomputable def oV:Fn:=⟨4,8,(.cons (.set 4 (.slc (.tup (.cons ABU (.cons ACQ (.cons (.con (.str "come")) .nil)))) .noneE (.call 34 (.cons (.var 0) (.cons (.ref 1) ADa))))) (.cons (.set 5 (.slc (.tup ABI) .noneE ACY)) (.cons ADX (.cons (.set 7 (.bi .tuple (.comp 1 (.name 0) (.var 5) AAL (.tup ABY)))) (.cons (.ret (.tup (.cons (.var 4) (.cons (.var 7) (.cons (.bi .tuple (.comp 1 (.name 0) (.var 6) AAL AAf)) .nil))))) .nil)))))⟩
def GJ(n:Nat)(p0 p1 p2 p3:Sl):pg.fn (n+1) 38 [p0,p1,p2,p3]=fin 4 (ex (pg.cf n) oV.body [p0,p1,p2,p3,.un,.un,.un,.un]):=aY (g:=oV)
noncomputable def lQ:Fn:=⟨4,9,(.cons (.set 4 (.bi .tuple (.comp 1 (.name 0) AAg ABR AAb))) (.cons (.set 5 ACY) (.cons ADS (.cons (.for_ (.name 7) (.range1 (.var 5)) (.cons (.set 8 (.comp 1 (.name 0) ADK AAf (.var 0))) (.cons (.append 6 (.bi .tuple (.comp 1 (.name 0) (.var 8) AAL (.tup ABj)))) .nil))) (.cons (.ret (.tup (.cons (.var 4) (.cons (.bi .tuple (.var 6)) .nil)))) .nil)))))⟩
def Aj(n:Nat)(p0 p1 p2 p3:Sl):pg.fn (n+1) 39 [p0,p1,p2,p3]=fin 4 (ex (pg.cf n) lQ.body [p0,p1,p2,p3,.un,.un,.un,.un,.un]):=aY (g:=lQ)
noncomputable def lU:Fn:=⟨2,5,(.cons (.set 2 (.slc (.lis ABI) .noneE (.op .add ACM (.call 34 (.cons (.var 0) (.cons (.ref 1) AAT)))))) (.cons (.set 3 ACG) (.cons (.for_ (.name 4) (.range1 ADf) AAe) (.cons (.ret (.tup (.cons (.tup .nil) (.cons ABp (.cons (.bi .tuple (.comp 1 (.name 0) (.var 2) AAL AAf)) .nil))))) .nil))))⟩
def Am(n:Nat)(p0 p1:Sl):pg.fn (n+1) 40 [p0,p1]=fin 2 (ex (pg.cf n) lU.body [p0,p1,.un,.un,.un]):=aY (g:=lU)
noncomputable def jW:Fn:=⟨2,8,(.cons (.set 2 (.slc (.lis (.cons ACf (.cons ACe (.cons (.con (.str "rr")) (.cons (.con (.str "go")) .nil))))) .noneE (.op .add AAG (.call 34 (.cons (.var 0) (.cons (.ref 1) ABd)))))) (.cons (.set 3 ABU) (.cons (.set 4 (.lis (.cons ACs .nil))) (.cons (.set 5 ACG) (.cons (.for_ (.name 6) (.var 2) (.cons (.set 7 AAd) (.cons ABk (.cons ACR (.cons (.mov 3 6) .nil))))) (.cons (.ret (.tup (.cons (.tup (.cons (.tup (.cons ABU .nil)) (.cons AAa (.cons (.bi .tuple (.var 4)) .nil)))) (.cons (.tup (.cons (.tup (.cons (.idx (.var 2) (.neg AAG)) .nil)) (.cons (.tup (.cons (.tup (.cons (.tup (.cons ABU ADR)) .nil)) (.cons (.tup (.cons (.tup (.cons (.idx (.var 2) (.neg AAG)) AAw)) .nil)) .nil))) .nil))) .nil)))) .nil))))))⟩
def yD(n:Nat)(p0 p1:Sl):pg.fn (n+1) 41 [p0,p1]=fin 2 (ex (pg.cf n) jW.body [p0,p1,.un,.un,.un,.un,.un,.un]):=aY (g:=jW)
noncomputable def aL:Fn:=⟨2,8,(.cons (.set 2 (.call 34 (.cons (.var 0) (.cons (.ref 1) (.cons (.con (.int 6)) .nil))))) (.cons (.set 3 (.tup (.cons (.idx (.lis (.cons ABw (.cons ABw (.cons ABh (.cons ABo (.cons ABw (.cons ABw .nil))))))) (.var 2)) (.cons (.tup (.cons ABU (.cons ACQ .nil))) .nil)))) (.cons (.ite (.cmp .gt (.var 2) ACM) (.cons (.set 3 (.tup (.cons ABb (.cons (.tup (.cons ABv (.cons ABU .nil))) (.cons ACQ (.cons AAL .nil)))))) .nil) .nil) (.cons (.set 4 (.tup (.cons (.tup (.cons (.tup (.cons ABU ADR)) (.cons (.tup (.cons ACQ (.cons AAQ .nil))) .nil))) (.cons (.tup (.cons (.tup (.cons ACQ AAT)) .nil)) (.cons (.tup (.cons (.tup (.cons ABU AAT)) .nil)) (.cons (.tup (.cons (.tup (.cons ACf AAw)) .nil)) .nil)))))) (.cons (.set 5 (.lis (.cons (.tup (.cons ACf ABM)) .nil))) (.cons (.ite ACs (.cons (.append 5 (.tup (.cons ACe (.cons (.tup (.cons (.idx (.lis AAh) AAd) (.cons ACf .nil))) .nil)))) .nil) .nil) (.cons (.set 6 ACs) (.cons (.set 7 (.lis (.cons (.var 6) (.cons (.var 6) (.cons (.var 6) .nil))))) (.cons (.ite (.cmp .gt (.bi .len (.var 5)) AAG) (.cons (.append 7 (.cmp .eq (.var 6) (.cmp .eq (.idx (.idx (.idx (.var 5) AAG) AAG) AAH) ABv))) .nil) .nil) (.cons (.ret (.tup (.cons (.tup (.cons (.tup (.cons ABU (.cons ACQ .nil))) (.cons AAa (.cons (.bi .tuple (.var 7)) .nil)))) (.cons (.tup (.cons (.tup (.cons ACf .nil)) ACi)) .nil)))) .nil))))))))))⟩
def gW(n:Nat)(p0 p1:Sl):pg.fn (n+1) 42 [p0,p1]=fin 2 (ex (pg.cf n) aL.body [p0,p1,.un,.un,.un,.un,.un,.un]):=aY (g:=aL)
noncomputable def cU:Fn:=⟨3,6,(.cons (.set 3 (.op .add AAv (.bi .tuple (.comp 1 (.name 0) AAg AAL AAb)))) (.cons (.set 4 (.call 34 (.cons (.var 0) (.cons (.ref 1) (.cons (.bi .len AAg) .nil))))) (.cons (.set 5 (.bi .list AAg)) (.cons (.setIx 5 (.var 4) (.tup (.cons (.idx (.idx (.var 5) (.var 4)) AAH) (.cons (.call 37 (.cons (.var 0) (.cons (.ref 1) (.cons (.var 3) ADR)))) .nil)))) (.cons (.ret (.tup (.cons AAv (.cons AAa (.cons (.idx (.var 2) AAQ) .nil))))) .nil)))))⟩
def mH(n:Nat)(p0 p1 p2:Sl):pg.fn (n+1) 43 [p0,p1,p2]=fin 3 (ex (pg.cf n) cU.body [p0,p1,p2,.un,.un,.un]):=aY (g:=cU)
noncomputable def bD:Fn:=⟨2,6,(.cons (.set 2 (.lis AAZ)) (.cons (.set 3 (.call 34 (.cons (.var 0) (.cons (.ref 2) (.cons (.con (.int 8)) .nil))))) (.cons (.ite (.cmp .lt (.var 3) AAQ) (.cons (.set 4 (.call 38 (.cons (.var 0) (.cons (.ref 2) (.cons AAQ ABd))))) (.cons (.ret (.tup (.cons (.var 4) (.cons (.call 39 (.cons (.var 0) (.cons (.ref 2) (.cons (.var 4) ABd)))) .nil)))) .nil)) .nil) (.cons (.ite (.cmp .eq (.var 3) AAQ) (.cons (.ret (.tup (.cons (.call 38 (.cons (.var 0) (.cons (.ref 2) (.cons AAH ABd)))) (.cons (.tup (.cons (.tup .nil) (.cons (.tup (.cons (.tup .nil) .nil)) .nil))) .nil)))) .nil) .nil) (.cons (.ite (.cmp .eq (.var 3) ACM) (.cons (.set 4 (.call 40 ACP)) (.cons (.ite ACL (.cons (.ret (.tup (.cons (.var 4) (.cons (.tup (.cons (.tup .nil) (.cons (.tup (.cons (.tup .nil) .nil)) .nil))) .nil)))) .nil) .nil) (.cons (.ret (.tup (.cons (.var 4) (.cons (.tup (.cons (.tup (.cons ACe .nil)) (.cons (.tup (.cons (.tup (.cons (.tup (.cons ACe ADR)) .nil)) (.cons (.tup (.cons (.tup (.cons ACe AAw)) .nil)) .nil))) .nil))) .nil)))) .nil))) .nil) (.cons (.ite (.cmp .lt (.var 3) (.con (.int 6))) (.cons (.setT [4,5] (.call 41 ACP)) .nil) (.cons (.setT [4,5] (.call 42 ACP)) .nil)) (.cons (.ite (.and (.cons (.cmp .eq (.op .mod (.var 3) AAQ) AAG) (.cons ACL .nil))) (.cons (.set 4 (.call 43 (.cons (.var 0) (.cons (.ref 2) ACi)))) .nil) .nil) (.cons (.ret (.tup (.cons (.var 4) (.cons (.var 5) .nil)))) .nil))))))))⟩
def dM(n:Nat)(p0 p1:Sl):pg.fn (n+1) 44 [p0,p1]=fin 2 (ex (pg.cf n) bD.body [p0,p1,.un,.un,.un,.un]):=aY (g:=bD)
noncomputable def pL:Fn:=⟨1,1,ACJ⟩
def yx(n:Nat)(p0:Sl):pg.fn (n+1) 45 [p0]=fin 1 (ex (pg.cf n) pL.body [p0]):=aY (g:=pL)
noncomputable def jR:Fn:=⟨3,5,(.cons (.ite (.cmp .eq AAb ABv) (.cons (.ret ACo) .nil) .nil) (.cons (.ite (.cmp .eq AAb ACp) (.cons (.ret (.not ACo)) .nil) .nil) (.cons (.ite (.cmp .eq AAb ABb) AAn .nil) (.cons (.set 4 (.comp 1 (.name 0) AAc AAL (.idx (.var 2) (.var 0)))) (.cons (.ite (.cmp .eq AAb ABn) ACh .nil) (.cons (.ite (.cmp .eq AAb ABh) ACa .nil) (.cons (.ite (.cmp .eq AAb ABo) ACy .nil) (.cons (.ite ABl (.cons (.ret (.var 2)) .nil) .nil) ADT))))))))⟩
def cY(n:Nat)(p0 p1 p2:Sl):pg.fn (n+1) 46 [p0,p1,p2]=fin 3 (ex (pg.cf n) jR.body [p0,p1,p2,.un,.un]):=aY (g:=jR)
noncomputable def g8:Fn:=⟨2,3,(.cons (.set 2 (.bi .dict (.bi .list (.zip ADc (.var 1))))) (.cons (.ret (.comp 1 (.name 0) AAc AAo AAb)) .nil))⟩
def tU(n:Nat)(p0 p1:Sl):pg.fn (n+1) 47 [p0,p1]=fin 2 (ex (pg.cf n) g8.body [p0,p1,.un]):=aY (g:=g8)
noncomputable def jU:Fn:=⟨3,4,(.cons (.set 3 (.comp 1 (.name 0) ACt (.cmp .isin AAb ABT) AAb)) (.cons ACO (.cons (.ret (.comp 1 (.name 0) ADc ABz (.var 0))) .nil)))⟩
def yw(n:Nat)(p0 p1 p2:Sl):pg.fn (n+1) 48 [p0,p1,p2]=fin 3 (ex (pg.cf n) jU.body [p0,p1,p2,.un]):=aY (g:=jU)
noncomputable def oW:Fn:=⟨4,8,(.cons (.set 4 ADc) (.cons (.set 5 (.bi .tuple (.comp 1 (.name 0) (.range1 ADe) AAL ABs))) (.cons (.ite (.and (.cons (.cmp .notin (.var 3) AAb) (.cons (.cmp .notin (.var 3) ABT) .nil))) (.cons (.ret (.tup (.cons (.var 5) (.cons AAg .nil)))) .nil) .nil) (.cons (.for_ (.tup [6,7]) ACt (.cons (.ite (.cmp .eq (.var 6) (.var 3)) ACX .nil) .nil)) ADL))))⟩
def GK(n:Nat)(p0 p1 p2 p3:Sl):pg.fn (n+1) 49 [p0,p1,p2,p3]=fin 4 (ex (pg.cf n) oW.body [p0,p1,p2,p3,.un,.un,.un,.un]):=aY (g:=oW)
noncomputable def gM:Fn:=⟨6,15,(.cons ACH (.cons ACc (.cons (.set 8 AAH) (.cons (.while_ ADW (.cons ABy (.cons (.for_ (.name 12) ACW (.cons AAs (.cons (.ite (.and (.cons (.cmp .notN (.var 13) ABg) AAr)) ACZ .nil) (.cons (.ite (.and (.cons (.cmp .notN (.var 13) ABg) AAm)) ABK .nil) .nil)))) ABx))) AAP))))⟩
def yC(n:Nat)(p0 p1 p2 p3 p4 p5:Sl):pg.fn (n+1) 50 [p0,p1,p2,p3,p4,p5]=fin 6 (ex (pg.cf n) gM.body [p0,p1,p2,p3,p4,p5,.un,.un,.un,.un,.un,.un,.un,.un,.un]):=aY (g:=gM)
noncomputable def NB:Fn:=⟨1,9,(.cons ABt (.cons ADJ (.cons AAp (.cons ABL (.cons AAu (.cons (.ite (.not (.call 50 (.cons (.var 1) (.cons (.var 2) (.cons (.var 4) (.cons (.var 5) (.cons ABg AAw))))))) (.cons (.ret (.cmp .jL (.var 6) ABg)) .nil) .nil) (.cons (.ite ABZ AAP .nil) (.cons (.for_ (.tup [7,8]) (.zip (.var 3) (.var 6)) (.cons (.ite ABW AAP .nil) (.cons (.ite (.cmp .eq (.var 7) (.var 4)) (.cons (.ite ADM AAP .nil) .nil) (.cons (.ite ABO AAP (.cons (.ite AAt AAP .nil) .nil)) .nil)) .nil))) ACZ))))))))⟩
def aa2(n:Nat)(p0:Sl):pg.fn (n+1) 51 [p0]=fin 1 (ex (pg.cf n) NB.body [p0,.un,.un,.un,.un,.un,.un,.un,.un]):=aY (g:=NB)
end Tx
end
end
section
open PySem Mini
namespace Tx
abbrev sc(ns:List Int):D:=.lst (ns.map .int)
def NQ(ns:List Int)(i:Int)(h0:0<=i)(h:i<ns.length):∃r:Int,at? (ns.map D.int) i=some (.int r):=by
 unfold at? ix?
 rw[QAq,if_neg (by omega:¬i<0)]
 rw[if_pos ⟨h0,h⟩]
 have:i.toNat<ns.length:=by omega
 exact⟨ns[i.toNat],by simp[this]⟩
def K7(ns:List Int):n8 (ns.map D.int)=true:=by
 induction ns with
 |nil=>rfl
 |cons i r ih=>simp[n8,nd,ih]
def HY(ns:List Int):jN (ns.map D.int)=0:=by
 induction ns with
 |nil=>rfl
 |cons i r ih=>simp[jN,dep,ih]
def MK(ns:List Int):aH .eq (.lst (ns.map .int)) (.lst [])=some ns.isEmpty:=by
 cases ns with
 |nil=>rfl
 |cons i ns=>simp[aH,BV,flat,nd,n8,dep,jN,bK,oN,K7,HY]
def Cr n ns k(hk:0<=k):∃r:Int,pg.fn (n+1) 32 [.val (sc ns),.val (.int k)]=.ok (.val (.int r)) [.val (sc ns),.val (.int k)]:=by
 by_cases h:k<ns.length
 ·obtain⟨r,e⟩:=NQ ns k hk h
  exact⟨r,by rw[gY];simp[dG,h,e]⟩
 ·by_cases hn:ns=[]
  ·subst hn
   have h0:¬k<0:=by omega
   exact⟨0,by rw[gY];simp[dG,h0,aX,fits,MK []]⟩
  ·have hl':=List.length_pos_iff.mpr hn
   have hl:(0:Int)<ns.length:=by omega
   obtain⟨r,e⟩:=NQ ns (k%ns.length) (Int.emod_nonneg _ (by omega)) (Int.emod_lt_of_pos _ hl)
   have he:ns.isEmpty=false:=by simpa using hn
   exact⟨r*31+k,by rw[gY];simp[dG,h,e,aX,fits,MK,he,hl,hl',small]⟩
@[simp]theorem ag9(n:Nat):(pg.cf n).fn=pg.fn n:=rfl
@[simp]theorem ag8(n:Nat):(pg.cf n).gl=pg.gl:=rfl
@[simp]theorem acp(n:Nat):(pg.cf n).turns=4000000:=rfl
def qU n ns k many(hk:0<=k)(hm:0<many):∃r:Int,0<=r/\r<many/\
  pg.fn (n+2) 33 [.val (sc ns),.val (.int k),.val (.int many)]=.ok (.val (.int r)) [.val (sc ns),.val (.int k),.val (.int many)]:=by
 obtain⟨c,e⟩:=Cr n ns k hk
 have b:∀x:Int,small (x%2147483647)=true:=fun x=>by
  simp[small]
  omega
 have s1:small 7919=true:=by decide
 have s2:small 48271=true:=by decide
 refine⟨_,?_,?_,by rw[yz];simp[jV,e,s1,s2,s3,b,hm];rfl⟩
 ·exact Int.emod_nonneg _ (by omega)
 ·exact Int.emod_lt_of_pos _ hm
def O2{k:Int}(h:0<=k):0<=k+1:=Int.le_trans h (Int.le_add_one (Int.le_refl k))
def bu n ns k many(hk:0<=k)(hm:0<many):∃r:Int,0<=r/\r<many/\
  pg.fn (n+3) 34 [.val (sc ns),.bor (.lst [.int k]),.val (.int many)]=.ok (.val (.int r)) [.val (sc ns),.bor (.lst [.int (k+1)]),.val (.int many)]:=by
 obtain⟨r,h1,h2,e⟩:=qU n ns _ many (O2 hk) hm
 refine⟨r,h1,h2,?_⟩
 rw[An]
 simp[lV,at?,ix?,pP,e]
end Tx
end
section
open PySem Mini
namespace Tx
def qy:E:=AAz
def yj:S:=ABV
abbrev someσ(ns:List Int)(k:Int)(xs:List D)(least most:Int)(row:List D):Ev:=[.val (sc ns),.bor (.lst [.int k]),.val (.tup xs),.val (.int least),.val (.int most),.own (.lst row)]
def Jz n ns k(hk:0<=k)xs row least most(h0:0<row.length)(hf:row.length<=4000000):
  ∃j:Nat,j<row.length/\ex (pg.cf (n+3)) yj (someσ ns k xs least most row)=.next (someσ ns (k+1) xs least most (row.eraseIdx j)):=by
 obtain⟨r,h1,h2,e⟩:=bu n ns k row.length hk (by omega)
 refine⟨r.toNat,by omega,?_⟩
 have f:fits row.length=true:=by simp[fits];omega
 have hx:ix? row.length r=some r.toNat:=by
  unfold ix?
  rw[if_neg (by omega:¬r<0),if_pos ⟨h1,h2⟩]
 have hr:row[r.toNat]? =some _:=QXq (by omega)
 simp[yj,e,cH,iz,f,hx,hr,tL]
theorem Gq(n:Nat)(ns:List Int)(xs:List D)(least most:Int)(hx:xs.length<=4000000)(hl:0<=least)(hlm:least<=most):∀(L:Nat)(row:List D)(k:Int)(fuel:Nat),row.length=L->L<fuel->0<=k->row.Sublist xs->least<=row.length->
  ∃ys k',ys.Sublist xs/\least<=ys.length/\ys.length<=most/\0<=k'/\aZ (ev (pg.cf (n+3)) qy) (ex (pg.cf (n+3)) yj) fuel (someσ ns k xs least most row)=.next (someσ ns k' xs least most ys):=by
 intro L
 induction L with
 |zero=>
  intro row k fuel hL hf hk hs hr
  obtain⟨fuel,rfl⟩:∃f,fuel=f+1:=⟨fuel-1,by omega⟩
  have:¬least<row.length:=by omega
  exact⟨row,k,hs,hr,by omega,hk,by simp[aZ,qy,this]⟩
 |succ L ih=>
  intro row k fuel hL hf hk hs hr
  obtain⟨fuel,rfl⟩:∃f,fuel=f+1:=⟨fuel-1,by omega⟩
  have hrl:=hs.length_le
  by_cases h1:least<row.length
  ·--the row is longer than the least
   have cont:∀k1:Int,0<=k1->∃ys k',ys.Sublist xs/\least<=ys.length/\ys.length<=most/\0<=k'/\
     (ex _ yj _).turn _=.next (someσ ns k' xs least most ys):=fun k1 hk1=>by
    obtain⟨j,hj,e⟩:=Jz n ns k1 hk1 xs row least most (by omega) (by omega)
    have el:(row.eraseIdx j).length=L:=by rw[List.length_eraseIdx_of_lt hj];omega
    obtain⟨ys,k',a1,a2,a3,a4,a5⟩:=ih _ (k1+1) fuel el (by omega) (by omega) ((List.eraseIdx_sublist row j).trans hs) (by omega)
    exact⟨ys,k',a1,a2,a3,a4,by rw[e];exact a5⟩
   by_cases h2:most<row.length
   ·obtain⟨ys,k',a1,a2,a3,a4,a5⟩:=cont k hk
    refine⟨ys,k',a1,a2,a3,a4,?_⟩
    rw[<-a5]
    simp[aZ,qy,h1,h2]
   ·obtain⟨r,b1,b2,e⟩:=bu n ns k 2 hk (by omega)
    by_cases h3:r=1
    ·subst h3
     obtain⟨ys,k',a1,a2,a3,a4,a5⟩:=cont (k+1) (by omega)
     refine⟨ys,k',a1,a2,a3,a4,?_⟩
     rw[<-a5]
     simp[aZ,qy,h1,h2,e]
    ·exact⟨row,k+1,hs,by omega,by omega,by omega,by simp[aZ,qy,h1,h2,e,h3]⟩
  ·exact⟨row,k,hs,by omega,by omega,hk,by simp[aZ,qy,h1]⟩
def Di n ns k(hk:0<=k)xs least most(hx:xs.length<=900)(hl:0<=least)(hlm:least<=most)(hxl:least<=xs.length):
  ∃ys k',ys.Sublist xs/\least<=ys.length/\ys.length<=most/\0<=k'/\
   pg.fn (n+4) 35 [.val (sc ns),.bor (.lst [.int k]),.val (.tup xs),.val (.int least),.val (.int most)]=.ok (.val (.tup ys)) [.val (sc ns),.bor (.lst [.int k']),.val (.tup xs),.val (.int least),.val (.int most)]:=by
 obtain⟨ys,k',a1,a2,a3,a4,a5⟩:=Gq n ns xs least most (by omega) hl hlm xs.length xs k 4000000 rfl (by omega) hk (List.Sublist.refl _) hxl
 refine⟨ys,k',a1,a2,a3,a4,?_⟩
 rw[Ak]
 have hb:lR.body=.cons _ (.cons (.while_ qy yj) _):=rfl
 rw[hb]
 simp[a5]
end Tx
end
section
open PySem Mini
namespace Tx
def tK(s:Sl):Prop:=s=.un\/∃d,s=.val d
def jE(h:tK s)d(r:Ev):bV (.name 0) d (s::r)=some (.val d::r):=by
 rcases h with rfl|⟨e,rfl⟩<;>simp[bV]
def pK:E:=AAf
def xg n ns k(hk:0<=k)d(rest:Ev):∃b:Bool,ev (pg.cf (n+3)) pK (.val d:: .val (sc ns):: .bor (.lst [.int k])::rest)=.ok (.val (.bl b)) (.val d:: .val (sc ns):: .bor (.lst [.int (k+1)])::rest):=by
 obtain⟨r,h1,h2,e⟩:=bu n ns k 2 hk (by omega)
 exact⟨r==1,by simp[pK,e]⟩
theorem Nj(n:Nat)(ns:List Int)(rest:Ev):∀(xs acc:List D)(k:Int)(s:Sl),0<=k->tK s->∃bs k' s',bs.length=xs.length/\0<=k'/\tK s'/\
  aO (.name 0) (ev (pg.cf (n+3)) pK) (ev (pg.cf (n+3)) (.var 0)) xs acc (s:: .val (sc ns):: .bor (.lst [.int k])::rest)=.ok (acc++mQ bs xs) (s':: .val (sc ns):: .bor (.lst [.int k'])::rest)
 |[]=>fun acc k s hk hs=>⟨[],k,s,rfl,hk,hs,by simp[aO,mQ]⟩
 |x::xs=>fun acc k s hk hs=>by
  obtain⟨b,e⟩:=xg n ns k hk x rest
  cases b with
  |true=>
   obtain⟨bs,k',s',a1,a2,a3,a4⟩:=Nj n ns rest xs _ (k+1) _ (by omega) (.inr ⟨x,rfl⟩)
   refine⟨true::bs,k',s',by simp[a1],a2,a3,?_⟩
   rw[aO,jE hs]
   simp only[e,cN,if_true]
   have e0:ev (pg.cf (n+3)) (.var 0) (.val x:: .val (sc ns):: .bor (.lst [.int (k+1)])::rest)=.ok (.val x) (.val x:: .val (sc ns):: .bor (.lst [.int (k+1)])::rest):=by simp
   rw[e0,bO,a4]
   simp[mQ]
  |false=>
   obtain⟨bs,k',s',a1,a2,a3,a4⟩:=Nj n ns rest xs acc (k+1) _ (by omega) (.inr ⟨x,rfl⟩)
   refine⟨false::bs,k',s',by simp[a1],a2,a3,?_⟩
   rw[aO,jE hs]
   simp only[e,cN,Qxq,if_false]
   rw[a4]
   simp[mQ]
noncomputable def SN(b:Bool):E:=(.comp 1 (.name 0) (.var 4) AAL (.op .add (.var 0) (.tup (.cons (.con (.bl b)) .nil))))
def v4:S:=(.cons (.set 4 (.op .add (SN false) (SN true))) .nil)
theorem Od(c:Cf)(b:Bool)(rest:Ev):∀(rs:List (List Bool))(acc:List D)(s:Sl),tK s->(∀r∈rs,r.length<=4000000)->∃s',tK s'/\
  aO (.name 0) (ev c AAL) (ev c (.op .add (.var 0) (.tup (.cons (.con (.bl b)) .nil)))) (rs.map aK) acc (s::rest)=.ok (acc++(rs.map (· ++[b])).map aK) (s'::rest)
 |[]=>fun acc s hs _=>⟨s,hs,by simp[aO]⟩
 |r::rs=>fun acc s hs hl=>by
  obtain⟨s',a1,a2⟩:=Od c b rest rs _ _ (.inr ⟨_,rfl⟩) fun q hq=>hl q (QYq _ hq)
  have h1:=hl r QYz
  refine⟨s',a1,?_⟩
  rw[Qyz,aO,jE hs]
  have e0:ev c (.op .add (.var 0) (.tup (.cons (.con (.bl b)) .nil))) (.val (aK r)::rest)=.ok (.val (aK (r++[b]))) (.val (aK r)::rest):=by
   have f:fits (r.length+1)=true:=by simp[fits];omega
   simp[aX,aK,f]
  have e1:ev c AAL (.val (aK r)::rest)=.ok (.val (.bl true)) (.val (aK r)::rest):=by simp
  simp only[e1,cN,if_true]
  rw[e0,bO,a2]
  simp
def Oe c b(rs:List (List Bool))(hl:∀r∈rs,r.length<=4000000)(hs:s=.own (.lst (rs.map aK))\/s=.val (.lst (rs.map aK)))s0 s1 s2 s3 s5:ev c (SN b) [s0,s1,s2,s3,s,s5]=.ok (.new (.lst ((rs.map (· ++[b])).map aK))) [s0,s1,s2,s3,.val (.lst (rs.map aK)),s5]:=by
 obtain⟨s',_,a⟩:=Od c b [s0,s1,s2,s3,.val _,s5] rs [] .un (.inl rfl) hl
 have h:ev c (.var 4) [s0,s1,s2,s3,s,s5]=.ok (.val (.lst (rs.map aK))) [s0,s1,s2,s3,.val (.lst (rs.map aK)),s5]:=by
  rcases hs with rfl|rfl<;>simp
 unfold SN
 rw[lD,h,bO]
 simp only[items]
 rw[show List.replicate 1 Sl.un++[s0,s1,s2,s3,.val _,s5]=Sl.un::[s0,s1,s2,s3,.val _,s5]from rfl,a]
 simp
def Gy c(rs:List (List Bool))(hl:∀r∈rs,r.length<=4000000)(hn:rs.length<=4000000)(hs:s=.own (.lst (rs.map aK)))s0 s1 s2 s3 s5:
  ex c v4 [s0,s1,s2,s3,s,s5]=.next [s0,s1,s2,s3,.own (.lst ((rs.map (· ++[false])++rs.map (· ++[true])).map aK)),s5]:=by
 have f:fits (rs.length+rs.length)=true:=by simp[fits];omega
 unfold v4
 simp only[x_0,x_1,Z2,v_5]
 rw[Oe c false rs hl (.inl hs),kO]
 rw[Oe c true rs hl (.inr rfl),kO]
 simp[f]
theorem uA(c:Cf)(s0 s1 s2 s3:Sl):∀(ys:List D)(k:Nat)(s5:Sl),tK s5->k+ys.length<=9->∃s5',tK s5'/\bI (.name 5) (ex c v4) ys [s0,s1,s2,s3,.own (.lst ((dN k).map aK)),s5]=.next [s0,s1,s2,s3,.own (.lst ((dN (k+ys.length)).map aK)),s5']
 |[]=>fun k s5 h5 _=>⟨s5,h5,by simp[bI]⟩
 |y::ys=>fun k s5 h5 hk=>by
  simp only[QBq]at hk
  obtain⟨s5',a1,a2⟩:=uA c s0 s1 s2 s3 ys (k+1) _ (.inr ⟨y,rfl⟩) (by omega)
  refine⟨s5',a1,?_⟩
  have st:bV (.name 5) y [s0,s1,s2,s3,.own (.lst ((dN k).map aK)),s5]=some [s0,s1,s2,s3,.own (.lst ((dN k).map aK)),.val y]:=by
   rcases h5 with rfl|⟨e,rfl⟩<;>simp[bV]
  have lens:∀k,∀r∈dN k,r.length=k:=by
   intro k
   induction k with
   |zero=>intro r hr;simp[dN]at hr;subst hr;rfl
   |succ k ih=>
    intro r hr
    simp only[dN,QXz,QDq]at hr
    rcases hr with ⟨q,hq,rfl⟩|⟨q,hq,rfl⟩<;>simp[ih q hq]
  have hn:(dN k).length<=4000000:=by
   rw[nO]
   have:2 ^k<=2 ^9:=Nat.pow_le_pow_right (by omega) (by omega)
   omega
  rw[bI,st]
  simp only
  rw[Gy c _ (fun r hr=>by rw[lens k r hr];omega) hn rfl,cQ]
  rw[show(dN k).map _++(dN k).map _=dN (k+1)from rfl,a2]
  rw[show k+1+ys.length=k+(y::ys).length by simp;omega]
def p8:E:=.comp 1 (.name 0) (.var 4) pK (.var 0)
def Cg n ns k(hk:0<=k)zs s2 s3 s5:∃bs k',bs.length=zs.length/\0<=k'/\
  ev (pg.cf (n+3)) p8 [.val (sc ns),.bor (.lst [.int k]),s2,s3,.own (.lst zs),s5]=.ok (.new (.lst (mQ bs zs))) [.val (sc ns),.bor (.lst [.int k']),s2,s3,.val (.lst zs),s5]:=by
 obtain⟨bs,k',s',c1,c2,c3,c4⟩:=Nj n ns [s2,s3,.val _,s5] zs [] k .un hk (.inl rfl)
 refine⟨bs,k',c1,c2,?_⟩
 have h:ev (pg.cf (n+3)) (.var 4) [.val (sc ns),.bor (.lst [.int k]),s2,s3,.own (.lst zs),s5]=.ok (.val (.lst zs)) [.val (sc ns),.bor (.lst [.int k]),s2,s3,.val (.lst zs),s5]:=by simp
 unfold p8
 rw[lD,h,bO]
 simp only[items]
 rw[show List.replicate 1 Sl.un++[.val _,.bor _,s2,s3,.val _,s5]=Sl.un:: .val _:: .bor _::[s2,s3,.val _,s5]from rfl,c4]
 simp
def Jq n ns k(hk:0<=k)xs(hx:xs.length<=900)(h1:1<=xs.length):
  ∃ys rs k',ys.Sublist xs/\1<=ys.length/\ys.length<=3/\(∀r∈rs,r.length=ys.length)/\yZ rs=true/\0<=k'/\
   pg.fn (n+5) 36 [.val (sc ns),.bor (.lst [.int k]),.val (.tup xs)]=.ok (.val (.tup [.str "table",.tup ys,.tup (rs.map aK)])) [.val (sc ns),.bor (.lst [.int k']),.val (.tup xs)]:=by
 obtain⟨ys,k1,a1,a2,a3,a4,a5⟩:=Di n ns k hk xs 1 3 hx (by omega) (by omega) (by omega)
 obtain⟨s5,b1,b2⟩:=uA (pg.cf (n+4)) (.val (sc ns)) (.bor (.lst [.int k1])) (.val (.tup xs)) (.val (.tup ys)) ys 0 .un (.inl rfl) (by omega)
 obtain⟨bs,k2,c1,c2,c4⟩:=Cg (n+1) ns k1 a4 ((dN ys.length).map aK) (.val (.tup xs)) (.val (.tup ys)) s5
 rw[QAq,nO]at c1
 obtain⟨rs,d1,d2,d3⟩:=Gp ys.length (by omega) (by omega) bs c1
 refine⟨ys,rs,k2,a1,by omega,by omega,d2,d3,c2,?_⟩
 rw[yu]
 have hb:jT=⟨3,6,.cons _ (.cons _ (.cons (.for_ _ _ v4)
  (.cons (.ret (.tup (.cons _ (.cons _ (.cons (.bi .tuple (.bi .sorted p8)) .nil))))) .nil)))⟩:=rfl
 rw[hb]
 have e1:([D.tup []])=(dN 0).map aK:=rfl
 have e2:(dN 0).length=1:=rfl
 have q:p8.aB=none:=rfl
 simp[a5,aX,items,e1,e2,b2,c4,d1,q]
end Tx
end
section
open PySem Mini
namespace Tx
inductive bJ(xs:List D):Nat->D->Prop
 |same {n:Nat} {x:D}:x∈xs->bJ xs n (.tup [.str "same",x])
 |not {n:Nat} {x:D}:x∈xs->bJ xs n (.tup [.str "not",x])
 |and {n:Nat} {ys:List D}:ys.Sublist xs->2<=ys.length->ys.length<=3->bJ xs n (.tup [.str "and",.tup ys])
 |or {n:Nat} {ys:List D}:ys.Sublist xs->2<=ys.length->ys.length<=3->bJ xs n (.tup [.str "or",.tup ys])
 |both {n:Nat} {ys:List D}:ys.Sublist xs->2<=ys.length->ys.length<=3->bJ xs n (.tup [.str "both",.tup ys])
 |table {n:Nat} {ys:List D} {rs:List (List Bool)}:ys.Sublist xs->1<=ys.length->ys.length<=3->(∀r∈rs,r.length=ys.length)->yZ rs=true->bJ xs n (.tup [.str "table",.tup ys,.tup (rs.map aK)])
 |held {n:Nat} {k x:D} {b:Bool}:bJ xs n k->x∈xs->bJ xs (n+1) (.tup [.str "held",k,x,.bl b])
def NP xs r(h1:0<=r)(h2:r<xs.length):∃d,at? xs r=some d/\d∈xs:=by
 unfold at? ix?
 rw[if_neg (Int.not_lt.mpr h1),if_pos ⟨h1,h2⟩]
 have:=(Int.toNat_lt h1).mpr h2
 exact⟨xs[r.toNat],by simp[this],List.getElem_mem this⟩
def Rb(r:Int):r%2=0\/r%2=1:=by omega
def Mz{r:Int}(h1:¬r<4)(h2:r<7):r-4=0\/r-4=1\/r-4=2:=by omega
def eight{r:Int}(h1:¬r<7)(h2:r<9)(h3:¬r=7):r=8:=by omega
def Yr(n:Nat):¬((n:Int)+1=0):=by omega
def uQ m ns xs(hx:xs.length<=900)(h1:1<=xs.length)deep
  (rec:∀dp,deep=dp+1->∀k:Int,0<=k->∃d k',bJ xs dp d/\0<=k'/\pg.fn (m+5) 37 [.val (sc ns),.bor (.lst [.int k]),.val (.tup xs),.val (.int dp)]=.ok (.val d) [.val (sc ns),.bor (.lst [.int k']),.val (.tup xs),.val (.int dp)])
  k(hk:0<=k):∃d k',bJ xs deep d/\0<=k'/\
  pg.fn (m+6) 37 [.val (sc ns),.bor (.lst [.int k]),.val (.tup xs),.val (.int deep)]=.ok (.val d) [.val (sc ns),.bor (.lst [.int k']),.val (.tup xs),.val (.int deep)]:=by
 obtain⟨r,r1,r2,er⟩:=bu (m+2) ns k 9 hk (by decide)
 have hk1:=O2 hk
 by_cases c1:r<4\/xs.length<2
 ·obtain⟨q,q1,q2,eq⟩:=bu (m+2) ns _ xs.length hk1 (Int.ofNat_lt.mpr h1)
  obtain⟨x,ex,mx⟩:=NP xs q q1 q2
  obtain⟨w,ew,kw⟩:∃w,at? [.str "same",.str "not"] (r%2)=some _/\bJ xs deep (.tup [.str w,x]):=by
   rcases Rb r with h|h<;>rw[h]
   ·exact⟨_,rfl,.same mx⟩
   ·exact⟨_,rfl,.not mx⟩
  refine⟨_,k+1+1,kw,O2 hk1,?_⟩
  rw[iV]
  by_cases c4:r<4
  ·simp[dg,er,c4,eq,ex,aX,ew]
  ·have c6:=c1.resolve_left c4
   have c5:(xs.length:Int)<2:=Int.ofNat_lt.mpr c6
   simp[dg,er,c4,c5,c6,eq,ex,aX,ew]
 ·have c2:¬r<4:=fun h=>c1 (.inl h)
  have c3':=fun h=>c1 (.inr h)
  have c3:¬(xs.length:Int)<2:=fun h=>c3' (Int.ofNat_lt.mp h)
  by_cases c7:r<7
  ·obtain⟨ys,k',a1,a2,a3,a4,a5⟩:=Di (m+1) ns _ hk1 xs 2 3 hx (by decide) (by decide) (Int.not_lt.mp c3)
   have a2:=Int.ofNat_le.mp a2
   have a3:=Int.ofNat_le.mp a3
   obtain⟨w,ew,kw⟩:∃w,at? [.str "and",.str "or",.str "both"] (r-4)=some _/\bJ xs deep (.tup [.str w,.tup ys]):=by
    rcases Mz c2 c7 with h|h|h<;>rw[h]
    ·exact⟨_,rfl,.and a1 a2 a3⟩
    ·exact⟨_,rfl,.or a1 a2 a3⟩
    ·exact⟨_,rfl,.both a1 a2 a3⟩
   exact⟨_,k',kw,a4,by rw[iV];simp[dg,er,c2,c3,c3',c7,a5,aX,ew]⟩
  ·by_cases c8:r=7\/deep=0
   ·obtain⟨ys,rs,k',a1,a2,a3,a4,a5,a6,a7⟩:=Jq m ns _ hk1 xs hx h1
    refine⟨_,k',.table a1 a2 a3 a4 a5,a6,?_⟩
    rw[iV]
    by_cases c9:r=7
    ·subst c9
     simp[dg,er,c3,c3',a7]
    ·have c10:=c8.resolve_left c9
     subst c10
     simp[dg,er,c2,c3,c3',c7,c9,beq_false_of_ne c9,a7]
   ·obtain⟨dp,rfl⟩:=Nat.exists_eq_succ_of_ne_zero (fun h=>c8 (.inr h))
    have c9:=eight c7 r2 fun h=>c8 (.inl h)
    subst c9
    obtain⟨d,k1,b1,b2,b3⟩:=rec dp rfl _ hk1
    obtain⟨q,q1,q2,eq⟩:=bu (m+2) ns k1 xs.length b2 (Int.ofNat_lt.mpr h1)
    obtain⟨x,ex,mx⟩:=NP xs q q1 q2
    obtain⟨z,z1,z2,ez⟩:=bu (m+2) ns _ 2 (O2 b2) (by decide)
    refine⟨_,k1+1+1,.held (b:=z==1) b1 mx,O2 (O2 b2),?_⟩
    rw[iV]
    have e1:=Yr dp
    simp[dg,er,c3,c3',beq_false_of_ne e1,e1,(Int.add_sub_cancel _ _),b3,eq,ex,ez,aX]
def afz m deep:m+deep+1+5=m+6+deep:=by omega
def afy m deep:m+6+(deep+1)=m+deep+1+6:=by omega
theorem wF ns xs(hx:xs.length<=900)(h1:1<=xs.length):∀(deep m:Nat)(k:Int),0<=k->∃d k',bJ xs deep d/\0<=k'/\
  pg.fn (m+6+deep) 37 [.val (sc ns),.bor (.lst [.int k]),.val (.tup xs),.val (.int deep)]=.ok (.val d) [.val (sc ns),.bor (.lst [.int k']),.val (.tup xs),.val (.int deep)]
 |0=>fun m k hk=>uQ m ns xs hx h1 0 (fun dp h=>nomatch h) k hk
 |deep+1=>fun m k hk=>by
  have:=uQ _ ns xs hx h1 (deep+1) (fun dp h k hk=>by
   cases h
   rw[afz m deep]
   exact(wF ns xs hx h1 deep m k hk)) k hk
  rw[afy m deep]
  exact this
end Tx
end
section
open PySem Mini
namespace Tx
def Et:E:=(.tup ABY)
def Lq n ns k(hk:0<=k)xs(hx:xs.length<=900)(h1:1<=xs.length)x s3 s4 s5 s6 s8:∃d k',bJ xs 1 d/\0<=k'/\
  ev (pg.cf (n+7)) Et [.val x,.val (sc ns),.bor (.lst [.int k]),s3,s4,s5,s6,.val (.tup xs),s8]=.ok (.val (.tup [x,d])) [.val x,.val (sc ns),.bor (.lst [.int k']),s3,s4,s5,s6,.val (.tup xs),s8]:=by
 obtain⟨d,k',a1,a2,a3⟩:=wF ns xs hx h1 1 n k hk
 refine⟨d,k',a1,a2,?_⟩
 simp only[Int.natCast_one,show n+6+1=n+7 from rfl]at a3
 simp[Et,a3,aX]
theorem yU(n:Nat)(ns:List Int)(xs:List D)(hx:xs.length<=900)(h1:1<=xs.length)(s3 s4 s5 s6 s8:Sl):∀(row acc:List D)(k:Int)(s:Sl),0<=k->tK s->∃ks k' s',ks.length=row.length/\(∀d∈ks,bJ xs 1 d)/\0<=k'/\tK s'/\
  aO (.name 0) (ev (pg.cf (n+7)) AAL) (ev (pg.cf (n+7)) Et) row acc [s,.val (sc ns),.bor (.lst [.int k]),s3,s4,s5,s6,.val (.tup xs),s8]
   =.ok (acc++aQ row ks) [s',.val (sc ns),.bor (.lst [.int k']),s3,s4,s5,s6,.val (.tup xs),s8]
 |[]=>fun acc k s hk hs=>⟨[],k,s,rfl,fun d h=>(by cases h),hk,hs,by simp[aO,aQ]⟩
 |x::row=>fun acc k s hk hs=>by
  obtain⟨d,k1,a1,a2,a3⟩:=Lq n ns k hk xs hx h1 x s3 s4 s5 s6 s8
  obtain⟨ks,k',s',b1,b2,b3,b4,b5⟩:=yU n ns xs hx h1 s3 s4 s5 s6 s8 row _ k1 _ a2 (.inr ⟨x,rfl⟩)
  refine⟨d::ks,k',s',by simp[b1],fun e h=>?_,b3,b4,?_⟩
  ·rcases QCq.mp h with rfl|h
   ·exact a1
   ·exact b2 e h
  ·rw[aO,jE hs]
   have e1:∀σ,ev (pg.cf (n+7)) AAL σ=.ok (.val (.bl true)) σ:=fun σ=>by simp
   simp only[e1,cN,if_true]
   rw[a3,bO,b5]
   simp[aQ]
theorem rK(n:Nat)(ns:List Int)(rest:Ev):∀(xs acc:List D)(k:Int)(s:Sl),0<=k->tK s->∃(bs:List Bool)(k':Int)(s':Sl),bs.length=xs.length/\0<=k'/\tK s'/\
  aO (.name 0) (ev (pg.cf (n+3)) AAL) (ev (pg.cf (n+3)) pK) xs acc (s:: .val (sc ns):: .bor (.lst [.int k])::rest)=.ok (acc++bs.map .bl) (s':: .val (sc ns):: .bor (.lst [.int k'])::rest)
 |[]=>fun acc k s hk hs=>⟨[],k,s,rfl,hk,hs,by simp[aO]⟩
 |x::xs=>fun acc k s hk hs=>by
  obtain⟨b,e⟩:=xg n ns k hk x rest
  obtain⟨bs,k',s',a1,a2,a3,a4⟩:=rK n ns rest xs _ _ _ (O2 hk) (.inr ⟨x,rfl⟩)
  refine⟨b::bs,k',s',by simp[a1],a2,a3,?_⟩
  rw[aO,jE hs]
  have e1:∀σ,ev (pg.cf (n+3)) AAL σ=.ok (.val (.bl true)) σ:=fun σ=>by simp
  simp only[e1,cN,if_true]
  rw[e,bO,a4]
  simp
def DY:E:=(.comp 1 (.name 0) (.var 5) AAL Et)
def Ep:E:=(.comp 1 (.name 0) (.var 6) AAL pK)
noncomputable def wu:S:=(.cons ADX (.cons (.set 7 (.bi .tuple DY)) (.cons (.ret (.tup (.cons (.var 4) (.cons (.var 7) (.cons (.bi .tuple Ep) .nil))))) .nil)))
def K3 n ns k(hk:0<=k)ν row(hx:ν.length+row.length<=900)(h1:1<=row.length)s2 s3:∃(ks:List D)(ls:List Bool)(k':Int),ks.length=row.length/\(∀d∈ks,bJ (ν++row) 1 d)/\ls.length=(ν++row).length/\0<=k'/\
  ex (pg.cf (n+7)) wu [.val (sc ns),.bor (.lst [.int k]),s2,s3,.val (.tup ν),.val (.tup row),.un,.un]
   =.ret (.val (.tup [.tup ν,.tup (aQ row ks),.tup (ls.map .bl)])) [.val (sc ns),.bor (.lst [.int k']),s2,s3,.val (.tup ν),.val (.tup row),.val (.tup (ν++row)),.val (.tup (aQ row ks))]:=by
 obtain⟨ks,k1,s',a1,a2,a3,a4,a5⟩:=yU n ns (ν++row) (by simpa using hx) (by simp;omega) s2 s3 _ _ .un row [] k .un hk (.inl rfl)
 obtain⟨ls,k',s'',b1,b2,b3,b4⟩:=rK _ ns [s2,s3,.val _,.val _,.val _,.val _] _ [] k1 .un a3 (.inl rfl)
 refine⟨ks,ls,k',a1,a2,b1,b2,?_⟩
 have f:fits (ν.length+row.length)=true:=by simp[fits];omega
 have em:ev (pg.cf (n+7)) DY [.val (sc ns),.bor (.lst [.int k]),s2,s3,.val (.tup ν),.val (.tup row),.val (.tup (ν++row)),.un]=.ok (.new (.lst (aQ row ks))) [.val (sc ns),.bor (.lst [.int k1]),s2,s3,.val (.tup ν),.val (.tup row),.val (.tup (ν++row)),.un]:=by
  have h:ev (pg.cf (n+7)) (.var 5) [.val (sc ns),.bor (.lst [.int k]),s2,s3,.val (.tup ν),.val (.tup row),.val (.tup (ν++row)),.un]=.ok (.val (.tup row)) [.val (sc ns),.bor (.lst [.int k]),s2,s3,.val (.tup ν),.val (.tup row),.val (.tup (ν++row)),.un]:=by simp
  unfold DY
  rw[lD,h,bO]
  simp only[items]
  rw[show List.replicate 1 Sl.un++[.val _,.bor _,s2,s3,.val _,.val _,.val _,.un]=[.un,.val _,.bor _,s2,s3,.val _,.val _,.val _,.un]from rfl,a5]
  simp
 have el:ev (pg.cf (n+7)) Ep [.val (sc ns),.bor (.lst [.int k1]),s2,s3,.val (.tup ν),.val (.tup row),.val (.tup (ν++row)),.val (.tup (aQ row ks))]=.ok (.new (.lst (ls.map .bl))) [.val (sc ns),.bor (.lst [.int k']),s2,s3,.val (.tup ν),.val (.tup row),.val (.tup (ν++row)),.val (.tup (aQ row ks))]:=by
  have h:ev (pg.cf (n+7)) (.var 6) [.val (sc ns),.bor (.lst [.int k1]),s2,s3,.val (.tup ν),.val (.tup row),.val (.tup (ν++row)),.val (.tup (aQ row ks))]=.ok (.val (.tup (ν++row))) [.val (sc ns),.bor (.lst [.int k1]),s2,s3,.val (.tup ν),.val (.tup row),.val (.tup (ν++row)),.val (.tup (aQ row ks))]:=by simp
  unfold Ep
  rw[lD,h,bO]
  simp only[items]
  rw[show List.replicate 1 Sl.un++[.val _,.bor _,s2,s3,.val _,.val _,.val _,.val _]=.un:: .val _:: .bor _::[s2,s3,.val _,.val _,.val _,.val _]from rfl,b4]
  simp
 have q1:DY.aB=none:=rfl
 have q2:Ep.aB=none:=rfl
 simp[wu,f,em,el,q1,q2,aX]
def hd(h:Nat):List D:=([.str "a",.str "b",.str "come"]:List D).take h
def cL(g:Nat):List D:=([.str "p",.str "q",.str "rr",.str "go",.str "abcdef"]:List D).take g
def gf(h2:h<=2):(hd h).length=h:=List.length_take_of_le (Nat.le_succ_of_le h2)
def cX(g4:g<=5):(cL g).length=g:=List.length_take_of_le g4
noncomputable def aF(h g:Nat)(ks:List D)(ls:List Bool):D:=.tup [.tup (hd h),.tup (aQ (cL g) ks),.tup (ls.map .bl)]
structure cg(h g:Nat)(ks:List D)(ls:List Bool):Prop where
 h2:h<=2
 g1:1<=g
 g5:g<=5
 kl:ks.length=g
 kk:∀d∈ks,bJ (hd h++cL g) 1 d
 ll:ls.length=h+g
def Xb{h:Nat}(i2:ni<=2)(r2:(h:Int)<ni+1):h<=2:=by omega
def K4 n ns k(hk:0<=k)ni(i0:0<=ni)(i2:ni<=2):∃h g ks ls k',cg h g ks ls/\0<=k'/\
  pg.fn (n+8) 38 [.val (sc ns),.bor (.lst [.int k]),.val (.int ni),.val (.int 4)]=.ok (.val (aF h g ks ls)) [.val (sc ns),.bor (.lst [.int k']),.val (.int ni),.val (.int 4)]:=by
 obtain⟨r,r1,r2,er⟩:=bu (n+4) ns k _ hk (Int.lt_add_one_of_le i0)
 obtain⟨q,q1,q2,eq⟩:=bu (n+4) ns _ 4 (O2 hk) (by decide)
 obtain⟨h,rfl⟩:=Int.eq_ofNat_of_zero_le r1
 obtain⟨g,rfl⟩:=Int.eq_ofNat_of_zero_le q1
 have h2:=Xb i2 r2
 have g3:=Int.ofNat_lt.mp q2
 have g1:=Nat.le_add_right 1 g
 have g5:=Nat.add_le_add_left (Nat.le_of_lt g3) 1
 have lh:=gf h2
 have lg:=cX g5
 obtain⟨ks,ls,k',a1,a2,a3,a4,a5⟩:=K3 n ns _ (O2 (O2 hk)) (hd h) (cL _) (by rw[lh,lg];exact Nat.le_trans (Nat.add_le_add h2 g5) (by decide)) (by rw[lg];exact g1) (.val (.int ni)) (.val (.int 4))
 refine⟨h,1+g,ks,ls,k',⟨h2,g1,g5,a1.trans lg,a2,by rw[a3,QTq,lh,lg]⟩,a4,?_⟩
 rw[GJ]
 have hb:oV=⟨4,8,(.cons _ (.cons _ wu))⟩:=rfl
 rw[hb]
 have c1:gR (.tup [.str "a",.str "b",.str "come"]) none (some h)=some (.val (.tup (hd h))):=by
  rcases h with _|_|_|h
  ·rfl
  ·rfl
  ·rfl
  ·exact absurd h2 (by simp)
 have c2:gR (.tup [.str "p",.str "q",.str "rr",.str "go",.str "abcdef"]) none (some (1+g))=some (.val (.tup (cL (1+g)))):=by
  rcases g with _|_|_|_|g
  ·rfl
  ·rfl
  ·rfl
  ·rfl
  ·exact absurd g3 (by simp)
 simp[er,eq,aX,cW,E.jL,c1,c2,a5,aF]
end Tx
end
section
open PySem Mini
namespace Tx
def aW n xs a b(h1:a<=xs.length)(h2:xs.length<=b):pg.fn (n+1) 3 [.val (.tup xs),.val (.int a),.val (.int b)]=.ok (.val (.bl true)) [.val (.tup xs),.val (.int a),.val (.int b)]:=by
 rw[Ao]
 simp[lW,h1,h2]
def UW:E:=.bi .all ACk
def uV n bs m(h:m=bs.length):pg.fn (n+2) 7 [.val (aK bs),.val (.int m)]=.ok (.val (.bl true)) [.val (aK bs),.val (.int m)]:=by
 subst h
 have e:ev (pg.cf (n+1)) UW [.val (aK bs),.val (.int bs.length)]=.ok (.val (.bl true)) [.val (aK bs),.val (.int bs.length)]:=by
  refine all1 (r:=.val (aK bs)) (by simp) rfl rfl fun x hx=>?_
  obtain⟨b,_,rfl⟩:=QDq.mp hx
  simp
 have t:pg.fn _ 3 [.val (aK bs),.val _,.val _]=.ok _ [.val _,.val _,.val _]:=aW n _ bs.length bs.length (by simp) (by simp)
 rw[J1]
 have hb:sV=⟨2,2,(.cons (.ret (.and (.cons _ (.cons UW .nil)))) .nil)⟩:=rfl
 rw[hb]
 simp[t,e]
def cR(xs:List D):Prop:=∀x∈xs,∃s,x=.str s
def oM(h:cR xs):xs.all flat=true:=by
 rw[List.all_eq_true]
 intro x hx
 obtain⟨s,rfl⟩:=h x hx
 rfl
def p6{x:D}(hx:x∈xs)(h:cR xs):aU x xs=true:=by
 induction xs with
 |nil=>cases hx
 |cons y ys ih=>
  unfold aU
  rcases QCq.mp hx with rfl|hx
  ·obtain⟨s,rfl⟩:=h x QYz
   simp[bK]
  ·simp[ih hx fun z hz=>h z (QYq _ hz)]
def Ce(h:cR xs)(nd:xs.Nodup)(hx:x∈xs):gm x xs=1:=by
 induction xs with
 |nil=>cases hx
 |cons y ys ih=>
  have hys:=fun z hz=>h z (QYq _ hz)
  obtain⟨s,rfl⟩:=h y QYz
  rw[List.nodup_cons]at nd
  have zero:∀{zs:List D},cR zs->D.str s∉zs->gm (.str s) zs=0:=by
   intro zs
   induction zs with
   |nil=>intro _ _;rfl
   |cons z zs ihz=>
    intro hz hn
    obtain⟨q,rfl⟩:=hz z QYz
    have ne:q≠s:=fun e=>hn (by rw[e];exact QYz)
    simp[gm,bK,ne,ihz (fun w hw=>hz w (QYq _ hw)) fun hw=>hn (QYq _ hw)]
  rcases QCq.mp hx with rfl|hx
  ·simp[gm,bK,zero hys nd.1]
  ·obtain⟨q,rfl⟩:=hys x hx
   have ne:s≠q:=fun e=>nd.1 (by rw[e];exact hx)
   simp[gm,bK,ne,ih hys nd.2 hx]
def gb n{d:D}(dd:d=.tup xs\/d=.lst xs)(h:cR xs)(hx:x∈xs):pg.fn (n+1) 8 [.val x,.val d]=.ok (.val (.bl true)) [.val x,.val d]:=by
 obtain⟨s,rfl⟩:=h x hx
 rw[GP]
 have o:eU (.str s) xs=true:=by
  unfold eU
  rw[oM h]
  rfl
 have e:aH .isin (.str s) d=some true:=by
  rcases dd with rfl|rfl<;>(show(if eU _ xs then some _ else none)=_;rw[o,p6 hx h];rfl)
 simp[oX,e]
def vK:E:=.bi .all ACN
def lC n{d:D}(hd:d=.tup xs\/d=.lst xs)(h:cR xs)(nd:xs.Nodup):pg.fn (n+1) 6 [.val d]=.ok (.val (.bl true)) [.val d]:=by
 have e:ev (pg.cf n) vK [.val d]=.ok (.val (.bl true)) [.val d]:=by
  refine all1 (r:=.val d) (by simp) rfl (by rcases hd with rfl|rfl<;>rfl) fun x hx=>?_
  obtain⟨s,rfl⟩:=h x hx
  have e1:zB (.tup xs) (.str s)=some (.val (.int 1)):=by
   simp only[zB]
   rw[oM h,Ce h nd hx]
   rfl
  have e2:zB (.lst xs) _=some _:=e1
  rcases hd with rfl|rfl<;>simp[e1,e2]
 have hb:jj=⟨1,1,(.cons (.ret vK) .nil)⟩:=rfl
 rw[v6,hb]
 have q:vK.aB=none:=rfl
 simp[e,q]
def oK:D->D
 |.tup (a::_)=>a
 |_=>.non
theorem vI:∀(gs ks:List D),ks.length=gs.length->(aQ gs ks).map oK=gs
 |[],ks=>fun _=>by simp[aQ]
 |g::gs,[]=>fun h=>by simp at h
 |g::gs,k::ks=>fun h=>by simp[aQ,oK,vI gs ks (by simpa using h)]
def zj(it:E):E:=.comp 1 (.name 0) it AAL AAb
def rJ{σ:Ev}gs ks(hl:ks.length=gs.length)(hi:ev c it σ=.ok (.val (.tup (aQ gs ks))) σ):ev c (zj it) σ=.ok (.new (.lst gs)) σ:=by
 have:=pJ (el:=.idx (.var 0) AAH) oK hi rfl rfl fun y hy=>by
  rw[cP]at hy
  obtain⟨p,_,rfl⟩:=QDq.mp hy
  simp[pairD,oK]
 rw[vI gs ks hl]at this
 exact this
def dD n hs gs ks x(hl:ks.length=gs.length)(hf:hs.length+gs.length<=4000000):
  pg.fn (n+1) 13 [.val (.tup [.tup hs,.tup (aQ gs ks),x])]=.ok (.new (.lst (hs++gs))) [.val (.tup [.tup hs,.tup (aQ gs ks),x])]:=by
 have f:fits (hs.length+gs.length)=true:=by simp[fits];omega
 have hb:jg=⟨1,1,.cons (.ret (.op .add _ (zj _))) .nil⟩:=rfl
 rw[mG,hb]
 simp[rJ (c:=pg.cf n) (it:=.idx (.var 0) AAG) (σ:=[.val (.tup [.tup hs,.tup (aQ gs ks),x])]) gs ks hl (by simp),f]
end Tx
end
section
open PySem Mini
namespace Tx
@[simp↓]theorem Td:decide (Str.ofString "same"=Str.ofString "same")=true:=rfl
@[simp↓]theorem Y4:decide (Str.ofString "not"=Str.ofString "not")=true:=rfl
@[simp↓]theorem Y9:decide (Str.ofString "and"=Str.ofString "and")=true:=rfl
@[simp↓]theorem acS:decide (Str.ofString "or"=Str.ofString "or")=true:=rfl
@[simp↓]theorem Tu:decide (Str.ofString "both"=Str.ofString "both")=true:=rfl
@[simp↓]theorem OD:decide (Str.ofString "table"=Str.ofString "table")=true:=rfl
@[simp↓]theorem Tj:decide (Str.ofString "held"=Str.ofString "held")=true:=rfl
@[simp]theorem U6:decide (Str.ofString "same"=Str.ofString "not")=false:=rfl
@[simp]theorem U7:decide (Str.ofString "same"=Str.ofString "and")=false:=rfl
@[simp]theorem YW:decide (Str.ofString "same"=Str.ofString "or")=false:=rfl
@[simp]theorem Tf:decide (Str.ofString "same"=Str.ofString "both")=false:=rfl
@[simp]theorem Ph:decide (Str.ofString "same"=Str.ofString "table")=false:=rfl
@[simp]theorem Te:decide (Str.ofString "same"=Str.ofString "held")=false:=rfl
@[simp]theorem U9:decide (Str.ofString "not"=Str.ofString "same")=false:=rfl
@[simp]theorem Y5:decide (Str.ofString "not"=Str.ofString "and")=false:=rfl
@[simp]theorem Z6:decide (Str.ofString "not"=Str.ofString "or")=false:=rfl
@[simp]theorem Vb:decide (Str.ofString "not"=Str.ofString "both")=false:=rfl
@[simp]theorem Th:decide (Str.ofString "not"=Str.ofString "table")=false:=rfl
@[simp]theorem Va:decide (Str.ofString "not"=Str.ofString "held")=false:=rfl
@[simp]theorem Vg:decide (Str.ofString "and"=Str.ofString "same")=false:=rfl
@[simp]theorem Y8:decide (Str.ofString "and"=Str.ofString "not")=false:=rfl
@[simp]theorem Z7:decide (Str.ofString "and"=Str.ofString "or")=false:=rfl
@[simp]theorem Vi:decide (Str.ofString "and"=Str.ofString "both")=false:=rfl
@[simp]theorem Tv:decide (Str.ofString "and"=Str.ofString "table")=false:=rfl
@[simp]theorem Vh:decide (Str.ofString "and"=Str.ofString "held")=false:=rfl
@[simp]theorem YX:decide (Str.ofString "or"=Str.ofString "same")=false:=rfl
@[simp]theorem Z4:decide (Str.ofString "or"=Str.ofString "not")=false:=rfl
@[simp]theorem Z5:decide (Str.ofString "or"=Str.ofString "and")=false:=rfl
@[simp]theorem Y0:decide (Str.ofString "or"=Str.ofString "both")=false:=rfl
@[simp]theorem U8:decide (Str.ofString "or"=Str.ofString "table")=false:=rfl
@[simp]theorem YZ:decide (Str.ofString "or"=Str.ofString "held")=false:=rfl
@[simp]theorem Tq:decide (Str.ofString "both"=Str.ofString "same")=false:=rfl
@[simp]theorem Ve:decide (Str.ofString "both"=Str.ofString "not")=false:=rfl
@[simp]theorem Vf:decide (Str.ofString "both"=Str.ofString "and")=false:=rfl
@[simp]theorem Y7:decide (Str.ofString "both"=Str.ofString "or")=false:=rfl
@[simp]theorem Pk:decide (Str.ofString "both"=Str.ofString "table")=false:=rfl
@[simp]theorem Tt:decide (Str.ofString "both"=Str.ofString "held")=false:=rfl
@[simp]theorem O9:decide (Str.ofString "table"=Str.ofString "same")=false:=rfl
@[simp]theorem S9:decide (Str.ofString "table"=Str.ofString "not")=false:=rfl
@[simp]theorem Tc:decide (Str.ofString "table"=Str.ofString "and")=false:=rfl
@[simp]theorem U5:decide (Str.ofString "table"=Str.ofString "or")=false:=rfl
@[simp]theorem Pb:decide (Str.ofString "table"=Str.ofString "both")=false:=rfl
@[simp]theorem Pa:decide (Str.ofString "table"=Str.ofString "held")=false:=rfl
@[simp]theorem Ti:decide (Str.ofString "held"=Str.ofString "same")=false:=rfl
@[simp]theorem Vc:decide (Str.ofString "held"=Str.ofString "not")=false:=rfl
@[simp]theorem Vd:decide (Str.ofString "held"=Str.ofString "and")=false:=rfl
@[simp]theorem Y6:decide (Str.ofString "held"=Str.ofString "or")=false:=rfl
@[simp]theorem Tp:decide (Str.ofString "held"=Str.ofString "both")=false:=rfl
@[simp]theorem Pj:decide (Str.ofString "held"=Str.ofString "table")=false:=rfl
@[simp]theorem Uw:aH .isin (.str "same") (.tup [.str "same",.str "not"])=some true:=rfl
@[simp]theorem Xw:aH .isin (.str "not") (.tup [.str "same",.str "not"])=some true:=rfl
@[simp]theorem Xz:aH .isin (.str "and") (.tup [.str "same",.str "not"])=some false:=rfl
@[simp]theorem Zq:aH .isin (.str "or") (.tup [.str "same",.str "not"])=some false:=rfl
@[simp]theorem Uy:aH .isin (.str "both") (.tup [.str "same",.str "not"])=some false:=rfl
@[simp]theorem Ru:aH .isin (.str "table") (.tup [.str "same",.str "not"])=some false:=rfl
@[simp]theorem Ux:aH .isin (.str "held") (.tup [.str "same",.str "not"])=some false:=rfl
@[simp]theorem Xv:aH .isin (.str "same") (.tup [.str "and",.str "or"])=some false:=rfl
@[simp]theorem Zr:aH .isin (.str "not") (.tup [.str "and",.str "or"])=some false:=rfl
@[simp]theorem Zt:aH .isin (.str "and") (.tup [.str "and",.str "or"])=some true:=rfl
@[simp]theorem ab3:aH .isin (.str "or") (.tup [.str "and",.str "or"])=some true:=rfl
@[simp]theorem Xy:aH .isin (.str "both") (.tup [.str "and",.str "or"])=some false:=rfl
@[simp]theorem Uv:aH .isin (.str "table") (.tup [.str "and",.str "or"])=some false:=rfl
@[simp]theorem Xx:aH .isin (.str "held") (.tup [.str "and",.str "or"])=some false:=rfl
def gl5:pg.gl 5=some (.int 4):=rfl
def gl6:pg.gl 6=some (.int 8):=rfl
def gl7:pg.gl 7=some (.int 3):=rfl
def I9:E:=.bi .all ACw
def dq n{d:D}(dd:d=.tup xs\/d=.lst xs)(h:cR xs)(nd:xs.Nodup)(hs:ys.Sublist xs)a b(h1:a<=ys.length)(h2:ys.length<=b):
  pg.fn (n+2) 9 [.val (.tup ys),.val d,.val (.int a),.val (.int b)]=.ok (.val (.bl true)) [.val (.tup ys),.val d,.val (.int a),.val (.int b)]:=by
 have e:ev (pg.cf (n+1)) I9 [.val (.tup ys),.val d,.val (.int a),.val (.int b)]=.ok (.val (.bl true)) [.val (.tup ys),.val d,.val (.int a),.val (.int b)]:=by
  refine all1 (r:=.val (.tup ys)) (by simp) rfl rfl fun x hx=>?_
  simp[gb n dd h (hs.subset hx)]
 have hb:jY=⟨4,4,(.cons _ (.cons (.ret (.and (.cons I9 _))) .nil))⟩:=rfl
 rw[yF,hb]
 simp[aW n ys a b h1 h2,e,lC n (.inl rfl) (fun z hz=>h z (hs.subset hz)) (hs.nodup nd)]
def af0 xs:cut xs (some 1) none=xs.tail:=by
 cases xs with
 |nil=>rfl
 |cons x xs=>
  have:clip (xs.length+1) 1=1:=by simp[clip];omega
  simp[cut,this]
theorem uW:∀(rs:List (List Bool)),yZ rs=true->∀p∈rs.zip rs.tail,kY p.1 p.2=true
 |[]=>fun _ p h=>by simp at h
 |[a]=>fun _ p h=>by simp at h
 |a::b::r=>fun hi p h=>by
  simp only[yZ,QUq]at hi
  simp only[List.tail_cons,List.zip_cons_cons,QCq]at h
  rcases h with rfl|h
  ·exact hi.1
  ·exact uW _ hi.2 p (by simpa using h)
def T4:E:=.bi .all ACx
def upC:E:=.bi .all ABi
def zL n rs(m:Nat)(h:∀r∈rs,r.length=m)(hi:yZ rs=true):
  pg.fn (n+3) 10 [.val (.tup (rs.map aK)),.val (.int m)]=.ok (.val (.bl true)) [.val (.tup (rs.map aK)),.val (.int m)]:=by
 have e1:ev (pg.cf (n+2)) T4 [.val (.tup (rs.map aK)),.val (.int m)]=.ok (.val (.bl true)) [.val (.tup (rs.map aK)),.val (.int m)]:=by
  refine all1 (r:=.val (.tup (rs.map aK))) (by simp) rfl rfl fun x hx=>?_
  obtain⟨r,hr,rfl⟩:=QDq.mp hx
  simp[uV n r m (by rw[h r hr])]
 have e2:ev (pg.cf (n+2)) upC [.val (.tup (rs.map aK)),.val (.int m)]=.ok (.val (.bl true)) [.val (.tup (rs.map aK)),.val (.int m)]:=by
  have hz:aQ (rs.map aK) (rs.map aK).tail=((rs.zip rs.tail).map fun p=>(aK p.1,aK p.2)).map pairD:=by
   rw[cP,<-List.map_tail,List.zip_map]
   rfl
  refine all2 (r:=.val (.lst (aQ _ (rs.map aK).tail))) ?_ rfl (by show some _=some _;rw[hz]) fun x hx=>?_
  ·simp[cW,E.jL,gR,af0]
  ·obtain⟨p,hp,rfl⟩:=QDq.mp hx
   have lt:aH .lt (aK p.1) (aK p.2)=some true:=by
    simp[aH,ltD,aK,jO,uW rs hi p hp]
   simp[lt]
 have hb:lY=⟨2,2,(.cons (.ite (.or (.cons _ (.cons (.not T4) .nil))) _ .nil) (.cons (.ret upC) .nil))⟩:=rfl
 have q:upC.aB=none:=rfl
 rw[Av,hb]
 simp[e1,e2,q]
def Hv n k:n+4+2*k=n+2+2*k+1+1:=by omega
def Rr n k:n+1+2*k+2=n+2+2*k+1:=by omega
def afx n k:n+2*k+3=n+2+2*k+1:=by omega
def afw n k:n+3+2*k+1=n+4+2*k:=by omega
def afv n k:n+4+2*(k+1)=n+4+2*k+1+1:=by omega
def Ei{a:Nat}(h1:c<=a)(h2:d<=c):(d:Int)<=a:=Int.ofNat_le.mpr (Nat.le_trans h2 h1)
def Ej{a:Nat}(h1:a<=c)(h2:c<=d):(a:Int)<=d:=Int.ofNat_le.mpr (Nat.le_trans h1 h2)
theorem Bp{xs:List D}(h:cR xs)(nd:xs.Nodup):∀{k:Nat}{d:D},bJ xs k d->∀(n:Nat)(dp:Int),dp+k<=3->
  pg.fn (n+4+2*k) 11 [.val d,.val (.lst xs),.val (.int dp)]=.ok (.val (.bl true)) [.val d,.val (.lst xs),.val (.int dp)]:=by
 intro k d hk
 induction hk with
 | @same k x hx=>
  intro n dp _
  rw[Hv,eN]
  simp[dj,aW (n+2+2*k) [.str "same",x] 2 4 (by simp) (by simp),gb (n+2+2*k) (.inr rfl) h hx,aX]
 | @not k x hx=>
  intro n dp _
  rw[Hv,eN]
  simp[dj,aW (n+2+2*k) [.str "not",x] 2 4 (by simp) (by simp),gb (n+2+2*k) (.inr rfl) h hx,aX]
 | @and k ys hs h1 h2=>
  intro n dp _
  have w:=dq (n+1+2*k) (.inr rfl) h nd hs 1 4 (Ei h1 (by decide)) (Ej h2 (by decide))
  rw[Rr]at w
  rw[Hv,eN]
  simp[dj,aW (n+2+2*k) [.str "and",.tup ys] 2 4 (by simp) (by simp),w,aX,gl5]
 | @or k ys hs h1 h2=>
  intro n dp _
  have w:=dq (n+1+2*k) (.inr rfl) h nd hs 1 4 (Ei h1 (by decide)) (Ej h2 (by decide))
  rw[Rr]at w
  rw[Hv,eN]
  simp[dj,aW (n+2+2*k) [.str "or",.tup ys] 2 4 (by simp) (by simp),w,aX,gl5]
 | @both k ys hs h1 h2=>
  intro n dp _
  have w:=dq (n+1+2*k) (.inr rfl) h nd hs 2 4 (Ei h1 (by decide)) (Ej h2 (by decide))
  rw[Rr]at w
  rw[Hv,eN]
  simp[dj,aW (n+2+2*k) [.str "both",.tup ys] 2 4 (by simp) (by simp),w,aX,gl5]
 | @table k ys rs hs h1 h2 hr hi=>
  intro n dp _
  have w:=dq (n+1+2*k) (.inr rfl) h nd hs 1 8 (Ei h1 (by decide)) (Ej h2 (by decide))
  rw[Rr]at w
  have z:=zL (n+2*k) rs ys.length hr hi
  rw[afx]at z
  rw[Hv,eN]
  simp[dj,aW (n+2+2*k) [.str "table",.tup ys,.tup (rs.map aK)] 2 4 (by simp) (by simp),w,z,aX,gl6]
 | @held k d x b hk hx ih=>
  intro n dp hd
  have w:=gb (n+3+2*k) (.inr rfl) h hx
  rw[afw]at w
  have hl:pg.fn (n+4+2*k+1) 12 [.val (.tup [.str "held",d,x,.bl b]),.val (.lst xs),.val (.int (dp+1))]=.ok (.val (.bl true)) [.val (.tup [.str "held",d,x,.bl b]),.val (.lst xs),.val (.int (dp+1))]:=by
   rw[GR]
   simp[oZ,ih n (dp+1) (by omega),w]
  have lt:dp<3:=by omega
  rw[afv,eN]
  simp[dj,aW (n+4+2*k) [.str "held",d,x,.bl b] 2 4 (by simp) (by simp),hl,aX,gl7,lt]
end Tx
end
section
open PySem Mini
namespace Tx
noncomputable def W3(h g:Nat):List Str:=(["a","b","come"]:List Str).take h++(["p","q","rr","go","abcdef"]:List Str).take g
def names(h g:Nat):List D:=hd h++cL g
def qR h g:names h g=(W3 h g).map .str:=by
 simp[names,W3,hd,cL,List.map_take]
def tX{ss:List Str}(h:ss.Nodup):(ss.map D.str).Nodup:=by
 induction ss with
 |nil=>simp
 |cons s ss ih=>
  rw[List.nodup_cons]at h
  rw[Qyz,List.nodup_cons]
  exact⟨fun z=>h.1 (by simpa using z),ih h.2⟩
def names_nodup(h2:h<=2)(g1:1<=g)(g4:g<=5):(names h g).Nodup:=by
 rw[qR]
 exact tX (((List.take_sublist h _).append (List.take_sublist g _)).nodup (by decide))
def bw h g:cR (names h g):=fun x hx=>by
 rw[qR]at hx
 obtain⟨s,_,rfl⟩:=QDq.mp hx
 exact⟨s,rfl⟩
def dO(h2:h<=2)(g4:g<=5):(names h g).length=h+g:=by
 rw[names,QTq,gf h2,cX g4]
def Q8 n s(hs:s∈W3 3 5):pg.fn (n+1) 5 [.val (.str s)]=.ok (.val (.bl true)) [.val (.str s)]:=by
 have:W3 3 5=(["a","b","come","p","q","rr","go","abcdef"]:List Str):=by rfl
 rw[this]at hs
 simp only[QCq,QAz,or_false]at hs
 rcases hs with rfl|rfl|rfl|rfl|rfl|rfl|rfl|rfl<;>kernel_rfl
def Q5{s:Str}(hs:s∈W3 h g):s∈W3 3 5:=by
 unfold W3 at*
 rw[QXz]at*
 rcases hs with hs|hs
 ·exact .inl (by have:=List.mem_of_mem_take hs;simpa using this)
 ·exact .inr (by have:=List.mem_of_mem_take hs;simpa using this)
def gl3:pg.gl 3=some (.int 3):=rfl
def gl4:pg.gl 4=some (.int 5):=rfl
def Az:E:=.bi .all (.comp 1 (.name 0) AAc AAL AAx)
def CV(h:ys.length=xs.length):(aQ xs ys).length=xs.length:=by
 rw[cP];simp[h]
section
def jG(h g:Nat)(ks:List D)(X:D):D:=.tup [.tup (hd h),.tup (aQ (cL g) ks),X]
def zb n(O:cg h g ks ls)X:pg.fn (n+2) 2 [.val (jG h g ks X)]=.ok (.val (.bl true)) [.val (jG h g ks X)]:=by
 have lg:=cX O.g5
 have lh:=gf O.h2
 have lz:(aQ (cL g) ks).length=g:=by rw[CV (by rw[lg,O.kl]),lg]
 have e:ev (pg.cf (n+1)) Az [.val (jG h g ks X)]=.ok (.val (.bl true)) [.val (jG h g ks X)]:=by
  refine all1 (r:=.val (.tup (aQ (cL g) ks))) (by simp[jG]) rfl rfl fun x hx=>?_
  rw[cP]at hx
  obtain⟨p,_,rfl⟩:=QDq.mp hx
  simp[pairD,aW n [p.1,p.2] 2 2 (by simp) (by simp)]
 have hb:jX=⟨1,1,(.cons _ (.cons (.ret Az) .nil))⟩:=rfl
 have q:Az.aB=none:=rfl
 rw[yE,hb]
 simp only[jG]at*
 simp[aW n (hd h) 0 3 (by omega) (by have:=O.h2;omega),aW n (aQ (cL g) ks) 1 5 (by have:=O.g1;omega) (by have:=O.g5;omega),gl3,gl4,e,q]
def Um:E:=.bi .all ACv
def Uu:E:=.bi .all ACI
def LR n(O:cg h g ks ls)X b(t5:pg.fn (n+6) 7 [.val X,.val (.int (names h g).length)]=.ok (.val (.bl b)) [.val X,.val (.int (names h g).length)]):pg.fn (n+7) 1 [.val (jG h g ks X)]=.ok (.val (.bl b)) [.val (jG h g ks X)]:=by
 have lg:=cX O.g5
 have lh:=gf O.h2
 have T:=bw h g
 have Nd:=names_nodup O.h2 O.g1 O.g5
 have e1:ev (pg.cf (n+6)) Um [.val (jG h g ks X),.own (.lst (names h g))]=.ok (.val (.bl true)) [.val (jG h g ks X),.val (.lst (names h g))]:=by
  refine all1 (r:=.val (.lst (names h g))) (by simp) rfl rfl fun x hx=>?_
  rw[qR]at hx
  obtain⟨s,hs,rfl⟩:=QDq.mp hx
  simp[Q8 (n+5) s (Q5 hs)]
 have e2:ev (pg.cf (n+6)) Uu [.val (jG h g ks X),.val (.lst (names h g))]=.ok (.val (.bl true)) [.val (jG h g ks X),.val (.lst (names h g))]:=by
  refine all2 (r:=.val (.tup (aQ (cL g) ks))) (by simp[jG]) rfl (by show some _=some _;rw[cP]) fun x hx=>?_
  simp[Bp T Nd (O.kk x.2 (List.of_mem_zip hx).2) n 0 (by decide)]
 have hb:sW=⟨1,2,(.cons _ (.cons _ (.cons (.ite (.or (.cons (.not Um) _)) _ .nil) (.cons (.ret (.and (.cons Uu _))) .nil))))⟩:=rfl
 rw[J2,hb]
 have nn:hd h++cL g=names h g:=rfl
 have g2:getD (jG h g ks X) (.int 2)=some X:=by simp[jG]
 have t1':pg.fn _ 3 [.val (jG h g ks X),.val _,.val _]=.ok _ [.val _,.val _,.val _]:=aW (n+5) [.tup (hd h),.tup (aQ (cL g) ks),X] 3 3 (by simp) (by simp)
 have t3':pg.fn _ 13 [.val (jG h g ks X)]=.ok (.new (.lst (names h g))) [.val _]:=dD (n+5) (hd h) (cL g) ks X (by rw[O.kl,lg]) (by have:=O.h2;have:=O.g5;omega)
 simp[t1',zb (n+4) O X,t3',e1,lC (n+5) (.inr rfl) T Nd,e2,g2,t5]
def Hw n(O:cg h g ks ls):pg.fn (n+7) 1 [.val (aF h g ks ls)]=.ok (.val (.bl true)) [.val (aF h g ks ls)]:=
 LR n O _ true (uV _ ls (names h g).length (by rw[dO O.h2 O.g5,O.ll]))
def Ck n(O:cg h g ks ls):pg.fn (n+8) 0 [.val (aF h g ks ls)]=.ok (.val (aF h g ks ls)) [.val (aF h g ks ls)]:=by
 rw[GX]
 simp[o4,Hw n O]
end
end Tx
end
section
open PySem Mini
namespace Tx
theorem goD(τ:Int->Ev){cond elt:Ev->Out Rv}(P:D->D->Prop)(all:Bool):∀(xs acc:List D)(k:Int)(s:Sl),0<=k->bB s->
  (∀x∈xs,∀k,0<=k->∃b k',0<=k'/\(all=true->b=true)/\cond (.val x::τ k)=.ok (.val (.bl b)) (.val x::τ k'))->
  (∀x∈xs,∀k,0<=k->∃y k',0<=k'/\P x y/\elt (.val x::τ k)=.ok (.val y) (.val x::τ k'))->
  ∃(zs:List (D×D))(k':Int)(s':Sl),(zs.map (·.1)).Sublist xs/\(all=true->zs.map (·.1)=xs)/\(∀p∈zs,P p.1 p.2)/\0<=k'/\aO (.name 0) cond elt xs acc (s::τ k)=.ok (acc++zs.map (·.2)) (s'::τ k')
 |[]=>fun acc k s hk _ _ _=>⟨[],k,s,List.Sublist.refl _,fun _=>rfl,fun p h=>(by cases h),hk,by simp[aO]⟩
 |x::xs=>fun acc k s hk hs hc he=>by
  obtain⟨b,k1,a1,a2,a3⟩:=hc x QYz k hk
  rw[aO,iu hs]
  simp only[a3,cN]
  cases b with
  |true=>
   obtain⟨y,k2,b1,b2,b3⟩:=he x QYz k1 a1
   obtain⟨zs,k',s',c1,c2,c3,c4,c5⟩:=goD τ P all xs _ k2 _ b1 (.inr ⟨_,rfl⟩) (fun z hz=>hc z (QYq _ hz)) fun z hz=>he z (QYq _ hz)
   refine⟨(x,y)::zs,k',s',c1.cons_cons x,fun h=>by simp[c2 h],fun p hp=>?_,c4,?_⟩
   ·rcases QCq.mp hp with rfl|hp
    ·exact b2
    ·exact c3 p hp
   ·rw[if_pos rfl,b3,bO,c5]
    simp
  |false=>
   obtain⟨zs,k',s',c1,c2,c3,c4,c5⟩:=goD τ P all xs acc k1 _ a1 (.inr ⟨_,rfl⟩) (fun z hz=>hc z (QYq _ hz)) fun z hz=>he z (QYq _ hz)
   exact⟨zs,k',s',c1.cons x,fun h=>by simpa using a2 h,c3,c4,by rw[if_neg (by simp),c5]⟩
def Ng{σ:Ev}{r:Rv}{xs:List D}(τ:Int->Ev)(P:D->D->Prop)(all:Bool)(hk:0<=k)(hi:ev c it σ=.ok r (τ k))(hr:r.gK=some d)(hd:items d=some xs)
  (hc:∀x∈xs,∀k,0<=k->∃b k',0<=k'/\(all=true->b=true)/\ev c co (.val x::τ k)=.ok (.val (.bl b)) (.val x::τ k'))
  (he:∀x∈xs,∀k,0<=k->∃y k',0<=k'/\P x y/\ev c el (.val x::τ k)=.ok (.val y) (.val x::τ k')):
  ∃(zs:List (D×D))(k':Int),(zs.map (·.1)).Sublist xs/\(all=true->zs.map (·.1)=xs)/\(∀p∈zs,P p.1 p.2)/\0<=k'/\ev c (.comp 1 (.name 0) it co el) σ=.ok (.new (.lst (zs.map (·.2)))) (τ k'):=by
 obtain⟨zs,k',s',a1,a2,a3,a4,a5⟩:=goD τ P all xs [] k .un hk (.inl rfl) hc he
 refine⟨zs,k',a1,a2,a3,a4,?_⟩
 rw[lD,hi]
 have b:∀{β:Type}(g:D->Ev->Out β),(Out.ok r (τ k)).ao g=g d (τ k):=fun g=>by cases r<;>simp[Rv.gK]at hr<;>subst hr<;>rfl
 rw[b]
 simp only[hd]
 rw[show List.replicate 1 Sl.un++τ k=.un::τ k from rfl,a5]
 simp
def pC(m:D×Nat):D:=.tup [m.1,.int m.2]
def fP(st:List (D×Nat)):D:=.tup (st.map pC)
def aJ(os:List D)(sts:List (List (D×Nat))):D:=.tup [.tup os,.tup (sts.map fP)]
structure bW(h g:Nat)(os:List D)(sts:List (List (D×Nat))):Prop where
 ou:os.Sublist (cL g)
 s1:1<=sts.length
 s4:sts.length<=4
 mv:∀st∈sts,(st.map (·.1)).Sublist (hd h++os)/\∀m∈st,m.2<sts.length
def QM:E:=.comp 1 (.name 0) AAg ABR AAb
def T3:E:=.comp 1 (.name 0) ADK pK (.var 0)
def W5:E:=(.tup ABj)
def W6:E:=.comp 1 (.name 0) (.var 8) AAL W5
def xU:S:=(.cons (.set 8 T3) (.cons (.append 6 (.bi .tuple W6)) .nil))
def Vy{zs:List (D×D)}(h:(zs.map (·.1)).Sublist xs)(e:∀p∈zs,p.2=p.1):(zs.map (·.2)).Sublist xs:=by
 rw[show zs.map (·.2)=zs.map (·.1)from List.map_congr_left e];exact h
section
variable(n:Nat)(ns:List Int)(hs os gs:List D)(x:D)(s3 s5 s6 s7 s8:Sl)
def JB(k:Int)(hk:0<=k)(hl:hs.length+os.length<=900):∃(ys:List D)(k':Int),ys.Sublist (hs++os)/\0<=k'/\
  ev (pg.cf (n+3)) T3 [.val (sc ns),.bor (.lst [.int k]),.val (.tup [.tup hs,.tup gs,x]),s3,.val (.tup os),s5,s6,s7,s8]=.ok (.new (.lst ys)) [.val (sc ns),.bor (.lst [.int k']),.val (.tup [.tup hs,.tup gs,x]),s3,.val (.tup os),s5,s6,s7,s8]:=by
 have f:fits (hs.length+os.length)=true:=by simp[fits];omega
 obtain⟨zs,k',a1,a2,a3,a4,a5⟩:=Ng (it:=ADK) (el:=.var 0) (σ:=[.val (sc ns),.bor (.lst [.int k]),.val (.tup [.tup hs,.tup gs,x]),s3,.val (.tup os),s5,s6,s7,s8]) (fun k=>[.val (sc ns),.bor (.lst [.int k]),.val (.tup [.tup hs,.tup gs,x]),s3,.val (.tup os),s5,s6,s7,s8])
  (fun x y=>y=x) false hk (r:=.val (.tup (hs++os))) (by simp[f]) rfl rfl
  (fun x _ k hk=>by obtain⟨b,e⟩:=xg n ns k hk x [.val _,s3,.val _,s5,s6,s7,s8];exact⟨b,k+1,by omega,by simp,e⟩) fun x _ k hk=>⟨x,k,hk,rfl,by simp⟩
 exact⟨_,k',Vy a1 a3,a4,a5⟩
theorem Ra(k:Int)(hk:0<=k)(ys:List D)(many:Nat)(h1:1<=many)(net:D)(s4:Sl):∃(st:List (D×Nat))(k':Int),st.map (·.1)=ys/\(∀m∈st,m.2<many)/\0<=k'/\
  ev (pg.cf (n+3)) W6 [.val (sc ns),.bor (.lst [.int k]),.val net,s3,s4,.val (.int many),s6,s7,.own (.lst ys)]=.ok (.new (.lst (st.map pC))) [.val (sc ns),.bor (.lst [.int k']),.val net,s3,s4,.val (.int many),s6,s7,.val (.lst ys)]:=by
 obtain⟨zs,k',a1,a2,a3,a4,a5⟩:=Ng (c:=pg.cf (n+3)) (it:=.var 8) (co:=.con (.bl true)) (el:=W5) (σ:=[.val (sc ns),.bor (.lst [.int k]),.val net,s3,s4,.val (.int many),s6,s7,.own (.lst ys)]) (fun k=>[.val (sc ns),.bor (.lst [.int k]),.val net,s3,s4,.val (.int many),s6,s7,.val (.lst ys)])
  (fun x y=>∃j:Nat,j<many/\y=pC (x,j)) true hk (r:=.val (.lst ys)) (by simp) rfl rfl
  (fun x _ k hk=>⟨true,k,hk,fun _=>rfl,by simp⟩) fun x _ k hk=>by
   obtain⟨q,q1,q2,e⟩:=bu n ns k many hk (by omega)
   obtain⟨j,rfl⟩:∃j:Nat,q=j:=⟨q.toNat,by omega⟩
   exact⟨_,k+1,by omega,⟨j,by omega,rfl⟩,by simp[W5,e,aX,pC]⟩
 have pick:∀(zs:List (D×D)),(∀p∈zs,∃j:Nat,j<many/\p.2=pC (p.1,j))->∃st:List _,st.map (·.1)=zs.map (·.1)/\(∀m∈st,m.2<many)/\st.map pC=zs.map (·.2):=by
  intro zs
  induction zs with
  |nil=>exact fun _=>⟨[],rfl,fun m h=>(by cases h),rfl⟩
  |cons z zs ih=>
   intro h
   obtain⟨j,j1,j2⟩:=h z QYz
   obtain⟨st,b1,b2,b3⟩:=ih fun p hp=>h p (QYq _ hp)
   refine⟨(z.1,j)::st,by simp[b1],fun m hm=>?_,by simp[b3,j2]⟩
   rcases QCq.mp hm with rfl|hm
   ·exact j1
   ·exact b2 m hm
 obtain⟨st,b1,b2,b3⟩:=pick zs a3
 exact⟨st,k',by rw[b1,a2 rfl],b2,a4,by rw[b3];exact a5⟩
def Gj(k:Int)(hk:0<=k)(hl:hs.length+os.length<=900)(many:Nat)(h1:1<=many)(acc:List D)(ha:acc.length<=4000000)(h8:bB s8):∃(st:List (D×Nat))(k':Int)(s':Sl),(st.map (·.1)).Sublist (hs++os)/\(∀m∈st,m.2<many)/\0<=k'/\bB s'/\
  ex (pg.cf (n+3)) xU [.val (sc ns),.bor (.lst [.int k]),.val (.tup [.tup hs,.tup gs,x]),s3,.val (.tup os),.val (.int many),.own (.lst acc),s7,s8]=.next [.val (sc ns),.bor (.lst [.int k']),.val (.tup [.tup hs,.tup gs,x]),s3,.val (.tup os),.val (.int many),.own (.lst (acc++[fP st])),s7,s']:=by
 obtain⟨ys,k1,a1,a2,a3⟩:=JB n ns hs os gs x s3 (.val (.int many)) (.own (.lst acc)) s7 s8 k hk hl
 obtain⟨st,k',b1,b2,b3,b4⟩:=Ra n ns s3 (.own (.lst acc)) s7 k1 a2 ys many h1 (.tup [.tup hs,.tup gs,x]) (.val (.tup os))
 have f:fits (acc.length+1)=true:=by simp[fits];omega
 have q:W6.aB=none:=rfl
 refine⟨st,k',.val (.lst ys),by rw[b1];exact a1,b2,b3,.inr ⟨_,rfl⟩,?_⟩
 rcases h8 with rfl|⟨e,rfl⟩<;>simp[xU,a3,b4,cH,tL,f,q,fP]
theorem ur(hl:hs.length+os.length<=900)(many:Nat)(h1:1<=many):∀(xs:List D)(acc:List (List (D×Nat)))(k:Int)(s7 s8:Sl),0<=k->bB s7->bB s8->acc.length+xs.length<=4000000->∃(sts:List (List (D×Nat)))(k':Int)(t7 t8:Sl),sts.length=xs.length/\(∀st∈sts,(st.map (·.1)).Sublist (hs++os)/\∀m∈st,m.2<many)/\0<=k'/\
  bI (.name 7) (ex (pg.cf (n+3)) xU) xs [.val (sc ns),.bor (.lst [.int k]),.val (.tup [.tup hs,.tup gs,x]),s3,.val (.tup os),.val (.int many),.own (.lst (acc.map fP)),s7,s8]=.next [.val (sc ns),.bor (.lst [.int k']),.val (.tup [.tup hs,.tup gs,x]),s3,.val (.tup os),.val (.int many),.own (.lst ((acc++sts).map fP)),t7,t8]
 |[]=>fun acc k s7 s8 hk _ _ _=>⟨[],k,s7,s8,rfl,fun st h=>(by cases h),hk,by simp[bI]⟩
 |y::xs=>fun acc k s7 s8 hk h7 h8 hx=>by
  simp only[QBq]at hx
  obtain⟨st,k1,s',a1,a2,a3,a4,a5⟩:=Gj n ns hs os gs x s3 _ s8 k hk hl many h1 (acc.map fP) (by simp;omega) h8
  obtain⟨sts,k',t7,t8,b1,b2,b3,b4⟩:=ur hl many h1 xs (acc++[st]) k1 _ s' a3 (.inr ⟨_,rfl⟩) a4 (by simp;omega)
  refine⟨st::sts,k',t7,t8,by simp[b1],fun q hq=>?_,b3,?_⟩
  ·rcases QCq.mp hq with rfl|hq
   ·exact⟨a1,a2⟩
   ·exact b2 q hq
  ·rw[bI]
   have st1:bV (.name 7) y [.val (sc ns),.bor (.lst [.int k]),.val (.tup [.tup hs,.tup gs,x]),s3,.val (.tup os),.val (.int many),.own (.lst (acc.map fP)),s7,s8]=some [.val (sc ns),.bor (.lst [.int k]),.val (.tup [.tup hs,.tup gs,x]),s3,.val (.tup os),.val (.int many),.own (.lst (acc.map fP)),.val y,s8]:=by
    rcases h7 with rfl|⟨e,rfl⟩<;>simp[bV]
   rw[st1]
   simp only
   rw[a5,cQ]
   rw[show acc.map fP++[fP st]=(acc++[st]).map fP by simp,b4]
   simp
end
theorem nQ:∀(m:Nat)(lo:Int),(bF lo m).length=m
 |0=>fun _=>rfl
 |m+1=>fun lo=>by simp[bF,nQ m]
def QL(n:Nat)(ns:List Int)(k:Int)(hk:0<=k)(hs gs ks:List D)(x:D)(hl:ks.length=gs.length)(s3 s4 s5 s6 s7 s8:Sl):∃(os:List D)(k':Int),os.Sublist gs/\0<=k'/\
  ev (pg.cf (n+3)) QM [.val (sc ns),.bor (.lst [.int k]),.val (.tup [.tup hs,.tup (aQ gs ks),x]),s3,s4,s5,s6,s7,s8]=.ok (.new (.lst os)) [.val (sc ns),.bor (.lst [.int k']),.val (.tup [.tup hs,.tup (aQ gs ks),x]),s3,s4,s5,s6,s7,s8]:=by
 obtain⟨zs,k',a1,a2,a3,a4,a5⟩:=Ng (c:=pg.cf (n+3)) (it:=AAg) (co:=ABR) (el:=AAb) (σ:=[.val (sc ns),.bor (.lst [.int k]),.val (.tup [.tup hs,.tup (aQ gs ks),x]),s3,s4,s5,s6,s7,s8]) (fun k=>[.val (sc ns),.bor (.lst [.int k]),.val (.tup [.tup hs,.tup (aQ gs ks),x]),s3,s4,s5,s6,s7,s8])
  (fun x y=>y=oK x) false hk (r:=.val (.tup (aQ gs ks))) (by simp) rfl rfl
  (fun x _ k hk=>by
   obtain⟨q,_,_,e⟩:=bu n ns k 3 hk (by omega)
   exact⟨decide (0<q),k+1,by omega,by simp,by simp[e]⟩) fun x hx k hk=>by
   rw[cP]at hx
   obtain⟨p,_,rfl⟩:=QDq.mp hx
   exact⟨_,k,hk,rfl,by simp[pairD,oK]⟩
 refine⟨_,k',?_,a4,a5⟩
 have:=a1.map oK
 rw[vI gs ks hl]at this
 rw[show zs.map (·.2)=(zs.map (·.1)).map oK by rw[List.map_map];exact List.map_congr_left a3]
 exact this
def Px(n:Nat)(ns:List Int)(k:Int)(hk:0<=k){ks:List D}(O:cg h g ks ls):∃os sts k',bW h g os sts/\0<=k'/\
  pg.fn (n+4) 39 [.val (sc ns),.bor (.lst [.int k]),.val (aF h g ks ls),.val (.int 4)]=.ok (.val (aJ os sts)) [.val (sc ns),.bor (.lst [.int k']),.val (aF h g ks ls),.val (.int 4)]:=by
 have lg:=cX O.g5
 have lh:=gf O.h2
 obtain⟨os,k1,a1,a2,a3⟩:=QL n ns k hk (hd h) (cL g) ks _ (by rw[O.kl,lg]) _ .un .un .un .un .un
 obtain⟨q,q1,q2,eq⟩:=bu n ns k1 4 a2 (by omega)
 obtain⟨m,rfl⟩:∃m:Nat,q=m:=⟨q.toNat,by omega⟩
 have lo:=a1.length_le
 have:=O.h2
 have:=O.g5
 obtain⟨sts,k',t7,t8,b1,b2,b3,b4⟩:=ur n ns (hd h) os _ _ _ (by omega) (1+m) (by omega) (bF 0 (1+m)) [] (k1+1) .un .un (by omega) (.inl rfl) (.inl rfl) (by simp[nQ];omega)
 rw[nQ]at b1
 refine⟨os,sts,k',⟨a1,by omega,by omega,fun st hst=>?_⟩,b3,?_⟩
 ·rw[b1];exact b2 st hst
 ·have hb:lQ=⟨4,9,.cons (.set 4 (.bi .tuple QM)) (.cons _ (.cons _ (.cons (.for_ _ _ xU) _)))⟩:=rfl
  rw[Aj,hb]
  have q0:QM.aB=none:=rfl
  have fm:fits (1+m)=true:=by simp[fits];omega
  have md:DX (1+m)=true:=by simp[DX];omega
  have tn:(1+(m:Int)).toNat=1+m:=by omega
  have b4':bI (.name 7) (ex (pg.cf (n+3)) xU) (bF 0 (1+m)) [.val (sc ns),.bor (.lst [.int (k1+1)]),.val (aF h g ks ls),.val (.int 4),.val (.tup os),.val (.int (1+m)),.own (.lst []),.un,.un]=.next [.val (sc ns),.bor (.lst [.int k']),.val (aF h g ks ls),.val (.int 4),.val (.tup os),.val (.int (1+m)),.own (.lst (sts.map fP)),t7,t8]:=by simpa[aF]using b4
  have a3':ev _ QM [.val _,.bor _,.val (aF h g ks ls),.val (.int 4),.un,.un,.un,.un,.un]=.ok _ [.val _,.bor _,.val (aF h g ks ls),.val _,.un,.un,.un,.un,.un]:=a3
  simp[a3',q0,eq,aX,fm,md,tn,b4',items,aJ]
end Tx
end
section
open PySem Mini
namespace Tx
def Eo:E:=(.comp 1 (.name 0) (.var 2) AAL pK)
def Ln n ns k(hk:0<=k)xs s3 s4:∃(bs:List Bool)(k':Int),bs.length=xs.length/\0<=k'/\
  ev (pg.cf (n+3)) Eo [.val (sc ns),.bor (.lst [.int k]),.own (.lst xs),s3,s4]=.ok (.new (.lst (bs.map .bl))) [.val (sc ns),.bor (.lst [.int k']),.val (.lst xs),s3,s4]:=by
 obtain⟨bs,k',s',a1,a2,a3,a4⟩:=rK n ns [.val _,s3,s4] xs [] k .un hk (.inl rfl)
 refine⟨bs,k',a1,a2,?_⟩
 have h:ev (pg.cf (n+3)) (.var 2) [.val (sc ns),.bor (.lst [.int k]),.own (.lst xs),s3,s4]=.ok (.val (.lst xs)) [.val (sc ns),.bor (.lst [.int k]),.val (.lst xs),s3,s4]:=by simp
 unfold Eo
 rw[lD,h,bO]
 simp only[items]
 rw[show List.replicate 1 Sl.un++[.val _,.bor _,.val _,s3,s4]=.un:: .val _:: .bor _::[.val _,s3,s4]from rfl,a4]
 simp
def T5:S:=AAe
def rk(a b:String):D:=.tup [.str "held",.tup [.str "same",.str a],.str b,.bl false]
noncomputable def yo:Nat->List D
 |3=>[rk "rr" "q",rk "p" "rr",rk "q" "p"]
 |4=>[rk "go" "q",rk "p" "rr",rk "q" "go",rk "rr" "p"]
 |_=>[rk "abcdef" "q",rk "p" "rr",rk "q" "go",rk "rr" "abcdef",rk "go" "p"]
def Gz c s0 s1 g(hg:g=3\/g=4\/g=5):∃s4,bI (.name 4) (ex c T5) (bF 0 g) [s0,s1,.own (.lst (cL g)),.own (.lst []),.un]=.next [s0,s1,.own (.lst (cL g)),.own (.lst (aQ (cL g) (yo g))),s4]:=by
 refine⟨.val (.int (g-1)),?_⟩
 rcases hg with rfl|rfl|rfl
 all_goals
  try rfl
def Af g(hg:g=3\/g=4\/g=5):∀d∈yo g,bJ (hd 0++cL g) 1 d:=by
 intro d h
 rcases hg with rfl|rfl|rfl<;>simp only[yo,QCq,QAz,or_false]at h<;>rcases h with rfl|rfl|rfl|rfl|rfl<;>exact .held (.same (by simp[hd,cL])) (by simp[hd,cL])
def Qm n ns k(hk:0<=k):∃g ks ls k',cg 0 g ks ls/\3<=g/\0<=k'/\pg.fn (n+4) 40 [.val (sc ns),.bor (.lst [.int k])]=.ok (.val (aF 0 g ks ls)) [.val (sc ns),.bor (.lst [.int k'])]:=by
 obtain⟨r,r1,r2,er⟩:=bu n ns k 3 hk (by omega)
 obtain⟨g,hg,hr⟩:∃g:Nat,(g=3\/g=4\/g=5)/\3+r=g:=⟨(3+r).toNat,by omega,by omega⟩
 have lg:(cL g).length=g:=cX (by omega)
 obtain⟨s4,a⟩:=Gz (pg.cf (n+3)) (.val (sc ns)) (.bor (.lst [.int (k+1)])) g hg
 obtain⟨bs,k',b1,b2,b3⟩:=Ln n ns (k+1) (by omega) (cL g) (.own (.lst (aQ (cL g) (yo g)))) s4
 refine⟨g,yo g,bs,k',⟨by omega,by omega,by omega,?_,Af g hg,by omega⟩,by omega,b2,?_⟩
 ·rcases hg with rfl|rfl|rfl<;>rfl
 ·have hb:lU=⟨2,5,(.cons _ (.cons _ (.cons (.for_ _ _ T5) (.cons (.ret (.tup (.cons _ (.cons _ (.cons (.bi .tuple Eo) .nil))))) .nil))))⟩:=rfl
  rw[Am,hb]
  have sl:gR (.lst [.str "p",.str "q",.str "rr",.str "go",.str "abcdef"]) none (some g)=some (.new (.lst (cL g))):=by
   rcases hg with rfl|rfl|rfl<;>rfl
  have fg:fits g=true:=by simp[fits];omega
  have md:DX g=true:=by simp[DX];omega
  have q:Eo.aB=none:=rfl
  simp[er,hr,sl,aX,cW,E.jL,lg,fg,md,items,a,b3,q,aF,hd]
def oO:S:=(.cons (.set 7 AAd) (.cons ABk (.cons ACR (.cons (.mov 3 6) .nil))))
def Sw xs b:at? (xs++[b]) (-1)=some b:=by
 unfold at? ix?
 have e:(-1+((xs.length:Int)+1)).toNat=xs.length:=by omega
 have e2:(0:Int)<= -1+(xs.length+1):=by omega
 have e3: -1+((xs.length:Int)+1)<xs.length+1:=by omega
 simp[e,e2,e3]
def Cq n ns k(hk:0<=k)s2 s7(h7:bB s7)a x ls l acc(hl:ls.length<=4000000)(ha:acc.length<=4000000):
  ∃(w:Str)(b:Bool)(t7:Sl),(w="same"\/w="not")/\bB t7/\ex (pg.cf (n+3)) oO [.val (sc ns),.bor (.lst [.int k]),s2,.val a,.own (.lst ((ls++[l]).map .bl)),.own (.lst acc),.val x,s7]
   =.next [.val (sc ns),.bor (.lst [.int (k+1)]),s2,.val x,.own (.lst ((ls++[l]++[b]).map .bl)),.own (.lst (acc++[.tup [x,.tup [.str w,a]]])),.val x,t7]:=by
 obtain⟨r,r1,r2,er⟩:=bu n ns k 2 hk (by omega)
 have fa:fits (acc.length+1)=true:=by simp[fits];omega
 have fb:fits (ls.length+1+1)=true:=by simp[fits];omega
 have al:at? (ls.map D.bl++[.bl l]) (-1)=some _:=Sw _ _
 rcases (by omega:r=0\/r=1)with rfl|rfl
 ·refine⟨"same",l==true,.val (.int 0),.inl rfl,.inr ⟨_,rfl⟩,?_⟩
  rcases h7 with rfl|⟨e,rfl⟩<;>simp[oO,er,aX,fa,fb,cH,tL,al]
 ·refine⟨"not",l==false,.val (.int 1),.inr rfl,.inr ⟨_,rfl⟩,?_⟩
  rcases h7 with rfl|⟨e,rfl⟩<;>simp[oO,er,aX,fa,fb,cH,tL,al]
theorem su(n:Nat)(ns:List Int)(s2:Sl):∀(xs acc:List D)(k:Int)(s6 s7:Sl)(a:D)(ls:List Bool)(l:Bool),0<=k->bB s6->bB s7->ls.length+xs.length<=4000000->acc.length+xs.length<=4000000->
  ∃(ks:List D)(bs:List Bool)(k':Int)(t3 t6 t7:Sl),ks.length=xs.length/\bs.length=xs.length/\0<=k'/\(∀d∈ks,∃y∈a::xs,d=.tup [.str "same",y]\/d=.tup [.str "not",y])/\
   bI (.name 6) (ex (pg.cf (n+3)) oO) xs [.val (sc ns),.bor (.lst [.int k]),s2,.val a,.own (.lst ((ls++[l]).map .bl)),.own (.lst acc),s6,s7]=.next [.val (sc ns),.bor (.lst [.int k']),s2,t3,.own (.lst ((ls++[l]++bs).map .bl)),.own (.lst (acc++aQ xs ks)),t6,t7]
 |[]=>fun acc k s6 s7 a ls l hk _ _ _ _=>⟨[],[],k,.val a,s6,s7,rfl,rfl,hk,fun d h=>(by cases h),by simp[bI,aQ]⟩
 |x::xs=>fun acc k s6 s7 a ls l hk h6 h7 hl ha=>by
  simp only[QBq]at hl ha
  obtain⟨w,b,t,a1,a2,a3⟩:=Cq n ns k hk s2 s7 h7 a x ls l acc (by omega) (by omega)
  obtain⟨ks,bs,k',t3,t6,t7,b1,b2,b3,b4,b5⟩:=su n ns s2 xs (acc++[.tup [x,.tup [.str w,a]]]) (k+1) (.val x) t x (ls++[l]) b (by omega) (.inr ⟨_,rfl⟩) a2 (by simp;omega) (by simp;omega)
  refine⟨.tup [.str w,a]::ks,b::bs,k',t3,t6,t7,by simp[b1],by simp[b2],b3,fun d hd=>?_,?_⟩
  ·rcases QCq.mp hd with rfl|hd
   ·exact⟨a,QYz,by rcases a1 with rfl|rfl<;>simp⟩
   ·obtain⟨y,hy,e⟩:=b4 d hd
    exact⟨y,QYq _ hy,e⟩
  ·have st:bV (.name 6) x [.val (sc ns),.bor (.lst [.int k]),s2,.val a,.own (.lst ((ls++[l]).map .bl)),.own (.lst acc),s6,s7]=some [.val (sc ns),.bor (.lst [.int k]),s2,.val a,.own (.lst ((ls++[l]).map .bl)),.own (.lst acc),.val x,s7]:=by
    rcases h6 with rfl|⟨e,rfl⟩<;>simp[bV]
   rw[bI,st]
   simp only
   rw[a3,cQ,b5]
   simp[aQ]
def Np n ns k(hk:0<=k):∃h g ks ls os sts k',cg h g ks ls/\bW h g os sts/\0<=k'/\pg.fn (n+4) 41 [.val (sc ns),.bor (.lst [.int k])]=.ok (.val (.tup [aF h g ks ls,aJ os sts])) [.val (sc ns),.bor (.lst [.int k'])]:=by
 obtain⟨r,r1,r2,er⟩:=bu n ns k 4 hk (by omega)
 obtain⟨g,hg,hr⟩:∃g:Nat,(g=1\/g=2\/g=3\/g=4)/\1+r=g:=⟨(1+r).toNat,by omega,by omega⟩
 have lg:(cL g).length=g:=cX (by omega)
 obtain⟨q,q1,q2,eq⟩:=bu n ns (k+1) 2 (by omega) (by omega)
 obtain⟨ks,bs,k',t3,t6,t7,b1,b2,b3,b4,b5⟩:=su n ns _ (cL g) [] (k+1+1) .un .un _ [] _ (by omega) (.inl rfl) (.inl rfl) (by simp;omega) (by simp;omega)
 obtain⟨z,z1,z2⟩:∃z,at? (cL g) (-1)=some z/\z∈cL g:=by
  rcases hg with rfl|rfl|rfl|rfl
  ·exact⟨.str "p",rfl,by simp[cL]⟩
  ·exact⟨.str "q",rfl,by simp[cL]⟩
  ·exact⟨.str "rr",rfl,by simp[cL]⟩
  ·exact⟨.str "go",rfl,by simp[cL]⟩
 refine⟨1,g,ks,(q==1)::bs,[z],[[(.str "a",1)],[(z,0)]],k',⟨by omega,by omega,by omega,by omega,fun d dm=>?_,by simp[b2,lg];omega⟩,⟨by simpa using z2,by simp,by simp,fun st h=>?_⟩,b3,?_⟩
 ·obtain⟨y,hy,e⟩:=b4 d dm
  have hy':y∈hd 1++cL g:=by simpa[hd]using hy
  rcases e with rfl|rfl
  ·exact .same hy'
  ·exact .not hy'
 ·simp only[QCq,QAz,or_false]at h
  rcases h with rfl|rfl<;>simp[hd]
 ·have hb:jW=⟨2,8,(.cons _ (.cons _ (.cons _ (.cons _ (.cons (.for_ _ _ oO) _)))))⟩:=rfl
  rw[yD,hb]
  have sl:gR (.lst [.str "p",.str "q",.str "rr",.str "go"]) none (some g)=some (.new (.lst (cL g))):=by
   rcases hg with rfl|rfl|rfl|rfl<;>rfl
  have b5':bI (.name 6) (ex (pg.cf (n+3)) oO) (cL g) [.val (sc ns),.bor (.lst [.int (k+1+1)]),.val (.lst (cL g)),.val (.str "a"),.own (.lst [.bl (q==1)]),.own (.lst []),.un,.un]=.next [.val (sc ns),.bor (.lst [.int k']),.val (.lst (cL g)),t3,.own (.lst (.bl (q==1)::bs.map .bl)),.own (.lst (aQ (cL g) ks)),t6,t7]:=by simpa using b5
  simp[er,hr,eq,sl,aX,cW,E.jL,items,b5',z1,aF,aJ,fP,pC,hd]
end Tx
end
section
open PySem Mini
namespace Tx
def nJ:S->S
 |.cons _ t=>t
 |s=>s
def hdS:S->S
 |.cons t _=>t
 |s=>s
def yO:S:=nJ (nJ (nJ aL.body))
def Hi n ns k(hk:0<=k):∃(kd:D)(s2:Sl),(∀g,bJ (hd 2++cL g) 1 kd)/\
  ex (pg.cf (n+3)) aL.body [.val (sc ns),.bor (.lst [.int k]),.un,.un,.un,.un,.un,.un]=ex (pg.cf (n+3)) yO [.val (sc ns),.bor (.lst [.int (k+1)]),s2,.val kd,.un,.un,.un,.un]:=by
 obtain⟨r,r1,r2,er⟩:=bu n ns k 6 hk (by omega)
 have hb:aL.body=.cons (hdS aL.body) (.cons (hdS (nJ aL.body)) (.cons (hdS (nJ (nJ aL.body))) yO)):=rfl
 have sb:∀g,([.str "a",.str "b"]:List D).Sublist (hd 2++cL g):=fun g=>List.sublist_append_left _ _
 have at6:=fc
 have hh:∀g,bJ (hd 2++cL g) 1 (.tup [.str "held",.tup [.str "same",.str "a"],.str "b",.bl true]):=fun g=>.held (.same (by simp[hd])) (by simp[hd])
 rcases (by omega:r=0\/r=1\/r=2\/r=3\/r=4\/r=5)with rfl|rfl|rfl|rfl|rfl|rfl
 ·refine⟨.tup [.str "both",.tup [.str "a",.str "b"]],.val (.int 0),fun g=>.both (sb g) (by simp) (by simp),?_⟩
  rw[hb];simp[aL,hdS,nJ,er,aX,at?,ix?]
 ·refine⟨.tup [.str "both",.tup [.str "a",.str "b"]],.val (.int 1),fun g=>.both (sb g) (by simp) (by simp),?_⟩
  rw[hb];simp[aL,hdS,nJ,er,aX,at?,ix?]
 ·refine⟨.tup [.str "and",.tup [.str "a",.str "b"]],.val (.int 2),fun g=>.and (sb g) (by simp) (by simp),?_⟩
  rw[hb];simp[aL,hdS,nJ,er,aX,at?,ix?]
 ·refine⟨.tup [.str "or",.tup [.str "a",.str "b"]],.val (.int 3),fun g=>.or (sb g) (by simp) (by simp),?_⟩
  rw[hb];simp[aL,hdS,nJ,er,aX,at?,ix?]
 ·refine⟨_,.val (.int 4),hh,?_⟩
  rw[hb];simp[aL,hdS,nJ,er,aX,at?,ix?]
 ·refine⟨_,.val (.int 5),hh,?_⟩
  rw[hb];simp[aL,hdS,nJ,er,aX,at?,ix?]
noncomputable def dW:List (List (D×Nat)):=[[(.str "a",1),(.str "b",2)],[(.str "b",3)],[(.str "a",3)],[(.str "p",0)]]
def oh g(h1:1<=g):bW 2 g [.str "p"] dW:=by
 refine⟨?_,by simp[dW],by simp[dW],fun st h=>?_⟩
 ·obtain⟨j,rfl⟩:∃j,g=j+1:=⟨g-1,by omega⟩
  simp[cL]
 ·simp only[dW,QCq,QAz,or_false]at h
  rcases h with rfl|rfl|rfl|rfl<;>simp[hd,dW]
def Bf n ns k(hk:0<=k):∃h g ks ls os sts k',cg h g ks ls/\bW h g os sts/\0<=k'/\pg.fn (n+4) 42 [.val (sc ns),.bor (.lst [.int k])]=.ok (.val (.tup [aF h g ks ls,aJ os sts])) [.val (sc ns),.bor (.lst [.int k'])]:=by
 obtain⟨kd,s2,a1,a2⟩:=Hi n ns k hk
 obtain⟨q,q1,q2,eq⟩:=bu n ns (k+1) 2 (by omega) (by omega)
 rcases (by omega:q=0\/q=1)with rfl|rfl
 ·obtain⟨z,z1,z2,ez⟩:=bu n ns (k+1+1) 2 (by omega) (by omega)
  refine⟨2,1,[kd],[z==1,z==1,z==1],[.str "p"],dW,k+1+1+1,⟨by omega,by omega,by omega,rfl,fun d h=>?_,rfl⟩,oh 1 (by omega),by omega,?_⟩
  ·cases QDz.mp h;exact a1 1
  ·rw[gW,a2]
   simp[yO,aL,nJ,eq,ez,aX,aF,hd,cL,aQ,aJ,fP,pC,dW]
 ·obtain⟨w,w1,w2,ew⟩:=bu n ns (k+1+1) 2 (by omega) (by omega)
  obtain⟨z,z1,z2,ez⟩:=bu n ns (k+1+1+1) 2 (by omega) (by omega)
  rcases (by omega:w=0\/w=1)with rfl|rfl
  ·refine⟨2,2,[kd,.tup [.str "same",.str "p"]],[z==1,z==1,z==1,z==1],[.str "p"],dW,k+1+1+1+1,⟨by omega,by omega,by omega,rfl,fun d h=>?_,rfl⟩,oh 2 (by omega),by omega,?_⟩
   ·simp only[QCq,QAz,or_false]at h
    rcases h with rfl|rfl
    ·exact a1 2
    ·exact .same (by simp[hd,cL])
   ·rw[gW,a2]
    simp[yO,aL,nJ,eq,ew,ez,aX,aF,hd,cL,aQ,aJ,fP,pC,dW,cH,tL]
  ·refine⟨2,2,[kd,.tup [.str "not",.str "p"]],[z==1,z==1,z==1, !(z==1)],[.str "p"],dW,k+1+1+1+1,⟨by omega,by omega,by omega,rfl,fun d h=>?_,rfl⟩,oh 2 (by omega),by omega,?_⟩
   ·simp only[QCq,QAz,or_false]at h
    rcases h with rfl|rfl
    ·exact a1 2
    ·exact .not (by simp[hd,cL])
   ·rw[gW,a2]
    simp[yO,aL,nJ,eq,ew,ez,aX,aF,hd,cL,aQ,aJ,fP,pC,dW,cH,tL]
end Tx
end
section
open PySem Mini
namespace Tx
theorem CT:∀(gs ks:List D)(i:Nat)(x d:D),gs[i]? =some x->ks.length=gs.length->(aQ gs ks).set i (.tup [x,d])=aQ gs (ks.set i d)
 |[],_,_=>fun _ _ h _=>by simp at h
 |g::gs,[],_=>fun _ _ _ h=>by simp at h
 |g::gs,k::ks,0=>fun x d h _=>by simp at h;subst h;simp[aQ]
 |g::gs,k::ks,i+1=>fun x d h hl=>by simp[aQ,CT gs ks i x d (by simpa using h) (by simpa using hl)]
theorem zip_get:∀(gs ks:List D)(i:Nat),i<gs.length->ks.length=gs.length->∃x d,(aQ gs ks)[i]? =some (.tup [x,d])/\gs[i]? =some x
 |[],_,_=>fun h _=>by simp at h
 |g::gs,[],_=>fun _ h=>by simp at h
 |g::gs,k::ks,0=>fun _ _=>⟨g,k,by simp[aQ],rfl⟩
 |g::gs,k::ks,i+1=>fun h hl=>by
  obtain⟨x,d,a,b⟩:=zip_get gs ks i (by simpa using h) (by simpa using hl)
  exact⟨x,d,by simp[aQ,a],by simpa using b⟩
def Gn n ns k(hk:0<=k){ks:List D}(O:cg h g ks ls):∃ks' k',cg h g ks' ls/\0<=k'/\
  pg.fn (n+8) 43 [.val (sc ns),.bor (.lst [.int k]),.val (aF h g ks ls)]=.ok (.val (aF h g ks' ls)) [.val (sc ns),.bor (.lst [.int k']),.val (aF h g ks ls)]:=by
 have lg:=cX O.g5
 have lh:=gf O.h2
 have h2:=O.h2
 have g1:=O.g1
 have g5:=O.g5
 have kl:=O.kl
 have lz:(aQ (cL g) ks).length=g:=by rw[CV (by rw[lg,kl]),lg]
 obtain⟨q,q1,q2,eq⟩:=bu (n+4) ns k g hk (by omega)
 obtain⟨i,rfl⟩:∃i:Nat,q=i:=⟨q.toNat,by omega⟩
 obtain⟨d,k',a1,a2,a3⟩:=wF ns (hd h++cL g) (by simp;omega) (by simp;omega) 1 n (k+1) (by omega)
 simp only[Int.natCast_one,show n+6+1=n+7 from rfl]at a3
 obtain⟨x,y,b1,b2⟩:=zip_get (cL g) ks i (by omega) (by omega)
 refine⟨ks.set i d,k',⟨h2,g1,g5,by simp[kl],fun e he=>?_,O.ll⟩,a2,?_⟩
 ·rcases List.mem_or_eq_of_mem_set he with he|rfl
  ·exact O.kk e he
  ·exact a1
 ·have hb:cU=⟨3,6,.cons (.set 3 (.op .add _ (.bi .tuple (zj _)))) _⟩:=rfl
  have f:fits ((hd h).length+(cL g).length)=true:=by simp[fits];omega
  have i1:at? (aQ (cL g) ks) i=some (.tup [x,y]):=by rw[fc _ _ (by omega),b1]
  have i2:ix? g i=some i:=by simp[ix?];omega
  have q0:∀it,(zj it).aB=none:=fun _=>rfl
  have n0:getD (aF h g ks ls) (.int 0)=some (.tup (hd h)):=by simp[aF]
  have n1:getD (aF h g ks ls) (.int 1)=some (.tup (aQ (cL g) ks)):=by simp[aF]
  have n2:getD (aF h g ks ls) (.int 2)=some (.tup (ls.map .bl)):=by simp[aF]
  rw[mH,hb]
  simp[cU,nJ,rJ (c:=pg.cf (n+7)) (it:=.idx (.var 2) AAG) (σ:=[.val (sc ns),.bor (.lst [.int k]),.val (aF h g ks ls),.un,.un,.un]) (cL g) ks (by omega) (by simp[aF]),q0,f,n0,n1,n2,lz,eq,a3,i1,i2,pP,CT _ ks i x d b2 (by omega),aX]
  simp[aF]
def uH h g:bW h g [] [[]]:=⟨by simp,by simp,by simp,fun st h=>by cases QDz.mp h;simp⟩
def Wd g(h3:3<=g):bW 0 g [.str "q"] [[(.str "q",1)],[(.str "q",0)]]:=by
 refine⟨?_,by simp,by simp,fun st h=>?_⟩
 ·obtain⟨j,rfl⟩:∃j,g=j+2:=⟨g-2,by omega⟩
  simp[cL]
 ·simp only[QCq,QAz,or_false]at h
  rcases h with rfl|rfl<;>simp[hd]
def vo:S:=nJ (nJ (nJ (nJ (nJ bD.body))))
def zF:S:=nJ vo
def Sg n ns k(hk:0<=k):∃h g ks ls os sts,cg h g ks ls/\bW h g os sts/\pg.fn (n+9) 44 [.val (sc ns),.val (.int k)]=.ok (.val (.tup [aF h g ks ls,aJ os sts])) [.val (sc ns),.val (.int k)]:=by
 obtain⟨r,r1,r2,er⟩:=bu (n+5) ns k 8 hk (by omega)
 by_cases c2:r<2
 ·obtain⟨h,g,ks,ls,k1,O,a1,a2⟩:=K4 n ns (k+1) (by omega) 2 (by omega) (by omega)
  obtain⟨os,sts,k2,T,b1,b2⟩:=Px (n+4) ns k1 a1 O
  exact⟨h,g,ks,ls,os,sts,O,T,by rw[dM];simp[bD,er,c2,a2,b2,aX]⟩
 have c2b:=c2
 by_cases c3:r=2
 ·subst c3
  obtain⟨h,g,ks,ls,k1,O,a1,a2⟩:=K4 n ns (k+1) (by omega) 0 (by omega) (by omega)
  exact⟨h,g,ks,ls,[],[[]],O,uH h g,by rw[dM];simp[bD,er,a2,aX,aJ,fP]⟩
 by_cases c4:r=3
 ·subst c4
  obtain⟨g,ks,ls,k1,O,g3,a1,a2⟩:=Qm (n+4) ns (k+1) (by omega)
  obtain⟨q,q1,q2,eq⟩:=bu (n+5) ns k1 2 a1 (by omega)
  rcases (by omega:q=1\/q=0)with rfl|rfl
  ·exact⟨0,g,ks,ls,[],[[]],O,uH 0 g,by rw[dM];simp[bD,er,a2,eq,aX,aJ,fP]⟩
  ·exact⟨0,g,ks,ls,_,_,O,Wd g g3,by rw[dM];simp[bD,er,a2,eq,aX,aJ,fP,pC]⟩
 have e2:(r==2)=false:=by simpa using c3
 have e3:(r==3)=false:=by simpa using c4
 have main:∃h g ks ls os sts k1,cg h g ks ls/\bW h g os sts/\0<=k1/\ex (pg.cf (n+8)) bD.body [.val (sc ns),.val (.int k),.un,.un,.un,.un]=ex (pg.cf (n+8)) zF [.val (sc ns),.val (.int k),.own (.lst [.int k1]),.val (.int r),.val (aF h g ks ls),.val (aJ os sts)]:=by
  have hb:bD.body=.cons _ (.cons _ (.cons _ (.cons _ (.cons _ (.cons _ zF))))):=rfl
  by_cases c6:r<6
  ·obtain⟨h,g,ks,ls,os,sts,k1,O,T,a1,a2⟩:=Np (n+4) ns (k+1) (by omega)
   refine⟨h,g,ks,ls,os,sts,k1,O,T,a1,?_⟩
   rw[hb]
   simp[bD,hdS,nJ,vo,er,c2,e2,e3,c3,c4,c6,a2,aX,bV,gU,cu]
  ·obtain⟨h,g,ks,ls,os,sts,k1,O,T,a1,a2⟩:=Bf (n+4) ns (k+1) (by omega)
   refine⟨h,g,ks,ls,os,sts,k1,O,T,a1,?_⟩
   rw[hb]
   simp[bD,hdS,nJ,vo,er,c2,e2,e3,c3,c4,c6,a2,aX,bV,gU,cu]
 obtain⟨h,g,ks,ls,os,sts,k1,O,T,a1,a2⟩:=main
 by_cases c7:r%2=1
 ·obtain⟨q,q1,q2,eq⟩:=bu (n+5) ns k1 2 a1 (by omega)
  rcases (by omega:q=1\/q=0)with rfl|rfl
  ·obtain⟨ks',k2,O',b1,b2⟩:=Gn n ns (k1+1) (by omega) O
   refine⟨h,g,ks',ls,os,sts,O',T,?_⟩
   rw[dM,a2]
   simp[zF,vo,bD,nJ,c7,eq,b2,aX]
  ·refine⟨h,g,ks,ls,os,sts,O,T,?_⟩
   rw[dM,a2]
   simp[zF,vo,bD,nJ,c7,eq,aX]
 ·refine⟨h,g,ks,ls,os,sts,O,T,?_⟩
  have c8:r%2=0:=by omega
  rw[dM,a2]
  simp[zF,vo,bD,nJ,c8,aX]
end Tx
end
section
open PySem Mini
namespace Tx
def Uo:E:=.bi .all ADb
def K9:E:=.bi .all ABe
def Yp:E:=.comp 1 (.name 0) (.var 0) AAL AAb
def yX n(h:cR xs)(nd:xs.Nodup)st(N:Nat)(hs:(st.map (·.1)).Sublist xs)(hn:∀m∈st,m.2<N):
  pg.fn (n+3) 19 [.val (fP st),.val (.tup xs),.val (.int N)]=.ok (.val (.bl true)) [.val (fP st),.val (.tup xs),.val (.int N)]:=by
 have ll:=hs.length_le
 have e1:ev (pg.cf (n+2)) Uo [.val (fP st),.val (.tup xs),.val (.int N)]=.ok (.val (.bl true)) [.val (fP st),.val (.tup xs),.val (.int N)]:=by
  refine all1 (r:=.val (fP st)) (by simp) rfl rfl fun x hx=>?_
  obtain⟨m,_,rfl⟩:=QDq.mp hx
  simp[pC,aW (n+1) [m.1,.int m.2] 2 2 (by simp) (by simp)]
 have e2:ev (pg.cf (n+2)) K9 [.val (fP st),.val (.tup xs),.val (.int N)]=.ok (.val (.bl true)) [.val (fP st),.val (.tup xs),.val (.int N)]:=by
  refine all1 (r:=.val (fP st)) (by simp) rfl rfl fun x hx=>?_
  obtain⟨m,hm,rfl⟩:=QDq.mp hx
  have t:pg.fn (n+2) 4 [.val (.int m.2),.val (.int 0),.val (.int (N-1))]=.ok (.val (.bl true)) [.val (.int m.2),.val (.int 0),.val (.int (N-1))]:=by
   rw[pA]
   have:=Int.le_sub_one_of_lt (Int.ofNat_lt.mpr (hn m hm))
   simp[gO,adR,this]
  simp[pC,t]
 have e3:ev (pg.cf (n+2)) Yp [.val (fP st),.val (.tup xs),.val (.int N)]=.ok (.new (.lst (st.map (·.1)))) [.val (fP st),.val (.tup xs),.val (.int N)]:=by
  have:=pJ (c:=pg.cf (n+2)) (it:=.var 0) (σ:=[.val (fP st),.val (.tup xs),.val (.int N)]) (el:=.idx (.var 0) AAH) oK (r:=.val (fP st)) (by simp;rfl) rfl rfl fun y hy=>by
   obtain⟨m,_,rfl⟩:=QDq.mp hy
   simp[pC,oK]
  rw[List.map_map]at this
  exact this
 have hb:lX=⟨3,3,(.cons (.ite (.or (.cons _ (.cons (.not Uo) .nil))) _ .nil) (.cons (.ite (.not (.call 9 (.cons (.bi .tuple Yp) _))) _ .nil) (.cons (.ret K9) .nil)))⟩:=rfl
 rw[Aq,hb]
 have q1:Yp.aB=none:=rfl
 have q2:K9.aB=none:=rfl
 have t1':pg.fn _ 3 [.val (fP st),.val _,.val _]=.ok _ [.val _,.val _,.val _]:=aW (n+1) (st.map pC) 0 xs.length (by omega) (by simpa using ll)
 simp[t1',e1,e3,q1,dq n (.inl rfl) h nd hs 0 xs.length (by omega) (by simpa using ll),e2,q2]
def gl8:pg.gl 8=some (.int 12):=rfl
def vN:E:=.bi .all ABf
section
variable{os:List D}
def bW.sub(T:bW h g os sts):(hd h++os).Sublist (names h g):=(List.Sublist.refl _).append T.ou
def JM:(cL g).Sublist (names h g):=List.sublist_append_right _ _
def Bo n(O:cg h g ks ls)(T:bW h g os sts):pg.fn (n+4) 18 [.val (aF h g ks ls),.val (aJ os sts)]=.ok (.val (.bl true)) [.val (aF h g ks ls),.val (aJ os sts)]:=by
 have lg:=cX O.g5
 have lh:=gf O.h2
 have h2:=O.h2
 have g5:=O.g5
 have s1:=T.s1
 have s4:=T.s4
 have lo:=T.ou.length_le
 have X:=bw h g
 have Nd:=names_nodup O.h2 O.g1 O.g5
 have t1:pg.fn _ 3 [.val (aJ os sts),.val _,.val _]=.ok _ [.val _,.val _,.val _]:=aW (n+2) [.tup os,.tup _] 2 2 (by simp) (by simp)
 have hb:oY=⟨2,4,(.cons _ (.cons (.set 2 (zj _)) (.cons _ (.cons _ (.cons (.ret vN) .nil)))))⟩:=rfl
 have q:vN.aB=none:=rfl
 have f:fits ((hd h).length+os.length)=true:=by simp[fits];omega
 have n0:getD (aF h g ks ls) (.int 0)=some (.tup (hd h)):=by simp[aF]
 have m0:getD (aJ os sts) (.int 0)=some (.tup os):=by simp[aJ]
 have m1:getD (aJ os sts) (.int 1)=some (.tup (sts.map fP)):=by simp[aJ]
 have e':ev (pg.cf (n+3)) vN [.val (aF h g ks ls),.val (aJ os sts),.val (.lst (cL g)),.val (.tup (hd h++os))]=.ok (.val (.bl true)) [.val (aF h g ks ls),.val (aJ os sts),.val (.lst (cL g)),.val (.tup (hd h++os))]:=by
  refine all1 (r:=.val (.tup (sts.map fP))) (by simp[aJ]) rfl rfl fun x hx=>?_
  obtain⟨st,hst,rfl⟩:=QDq.mp hx
  simp[aJ,yX n (fun x hx=>X x (T.sub.subset hx)) (T.sub.nodup Nd) st sts.length (T.mv st hst).1 (T.mv st hst).2]
 rw[GQ,hb]
 simp[t1,rJ (c:=pg.cf (n+3)) (it:=.idx (.var 0) AAG) (σ:=[.val (aF h g ks ls),.val (aJ os sts),.un,.un]) (cL g) ks (by rw[O.kl,lg]) (by simp[aF]),m0,m1,n0,lg,dq (n+1) (.inr rfl) (fun x hx=>X x (JM.subset hx)) (JM.nodup Nd) T.ou 0 g (by omega) (by omega),aW (n+2) (sts.map fP) 1 12 (by simp;omega) (by simp;omega),gl8,f,e',q]
def pU n(O:cg h g ks ls)(T:bW h g os sts):pg.fn (n+9) 17 [.val (aF h g ks ls),.val (aJ os sts)]=.ok (.val (aJ os sts)) [.val (aF h g ks ls),.val (aJ os sts)]:=by
 rw[qJ]
 simp[gn,Ck n O,Bo (n+4) O T]
end
end Tx
end
section
open PySem Mini
namespace Tx
noncomputable def lk(x:D):List (D×Nat)->Option Nat
 |[]=>none
 |m::st=>if bK m.1 x then some m.2 else lk x st
abbrev iD(st:List (D×Nat)):List D:=st.map (·.1)
abbrev vJ(st:List (D×Nat)):List D:=st.map fun m=>.int m.2
theorem Eb x:∀st,b8 x (iD st) (vJ st)=(lk x st).map fun j:Nat=>D.int j
 |[]=>rfl
 |m::st=>by
  simp only[Qyz,b8,lk]
  split
  ·rfl
  ·exact Eb x st
theorem Ec x:∀st,aU x (iD st)=(lk x st).isSome
 |[]=>rfl
 |m::st=>by
  simp only[Qyz,aU,lk,Ec x st]
  cases bK m.1 x<;>simp
theorem jc:∀(st:List (D×Nat))(ks vs:List D),cR (ks++iD st)->(ks++iD st).Nodup->dictOf ks vs (st.map pC)=some (ks++iD st,vs++vJ st)
 |[]=>fun ks vs _ _=>by simp[dictOf]
 |m::st=>fun ks vs h nd=>by
  obtain⟨s,e⟩:=h m.1 (by simp)
  have no:aU m.1 ks=false:=by
   rw[e]
   have hn:=fun hm=>by
    rw[show iD _=m.1::iD st from rfl,List.nodup_append]at nd
    exact nd.2.2 _ hm _ QYz rfl
   rw[e]at hn
   have hk:=fun x hx=>h x (QWz _ hx)
   clear nd h
   induction ks with
   |nil=>rfl
   |cons y ys ih=>
    obtain⟨q,rfl⟩:=hk y QYz
    have ne:¬q=s:=fun c=>hn (by rw[c];exact QYz)
    simp[aU,bK,ne,ih (fun c=>hn (QYq _ c)) fun x hx=>hk x (QYq _ hx)]
  have r:=jc st (ks++[m.1]) (vs++[.int m.2]) (by simpa using h) (by simpa using nd)
  rw[Qyz,show pC m=.tup [m.1,.int m.2]from rfl,dictOf,if_pos (by rw[e];rfl)]
  simp only[putD,no]
  rw[if_neg (by simp),r]
  simp
def bR(sts:List (List (D×Nat)))(i:Nat):List (D×Nat):=sts.getD i []
end Tx
end
section
open PySem Mini
namespace Tx
def mR n hs gs ks x(hl:ks.length=gs.length)(hf:hs.length+gs.length<=4000000):
  pg.fn (n+1) 45 [.val (.tup [.tup hs,.tup (aQ gs ks),x])]=.ok (.new (.lst (hs++gs))) [.val (.tup [.tup hs,.tup (aQ gs ks),x])]:=
 ((yx n _).trans (mG n _).symm).trans (dD n hs gs ks x hl hf)
def rC{xs:List D}(h:cR xs)(hn:D.str s∉xs):aU (.str s) xs=false:=by
 induction xs with
 |nil=>rfl
 |cons x xs ih=>
  obtain⟨q,rfl⟩:=h x QYz
  have ne:q≠s:=fun e=>hn (by rw[e];exact QYz)
  simp[aU,bK,ne,ih (fun z hz=>h z (QYq _ hz)) fun hz=>hn (QYq _ hz)]
theorem Fp:∀(xs ys ks vs:List D),ys.length=xs.length->cR xs->cR ks->(ks++xs).Nodup->dictOf ks vs (aQ xs ys)=some (ks++xs,vs++ys)
 |[],ys=>fun ks vs hl _ _ _=>by
  have:ys=[]:=by cases ys<;>simp_all
  subst this
  simp[aQ,dictOf]
 |x::xs,[]=>fun ks vs hl _ _ _=>by simp at hl
 |x::xs,y::ys=>fun ks vs hl h hk nd=>by
  obtain⟨s,rfl⟩:=h x QYz
  have hn:=fun z=>by
   have:=List.nodup_append.mp nd
   exact this.2.2 _ z _ QYz rfl
  have ih:=Fp xs ys (ks++[.str s]) (vs++[y]) (by simpa using hl) (fun z hz=>h z (QYq _ hz)) (fun z hz=>by
   rcases QXz.mp hz with hz|hz
   ·exact hk z hz
   ·simp at hz;exact⟨s,hz⟩) (by simpa using nd)
  simp only[aQ,dictOf,keyOk,if_true,putD,rC hk hn,Qxq,if_false]
  rw[ih]
  simp
def M6(hl:ys.length=xs.length)(h:cR xs)(nd:xs.Nodup):dictOf [] [] (aQ xs ys)=some (xs,ys):=by
 have:=Fp xs ys [] [] hl h (fun z hz=>by cases hz) (by simpa using nd)
 simpa using this
noncomputable def dB(xs:List D)(bs:List Bool)(x:D):Bool:=match b8 x xs (bs.map .bl)with
 |some (.bl b)=>b
 |_=>false
theorem uP{x:D}:∀{xs:List D}{bs:List Bool},cR xs->bs.length=xs.length->x∈xs->b8 x xs (bs.map .bl)=some (.bl (dB xs bs x))
 |[],_=>fun _ _ hx=>by cases hx
 |y::ys,[]=>fun _ hl _=>by simp at hl
 |y::ys,b::bs=>fun h hl hx=>by
  obtain⟨q,rfl⟩:=h x hx
  obtain⟨s,rfl⟩:=h y QYz
  by_cases e:s=q
  ·subst e
   simp[dB,b8,bK]
  ·have hx':D.str q∈ys:=by
    rcases QCq.mp hx with z|z
    ·cases z;exact absurd rfl e
    ·exact z
   have l:b8 (.str q) (.str s::ys) ((b::bs).map .bl)=b8 (.str q) ys (bs.map .bl):=by simp[b8,bK,e]
   have v:dB (.str s::ys) (b::bs) (.str q)=dB ys bs (.str q):=by
    unfold dB
    rw[l]
   rw[l,v]
   exact uP (fun z hz=>h z (QYq _ hz)) (by simpa using hl) hx'
def gh{xs:List D}(h:cR xs)(hl:bs.length=xs.length)(hx:x∈xs):getD (.cJ xs (bs.map .bl)) x=some (.bl (dB xs bs x)):=by
 obtain⟨q,rfl⟩:=h x hx
 exact uP h hl hx
theorem rD:∀(bs:List Bool),aU (.bl false) (bs.map .bl)= !bs.all id
 |[]=>rfl
 |b::bs=>by cases b<;>simp[aU,bK,rD bs]
theorem wJ:∀(bs:List Bool),aU (.bl true) (bs.map .bl)=bs.any id
 |[]=>rfl
 |b::bs=>by cases b<;>simp[aU,bK,wJ bs]
def rN(bs:List Bool):(bs.map D.bl).all flat=true:=by
 rw[List.all_eq_true]
 intro x hx
 obtain⟨b,_,rfl⟩:=QDq.mp hx
 rfl
def wI b(bs:List Bool):aH .isin (.bl b) (.lst (bs.map .bl))=some (aU (.bl b) (bs.map .bl)):=by
 have o:eU (.bl b) (bs.map .bl)=true:=by
  unfold eU
  rw[rN]
  rfl
 show(if eU _ _ then some _ else none)=_
 rw[o]
 rfl
def KQ b(bs:List Bool):aH .notin (.bl b) (.lst (bs.map .bl))=some (!aU (.bl b) (bs.map .bl)):=by
 have o:eU (.bl b) (bs.map .bl)=true:=by
  unfold eU
  rw[rN]
  rfl
 show(if eU _ _ then some _ else none)=_
 rw[o]
 rfl
def uI(bs:List Bool):n8 (bs.map D.bl)=true:=by
 induction bs with
 |nil=>rfl
 |cons b bs ih=>simp[n8,nd,ih]
def Ca(bs:List Bool):jN (bs.map D.bl)=0:=by
 induction bs with
 |nil=>rfl
 |cons b bs ih=>simp[jN,dep,ih]
def K6(rs:List (List Bool)):n8 (rs.map aK)=true:=by
 induction rs with
 |nil=>rfl
 |cons r rs ih=>simp[n8,nd,aK,uI,ih]
def LK(bs:List Bool)(rs:List (List Bool)):∃b,aH .isin (.tup (bs.map .bl)) (.tup (rs.map aK))=some b:=by
 have o:eU (.tup (bs.map .bl)) (rs.map aK)=true:=by
  simp[eU,nd,dep,uI,Ca,K6]
 refine⟨aU (.tup (bs.map .bl)) (rs.map aK),?_⟩
 show(if eU _ _ then some _ else none)=_
 rw[o]
 rfl
end Tx
end
section
open PySem Mini
namespace Tx
def q9:E:=.comp 1 (.name 0) AAc AAL (.idx (.var 3) (.var 0))
def q8:E:=.comp 1 (.name 0) AAc AAL (.idx (.var 2) (.var 0))
noncomputable def o9:Fn:=⟨3,5,(.cons (.set 3 AAb) (.cons (.ite (.cmp .eq (.var 3) ABv) (.cons (.ret ACn) .nil) .nil) (.cons (.ite (.cmp .eq (.var 3) ACp) (.cons (.ret (.not ACn)) .nil) .nil) (.cons (.ite ADQ ADg .nil) (.cons (.set 4 (.bi .tuple q9)) (.cons (.ite (.cmp .eq (.var 3) ABh) ADV .nil) (.cons (.ite (.cmp .eq (.var 3) ABo) ADU .nil) (.cons (.ite ADP ACz .nil) ABP))))))))⟩
def iQ:CG=o9:=rfl
noncomputable def gQ:Fn:=⟨3,5,(.cons (.ite (.cmp .eq AAb ABv) (.cons (.ret ACo) .nil) .nil) (.cons (.ite (.cmp .eq AAb ACp) (.cons (.ret (.not ACo)) .nil) .nil) (.cons (.ite (.cmp .eq AAb ABb) AAn .nil) (.cons (.set 4 q8) (.cons (.ite (.cmp .eq AAb ABn) ACh .nil) (.cons (.ite (.cmp .eq AAb ABh) ACa .nil) (.cons (.ite (.cmp .eq AAb ABo) ACy .nil) (.cons (.ite ABl (.cons (.ret (.var 2)) .nil) .nil) ADT))))))))⟩
def tells_eq:jR=gQ:=rfl
section
variable{bs:List Bool}
def Hq n(h:cR xs)(hl:bs.length=xs.length)(hs:ys.Sublist xs)w r s1 s3 s4:
  ev (pg.cf n) q9 [.val (.tup (w:: .tup ys::r)),s1,.val (.cJ xs (bs.map .bl)),s3,s4]=.ok (.new (.lst ((ys.map (dB xs bs)).map .bl))) [.val (.tup (w:: .tup ys::r)),s1,.val (.cJ xs (bs.map .bl)),s3,s4]:=by
 have:=pJ (c:=pg.cf n) (it:=.idx (.var 0) AAG) (el:=.idx (.var 3) (.var 0)) (σ:=[.val (.tup (w:: .tup ys::r)),s1,.val (.cJ xs (bs.map .bl)),s3,s4]) (fun x=>.bl (dB xs bs x)) (r:=.val (.tup ys)) (τ:=[.val (.tup (w:: .tup ys::r)),s1,.val (.cJ xs (bs.map .bl)),s3,s4]) (by simp) rfl rfl fun x hx=>by
  simp[gh h hl (hs.subset hx)]
 rw[q9,this]
 simp
def Ho n(h:cR xs)(hl:bs.length=xs.length)(hs:ys.Sublist xs)w r s2 s3 s4:
  ev (pg.cf n) q8 [.val (.tup (w:: .tup ys::r)),.val (.cJ xs (bs.map .bl)),s2,s3,s4]=.ok (.new (.lst ((ys.map (dB xs bs)).map .bl))) [.val (.tup (w:: .tup ys::r)),.val (.cJ xs (bs.map .bl)),s2,s3,s4]:=by
 have:=pJ (c:=pg.cf n) (it:=.idx (.var 0) AAG) (el:=.idx (.var 2) (.var 0)) (σ:=[.val (.tup (w:: .tup ys::r)),.val (.cJ xs (bs.map .bl)),s2,s3,s4]) (fun x=>.bl (dB xs bs x)) (r:=.val (.tup ys)) (τ:=[.val (.tup (w:: .tup ys::r)),.val (.cJ xs (bs.map .bl)),s2,s3,s4]) (by simp) rfl rfl fun x hx=>by
  simp[gh h hl (hs.subset hx)]
 rw[q8,this]
 simp
def mU(h:cR xs)(hl:bs.length=xs.length)(hs:ys.Sublist xs)w r:∃row:List Bool,row.length=ys.length/\
  (∀(n:Nat)(s1 s3 s4:Sl),ev (pg.cf n) q9 [.val (.tup (w:: .tup ys::r)),s1,.val (.cJ xs (bs.map .bl)),s3,s4]=.ok (.new (.lst (row.map .bl))) [.val (.tup (w:: .tup ys::r)),s1,.val (.cJ xs (bs.map .bl)),s3,s4])/\
  (∀(n:Nat)(s2 s3 s4:Sl),ev (pg.cf n) q8 [.val (.tup (w:: .tup ys::r)),.val (.cJ xs (bs.map .bl)),s2,s3,s4]=.ok (.new (.lst (row.map .bl))) [.val (.tup (w:: .tup ys::r)),.val (.cJ xs (bs.map .bl)),s2,s3,s4]):=
 ⟨ys.map _,by simp,fun n s1 s3 s4=>Hq n h hl hs w r s1 s3 s4,fun n s2 s3 s4=>Ho n h hl hs w r s2 s3 s4⟩
def Agree(xs:List D)(bs:List Bool)(i j:Nat)(d:D)(own b:Bool):Prop:=
 pg.fn i 15 [.val d,.val (.bl own),.val (.cJ xs (bs.map .bl))]=.ok (.val (.bl b)) [.val d,.val (.bl own),.val (.cJ xs (bs.map .bl))]/\
 pg.fn j 46 [.val d,.val (.cJ xs (bs.map .bl)),.val (.bl own)]=.ok (.val (.bl b)) [.val d,.val (.cJ xs (bs.map .bl)),.val (.bl own)]
def Hs n k:n+1+2*k=n+2*k+1:=Nat.add_right_comm n 1 _
def Hr m k:m+1+k=m+k+1:=Nat.add_right_comm m 1 k
def ae8 n k:n+1+2*(k+1)=n+1+2*k+1+1:=rfl
def Jp(h:cR xs)(hl:bs.length=xs.length):∀{k:Nat}{d:D},bJ xs k d->∀own:Bool,∃b,∀n m:Nat,Agree xs bs (n+1+2*k) (m+1+k) d own b:=by
 intro k d hk
 have q1:q9.aB=none:=rfl
 have q2:q8.aB=none:=rfl
 induction hk with
 | @same k x hx=>
  intro own
  have e:=gh h hl hx
  refine⟨dB xs bs x,fun n m=>⟨?_,?_⟩⟩
  ·rw[Hs,lG,iQ]
   simp[o9,e]
  ·rw[Hr,cY,tells_eq]
   simp[gQ,e]
 | @not k x hx=>
  intro own
  have e:=gh h hl hx
  refine⟨!dB xs bs x,fun n m=>⟨?_,?_⟩⟩
  ·rw[Hs,lG,iQ]
   simp[o9,e]
  ·rw[Hr,cY,tells_eq]
   simp[gQ,e]
 | @and k ys hs h1 h2=>
  intro own
  obtain⟨row,_,e1,e2⟩:=mU h hl hs (.str "and") []
  refine⟨row.all id,fun n m=>⟨?_,?_⟩⟩
  ·rw[Hs,lG,iQ]
   simp[o9,e1,q1,jO row]
  ·rw[Hr,cY,tells_eq]
   simp[gQ,e2,q2,KQ,rD]
 | @or k ys hs h1 h2=>
  intro own
  obtain⟨row,_,e1,e2⟩:=mU h hl hs (.str "or") []
  refine⟨row.any id,fun n m=>⟨?_,?_⟩⟩
  ·rw[Hs,lG,iQ]
   simp[o9,e1,q1,jO row]
  ·rw[Hr,cY,tells_eq]
   simp[gQ,e2,q2,wI,wJ]
 | @both k ys hs h1 h2=>
  intro own
  obtain⟨row,hr,e1,e2⟩:=mU h hl hs (.str "both") []
  refine⟨row.all id||(own&&row.any id),fun n m=>⟨?_,?_⟩⟩
  ·rw[Hs,lG,iQ]
   cases ha:row.all id<;>cases own<;>simp[o9,e1,q1,jO row,ha]
  ·obtain⟨b0,row',rfl⟩:∃b0 row',row=b0::row':=by
    cases row with
    |nil=>simp at hr;omega
    |cons b r=>exact⟨b,r,rfl⟩
   rw[Hr,cY,tells_eq]
   have i1:=wI true (b0::row')
   have i2:=wI false (b0::row')
   rw[wJ]at i1
   rw[rD]at i2
   cases ha:(b0::row').all id with
   |true=>
    have hb0:b0=true:=by simp at ha;exact ha.1
    have hn:(b0::row').any id=true:=by simp[hb0]
    rw[ha]at i2
    simp[gQ,e2,q2,i1,i2,hb0]
    simp_all
   |false=>
    cases hn:(b0::row').any id with
    |true=>
     rw[hn]at i1
     rw[ha]at i2
     simp only[Qyz]at i1 i2 e2
     simp[gQ,e2,q2,i1,i2]
    |false=>
     rw[hn]at i1
     simp[gQ,e2,q2,i1,i2,(by simp at hn;exact hn.1)]
     simp_all
 | @table k ys rs hs h1 h2 hr hi=>
  intro own
  obtain⟨row,_,e1,e2⟩:=mU h hl hs (.str "table") [.tup (rs.map aK)]
  obtain⟨b,eb⟩:=LK row rs
  refine⟨b,fun n m=>⟨?_,?_⟩⟩
  ·rw[Hs,lG,iQ]
   simp[o9,e1,q1,eb]
  ·rw[Hr,cY,tells_eq]
   simp[gQ,e2,q2,eb]
 | @held k d x bb hk hx ih=>
  intro own
  obtain⟨b,ib⟩:=ih own
  have e:=gh h hl hx
  have hh:∀n,pg.fn (n+1+2*k+1) 16 [.val (.tup [.str "held",d,x,.bl bb]),.val (.bl own),.val (.cJ xs (bs.map .bl))]=.ok (.val (.bl (if _==bb then b else own))) [.val (.tup [.str "held",d,x,.bl bb]),.val (.bl own),.val (.cJ xs (bs.map .bl))]:=fun n=>by
   rw[yr]
   cases hc:((dB xs bs x==b)==bb)<;>simp[jP,(fun n=>(ib n 0).1),e,hc]
  refine⟨if (dB xs bs x==b)==bb then b else own,fun n m=>⟨?_,?_⟩⟩
  ·rw[ae8,lG,iQ]
   simp[o9,hh]
  ·rw[<-Nat.add_assoc,cY,tells_eq]
   have hx2:(dB xs bs x==(b==bb))=((dB xs bs x==b)==bb):=by cases dB xs bs x<;>cases b<;>cases bb<;>rfl
   cases hc:((dB xs bs x==b)==bb)<;>rw[hc]at hx2<;>simp[gQ,(fun m=>(ib 0 m).2),e,hx2,aX,b2i]
end
end Tx
end
section
open PySem Mini
namespace Tx
section
def Jc:E:=.comp 2 (.tup [0,1]) AAc AAi (.var 0)
def Jb:E:=.comp 1 (.name 0) AAc AAo AAb
theorem Ij(O:cg h g ks ls)(hl:bs.length=(names h g).length):∃zs:List D,zs.Sublist (cL g)/\∀n m:Nat,
  pg.fn (n+4) 14 [.val (aF h g ks ls),.val (aK bs)]=.ok (.new (.lst zs)) [.val (aF h g ks ls),.val (aK bs)]/\
  pg.fn (m+3) 47 [.val (aF h g ks ls),.val (aK bs)]=.ok (.new (.lst zs)) [.val (aF h g ks ls),.val (aK bs)]:=by
 have T:=bw h g
 have lg:=cX O.g5
 have lh:=gf O.h2
 have ag:∀k own,∃b,bJ _ 1 k->∀n m,Agree _ bs (n+3) (m+2) k own b:=fun k own=>by
  by_cases hk:bJ (names h g) 1 k
  ·obtain⟨b,z⟩:=Jp T hl hk own
   exact⟨b,fun _=>z⟩
  ·exact⟨true,fun z=>absurd z hk⟩
 have sk:∃F:D->Bool->Bool,∀k own,bJ _ 1 k->∀n m,Agree (names h g) bs (n+3) (m+2) k own (F k own):=
  ⟨fun k own=>Classical.choose (ag k own),fun k own=>Classical.choose_spec (ag k own)⟩
 obtain⟨F,hF⟩:=sk
 let p:D×D->Bool:=fun x=> !(F x.2 (dB (names h g) bs x.1)==dB (names h g) bs x.1)
 have mem:∀x∈(cL g).zip ks,x.1∈names h g/\bJ _ 1 x.2:=fun x hx=>⟨QVq _ (List.of_mem_zip hx).1,O.kk x.2 (List.of_mem_zip hx).2⟩
 obtain⟨x0,ps,zeq⟩:∃x0 ps,(cL g).zip ks=x0::ps:=by
  cases q:(cL g).zip ks with
  |nil=>
   have:=congrArg List.length q
   rw[List.length_zip,lg,O.kl]at this
   have:=O.g1
   simp at*
   omega
  |cons x ps=>exact⟨x,ps,rfl⟩
 have dz:dictOf [] [] _=some (names h g,bs.map .bl):=M6 (by simpa using hl) T (names_nodup O.h2 O.g1 O.g5)
 refine⟨(((cL g).zip ks).filter p).map (·.1),?_,fun n m=>?_⟩
 ·have s1:((((cL g).zip ks).filter p).map (·.1)).Sublist _:=(List.filter_sublist).map _
  rw[(List.map_fst_zip (by rw[lg,O.kl];exact QVz _))]at s1
  exact s1
 have w1:pg.fn (n+3) 13 [.val (aF h g ks ls)]=.ok (.new (.lst (names h g))) [.val _]:=
  dD (n+2) (hd h) (cL g) ks _ (by rw[O.kl,lg]) (by have:=O.h2;have:=O.g5;omega)
 have w2:pg.fn (m+2) 45 [.val (aF h g ks ls)]=.ok (.new (.lst (names h g))) [.val _]:=
  mR (m+1) (hd h) (cL g) ks _ (by rw[O.kl,lg]) (by have:=O.h2;have:=O.g5;omega)
 have e1:ev (pg.cf (n+3)) Jc [.val (aF h g ks ls),.val (aK bs),.own (.dct (names h g) (bs.map .bl))]=.ok (.new (.lst ((((cL g).zip ks).filter p).map (·.1)))) [.val (aF h g ks ls),.val (aK bs),.val (.cJ (names h g) (bs.map .bl))]:=by
  rw[zeq]at mem⊢
  have c0:∀x,x∈x0::ps->∀s:Sl,(s=.own (.dct (names h g) (bs.map .bl))\/s=.val (.cJ (names h g) (bs.map .bl)))->ev (pg.cf (n+3)) AAi [.val x.1,.val x.2,.val (aF h g ks ls),.val (aK bs),s]=.ok (.val (.bl (p x))) [.val x.1,.val x.2,.val (aF h g ks ls),.val (aK bs),.val (.cJ (names h g) (bs.map .bl))]:=fun x hx s hs=>by
   obtain⟨m1,m2⟩:=mem x hx
   rcases hs with rfl|rfl<;>simp[gh T hl m1,(hF x.2 (dB (names h g) bs x.1) m2 n m).1,p]
  have it:items (.tup (aQ (cL g) ks))=some ((x0::ps).map pairD):=by show some _=some _;rw[cP,zeq]
  exact Yu (·.1) p (r:=.val _) (by simp[aF]) rfl it (c0 x0 QYz _ (.inl rfl)) (fun x hx=>c0 x (QYq _ hx) _ (.inr rfl)) (fun x _ _=>by simp)
 have e2:ev (pg.cf (m+2)) Jb [.val (aF h g ks ls),.val (aK bs),.own (.dct (names h g) (bs.map .bl))]=.ok (.new (.lst ((((cL g).zip ks).filter p).map (·.1)))) [.val (aF h g ks ls),.val (aK bs),.val (.cJ (names h g) (bs.map .bl))]:=by
  rw[zeq]at mem⊢
  let p':D->Bool:=fun d=>match d with|.tup [a,k]=>p (a,k)|_=>false
  let f':D->D:=fun d=>match d with|.tup (a::_)=>a|_=>.non
  have fm:∀xs:List (D×D),((xs.map pairD).filter p').map f'=(xs.filter p).map (·.1):=by
   intro xs
   induction xs with
   |nil=>rfl
   |cons x xs ih=>
    have hp:p' (pairD x)=p x:=rfl
    rw[Qyz,List.filter_cons,List.filter_cons,hp]
    cases p x with
    |true=>simp only[if_true,Qyz,ih];rfl
    |false=>simp only[Qxq,if_false,ih]
  have c0:∀x,x∈x0::ps->∀s:Sl,(s=.own (.dct (names h g) (bs.map .bl))\/s=.val (.cJ (names h g) (bs.map .bl)))->ev (pg.cf (m+2)) AAo [.val (pairD x),.val (aF h g ks ls),.val (aK bs),s]=.ok (.val (.bl (p' (pairD x)))) [.val (pairD x),.val (aF h g ks ls),.val (aK bs),.val (.cJ (names h g) (bs.map .bl))]:=fun x hx s hs=>by
   obtain⟨m1,m2⟩:=mem x hx
   rcases hs with rfl|rfl<;>simp[gh T hl m1,(hF x.2 (dB (names h g) bs x.1) m2 n m).2,p',p,pairD]
  have it:items (.tup (aQ (cL g) ks))=some (pairD x0::ps.map pairD):=by show some _=some _;rw[cP,zeq];rfl
  have:=Yv (el:=.idx (.var 0) AAH) (it:=.idx (.var 0) AAG) (σ:=[.val (aF h g ks ls),.val (aK bs),.own (.dct (names h g) (bs.map .bl))]) f' p' (r:=.val _) (by simp[aF]) rfl it (c0 x0 QYz _ (.inl rfl)) (fun y hy=>by
   obtain⟨x,hx,rfl⟩:=QDq.mp hy
   exact c0 x (QYq _ hx) _ (.inr rfl)) (fun y hy _=>by
   rw[<-Qyz]at hy
   obtain⟨x,hx,rfl⟩:=QDq.mp hy
   simp[pairD,f'])
  rw[<-Qyz,fm]at this
  exact this
 refine⟨?_,?_⟩
 ·have hb:eY=⟨2,3,(.cons _ (.cons (.ret Jc) .nil))⟩:=rfl
  have q:Jc.aB=none:=rfl
  have z:bA (aK bs)=some _:=rfl
  rw[pM,hb]
  simp[w1,z,dz,e1,q]
 ·have hb:g8=⟨2,3,(.cons _ (.cons (.ret Jb) .nil))⟩:=rfl
  have q:Jb.aB=none:=rfl
  have z:bA (aK bs)=some _:=rfl
  rw[tU,hb]
  simp[w2,z,dz,e2,q]
end
end Tx
end
section
open PySem Mini
namespace Tx
structure Wt(h g:Nat)(ks:List D)(ls:List Bool)(W:List Bool->List D):Prop where
 sub:∀bs,bs.length=(names h g).length->(W bs).Sublist (cL g)
 pr:∀bs,bs.length=(names h g).length->∀n,pg.fn (n+4) 14 [.val (aF h g ks ls),.val (aK bs)]=.ok (.new (.lst (W bs))) [.val (aF h g ks ls),.val (aK bs)]
 lw:∀bs,bs.length=(names h g).length->∀n,pg.fn (n+3) 47 [.val (aF h g ks ls),.val (aK bs)]=.ok (.new (.lst (W bs))) [.val (aF h g ks ls),.val (aK bs)]
def Z3{ks:List D}(O:cg h g ks ls):∃W,Wt h g ks ls W:=by
 have ag:∀bs:List Bool,∃zs:List D,bs.length=(names h g).length->zs.Sublist _/\∀n m:Nat,pg.fn _ 14 [.val _,.val _]=.ok _ [.val _,.val _]/\pg.fn _ 47 [.val _,.val _]=.ok _ [.val _,.val _]:=fun bs=>by
  by_cases hl:bs.length=(names h g).length
  ·obtain⟨zs,z⟩:=Ij O hl
   exact⟨zs,fun _=>z⟩
  ·exact⟨[],fun z=>absurd z hl⟩
 exact⟨fun bs=>Classical.choose _,fun bs hl=>(Classical.choose_spec (ag bs) hl).1,fun bs hl n=>((Classical.choose_spec (ag bs) hl).2 n 0).1,fun bs hl n=>((Classical.choose_spec (ag bs) hl).2 0 n).2⟩
def lK{xs:List D}(h:cR xs):aU (.str s) xs=true↔D.str s∈xs:=by
 constructor
 ·intro z
  by_cases c:D.str s∈xs
  ·exact c
  ·rw[rC h c]at z;cases z
 ·intro z;exact p6 z h
def BJ{W L:List D}(s:W.Sublist L):cR L->L.Nodup->L.filter (fun x=>aU x W)=W:=by
 induction s with
 |slnil=>intro _ _;rfl
 | @cons l₁ l₂ a s ih=>
  intro t nd
  rw[List.nodup_cons]at nd
  obtain⟨q,rfl⟩:=t a QYz
  have t2:=fun x hx=>t x (QYq _ hx)
  rw[List.filter_cons,rC (fun x hx=>t2 x (s.subset hx)) fun z=>nd.1 (s.subset z)]
  exact ih t2 nd.2
 | @cons_cons l₁ l₂ a s ih=>
  intro t nd
  rw[List.nodup_cons]at nd
  obtain⟨q,rfl⟩:=t a QYz
  have t2:=fun x hx=>t x (QYq _ hx)
  have yes:aU (.str q) (D.str q::l₁)=true:=by simp[aU,bK]
  rw[List.filter_cons,yes,if_pos rfl]
  congr 1
  refine Eq.trans (List.filter_congr fun x hx=>?_) (ih t2 nd.2)
  obtain⟨u,rfl⟩:=t2 x hx
  have ne:¬q=u:=fun e=>nd.1 (by rw[e];exact hx)
  simp[aU,bK,ne]
abbrev St:=List Bool×Nat
def au(s:St):D:=.tup [aK s.1,.int s.2]
section
variable{os:List D}{sts:List (List (D×Nat))}
structure Iv(h g:Nat)(sts:List (List (D×Nat)))(s:St):Prop where
 l:s.1.length=(names h g).length
 j:s.2<sts.length
noncomputable def jD(h:Nat)(sts:List (List (D×Nat)))(W:List Bool->List D)(s:St):List D:=(hd h).filter (fun x=>(lk x (bR sts s.2)).isSome)++W s.1
def gH h:cR (hd h):=fun x hx=>bw h 0 x (QWz _ hx)
def mF g:cR (cL g):=fun x hx=>bw 0 g x (QVq _ hx)
def mC(hj:j<sts.length):bR sts j∈sts:=by simp[bR,hj]
def qu(hj:j<sts.length):at? (sts.map fP) (j:Int)=some (fP (bR sts j)):=by
 rw[fc _ _ (by simpa using hj)]
 simp[bR,hj]
def qt(Wk:Wt h g ks ls W)(S:Iv h g sts s):(jD h sts W s).Sublist (names h g):=(List.filter_sublist).append (Wk.sub s.1 S.l)
def iR(T:bW h g os sts)(O:cg h g ks ls)(hj:j<sts.length):cR (iD (bR sts j))/\(iD (bR sts j)).Nodup:=by
 have:=(T.mv _ (mC hj)).1
 exact⟨fun x hx=>bw h g x (T.sub.subset (this.subset hx)),this.nodup (T.sub.nodup (names_nodup O.h2 O.g1 O.g5))⟩
def stC:E:=.comp 1 (.name 0) AAb ABz (.var 0)
def yf n(O:cg h g ks ls)(T:bW h g os sts)(Wk:Wt h g ks ls W)(S:Iv h g sts s):
  pg.fn (n+5) 22 [.val (aF h g ks ls),.val (aJ os sts),.val (au s)]=.ok (.new (.lst (jD h sts W s))) [.val (aF h g ks ls),.val (aJ os sts),.val (au s)]:=by
 have K:=iR T O S.j
 have d:=jc (bR sts s.2) [] [] (by simpa using K.1) (by simpa using K.2)
 have e:ev (pg.cf (n+4)) stC [.val (aF h g ks ls),.val (aJ os sts),.val (au s),.own (.dct (iD (bR sts s.2)) (vJ (bR sts s.2)))]=.ok (.new (.lst ((hd h).filter fun x=>(lk x (bR sts s.2)).isSome))) [.val (aF h g ks ls),.val (aJ os sts),.val (au s),.own (.dct (iD (bR sts s.2)) (vJ (bR sts s.2)))]:=by
  have:=rY (c:=pg.cf (n+4)) (it:=.idx (.var 0) AAH) (co:=.cmp .isin (.var 0) (.var 4)) (el:=.var 0) (σ:=[.val (aF h g ks ls),.val (aJ os sts),.val (au s),.own (.dct (iD (bR sts s.2)) (vJ (bR sts s.2)))]) (τ:=[.val (aF h g ks ls),.val (aJ os sts),.val (au s),.own (.dct (iD (bR sts s.2)) (vJ (bR sts s.2)))]) (r:=.val (.tup (hd h))) (fun x=>x) (fun x=>(lk x (bR sts s.2)).isSome) (by simp[aF]) rfl rfl (fun x hx=>by
   obtain⟨q,rfl⟩:=gH h x hx
   have:aH .isin (.str q) (.cJ (iD (bR sts s.2)) (vJ (bR sts s.2)))=some (lk (.str q) (bR sts s.2)).isSome:=by rw[<-Ec];rfl
   simp[this,Ob.d]) (fun x _ _=>by simp)
  rw[List.map_id']at this
  exact this
 have w:=Wk.pr s.1 S.l n
 have t1:getD (aJ os sts) (.int 1)=some (.tup (sts.map fP)):=by simp[aJ]
 have s0:getD (au s) (.int 0)=some (aK s.1):=by simp[au]
 have s1:getD (au s) (.int 1)=some (.int s.2):=by simp[au]
 have st:=qu S.j
 have sl:=(qt Wk S).length_le
 have nl:=dO O.h2 O.g5
 have h2:=O.h2
 have g5:=O.g5
 have f:fits (((hd h).filter fun x=>(lk x (bR sts s.2)).isSome).length+(W s.1).length)=true:=by
  simp only[jD,QTq]at sl
  simp[fits]
  omega
 have hb:lO=⟨3,4,(.cons _ (.cons (.ret (.op .add stC _)) .nil))⟩:=rfl
 rw[Ai,hb]
 simp[t1,s0,s1,st,fP,d,e,w,f,jD]
end
end Tx
end
section
open PySem Mini
namespace Tx
section
variable{os:List D}
theorem Ld{x:D}:∀{st:List (D×Nat)},cR (iD st)->(∃s,x=.str s)->((lk x st).isSome=true↔x∈iD st)
 |[],_,_=>by simp[lk]
 |m::st,t,⟨s,hs⟩=>by
  subst hs
  rw[<-Ec,lK t]
def lsM:E:=.comp 1 (.name 0) ACt (.cmp .isin AAb ABT) AAb
def lsN:E:=.comp 1 (.name 0) ADc ABz (.var 0)
def Hy(h:Nat)(st:List (D×Nat)):List D:=(st.filter fun m=>aU m.1 (hd h)).map (·.1)
def lN n(O:cg h g ks ls):pg.fn (n+1) 45 [.val (aF h g ks ls)]=.ok (.new (.lst (names h g))) [.val (aF h g ks ls)]:=
 mR n (hd h) _ ks _ (by rw[O.kl,cX O.g5]) (by rw[gf O.h2,cX O.g5];have:=O.h2;have:=O.g5;omega)
def za(O:cg h g ks ls)(hx:x∈hd h):x∉cL g:=fun hs=>by
 have nd:=names_nodup O.h2 O.g1 O.g5
 rw[names,List.nodup_append]at nd
 exact nd.2.2 _ hx _ hs rfl
def Jx(O:cg h g ks ls)(T:bW h g os sts)(Wk:Wt h g ks ls W)(S:Iv h g sts s):(names h g).filter (fun x=>aU x (Hy h (bR sts s.2)++W s.1))=jD h sts W s:=by
 have K:=iR T O S.j
 have ws:=Wk.sub s.1 S.l
 have tW:=fun x hx=>mF g x (ws.subset hx)
 have iA:cR (Hy h _):=fun x hx=>by
  obtain⟨m,hm,rfl⟩:=QDq.mp hx
  exact K.1 m.1 (QTz (List.mem_filter.mp hm).1)
 have tI:cR _:=fun x hx=>by
  rcases QXz.mp hx with z|z
  ·exact iA x z
  ·exact tW x z
 have hI:∀q:Str,D.str q∈Hy h (bR sts s.2)↔D.str q∈hd h/\D.str q∈iD _:=fun q=>by
  constructor
  ·intro z
   obtain⟨m,hm,e⟩:=QDq.mp z
   obtain⟨a,b⟩:=List.mem_filter.mp hm
   rw[e]at b
   exact⟨(lK (gH h)).mp b,by rw[<-e];exact QTz a⟩
  ·rintro ⟨a,b⟩
   obtain⟨m,hm,e⟩:=QDq.mp b
   refine QDq.mpr ⟨m,List.mem_filter.mpr ⟨hm,?_⟩,e⟩
   rw[show m.1=D.str q from e]
   exact(lK (gH h)).mpr a
 rw[names,List.filter_append,jD]
 congr 1
 ·refine List.filter_congr fun x hx=>?_
  obtain⟨q,rfl⟩:=gH h x hx
  rw[Bool.eq_iff_iff,lK tI,Ld K.1 ⟨q,rfl⟩,QXz,hI]
  exact⟨fun z=>z.elim (fun a=>a.2) fun a=>absurd (ws.subset a) (za O hx),fun z=>.inl ⟨hx,z⟩⟩
 ·refine Eq.trans (List.filter_congr fun x hx=>?_) (BJ ws (mF g) ((List.sublist_append_right (hd h) _).nodup (names_nodup O.h2 O.g1 O.g5)))
  obtain⟨q,rfl⟩:=mF g x hx
  rw[Bool.eq_iff_iff,lK tI,lK tW,QXz,hI]
  exact⟨fun z=>z.elim (fun a=>absurd hx (za O a.1)) fun a=>a,.inr⟩
def jK{xs:List D}(t:cR xs):aH .isin (.str q) (.lst xs)=some (aU (.str q) xs)/\aH .isin (.str q) (.tup xs)=some (aU (.str q) xs)/\aH .notin (.str q) (.tup xs)=some (!aU (.str q) xs):=by
 have o:eU (.str q) xs=true:=by unfold eU;rw[oM t];rfl
 refine⟨?_,?_,?_⟩
 ·show(if eU _ xs then some _ else none)=_;rw[o];rfl
 ·show(if eU _ xs then some _ else none)=_;rw[o];rfl
 ·show(if eU _ xs then some _ else none)=_;rw[o];rfl
theorem gj(p:D->Bool):∀st:List (D×Nat),((st.map pC).filter fun d=>match d with|.tup (a::_)=>p a|_=>false).map oK=(st.filter fun m=>p m.1).map (·.1)
 |[]=>rfl
 |m::st=>by
  rw[Qyz,List.filter_cons,List.filter_cons,show(match pC m with|.tup (a::_)=>p a|_=>false)=p m.1 from rfl]
  cases p m.1
  ·exact gj p st
  ·simp only[if_true,Qyz,gj p st];rfl
def wD n(O:cg h g ks ls)(T:bW h g os sts)(Wk:Wt h g ks ls W)(S:Iv h g sts s):
  pg.fn (n+4) 48 [.val (aF h g ks ls),.val (aJ os sts),.val (au s)]=.ok (.new (.lst (jD h sts W s))) [.val (aF h g ks ls),.val (aJ os sts),.val (au s)]:=by
 have K:=iR T O S.j
 have t1:getD (aJ os sts) (.int 1)=some (.tup (sts.map fP)):=by simp[aJ]
 have n0:getD (aF h g ks ls) (.int 0)=some (.tup (hd h)):=by simp[aF]
 have s0:getD (au s) (.int 0)=some (aK s.1):=by simp[au]
 have s1:getD (au s) (.int 1)=some (.int s.2):=by simp[au]
 have st:=qu S.j
 have w:=Wk.lw s.1 S.l n
 have e1:ev (pg.cf (n+3)) lsM [.val (aF h g ks ls),.val (aJ os sts),.val (au s),.un]=.ok (.new (.lst (Hy h (bR sts s.2)))) [.val (aF h g ks ls),.val (aJ os sts),.val (au s),.un]:=by
  have:=rY (c:=pg.cf (n+3)) (it:=.idx ABG AAg) (co:=.cmp .isin AAb ABT) (el:=.idx (.var 0) AAH) (σ:=[.val (aF h g ks ls),.val (aJ os sts),.val (au s),.un]) (τ:=[.val (aF h g ks ls),.val (aJ os sts),.val (au s),.un]) (d:=fP (bR sts s.2)) (xs:=(bR sts s.2).map pC) (r:=.val (fP (bR sts s.2))) oK (fun d=>match d with|.tup (a::_)=>aU a (hd h)|_=>false) (by simp[t1,s1,st]) rfl rfl (fun x hx=>by
   obtain⟨m,hm,rfl⟩:=QDq.mp hx
   obtain⟨q,eq⟩:=K.1 m.1 (QTz hm)
   have i:=(jK (q:=q) (gH h)).2.1
   simp[pC,n0,eq,i]) (fun x hx _=>by
   obtain⟨m,hm,rfl⟩:=QDq.mp hx
   simp[pC,oK])
  rw[gj fun a=>aU a (hd h)]at this
  exact this
 have tI:cR (Hy h (bR sts s.2)++W s.1):=fun x hx=>by
  rcases QXz.mp hx with z|z
  ·obtain⟨m,hm,rfl⟩:=QDq.mp z
   exact K.1 m.1 (QTz (List.mem_filter.mp hm).1)
  ·exact mF g x ((Wk.sub s.1 S.l).subset z)
 have ln:=lN (n+2) O
 have e2:ev (pg.cf (n+3)) lsN [.val (aF h g ks ls),.val (aJ os sts),.val (au s),.own (.lst (Hy h (bR sts s.2)++W s.1))]=.ok (.new (.lst (jD h sts W s))) [.val (aF h g ks ls),.val (aJ os sts),.val (au s),.own (.lst (Hy h (bR sts s.2)++W s.1))]:=by
  have:=rY (c:=pg.cf (n+3)) (it:=.call 45 AAR) (co:=.cmp .isin (.var 0) (.var 4)) (el:=.var 0) (σ:=[.val (aF h g ks ls),.val (aJ os sts),.val (au s),.own (.lst (Hy h (bR sts s.2)++W s.1))]) (τ:=[.val (aF h g ks ls),.val (aJ os sts),.val (au s),.own (.lst (Hy h (bR sts s.2)++W s.1))]) (d:=.lst (names h g)) (xs:=names h g) (r:=.new (.lst (names h g))) (fun x=>x) (fun x=>aU x (Hy h (bR sts s.2)++W s.1)) (by simp[ln]) rfl rfl (fun x hx=>by
   obtain⟨q,rfl⟩:=bw h g x hx
   have i:=(jK (q:=q) tI).1
   simp[i,Ob.d]) (fun x _ _=>by simp)
  rw[List.map_id',Jx O T Wk S]at this
  exact this
 have f:fits ((Hy h (bR sts s.2)).length+(W s.1).length)=true:=by
  have a:(Hy h (bR sts s.2)).length<=(bR sts s.2).length:=by rw[Hy,QAq];exact List.length_filter_le _ _
  have b:=(T.mv _ (mC S.j)).1.length_le
  have c:=(Wk.sub s.1 S.l).length_le
  have d:=T.sub.length_le
  have nl:=dO (g:=g) O.h2 O.g5
  have h2:=O.h2
  have g5:=O.g5
  have:=cX O.g5
  simp at b
  simp only[QTq]at d
  simp[fits]
  omega
 have hb:jU=⟨3,4,(.cons (.set 3 lsM) (.cons ACO (.cons (.ret lsN) .nil)))⟩:=rfl
 have q:lsN.aB=none:=rfl
 rw[yw,hb]
 simp[e1,w,s0,f,Ob.d,e2,q]
end
end Tx
end
section
open PySem Mini
namespace Tx
section
noncomputable def dX(xs:List D)(bs:List Bool)(x:D):List Bool:=(xs.zip bs).map fun p=>if bK p.1 x then !p.2 else p.2
def rM{bs:List Bool}(hl:bs.length=xs.length)x:(dX xs bs x).length=xs.length:=by simp[dX,hl]
def chF(x:D)(p:D×D):D:=match p.2 with
 |.bl b=>.bl (if bK p.1 x then !b else b)
 |d=>d
theorem FP x:∀(xs:List D)(bs:List Bool),(xs.zip (bs.map D.bl)).map (chF x)=(dX xs bs x).map .bl
 |[],bs=>by simp[dX]
 |_::_,[]=>by simp[dX]
 |y::xs,b::bs=>by
  have:=FP x xs bs
  simp only[dX]at this⊢
  simp[chF,this]
def chC:E:=.comp 2 (.tup [0,1]) ADd AAL (.ite ACl (.not (.var 1)) (.var 1))
def Cp n(O:cg h g ks ls)(hl:bs.length=(names h g).length)(hx:∃s,x=.str s):
  pg.fn (n+2) 25 [.val (aF h g ks ls),.val (aK bs),.val x]=.ok (.val (aK (dX (names h g) bs x))) [.val (aF h g ks ls),.val (aK bs),.val x]:=by
 obtain⟨q,rfl⟩:=hx
 have w:pg.fn _ 13 [.val (aF h g ks ls)]=.ok (.new (.lst (names h g))) [.val _]:=
  dD n (hd h) _ ks _ (by rw[O.kl,cX O.g5]) (by rw[gf O.h2,cX O.g5];have:=O.h2;have:=O.g5;omega)
 have e:ev (pg.cf (n+1)) chC [.val (aF h g ks ls),.val (aK bs),.val (.str q)]=.ok (.new (.lst ((dX (names h g) bs (.str q)).map .bl))) [.val (aF h g ks ls),.val (aK bs),.val (.str q)]:=by
  have:=Ni (c:=pg.cf (n+1)) (it:=.zip ACU (.var 1)) (el:=.ite ACl (.not (.var 1)) (.var 1)) (σ:=[.val (aF h g ks ls),.val (aK bs),.val (.str q)]) (τ:=[.val (aF h g ks ls),.val (aK bs),.val (.str q)]) (r:=.val (.lst (aQ (names h g) (bs.map .bl)))) (chF _) (by
    have z:bA (aK bs)=some _:=rfl
    simp[w,z]) rfl (by show some _=some _;rw[cP]) (fun p hp=>by
    obtain⟨u,eu⟩:=bw h g p.1 (List.of_mem_zip hp).1
    obtain⟨b,_,eb⟩:=QDq.mp (List.of_mem_zip hp).2
    rw[<-eb,eu]
    have e1:chF (.str q) p=.bl (if decide (u=q)then !b else b):=by
     unfold chF
     rw[<-eb,eu]
     rfl
    rw[e1]
    cases c:decide (u=q)<;>simp[c])
  rw[FP]at this
  exact this
 have hb:o5=⟨3,3,(.cons (.ret (.bi .tuple chC)) .nil)⟩:=rfl
 have qv:chC.aB=none:=rfl
 rw[GZ,hb]
 simp[e,qv]
 rfl
theorem uF:∀(L pre:List D),(bF pre.length L.length).map (fun d=>match d with|.int i=>(pre++L).getD i.toNat .non|_=>.non)=L
 |[]=>fun pre=>rfl
 |x::L=>fun pre=>by
  have:=uF L (pre++[x])
  simp only[QTq,QBq,List.length_nil,QLq,QLz,List.nil_append]at this
  simp only[QBq,bF,Qyz]
  rw[show((pre.length:Int)+1)=((pre.length+(0+1):Nat)) by simp,this]
  simp[List.getD]
def fgC:E:=.comp 1 (.name 0) (.range1 ADe) AAL ABs
theorem uE:∀(n:Nat)(lo:Int)(x:D),x∈bF lo n->∃j:Nat,j<n/\x=.int (lo+j)
 |0=>fun _ _ h=>by cases h
 |n+1=>fun lo x h=>by
  rcases QCq.mp h with rfl|h
  ·exact⟨0,by omega,by simp⟩
  ·obtain⟨j,hj,rfl⟩:=uE n _ x h
   exact⟨j+1,by omega,by congr 1;omega⟩
def RX n(O:cg h g ks ls)T(S:Iv h g sts s)s5 s6 s7:
  ev (pg.cf n) fgC [.val (aF h g ks ls),.val T,.val (au s),.val (.str q),.own (.lst (names h g)),s5,s6,s7]=.ok (.new (.lst ((dX (names h g) s.1 (.str q)).map .bl))) [.val (aF h g ks ls),.val T,.val (au s),.val (.str q),.own (.lst (names h g)),s5,s6,s7]:=by
 have nl:=dO O.h2 O.g5
 have h2:=O.h2
 have g5:=O.g5
 have fl:=rM S.l (.str q)
 have f1:fits (names h g).length=true:=by simp[fits];omega
 have f2:DX (names h g).length=true:=by simp[DX];omega
 have s0:getD (au s) (.int 0)=some (aK s.1):=by simp[au]
 have:=pJ (c:=pg.cf n) (it:=.range1 ADe) (el:=.cmp .ne (.idx (.idx (.var 3) AAH) (.var 0)) (.cmp .eq (.idx (.var 5) (.var 0)) (.var 4))) (σ:=[.val (aF h g ks ls),.val T,.val (au s),.val (.str q),.own (.lst (names h g)),s5,s6,s7]) (τ:=[.val (aF h g ks ls),.val T,.val (au s),.val (.str q),.own (.lst (names h g)),s5,s6,s7]) (r:=.val (.lst (bF 0 (names h g).length))) (fun d=>match d with|.int i=>([]++(dX (names h g) s.1 (.str q)).map D.bl).getD i.toNat .non|_=>.non) (by simp[f1,f2,Ob.d]) rfl rfl (fun x hx=>by
  obtain⟨j,hj,rfl⟩:=uE _ _ _ hx
  have hb:j<s.1.length:=by rw[S.l];exact hj
  obtain⟨u,eu⟩:=bw h g _ (List.getElem_mem hj)
  have a1:at? (names h g) j=some (.str u):=by rw[fc _ _ hj,QXq hj,eu]
  have a3:getD (aK s.1) (.int j)=some (.bl s.1[j]):=by simpa[aK]using (by rw[fc _ _ (by simpa using hb)];simp[hb])
  have v:([]++(dX (names h g) s.1 (.str q)).map D.bl).getD ((0:Int)+j).toNat .non=.bl (!(s.1[j]==decide (u=q))):=by
   rw[List.nil_append,Int.zero_add,Int.toNat_natCast,List.getD_eq_getElem?_getD,QFz,QXq (by rw[fl];exact hj)]
   have e2:bK (names h g)[j] (.str q)=decide (u=q):=by rw[eu];rfl
   simp only[dX,List.getElem_map,List.getElem_zip,Option.map_some,Option.getD_some,e2]
   cases decide (u=q)<;>cases s.1[j]<;>rfl
  simp only[v]
  simp[s0,a3,a1,Ob.d])
 have fl':((dX (names h g) s.1 (.str q)).map D.bl).length=(names h g).length:=by rw[QAq,fl]
 have rg:=uF ((dX (names h g) s.1 (.str q)).map D.bl) []
 rw[fl']at rg
 rw[show((([]:List D).length):Int)=0 from rfl]at rg
 rw[rg]at this
 exact this
end
end Tx
end
section
open PySem Mini
namespace Tx
section
variable{os:List D}
noncomputable def wC(h g:Nat)(os:List D)(sts:List (List (D×Nat)))(s:St)(x:D):Option St:=
 if aU x (hd h)||aU x os then(lk x (bR sts s.2)).map fun j=>(dX (names h g) s.1 x,j)else some (dX (names h g) s.1 x,s.2)
def gA:Option St->D
 |none=>.non
 |some s=>au s
def sdE a(j:Nat):D.tup [aK a,.int j]=au (a,j):=rfl
def pY(T:bW h g os sts):cR os:=fun x hx=>mF g x (T.ou.subset hx)
theorem Up{x:D}{N:Nat}:∀{st:List (D×Nat)},(∀m∈st,m.2<N)->∀{j:Nat},lk x st=some j->j<N
 |[],_,_,e=>by cases e
 |m::st,hm,j,e=>by
  simp only[lk]at e
  split at e
  ·cases e;exact hm m QYz
  ·exact Up (fun q hq=>hm q (QYq _ hq)) e
def Xa(T:bW h g os sts)(S:Iv h g sts s)(e:wC h g os sts s x=some s'):Iv h g sts s':=by
 unfold wC at e
 split at e
 ·obtain⟨j,hj,rfl⟩:=QJz.mp e
  exact⟨rM S.l x,Up (T.mv _ (mC S.j)).2 hj⟩
 ·cases e
  exact⟨rM S.l x,S.j⟩
def zZ n(O:cg h g ks ls)(T:bW h g os sts)(S:Iv h g sts s)q:
  pg.fn (n+1) 23 [.val (aJ os sts),.val (au s),.val (.str q)]=.ok (.val (.bl (aU (.str q) os&& !(lk (.str q) (bR sts s.2)).isSome))) [.val (aJ os sts),.val (au s),.val (.str q)]:=by
 have K:=iR T O S.j
 have t0:getD (aJ os sts) (.int 0)=some (.tup os):=by simp[aJ]
 have t1:getD (aJ os sts) (.int 1)=some (.tup (sts.map fP)):=by simp[aJ]
 have s1:getD (au s) (.int 1)=some (.int s.2):=by simp[au]
 have i:=(jK (q:=q) (pY T)).2.1
 have i2:aH .notin (.str q) (.cJ (iD (bR sts s.2)) (vJ (bR sts s.2)))=some (!(lk (.str q) (bR sts s.2)).isSome):=by rw[<-Ec];rfl
 rw[v5]
 cases c:aU _ os<;>rw[c]at i<;>simp[ji,t0,i,t1,s1,qu S.j,fP,jc _ [] [] (by simpa using K.1) (by simpa using K.2),Ob.d,i2]
def Rj(O:cg h g ks ls)(T:bW h g os sts)(Wk:Wt h g ks ls W)(S:Iv h g sts s)(hx:D.str q∈jD h sts W s):(aU (.str q) os&& !(lk (.str q) (bR sts s.2)).isSome)=true/\wC h g os sts s (.str q)=none\/(aU (.str q) os&& !(lk (.str q) (bR sts s.2)).isSome)=false/\wC h g os sts s (.str q)=some (dX (names h g) s.1 (.str q),(lk (.str q) (bR sts s.2)).getD s.2):=by
 unfold wC
 rcases QXz.mp hx with z|z
 ·obtain⟨z1,z2⟩:=List.mem_filter.mp z
  rw[rC (pY T) fun w=>za O z1 (T.ou.subset w),p6 z1 (gH h)]
  obtain⟨j,hj⟩:=Option.isSome_iff_exists.mp z2
  rw[hj]
  exact .inr ⟨rfl,rfl⟩
 ·have zr:=(Wk.sub s.1 S.l).subset z
  rw[rC (gH h) fun w=>za O w zr]
  cases ho:aU _ os with
  |true=>
   cases hj:lk _ _ with
   |none=>exact .inl ⟨rfl,rfl⟩
   |some j=>exact .inr ⟨rfl,rfl⟩
  |false=>
   have hn:lk (.str q) (bR sts s.2)=none:=by
    cases hj:lk _ _ with
    |none=>rfl
    |some j=>
     rcases QXz.mp ((T.mv _ (mC S.j)).1.subset ((Ld (iR T O S.j).1 ⟨q,rfl⟩).mp (by rw[hj];rfl)))with w|w
     ·exact absurd zr (za O w)
     ·rw[p6 w (pY T)]at ho;cases ho
   rw[hn]
   exact .inr ⟨rfl,rfl⟩
def Hm n(O:cg h g ks ls)(T:bW h g os sts)(Wk:Wt h g ks ls W)(S:Iv h g sts s)(hx:x∈jD h sts W s):
  pg.fn (n+3) 24 [.val (aF h g ks ls),.val (aJ os sts),.val (au s),.val x]=.ok (.val (gA (wC h g os sts s x))) [.val (aF h g ks ls),.val (aJ os sts),.val (au s),.val x]:=by
 have K:=iR T O S.j
 obtain⟨q,rfl⟩:=bw h g x ((qt Wk S).subset hx)
 have u:=zZ (n+1) O T S q
 have t1:getD (aJ os sts) (.int 1)=some (.tup (sts.map fP)):=by simp[aJ]
 have s0:getD (au s) (.int 0)=some (aK s.1):=by simp[au]
 have s1:getD (au s) (.int 1)=some (.int s.2):=by simp[au]
 have gt:rH (.cJ (iD (bR sts s.2)) (vJ (bR sts s.2))) (.str q) (.int s.2)=some (.int ((lk (.str q) (bR sts s.2)).getD s.2)):=by
  show(if keyOk (.str q)then some _ else none)=_
  rw[Eb]
  cases lk _ _<;>rfl
 rw[J0]
 rcases (Rj O T Wk S hx)with ⟨k1,k2⟩|⟨k1,k2⟩
 ·rw[k1]at u
  rw[k2]
  simp[nq,u,gA]
 ·rw[k1]at u
  rw[k2]
  simp[nq,u,t1,s0,s1,qu S.j,fP,jc _ [] [] (by simpa using K.1) (by simpa using K.2),Ob.d,Cp n O S.l ⟨q,rfl⟩,rB,gt,aX,gA,sdE]
def Zk:S:=(.cons (.ite (.cmp .eq (.var 6) (.var 3)) ACX .nil) .nil)
theorem Ur(c:Cf)(a b e F:D)(N:Sl){q:Str}:∀(st:List (D×Nat))(s6 s7:Sl),cR (iD st)->bB s6->bB s7->
  (∀j,lk (.str q) st=some j->∃s6' s7',bI (.tup [6,7]) (ex c Zk) (st.map pC) [.val a,.val b,.val e,.val (.str q),N,.val F,s6,s7]=.ret (.val (.tup [F,.int j])) [.val a,.val b,.val e,.val (.str q),N,.val F,s6',s7'])/\
  (lk (.str q) st=none->∃s6' s7',bI (.tup [6,7]) (ex c Zk) (st.map pC) [.val a,.val b,.val e,.val (.str q),N,.val F,s6,s7]=.next [.val a,.val b,.val e,.val (.str q),N,.val F,s6',s7'])
 |[]=>fun s6 s7 _ _ _=>⟨fun j z=>(by cases z),fun _=>⟨s6,s7,rfl⟩⟩
 |m::st=>fun s6 s7 t h6 h7=>by
  obtain⟨u,eu⟩:=t m.1 QYz
  have tt:bV (.tup [6,7]) (pC m) [.val a,.val b,.val e,.val (.str q),N,.val F,s6,s7]=some [.val a,.val b,.val e,.val (.str q),N,.val F,.val m.1,.val (.int m.2)]:=by
   rcases h6 with rfl|⟨d,rfl⟩<;>rcases h7 with rfl|⟨d,rfl⟩<;>simp[bV,gU,cu,pC]
  have ih:=Ur c a b e F N (q:=q) st (.val m.1) (.val (.int m.2)) (fun x hx=>t x (QYq _ hx)) (.inr ⟨_,rfl⟩) (.inr ⟨_,rfl⟩)
  rw[Qyz,bI,tt]
  have e1:lk (.str q) (m::st)=if decide (u=q)then some m.2 else lk (.str q) st:=by rw[lk,eu];rfl
  rw[e1,eu]at*
  by_cases cq:u=q
  ·subst cq
   refine⟨fun j z=>?_,fun z=>by simp at z⟩
   simp at z
   subst z
   exact⟨.val (.str u),.val (.int m.2),by simp[Zk,aX]⟩
  ·have sk:(ex c Zk [.val a,.val b,.val e,.val (.str q),N,.val F,.val (.str u),.val (.int m.2)])=.next [.val a,.val b,.val e,.val (.str q),N,.val F,.val (.str u),.val (.int m.2)]:=by simp[Zk,cq]
   simp only[sk]
   simp only[cq,decide_false,Qxq,if_false]
   exact ih
theorem Bj n(O:cg h g ks ls)(T:bW h g os sts)(S:Iv h g sts s)(hx:∃q,x=.str q):
  pg.fn (n+2) 49 [.val (aF h g ks ls),.val (aJ os sts),.val (au s),.val x]=.ok (.val (gA (wC h g os sts s x))) [.val (aF h g ks ls),.val (aJ os sts),.val (au s),.val x]:=by
 obtain⟨q,rfl⟩:=hx
 have ln:=lN n O
 have n0:getD (aF h g ks ls) (.int 0)=some (.tup (hd h)):=by simp[aF]
 have t0:getD (aJ os sts) (.int 0)=some (.tup os):=by simp[aJ]
 have t1:getD (aJ os sts) (.int 1)=some (.tup (sts.map fP)):=by simp[aJ]
 have s1:getD (au s) (.int 1)=some (.int s.2):=by simp[au]
 have st:=qu S.j
 have i1:=(jK (q:=q) (gH h)).2.2
 have i2:=(jK (q:=q) (pY T)).2.2
 have fe:=RX (n+1) O (aJ os sts) S (q:=q) .un .un .un
 have lg:=Ur (pg.cf (n+1)) (aF h g ks ls) (aJ os sts) (au s) (aK (dX (names h g) s.1 (.str q))) (.own (.lst (names h g))) (q:=q) _ .un .un (iR T O S.j).1 (.inl rfl) (.inl rfl)
 have it:items (fP (bR sts s.2))=some _:=rfl
 have rd:D.tup _=aK (dX (names h g) s.1 (.str q)):=rfl
 have hb:oW=⟨4,8,(.cons _ (.cons (.set 5 (.bi .tuple fgC)) (.cons _ (.cons (.for_ _ _ Zk) _))))⟩:=rfl
 have qv:fgC.aB=none:=rfl
 rw[GK,hb]
 unfold wC
 cases c1:aU _ (hd h)with
 |false=>
  cases c2:aU _ os with
  |false=>
   rw[c1]at i1
   rw[c2]at i2
   simp[ln,fe,qv,rd,n0,t0,i1,i2,s1,aX,gA,sdE]
  |true=>
   rw[c1]at i1
   rw[c2]at i2
   cases hj:lk _ _ with
   |none=>
    obtain⟨s6,s7,e⟩:=lg.2 hj
    simp[ln,fe,qv,rd,n0,t0,i1,i2,t1,s1,st,it,e,gA]
   |some j=>
    obtain⟨s6,s7,e⟩:=lg.1 j hj
    simp[ln,fe,qv,rd,n0,t0,i1,i2,t1,s1,st,it,e,gA,sdE]
 |true=>
  rw[c1]at i1
  cases hj:lk _ _ with
  |none=>
   obtain⟨s6,s7,e⟩:=lg.2 hj
   simp[ln,fe,qv,rd,n0,i1,t1,s1,st,it,e,gA]
  |some j=>
   obtain⟨s6,s7,e⟩:=lg.1 j hj
   simp[ln,fe,qv,rd,n0,i1,t1,s1,st,it,e,gA,sdE]
end
end Tx
end
section
open PySem Mini
namespace Tx
structure Cs where
 h:Nat
 g:Nat
 ks:List D
 ls:List Bool
 os:List D
 sts:List (List (D×Nat))
 W:List Bool->List D
namespace Cs
variable(C:Cs)
structure Ok:Prop where
 o:cg C.h C.g C.ks C.ls
 t:bW C.h C.g C.os C.sts
 w:Wt C.h C.g C.ks C.ls C.W
def n:D:=aF C.h C.g C.ks C.ls
def t:D:=aJ C.os C.sts
abbrev nm:List D:=names C.h C.g
abbrev S(s:St):Prop:=Iv C.h C.g C.sts s
def st(s:St):List D:=jD C.h C.sts C.W s
def led(s:St)(x:D):Option St:=wC C.h C.g C.os C.sts s x
end Cs
section
variable{C:Cs}
namespace Cs.Ok
variable(K:C.Ok)
include K
def sub(S:C.S s):(C.st s).Sublist C.nm:=qt K.w S
def aaf(S:C.S s):cR (C.st s):=fun x hx=>bw C.h C.g x ((K.sub S).subset hx)
def abI{t:St}(S:C.S s)(e:C.led s x=some t):C.S t:=Xa K.t S e
def eX m(S:C.S s):pg.fn (m+5) 22 [.val C.n,.val C.t,.val (au s)]=.ok (.new (.lst (C.st s))) [.val C.n,.val C.t,.val (au s)]:=yf m K.o K.t K.w S
def Hn m(S:C.S s):pg.fn (m+4) 48 [.val C.n,.val C.t,.val (au s)]=.ok (.new (.lst (C.st s))) [.val C.n,.val C.t,.val (au s)]:=wD m K.o K.t K.w S
def jJ m(S:C.S s)(hx:x∈C.st s):pg.fn (m+3) 24 [.val C.n,.val C.t,.val (au s),.val x]=.ok (.val (gA (C.led s x))) [.val C.n,.val C.t,.val (au s),.val x]:=Hm m K.o K.t K.w S hx
def Rm m(S:C.S s)(hx:∃q,x=.str q):pg.fn (m+2) 49 [.val C.n,.val C.t,.val (au s),.val x]=.ok (.val (gA (C.led s x))) [.val C.n,.val C.t,.val (au s),.val x]:=Bj m K.o K.t S hx
def checked m:pg.fn (m+9) 17 [.val C.n,.val C.t]=.ok (.val C.t) [.val C.n,.val C.t]:=pU m K.o K.t
end Cs.Ok
def Sh m(ns:List Int)k(hk:0<=k):∃C:Cs,C.Ok/\pg.fn (m+9) 44 [.val (.lst (ns.map .int)),.val (.int k)]=.ok (.val (.tup [C.n,C.t])) [.val (.lst (ns.map .int)),.val (.int k)]:=by
 obtain⟨h,g,ks,ls,os,sts,O,T,e⟩:=Sg m ns k hk
 obtain⟨W,w⟩:=Z3 O
 exact⟨⟨h,g,ks,ls,os,sts,W⟩,⟨O,T,w⟩,e⟩
def abF:getD C.n (.int 2)=some (aK C.ls):=by simp[Cs.n,aF];rfl
end
abbrev Rs:=List (St×List D)
def kD(R:Rs):List D:=R.map fun p=>au p.1
def vD(R:Rs):List D:=R.map fun p=>.lst p.2
def Ls R N:kD (R++N)=kD R++kD N:=List.map_append
def Vr R N:vD (R++N)=vD R++vD N:=List.map_append
def Bl R:(kD R).length=R.length:=QAq _
theorem Do:∀a b:List Bool,oN (a.map .bl) (b.map .bl)=decide (a=b)
 |[],[]=>rfl
 |[],_::_=>rfl
 |_::_,[]=>rfl
 |x::a,y::b=>by
  simp only[Qyz,oN,bK,Do a b,List.cons.injEq]
  by_cases e:x=y<;>by_cases e':a=b<;>simp[e,e']
def j0 a b:bK (au a) (au b)=decide (a=b):=by
 obtain⟨a,i⟩:=a
 obtain⟨b,j⟩:=b
 simp only[au,aK,bK,oN,Do,Bool.and_true,Prod.mk.injEq]
 by_cases e:a=b<;>by_cases e':i=j<;>simp[e,e']<;>omega
theorem Ex t:∀R:Rs,aU (au t) (kD R)=decide (t∈R.map (·.1))
 |[]=>by simp[kD,aU]
 |p::R=>by
  have:=Ex t R
  simp only[kD]at this
  simp only[kD,Qyz,aU,j0,this,QCq]
  by_cases e:p.1=t
  ·simp[e]
  ·have:¬t=p.1:=fun z=>e z.symm
   simp[e,this]
def Lf(s:St):Rs->Option (List D)
 |[]=>none
 |p::R=>if p.1=s then some p.2 else Lf s R
theorem Uq s:∀R:Rs,b8 (au s) (kD R) (vD R)=(Lf s R).map D.lst
 |[]=>rfl
 |p::R=>by
  have:=Uq s R
  simp only[kD,vD]at this
  simp only[kD,vD,Qyz,b8,j0,this,Lf]
  by_cases e:p.1=s<;>simp[e]
theorem Ed{r:List D}N:∀{R:Rs},Lf s R=some r->Lf s (R++N)=some r
 |[]=>fun e=>by cases e
 |p::R=>fun e=>by
  simp only[QLz,Lf]at e⊢
  split
  ·rename_i z;rw[if_pos z]at e;exact e
  ·rename_i z;rw[if_neg z]at e;exact Ed N e
theorem Le{s:St}{r:List D}:∀{R:Rs}{k:Nat},(R.map (·.1)).Nodup->R[k]? =some (s,r)->Lf s R=some r
 |[],_=>fun _ e=>by cases e
 |p::R,0=>fun _ e=>by cases e;simp[Lf]
 |p::R,k+1=>fun nd e=>by
  have e':R[k]? =some (s,r):=e
  rw[Qyz,List.nodup_cons]at nd
  rw[Lf,if_neg (fun z=>nd.1 (by rw[z];exact QTz (QBz e')))]
  exact Le nd.2 e'
theorem Bm:∀bs:List Bool,Ir (bs.map .bl)=true
 |[]=>rfl
 |b::bs=>by simp[Ir,kA,Bm bs]
theorem wW:∀bs:List Bool,jN (bs.map .bl)=0
 |[]=>rfl
 |b::bs=>by simp[jN,dep,wW bs]
def iG(s:St):cj (au s)=true:=by
 simp[au,cj,aK,Ir,kA,Bm,jN,dep,wW]
def Q3 t R:aH .notin (au t) (.gw (kD R) (vD R))=some (!decide (t∈R.map (·.1))):=by
 show(if cj _ then some _ else none)=_
 rw[iG,Ex]
 rfl
def acb{r:List D}(e:Lf s R=some r):getD (.gw (kD R) (vD R)) (au s)=some (.lst r):=by
 show(if cj _ then b8 _ (kD R) (vD R)else none)=_
 rw[iG,Uq,e]
 rfl
def abh{r:List D}(e:t∉R.map (·.1))(f:R.length+1<=4000000):pP (au t) (.lst r) (.sdt (kD R) (vD R))=some (.sdt (kD (R++[(t,r)])) (vD (R++[(t,r)]))):=by
 have f':fits ((kD R).length+1)=true:=by rw[Bl];simp[fits];omega
 show(if cj _&&fits _ then some _ else none)=_
 have i:aU (au t) (kD R)=false:=by rw[Ex];simpa using e
 have p:putD (au t) (.lst r) (kD R) (vD R)=(kD R++[au t],vD R++[.lst r]):=by unfold putD;rw[i];rfl
 rw[iG,f',p,Ls,Vr]
 rfl
section
variable{C:Cs}
structure Cs.Ro(C:Cs)(R:Rs):Prop where
 nd:(R.map (·.1)).Nodup
 ok:∀p∈R,C.S p.1
 le:∀p∈R,p.2.length<=R.length
 wr:∀p∈R,∀x∈p.2,x∈C.nm
noncomputable def Cs.new(C:Cs)(s:St)(r:List D):List D->Rs->Rs
 |[],_=>[]
 |x::xs,R=>match C.led s x with
  |none=>C.new s r xs R
  |some t=>if t∈R.map (·.1)then C.new s r xs R else(t,r++[x])::C.new s r xs (R++[(t,r++[x])])
def KN(Y:C.Ro R)(S:C.S t)(hr:r.length<=R.length+1)(ht:t∉R.map (·.1))(hw:∀x∈r,x∈C.nm):C.Ro (R++[(t,r)]):=by
 refine⟨?_,fun p hp=>?_,fun p hp=>?_,fun p hp=>?_⟩
 ·rw[List.map_append,List.nodup_append]
  exact⟨Y.nd,by simp,fun a ha b hb e=>ht (by
   have:b=t:=by simpa using hb
   rw[<-this,<-e];exact ha)⟩
 ·rcases QXz.mp hp with z|z
  ·exact Y.ok p z
  ·rw[QDz.mp z];exact S
 ·rw[QTq]
  rcases QXz.mp hp with z|z
  ·exact Nat.le_succ_of_le (Y.le p z)
  ·rw[QDz.mp z];exact hr
 ·rcases QXz.mp hp with z|z
  ·exact Y.wr p z
  ·rw[QDz.mp z];exact hw
def I8{x:D}(hw:∀x∈r,x∈C.nm)(hx:x∈C.nm):∀y∈r++[x],y∈C.nm:=fun y hy=>by
 rcases QXz.mp hy with z|z
 ·exact hw y z
 ·rw[QDz.mp z];exact hx
theorem n6(K:C.Ok){s:St}(S:C.S s){r:List D}(hw:∀x∈r,x∈C.nm):∀(xs:List D){R:Rs},(∀x∈xs,x∈C.nm)->C.Ro R->r.length<=R.length->C.Ro (R++C.new s r xs R)
 |[],R,_,Y,_=>by simpa[Cs.new]using Y
 |x::xs,R,hx,Y,hr=>by
  have hx':=fun y hy=>hx y (QYq _ hy)
  rw[Cs.new]
  split
  ·exact n6 K S hw xs hx' Y hr
  ·rename_i t e
   split
   ·exact n6 K S hw xs hx' Y hr
   ·rename_i ht
    have:=n6 K S hw xs hx' (KN Y (K.abI S e) (by simp;omega) ht (I8 hw (hx x QYz))) (by simp;omega)
    rw[QLq]at this
    exact this
noncomputable def allB:Nat->List (List Bool)
 |0=>[[]]
 |n+1=>(allB n).map (true:: ·)++(allB n).map (false:: ·)
theorem zM:∀n,(allB n).length=2 ^n
 |0=>rfl
 |n+1=>by rw[allB,QTq,QAq,QAq,zM n,Nat.pow_succ];omega
theorem sZ:∀bs:List Bool,bs∈allB bs.length
 |[]=>by simp[allB]
 |b::bs=>by
  rw[QBq,allB,QXz]
  cases b
  ·exact .inr (QTz (sZ bs))
  ·exact .inl (QTz (sZ bs))
noncomputable def Oc(n:Nat):List St:=(allB n).map (·,0)++((allB n).map (·,1)++((allB n).map (·,2)++(allB n).map (·,3)))
def Oa n:(Oc n).length=4*2 ^n:=by
 simp only[Oc,QTq,QAq,zM]
 omega
def N8(h:s.2<4):s∈Oc s.1.length:=by
 obtain⟨bs,j⟩:=s
 have m:=sZ bs
 simp only[Oc,QXz,QDq]
 rcases j with _|_|_|_|j
 ·exact .inl ⟨bs,m,rfl⟩
 ·exact .inr (.inl ⟨bs,m,rfl⟩)
 ·exact .inr (.inr (.inl ⟨bs,m,rfl⟩))
 ·exact .inr (.inr (.inr ⟨bs,m,rfl⟩))
 ·simp at h;omega
theorem yK:∀(l L:List St),l.Nodup->(∀x∈l,x∈L)->l.length<=L.length
 |[]=>fun _ _ _=>QIq _
 |x::l=>fun L nd m=>by
  rw[List.nodup_cons]at nd
  have mx:=m x QYz
  have:=yK l (L.erase x) nd.2 fun y hy=>(List.mem_erase_of_ne fun e=>nd.1 (by rw[<-e];exact hy)).mpr (m y (QYq _ hy))
  rw[List.length_erase_of_mem mx]at this
  have:=List.length_pos_of_mem mx
  rw[QBq]
  omega
def Cs.Ro.uO(K:C.Ok)(X:C.Ro R):R.length<=512:=by
 have a:=yK _ (Oc (C.nm).length) X.nd fun s hs=>by
  obtain⟨p,hp,rfl⟩:=QDq.mp hs
  have S:=X.ok p hp
  rw[<-S.l]
  exact N8 (Qvq S.j K.t.s4)
 rw[QAq,Oa,dO K.o.h2 K.o.g5]at a
 have h2:=K.o.h2
 have g5:=K.o.g5
 have:2 ^(C.h+C.g)<=2 ^7:=Nat.pow_le_pow_right (by omega) (by omega)
 omega
noncomputable def Cs.xM(C:Cs):Nat->Nat->Rs->Rs
 |0,_,R=>R
 |f+1,k,R=>match R[k]? with
  |none=>R
  |some p=>C.xM f (k+1) (R++C.new p.1 p.2 (C.st p.1) R)
theorem xu(K:C.Ok):∀(f k:Nat){R:Rs},C.Ro R->C.Ro (C.xM f k R)
 |0,_,_,X=>X
 |f+1,k,R,X=>by
  rw[Cs.xM]
  split
  ·exact X
  ·rename_i p e
   have m:=QBz e
   exact xu K f _ (n6 K (X.ok p m) (X.wr p m) _ (fun x hx=>(K.sub (X.ok p m)).subset hx) X (X.le p m))
def sI(ls:List Bool):St:=(ls,0)
def aaQ(K:C.Ok):C.S (sI C.ls):=⟨by rw[dO K.o.h2 K.o.g5];exact K.o.ll,K.t.s1⟩
def R0(ls:List Bool):Rs:=[(sI ls,[])]
def zP(K:C.Ok):C.Ro (R0 C.ls):=⟨by simp[R0],fun p hp=>by rw[QDz.mp hp];exact aaQ K,fun p hp=>by rw[QDz.mp hp];simp,fun p hp=>by rw[QDz.mp hp];simp⟩
end
end Tx
end
section
open PySem Mini
namespace Tx
section
variable{C:Cs}
def oG(s:St):lA (au s)=false:=rfl
def MJ n:pg.fn (n+1) 21 [.val C.n]=.ok (.val (au (sI C.ls))) [.val C.n]:=by
 rfl
def Ul:S:=(.cons ABq (.cons (.ite (.and (.cons (.cmp .notN (.var 6) ABQ) ADG)) ABN .nil) .nil))
theorem DR(n:Nat)(K:C.Ok){s:St}(S:C.S s){r:List D}:∀(xs:List D)(R:Rs)(M:List D)(s5 s6:Sl),(∀x∈xs,x∈C.st s)->C.Ro R->Lf s R=some r->r.length<=R.length->(∀x∈r,x∈C.nm)->M.length<=R.length->bB s5->bB s6->∃s5' s6',
  bI (.name 5) (ex (pg.cf (n+3)) Ul) xs [.val C.n,.val C.t,.val (au s),.bor (.sdt (kD R) (vD R)),.own (.lst M),s5,s6]=.next [.val C.n,.val C.t,.val (au s),.bor (.sdt (kD (R++C.new s r xs R)) (vD (R++C.new s r xs R))),.own (.lst (M++kD (C.new s r xs R))),s5',s6']
 |[]=>fun R M s5 s6 _ _ _ _ _ _ _ _=>⟨s5,s6,by simp[bI,Cs.new,kD]⟩
 |x::xs=>fun R M s5 s6 hx X lr rl rw_' ml h5 h6=>by
  have lt:=K.jJ n S (hx x QYz)
  have hx':=fun y hy=>hx y (QYq _ hy)
  have tt:bV (.name 5) x [.val C.n,.val C.t,.val (au s),.bor (.sdt (kD R) (vD R)),.own (.lst M),s5,s6]=some [.val C.n,.val C.t,.val (au s),.bor (.sdt (kD R) (vD R)),.own (.lst M),.val x,s6]:=by
   rcases h5 with rfl|⟨d,rfl⟩<;>simp[bV,cu]
  rw[bI,tt]
  simp only[Cs.new]
  have c6:∀d,vW 6 [.val C.n,.val C.t,.val (au s),.bor (.sdt (kD R) (vD R)),.own (.lst M),.val x,s6] (.val d) (some s6)=some [.val C.n,.val C.t,.val (au s),.bor (.sdt (kD R) (vD R)),.own (.lst M),.val x,.val d]:=fun d=>by
   rcases h6 with rfl|⟨d,rfl⟩<;>simp
  cases e:C.led s x with
  |none=>
   rw[e]at lt
   have go:ex (pg.cf (n+3)) Ul [.val C.n,.val C.t,.val (au s),.bor (.sdt (kD R) (vD R)),.own (.lst M),.val x,s6]=.next [.val C.n,.val C.t,.val (au s),.bor (.sdt (kD R) (vD R)),.own (.lst M),.val x,.val .non]:=by
    simp[Ul,lt,c6,gA]
   simp only[go]
   exact DR n K S xs R M _ _ hx' X lr rl rw_' ml (.inr ⟨_,rfl⟩) (.inr ⟨_,rfl⟩)
  |some t=>
   rw[e]at lt
   have ni:=Q3 t R
   by_cases ht:t∈R.map (·.1)
   ·have go:ex (pg.cf (n+3)) Ul [.val C.n,.val C.t,.val (au s),.bor (.sdt (kD R) (vD R)),.own (.lst M),.val x,s6]=.next [.val C.n,.val C.t,.val (au s),.bor (.sdt (kD R) (vD R)),.own (.lst M),.val x,.val (au t)]:=by
     rw[QFq ht]at ni
     simp[Ul,lt,c6,gA,oG,ni,Ob.d]
    simp only[go,if_pos ht]
    exact DR n K S xs R M _ _ hx' X lr rl rw_' ml (.inr ⟨_,rfl⟩) (.inr ⟨_,rfl⟩)
   ·have rb:=X.uO K
    have f1:fits (r.length+1)=true:=by simp[fits];omega
    have f2:fits (M.length+1)=true:=by simp[fits];omega
    have go:ex (pg.cf (n+3)) Ul [.val C.n,.val C.t,.val (au s),.bor (.sdt (kD R) (vD R)),.own (.lst M),.val x,s6]=.next [.val C.n,.val C.t,.val (au s),.bor (.sdt (kD (R++[(t,r++[x])])) (vD (R++[(t,r++[x])]))),.own (.lst (M++[au t])),.val x,.val (au t)]:=by
     rw[QEz ht]at ni
     simp[Ul,lt,c6,gA,oG,ni,Ob.d,acb lr,aX,f1,abh (r:=r++[x]) ht (by omega),f2,tL,cH]
    simp only[go,if_neg ht]
    obtain⟨a,b,z⟩:=DR n K S xs _ (M++[au t]) _ _ hx' (KN X (K.abI S e) (by simp;omega) ht (I8 rw_' ((K.sub S).subset (hx x QYz)))) (Ed _ lr) (by simp;omega) rw_' (by simp;omega) (.inr ⟨_,rfl⟩) (.inr ⟨_,rfl⟩)
    refine⟨a,b,?_⟩
    rw[show(Fl.next [.val C.n,.val C.t,.val _,.bor _,.own _,.val x,.val _]).turn _=_ from z]
    simp only[QLq,QLz,List.nil_append]
    rfl
def K1 n(K:C.Ok)(X:C.Ro R){k:Nat}{s:St}(e:R[k]? =some (s,r)):
  pg.fn (n+6) 26 [.val C.n,.val C.t,.val (au s),.bor (.sdt (kD R) (vD R))]=.ok (.new (.lst (kD (C.new s r (C.st s) R)))) [.val C.n,.val C.t,.val (au s),.bor (.sdt (kD (R++C.new s r (C.st s) R)) (vD (R++C.new s r (C.st s) R)))]:=by
 have m:=QBz e
 have S:=X.ok _ m
 obtain⟨a,b,z⟩:=DR (n+2) K S _ R [] .un .un (fun x hx=>hx) X (Le X.nd e) (X.le _ m) (X.wr _ m) (QIq _) (.inl rfl) (.inl rfl)
 have hb:jQ=⟨4,7,(.cons _ (.cons (.for_ _ _ Ul) _))⟩:=rfl
 rw[yt,hb]
 simp[aX,K.eX n S,items,z,Ob.d]
def R7 x xs:cut (x::xs) (some 1) none=xs:=by
 have a:clip (xs.length+1) 1=1:=by
  unfold clip
  simp
  intro z
  omega
 simp[cut,a]
def Sv x xs:at? (x::xs) 0=some x:=by
 simp
end
end Tx
end
section
open PySem Mini
namespace Tx
section
variable{C:Cs}
end
mutual
theorem R4:∀d:D,nd d=true->bK d d=true
 |.non=>fun _=>rfl
 |.bl b=>fun _=>by cases b<;>rfl
 |.int i=>fun _=>by simp[bK]
 |.str s=>fun _=>by simp[bK]
 |.tup xs=>fun h=>by simpa[bK]using rP xs h
 |.lst xs=>fun h=>by simpa[bK]using rP xs h
 |.cJ _ _=>fun h=>by simp[nd]at h
 |.gw _ _=>fun h=>by simp[nd]at h
theorem rP:∀xs:List D,n8 xs=true->oN xs xs=true
 |[]=>fun _=>rfl
 |x::xs=>fun h=>by
  simp only[n8,QUq]at h
  simp[oN,R4 x h.1,rP xs h.2]
end
end Tx
end
section
open PySem Mini
namespace Tx
section
variable{C:Cs}
def stB:S:=AAy
theorem TX(n:Nat)(K:C.Ok):∀(f k:Nat)(R:Rs),C.Ro R->k<=R.length->512<f+k->
  aZ (ev (pg.cf (n+6)) ABp) (ex (pg.cf (n+6)) stB) f [.val C.n,.val C.t,.own (.sdt (kD R) (vD R)),.own (.lst (kD (R.drop k)))]=.next [.val C.n,.val C.t,.own (.sdt (kD (C.xM f k R)) (vD (C.xM f k R))),.own (.lst [])]
 |0=>fun k R X hk hf=>by have:=X.uO K;omega
 |f+1=>fun k R X hk hf=>by
  have rb:=X.uO K
  by_cases c:k<R.length
  ·obtain⟨p,e⟩:∃p,R[k]? =some p:=⟨_,QXq c⟩
   obtain⟨s,r⟩:=p
   have nw:=K1 n K X e
   have dr:kD (R.drop k)=au s::kD (R.drop (k+1)):=by
    rw[List.drop_eq_getElem_cons c]
    rw[QXq c]at e
    simp only[Option.some.injEq]at e
    simp[kD,e]
   have m:=QBz e
   have X':=n6 K (X.ok _ m) (X.wr _ m) (C.st s) (fun x hx=>(K.sub (X.ok _ m)).subset hx) X (X.le _ m)
   have rb':=X'.uO K
   simp only[QTq]at rb'
   have fi:fits ((kD (R.drop (k+1))).length+(kD (C.new s r (C.st s) R)).length)=true:=by
    rw[Bl,Bl,List.length_drop];simp[fits];omega
   have go:ex (pg.cf (n+6)) stB [.val C.n,.val C.t,.own (.sdt (kD R) (vD R)),.own (.lst (au s::kD (R.drop (k+1))))]=.next [.val C.n,.val C.t,.own (.sdt (kD (R++C.new s r (C.st s) R)) (vD (R++C.new s r (C.st s) R))),.own (.lst (kD ((R++C.new s r (C.st s) R).drop (k+1))))]:=by
    have dd:kD ((R++C.new s r (C.st s) R).drop (k+1))=kD (R.drop (k+1))++kD (C.new s r (C.st s) R):=by
     rw[List.drop_append_of_le_length (by omega),Ls]
    rw[dd]
    have az:=Sv (au s) (kD (R.drop (k+1)))
    simp[stB,cW,E.jL,gR,R7,az,nw,fi,Ob.d]
   have te:ev (pg.cf (n+6)) ABp [.val C.n,.val C.t,.own (.sdt (kD R) (vD R)),.own (.lst (au s::kD (R.drop (k+1))))]=.ok (.val (.tup (au s::kD (R.drop (k+1))))) [.val C.n,.val C.t,.own (.sdt (kD R) (vD R)),.own (.lst (au s::kD (R.drop (k+1))))]:=by simp
   rw[dr,aZ,te]
   show(ex (pg.cf (n+6)) stB _).turn _=_
   rw[go,cQ,TX n K f (k+1) _ X' (by simp;omega) (by omega)]
   simp only[Cs.xM,e]
  ·have dk:R.drop k=[]:=List.drop_eq_nil_of_le (by omega)
   have ge:R[k]? =none:=List.getElem?_eq_none (by omega)
   have te:ev (pg.cf (n+6)) ABp [.val C.n,.val C.t,.own (.sdt (kD R) (vD R)),.own (.lst [])]=.ok (.val (.tup [])) [.val C.n,.val C.t,.own (.sdt (kD R) (vD R)),.own (.lst [])]:=by simp
   rw[dk,aZ,Cs.xM,ge,show kD []=[]from rfl,te]
   rfl
def Gm(n:Nat)(K:C.Ok):
  pg.fn (n+10) 20 [.val C.n,.val C.t]=.ok (.new (.lst (kD (C.xM 4000000 0 (R0 C.ls))))) [.val C.n,.val C.t]:=by
 have c:=K.checked n
 have f:=MJ (n+8) (C:=C)
 have z:=TX (n+3) K 4000000 0 (R0 C.ls) (zP K) (QIq _) (by omega)
 have k0:kD ((R0 C.ls).drop 0)=[au (sI C.ls)]:=rfl
 have k1:kD (R0 C.ls)=[au (sI C.ls)]:=rfl
 have v1:vD (R0 C.ls)=[.lst []]:=rfl
 rw[k0,k1,v1]at z
 have tn:(pg.cf (n+9)).turns=4000000:=rfl
 have ds:zu [au (sI C.ls),.lst []]=some (.new (.sdt [au (sI C.ls)] [.lst []])):=by
  have:HW [au (sI C.ls),.lst []]=some (.new (.sdt [au (sI C.ls)] [.lst []])):=by
   show(if cj (au (sI C.ls))then _ else none)=_
   rw[iG];rfl
  unfold zu
  rw[this]
  rfl
 have hb:sS=⟨2,4,(.cons ACd (.cons ACj (.cons (.set 3 ACT) (.cons (.while_ ABp stB) (.cons (.ret ACT) .nil)))))⟩:=rfl
 have q:(E.bi .list (.var 2)).aB=none:=rfl
 have bl:∀ks vs:List D,b1 .list (.gw ks vs)=some (.new (.lst ks)):=fun _ _=>rfl
 rw[JX,hb]
 simp[c,f,aX,ds,bl,Ob.d,tn,z,q]
end
end Tx
end
section
open PySem Mini
namespace Tx
section
variable{C:Cs}
theorem pZ{r:List D}(e:C.led s x=some t):∀{xs:List D}{R:Rs},x∈xs->t∈(R++C.new s r xs R).map (·.1)
 |[],R,hx=>by cases hx
 |y::xs,R,hx=>by
  rw[Cs.new]
  split
  ·rename_i ey
   rcases QCq.mp hx with rfl|hx
   ·rw[e]at ey;cases ey
   ·exact pZ e hx
  ·rename_i u ey
   split
   ·rename_i hu
    rcases QCq.mp hx with rfl|hx
    ·rw[e]at ey;cases ey
     rw[List.map_append];exact QWz _ hu
    ·exact pZ e hx
   ·rcases QCq.mp hx with rfl|hx
    ·rw[e]at ey;cases ey
     simp
    ·have:=pZ (r:=r) (R:=R++[(u,r++[y])]) e hx
     rw[QLq]at this
     exact this
def Cs.Cl(C:Cs)(k:Nat)(R:Rs):Prop:=∀(j:Nat)(p:St×List D),j<k->R[j]? =some p->∀x∈C.st p.1,∀t,C.led p.1 x=some t->t∈R.map (·.1)
theorem FJ(K:C.Ok):∀(f k:Nat)(R:Rs),C.Ro R->k<=R.length->512<f+k->C.Cl k R->∀s∈(C.xM f k R).map (·.1),∀x∈C.st s,∀t,C.led s x=some t->t∈(C.xM f k R).map (·.1)
 |0=>fun k R X hk hf _=>by have:=X.uO K;omega
 |f+1=>fun k R X hk hf B=>by
  rw[Cs.xM]
  split
  ·rename_i e
   intro s hs x hx t et
   obtain⟨p,hp,rfl⟩:=QDq.mp hs
   obtain⟨j,ej⟩:=List.getElem?_of_mem hp
   have:=(QCz.mp ej).1
   have:=List.getElem?_eq_none_iff.mp e
   exact B j p (by omega) ej x hx t et
  ·rename_i p e
   obtain⟨s,r⟩:=p
   have m:=QBz e
   have S:=X.ok _ m
   have kl:=(QCz.mp e).1
   refine FJ K f _ _ (n6 K S (X.wr _ m) _ (fun x hx=>(K.sub S).subset hx) X (X.le _ m)) (by simp;omega) (by omega) fun j q hj ej x hx t et=>?_
   by_cases c:j=k
   ·subst c
    rw[Qwz kl,e]at ej
    cases ej
    exact pZ et hx
   ·rw[Qwz (by omega)]at ej
    rw[List.map_append]
    exact QWz _ (B j q (by omega) ej x hx t et)
def closed(K:C.Ok):∀s∈(C.xM 4000000 0 (R0 C.ls)).map (·.1),∀x∈C.st s,∀t,C.led s x=some t->t∈(C.xM 4000000 0 (R0 C.ls)).map (·.1):=FJ K 4000000 0 _ (zP K) (QIq _) (by omega) fun j p hj=>(by omega)
theorem FW:∀(f k:Nat)(R:Rs),∃Z,C.xM f k R=R++Z
 |0=>fun _ R=>⟨[],by simp[Cs.xM]⟩
 |f+1=>fun k R=>by
  rw[Cs.xM]
  split
  ·exact⟨[],by simp⟩
  ·rename_i p e
   obtain⟨Z,z⟩:=FW f _ _
   exact⟨_,by rw[z,QLq]⟩
def Yo:∃r Z,C.xM 4000000 0 (R0 C.ls)=(sI C.ls,r)::Z:=by
 obtain⟨Z,e⟩:=FW 4000000 0 _
 exact⟨[],Z,e⟩
end
end Tx
end
section
open PySem Mini
namespace Tx
def xr{β:Type}{r:Rv}{d:D}{σ:Ev}{g:D->Ev->Out β}(h:r.gK=some d):(Out.ok r σ).ao g=g d σ:=by
 cases r<;>simp[Rv.gK]at h<;>subst h<;>rfl
theorem goR{c:Cf}{el:E}{τ:Ev}{f:D->D}:∀(xs acc:List D)(s:Sl),bB s->(∀x∈xs,∃r,r.gK=some (f x)/\ev c el (.val x::τ)=.ok r (.val x::τ))->
  ∃s',aO (.name 0) (ev c AAL) (ev c el) xs acc (s::τ)=.ok (acc++xs.map f) (s'::τ)
 |[]=>fun acc s _ _=>⟨s,by simp[aO]⟩
 |x::xs=>fun acc s hs he=>by
  obtain⟨r,r1,r2⟩:=he x QYz
  obtain⟨s',a⟩:=goR (c:=c) (el:=el) (τ:=τ) (f:=f) xs (acc++[f x]) (.val x) (.inr ⟨_,rfl⟩) fun y hy=>he y (QYq _ hy)
  refine⟨s',?_⟩
  rw[aO,iu hs]
  simp only[xd,cN,if_true,r2]
  rw[xr r1,a]
  simp
def UV{c:Cf}{σ τ0 τ:Ev}{it el:E}{r:Rv}{d:D}{x0:D}{xs:List D}(f:D->D)(hi:ev c it σ=.ok r τ0)(hr:r.gK=some d)(hd:items d=some (x0::xs))(h0:∃r,r.gK=some (f x0)/\ev c el (.val x0::τ0)=.ok r (.val x0::τ))
  (he:∀x∈xs,∃r,r.gK=some (f x)/\ev c el (.val x::τ)=.ok r (.val x::τ)):ev c (.comp 1 (.name 0) it AAL el) σ=.ok (.new (.lst ((x0::xs).map f))) τ:=by
 obtain⟨r',r1,r2⟩:=h0
 obtain⟨s',a⟩:=goR (c:=c) (el:=el) (τ:=τ) (f:=f) xs ([]++[f x0]) (.val x0) (.inr ⟨_,rfl⟩) he
 rw[lD,hi,xr hr]
 simp only[hd]
 rw[show List.replicate 1 Sl.un++τ0=.un::τ0 from rfl,aO,iu (.inl rfl)]
 simp only[xd,cN,if_true,r2]
 rw[xr r1,a]
 simp
theorem qX(F:D->D){x:D}:∀{ks:List D},cR ks->x∈ks->b8 x ks (ks.map F)=some (F x)
 |[]=>fun _ h=>by cases h
 |k::ks=>fun t h=>by
  obtain⟨a,rfl⟩:=t k QYz
  obtain⟨b,rfl⟩:=t x h
  rw[Qyz,b8]
  by_cases e:a=b
  ·subst e;simp[bK]
  ·rw[if_neg (by simpa[bK]using e)]
   exact qX F (fun y hy=>t y (QYq _ hy)) ((QCq.mp h).resolve_left (by simpa using fun z=>e z.symm))
theorem rT(F:D->D):∀(xs ks vs:List D),cR (ks++xs)->(ks++xs).Nodup->dictOf ks vs (xs.map fun x=>.tup [x,F x])=some (ks++xs,vs++xs.map F)
 |[]=>fun ks vs _ _=>by simp[dictOf]
 |x::xs=>fun ks vs t nd=>by
  obtain⟨a,rfl⟩:=t x (by simp)
  have ni:aU (.str a) ks=false:=by
   rw[<-Bool.not_eq_true,lK (fun y hy=>t y (QWz _ hy))]
   intro z
   exact(List.nodup_append.mp nd).2.2 _ z _ QYz rfl
  have pd:putD (.str a) (F (.str a)) ks vs=(ks++[.str a],vs++[F (.str a)]):=by unfold putD;rw[ni];rfl
  rw[Qyz,dictOf,if_pos (show keyOk (.str a)=true from rfl)]
  simp only[pd]
  rw[rT F xs _ _ (by simpa using t) (by simpa using nd)]
  simp
def Cs.F(C:Cs):Rs:=C.xM 4000000 0 (R0 C.ls)
def Cs.SS(C:Cs):List St:=C.F.map (·.1)
def Cs.no(C:Cs)(s:St):Nat:=C.SS.idxOf s
def Cs.ky(C:Cs)(s:St):List D:=(C.st s).filter fun x=>(C.led s x).isSome
def Cs.to(C:Cs)(s:St)(x:D):St:=(C.led s x).getD (sI [])
def Cs.toD(C:Cs)(s:St)(x:D):D:=.int (C.no (C.to s x))
def Cs.wy(C:Cs)(s:St):D:=.cJ (C.ky s) ((C.ky s).map (C.toD s))
def Cs.Uj(C:Cs):List D:=(C.SS.zipIdx).map fun p=>.int p.2
section
variable{C:Cs}{s:St}{x:D}
def yh:kD C.F=C.SS.map au:=by simp[kD,Cs.SS]
def yg(K:C.Ok)(h:s∈C.SS):C.S s:=by
 obtain⟨p,hp,rfl⟩:=QDq.mp h
 exact(xu K 4000000 0 (zP K)).ok p hp
def TY(K:C.Ok):C.SS.Nodup:=(xu K 4000000 0 (zP K)).nd
def Jy(K:C.Ok):C.SS.length<=512:=by rw[Cs.SS,QAq];exact(xu K 4000000 0 (zP K)).uO K
def vP:∃Z,C.SS=sI C.ls::Z:=by
 obtain⟨r,Z,e⟩:=Yo (C:=C)
 exact⟨Z.map (·.1),by rw[Cs.SS,Cs.F,e];rfl⟩
def oE(h:x∈C.ky s):x∈C.st s/\C.led s x=some (C.to s x):=by
 obtain⟨a,b⟩:=List.mem_filter.mp h
 obtain⟨t,e⟩:=Option.isSome_iff_exists.mp b
 exact⟨a,by rw[Cs.to,e];rfl⟩
def Jl(K:C.Ok)(hs:s∈C.SS)(h:x∈C.ky s):C.to s x∈C.SS:=closed K s hs x (oE h).1 _ (oE h).2
def fK(K:C.Ok)(hs:s∈C.SS):cR (C.ky s):=fun y hy=>K.aaf (yg K hs) y (oE hy).1
def Ut(K:C.Ok)(hs:s∈C.SS):(C.ky s).Nodup:=((names_nodup K.o.h2 K.o.g1 K.o.g5).sublist (K.sub (yg K hs))).filter _
def abD(K:C.Ok):C.nm.length<=7:=by
 rw[dO K.o.h2 K.o.g5]
 have:=K.o.h2
 have:=K.o.g5
 omega
def ae7(K:C.Ok)(hs:s∈C.SS):(C.ky s).length<=7:=
 Nat.le_trans (List.length_filter_le _ _) (Nat.le_trans (K.sub (yg K hs)).length_le (abD K))
def Uk(hs:s∈C.SS):C.no s<C.SS.length:=List.idxOf_lt_length_of_mem hs
def KY(hs:s∈C.SS):C.SS[C.no s]? =some s:=by
 rw[QXq (Uk hs)]
 simp[Cs.no]
def W2{t:St}(hs:s∈C.SS)(ht:t∈C.SS)(e:C.no s=C.no t):s=t:=by
 have a:=KY hs
 rw[e,KY ht]at a
 exact(QEq a).symm
theorem zq:∀(S:List St)(k:Nat),aQ (bF k S.length) (S.map au)=(S.zipIdx k).map fun p=>pairD (.int p.2,au p.1)
 |[]=>fun _=>by simp[aQ]
 |s::S=>fun k=>by
  have:=zq S (k+1)
  rw[show((k+1:Nat):Int)=(k:Int)+1 from rfl]at this
  simp[aQ,bF,this,pairD]
theorem zy:∀(ps:List (St×Nat))(R:List St)(vs:List D),(R++ps.map (·.1)).Nodup->
  gk (R.map au) vs (ps.map fun p=>.tup [au p.1,.int p.2])=some ((R++ps.map (·.1)).map au,vs++ps.map fun p=>.int p.2)
 |[]=>fun R vs _=>by simp[gk]
 |p::ps=>fun R vs nd=>by
  have ni:aU (au p.1) (R.map au)=false:=by
   have:=Ex p.1 (R.map fun s=>(s,[]))
   simp only[kD,List.map_map]at this
   rw[show R.map au=R.map ((fun q:St×List D=>au q.1)∘fun s=>(s,[]))from rfl,this]
   simp only[decide_eq_false_iff_not,QDq,Function.comp]
   rintro ⟨a,ha,rfl⟩
   exact(List.nodup_append.mp nd).2.2 _ ha _ QYz rfl
  have pd:putD (au p.1) (.int p.2) (R.map au) vs=(R.map au++[au p.1],vs++[.int p.2]):=by unfold putD;rw[ni];rfl
  rw[Qyz,gk,iG,if_pos rfl]
  simp only[pd]
  have:=zy ps (R++[p.1]) (vs++[.int p.2]) (by simpa using nd)
  rw[List.map_append]at this
  rw[show R.map au++[au p.1]=R.map au++[p.1].map au from rfl,this]
  simp
theorem Ea:∀(S:List St)(k:Nat)(t:St),t∈S->b8 (au t) (S.map au) ((S.zipIdx k).map fun p=>.int p.2)=some (.int ((k+S.idxOf t:Nat):Int))
 |[]=>fun _ _ h=>by cases h
 |s::S=>fun k t h=>by
  simp only[Qyz,List.zipIdx_cons,b8,j0,List.idxOf_cons]
  by_cases e:s=t
  ·simp[e]
  ·have:=Ea S (k+1) t ((QCq.mp h).resolve_left fun z=>e z.symm)
   have b:(s==t)=false:=by simpa using e
   simp only[QEz e,b,Qxq,if_false,this,cond_false]
   congr 2
   omega
def Cs.nu(C:Cs):D:=.gw (kD C.F) C.Uj
def Mu{t:St}(ht:t∈C.SS):getD C.nu (au t)=some (.int (C.no t)):=by
 have:=Ea C.SS 0 t ht
 rw[Nat.zero_add]at this
 show(if cj (au t)then b8 (au t) (kD C.F) C.Uj else none)=_
 rw[iG,yh,if_pos rfl]
 exact this
def nmF(C:Cs)(p:D×D):D:=.tup [p.1,(getD C.nu p.2).getD .non]
def zY(m:Nat)(K:C.Ok)(hs:s∈C.SS):
  pg.fn (m+6) 29 [.val C.n,.val C.t,.val (au s),.val C.nu]=.ok (.new (.dct (C.ky s) ((C.ky s).map (C.toD s)))) [.val C.n,.val C.t,.val (au s),.val C.nu]:=by
 have S:=yg K hs
 have st:=K.eX m S
 let ps:List (D×D):=(C.st s).map fun x=>(x,gA (C.led s x))
 have e1:ev (pg.cf (m+5)) ACr [.val C.n,.val C.t,.val (au s),.val C.nu,.un]=.ok (.new (.lst (ps.map pairD))) [.val C.n,.val C.t,.val (au s),.val C.nu,.un]:=by
  have:=pJ (c:=pg.cf (m+5)) (σ:=[.val C.n,.val C.t,.val (au s),.val C.nu,.un]) (τ:=[.val C.n,.val C.t,.val (au s),.val C.nu,.un]) (it:=.call 22 ABu) (el:=.tup AAq)
   (r:=.new (.lst (C.st s))) (d:=.lst (C.st s)) (xs:=C.st s) (fun x=>.tup [x,gA (C.led s x)]) (by simp[st]) rfl rfl fun x hx=>by
    have:=K.jJ (m+2) S hx
    simp[this,aX]
  rw[this,List.map_map]
  rfl
 have e2:ev (pg.cf (m+5)) (.comp 2 (.tup [0,1]) (.var 4) (.cmp .notN (.var 1) ABQ) (.tup ABa)) [.val C.n,.val C.t,.val (au s),.val C.nu,.own (.lst (ps.map pairD))]=.ok (.new (.lst ((C.ky s).map fun x=>.tup [x,C.toD s x]))) [.val C.n,.val C.t,.val (au s),.val C.nu,.val (.lst (ps.map pairD))]:=by
  have:=Nh (c:=pg.cf (m+5)) (σ:=[.val C.n,.val C.t,.val (au s),.val C.nu,.own (.lst (ps.map pairD))]) (τ:=[.val C.n,.val C.t,.val (au s),.val C.nu,.val (.lst (ps.map pairD))]) (it:=.var 4) (co:=.cmp .notN (.var 1) ABQ) (el:=.tup ABa)
   (r:=.val (.lst (ps.map pairD))) (d:=.lst (ps.map pairD)) (ps:=ps) (nmF C) (fun p=> !lA p.2) (by simp) rfl rfl (fun p _=>by simp) fun p hp hn=>by
    obtain⟨x,hx,rfl⟩:=QDq.mp hp
    cases e:C.led s x with
    |none=>rw[e]at hn;cases hn
    |some t=>
     have g:=Mu (closed K s hs x hx t e)
     simp[gA,g,aX,nmF]
  rw[this]
  refine congrArg (fun l=>Out.ok (Rv.new (.lst l)) _) ?_
  show((List.map _ (C.st s)).filter _).map _=_
  rw[List.filter_map,List.map_map]
  have h1:(C.st s).filter ((fun p:D×D=> !lA p.2)∘fun x=>(x,gA (C.led s x)))=C.ky s:=by
   unfold Cs.ky
   congr 1
   funext x
   simp only[Function.comp]
   cases C.led s x<;>rfl
  rw[h1]
  refine List.map_congr_left fun x hx=>?_
  have g:=Mu (Jl K hs hx)
  simp only[Function.comp,nmF,(oE hx).2,gA,g]
  rfl
 have dm:=rT (C.toD s) (C.ky s) [] [] (by simpa using fK K hs) (by simpa using Ut K hs)
 rw[GF]
 simp only[oU]
 simp[-u9,e1,e2,dm,Ob.d]
def zX(m:Nat)(K:C.Ok):
  pg.fn (m+11) 28 [.val C.n,.val C.t]=.ok (.new (.lst (C.SS.map C.wy))) [.val C.n,.val C.t]:=by
 have st:=Gm m K
 obtain⟨Z,sz⟩:=vP (C:=C)
 have en:=zq C.SS 0
 have e1:ev (pg.cf (m+10)) (.comp 2 (.tup [0,1]) (.enum (.var 2)) AAL (.tup ADZ)) [.val C.n,.val C.t,.own (.lst (kD C.F)),.un]=.ok (.new (.lst ((C.SS.zipIdx).map fun p=>.tup [au p.1,.int p.2]))) [.val C.n,.val C.t,.val (.lst (kD C.F)),.un]:=by
  have:=Ni (c:=pg.cf (m+10)) (σ:=[.val C.n,.val C.t,.own (.lst (kD C.F)),.un]) (τ:=[.val C.n,.val C.t,.val (.lst (kD C.F)),.un]) (it:=.enum (.var 2)) (el:=.tup ADZ)
   (r:=.val (.lst (aQ (bF 0 (kD C.F).length) (kD C.F)))) (d:=.lst (aQ (bF 0 (kD C.F).length) (kD C.F))) (ps:=C.SS.zipIdx.map fun p=>(.int p.2,au p.1)) (fun p=>.tup [p.2,p.1]) (by simp) rfl (by
    show some _=some _
    rw[yh,QAq,show(0:Int)=((0:Nat):Int)from rfl,en,List.map_map]
    rfl) fun p _=>by simp[aX]
  rw[this,List.map_map]
  rfl
 have nn:dictOf [] [] ((C.SS.zipIdx).map fun p=>.tup [au p.1,.int p.2])=none:=by rw[sz];rfl
 have ds:gk [] [] ((C.SS.zipIdx).map fun p=>.tup [au p.1,.int p.2])=some (kD C.F,C.Uj):=by
  have:=zy C.SS.zipIdx [] [] (by rw[List.nil_append,List.zipIdx_map_fst];exact TY K)
  rw[List.nil_append,List.zipIdx_map_fst,<-yh]at this
  exact this
 have kf:kD C.F=au (sI C.ls)::Z.map au:=by rw[yh,sz];rfl
 have wa:∀s∈C.SS,∀sl,(sl=.own (.sdt (kD C.F) C.Uj)\/sl=.val C.nu)->∃r,r.gK=some (C.wy s)/\ev (pg.cf (m+10)) (.call 29 AAk) [.val (au s),.val C.n,.val C.t,.val (.lst (kD C.F)),sl]=.ok r [.val (au s),.val C.n,.val C.t,.val (.lst (kD C.F)),.val C.nu]:=fun s hs sl h=>by
  have w:=zY (m+4) K hs
  refine⟨.new (.dct (C.ky s) ((C.ky s).map (C.toD s))),rfl,?_⟩
  have od:(Ob.sdt (kD C.F) C.Uj).d=C.nu:=rfl
  rcases h with rfl|rfl<;>simp[w,od]
 have me:∀x∈Z.map au,∃s∈C.SS,x=au s:=fun x hx=>by
  obtain⟨s,h1,rfl⟩:=QDq.mp hx
  exact⟨s,by rw[sz];exact QYq _ h1,rfl⟩
 have inv:∃g:D->D,∀s∈C.SS,g (au s)=C.wy s:=by
  refine⟨fun d=>((C.SS.find? fun s=>bK (au s) d).map C.wy).getD .non,fun s hs=>?_⟩
  have:C.SS.find? (fun t=>bK (au t) (au s))=some s:=by
   rw[List.find?_eq_some_iff_append]
   obtain⟨a,b,e⟩:=List.append_of_mem hs
   refine⟨by simp[j0],a,b,e,fun t ht=>?_⟩
   have nd:=TY K
   rw[e]at nd
   rw[j0]
   have:=(List.nodup_append.mp nd).2.2 t ht s QYz
   simpa using this
  simp only[this]
  rfl
 obtain⟨g,hg⟩:=inv
 have e2:ev (pg.cf (m+10)) ACu [.val C.n,.val C.t,.val (.lst (kD C.F)),.own (.sdt (kD C.F) C.Uj)]=.ok (.new (.lst (C.SS.map C.wy))) [.val C.n,.val C.t,.val (.lst (kD C.F)),.val C.nu]:=by
  have:=UV (c:=pg.cf (m+10)) (σ:=[.val C.n,.val C.t,.val (.lst (kD C.F)),.own (.sdt (kD C.F) C.Uj)]) (τ0:=[.val C.n,.val C.t,.val (.lst (kD C.F)),.own (.sdt (kD C.F) C.Uj)]) (τ:=[.val C.n,.val C.t,.val (.lst (kD C.F)),.val C.nu]) (it:=.var 2) (el:=.call 29 AAk)
   (r:=.val (.lst (kD C.F))) (d:=.lst (kD C.F)) (x0:=au (sI C.ls)) (xs:=Z.map au) g (by simp) rfl (by rw[kf];rfl) (by
    rw[hg _ (by rw[sz];exact QYz)]
    exact wa _ (by rw[sz];exact QYz) _ (.inl rfl)) fun x hx=>by
    obtain⟨s,hs,rfl⟩:=me x hx
    rw[hg s hs]
    exact wa s hs _ (.inr rfl)
  rw[this,<-kf,yh,List.map_map]
  exact congrArg (fun l=>Out.ok (Rv.new (.lst l)) _) (List.map_congr_left fun s hs=>hg s hs)
 rw[GD]
 simp only[oR]
 have st':pg.fn (m+10) 20 [.val C.n,.val C.t]=.ok (.new (.lst (kD C.F))) [.val C.n,.val C.t]:=st
 simp[-u9,st',e1,e2,nn,ds,Ob.d]
end
end Tx
end
section
open PySem Mini
namespace Tx
def bn(b:Bool):Nat:=if b then 1 else 0
inductive Cs.xF(C:Cs)(w o:D):St->Nat->Nat->Prop
 |nil:Cs.xF C w o (sI C.ls) 0 0
 |step {s:St} {h k:Nat} {x:D}:Cs.xF C w o s h k->x∈C.ky s->Cs.xF C w o (C.to s x) (h+bn (bK x w)) (k+bn (bK x o))
def Cs.can(C:Cs)(w:D)(s:St):Bool:=aU w (C.ky s)
def Cs.pX(C:Cs)(w o:D)(n m:Nat):Prop:=∃s k,k<=m/\C.xF w o s n k/\C.can w s=true
section
variable{C:Cs}{w o:D}{s:St}{h k n m:Nat}{x:D}
def Ah(K:C.Ok)(r:C.xF w o s h k):s∈C.SS:=by
 induction r with
 |nil=>obtain⟨Z,e⟩:=vP (C:=C);rw[e];exact QYz
 |step _ hx ih=>exact Jl K ih hx
def GC(o':D)(r:C.xF w o s h k):∃k',C.xF w o' s h k':=by
 induction r with
 |nil=>exact⟨0,.nil⟩
 |step _ hx ih=>obtain⟨k',r⟩:=ih;exact⟨_,.step r hx⟩
def JQ(r:C.xF w w s h k):k=h:=by
 induction r with
 |nil=>rfl
 |step _ hx ih=>rw[ih]
def JR(K:C.Ok)(r:C.xF w .non s h k):k=0:=by
 induction r with
 |nil=>rfl
 |step r hx ih=>
  obtain⟨q,rfl⟩:=fK K (Ah K r) _ hx
  rw[ih]
  rfl
def Nq(hx:x∈C.ky s)(e:bK x w=true):C.can w s=true:=by
 unfold Cs.can
 generalize C.ky s=L at hx
 induction L with
 |nil=>cases hx
 |cons y L ih=>
  rw[aU]
  rcases QCq.mp hx with rfl|hx
  ·simp[e]
  ·simp[ih hx]
def rF(o':D)(g:C.pX w o n m):∃m',C.pX w o' n m':=by
 obtain⟨s,k,_,r,c⟩:=g
 obtain⟨k',r'⟩:=GC o' r
 exact⟨k',s,k',QVz _,r',c⟩
end
theorem nY{α:Type}[DecidableEq α]:∀(l L:List α),l.Nodup->(∀x∈l,x∈L)->l.length<=L.length
 |[]=>fun _ _ _=>QIq _
 |x::l=>fun L nd m=>by
  rw[List.nodup_cons]at nd
  have mx:=m x QYz
  have:=nY l (L.erase x) nd.2 fun y hy=>(List.mem_erase_of_ne fun e=>nd.1 (by rw[<-e];exact hy)).mpr (m y (QYq _ hy))
  rw[List.length_erase_of_mem mx]at this
  have:=List.length_pos_of_mem mx
  rw[QBq]
  omega
theorem mY{α β:Type}{f:α->List β}{c:Nat}:∀(l:List α),(∀a∈l,(f a).length=c)->(l.flatMap f).length=l.length*c
 |[]=>fun _=>by simp
 |a::l=>fun h=>by
  rw[List.flatMap_cons,QTq,h a QYz,mY l fun b hb=>h b (QYq _ hb),QBq,Nat.succ_mul]
  omega
abbrev Tr:=St×Nat×Nat
def tD(a:Tr):D:=.tup [au a.1,.int a.2.1,.int a.2.2]
def tV(R:List Tr):List D:=R.map fun _=>.bl true
def Jv(a b:Tr):bK (tD a) (tD b)=decide (a=b):=by
 obtain⟨s,i,j⟩:=a
 obtain⟨t,i',j'⟩:=b
 simp only[tD,bK,oN,j0,Bool.and_true,Prod.mk.injEq]
 by_cases e1:s=t<;>by_cases e2:i=i'<;>by_cases e3:j=j'<;>simp[e1,e2,e3]<;>omega
theorem rE{α:Type}[DecidableEq α]{e:α->D}{a:α}:∀{R:List α},(∀b∈R,bK (e b) (e a)=decide (b=a))->aU (e a) (R.map e)=decide (a∈R)
 |[]=>fun _=>by simp[aU]
 |b::R=>fun he=>by
  simp only[Qyz,aU,he b QYz,rE fun c hc=>he c (QYq _ hc),QCq]
  by_cases c:b=a
  ·simp[c]
  ·have:¬a=b:=fun z=>c z.symm
   simp[c,this]
def Ju(a:Tr):cj (tD a)=true:=by
 simp[tD,au,cj,aK,Ir,kA,Bm,jN,dep,wW]
def Q0(a:Tr)(R:List Tr):aH .notin (tD a) (.gw (R.map tD) (tV R))=some (!decide (a∈R)):=by
 show(if cj (tD a)then some (!aU (tD a) (R.map tD))else none)=_
 rw[Ju,rE fun b _=>Jv b a,if_pos rfl]
 exact congrArg (fun b=>some (!b)) (decide_eq_decide.mpr Iff.rfl)
def abg{a:Tr}{R:List Tr}(e:a∉R)(f:fits (R.length+1)=true):pP (tD a) (.bl true) (.sdt (R.map tD) (tV R))=some (.sdt ((R++[a]).map tD) (tV (R++[a]))):=by
 have i:aU (tD a) (R.map tD)=false:=by rw[rE fun b _=>Jv b a];simpa using e
 have p:putD (tD a) (.bl true) (R.map tD) (tV R)=(R.map tD++[tD a],tV R++[.bl true]):=by unfold putD;rw[i];rfl
 show(if cj (tD a)&&fits ((R.map tD).length+1)then some (Ob.sdt (putD (tD a) (.bl true) (R.map tD) (tV R)).1 (putD (tD a) (.bl true) (R.map tD) (tV R)).2)else none)=_
 rw[Ju,QAq,f,p]
 simp[tV]
section
variable{C:Cs}{w o:D}{n m:Nat}{a p:Tr}
def Cs.nx(C:Cs)(w o:D)(a:Tr)(x:D)(t:St):Tr:=(t,a.2.1+bn (bK x w),a.2.2+bn (bK x o))
def O1(o:D)(m:Nat)(a:Tr)(x:D):Bool:= !bK x o||decide (a.2.2<m)
noncomputable def Cs.ad(C:Cs)(w o:D)(m:Nat)(a:Tr):List D->List Tr->List Tr
 |[],_=>[]
 |x::xs,R=>match C.led a.1 x with
  |none=>C.ad w o m a xs R
  |some t=>if O1 o m a x then(if C.nx w o a x t∈R then C.ad w o m a xs R else C.nx w o a x t::C.ad w o m a xs (R++[C.nx w o a x t]))else C.ad w o m a xs R
theorem Og:∀{xs:List D}{R:List Tr},p∈C.ad w o m a xs R->∃x∈xs,∃t,C.led a.1 x=some t/\O1 o m a x=true/\p=C.nx w o a x t
 |[],R,hp=>by cases hp
 |x::xs,R,hp=>by
  rw[Cs.ad]at hp
  have tl:∀{R:List Tr},p∈C.ad w o m a xs R->∃y∈x::xs,∃t,C.led a.1 y=some t/\O1 o m a y=true/\p=C.nx w o a y t:=fun h=>by
   obtain⟨y,hy,z⟩:=Og h
   exact⟨y,QYq _ hy,z⟩
  split at hp
  ·exact tl hp
  ·rename_i t e
   split at hp
   ·rename_i ok
    split at hp
    ·exact tl hp
    ·rcases QCq.mp hp with rfl|hp
     ·exact⟨x,QYz,t,e,ok,rfl⟩
     ·exact tl hp
   ·exact tl hp
theorem tu{x:D}{t:St}(e:C.led a.1 x=some t)(ok:O1 o m a x=true):∀{xs:List D}{R:List Tr},x∈xs->C.nx w o a x t∈R++C.ad w o m a xs R
 |[],R,hx=>by cases hx
 |y::xs,R,hx=>by
  rw[Cs.ad]
  split
  ·rename_i ey
   rcases QCq.mp hx with rfl|hx
   ·rw[e]at ey;cases ey
   ·exact tu e ok hx
  ·rename_i u ey
   split
   ·split
    ·rename_i hu
     rcases QCq.mp hx with rfl|hx
     ·rw[e]at ey;cases ey
      exact QWz _ hu
     ·exact tu e ok hx
    ·rcases QCq.mp hx with rfl|hx
     ·rw[e]at ey;cases ey
      simp
     ·have:=tu (R:=R++[C.nx w o a y u]) e ok hx
      rw[QLq]at this
      exact this
   ·rename_i no
    rcases QCq.mp hx with rfl|hx
    ·exact absurd ok no
    ·exact tu e ok hx
theorem zN:∀{xs:List D}{R:List Tr},R.Nodup->(R++C.ad w o m a xs R).Nodup
 |[],R,h=>by simpa[Cs.ad]using h
 |x::xs,R,h=>by
  rw[Cs.ad]
  split
  ·exact zN h
  ·split
   ·split
    ·exact zN h
    ·rename_i t e _ hn
     have:(R++[C.nx w o a x t]).Nodup:=by
      rw[List.nodup_append]
      exact⟨h,by simp,fun u hu v hv z=>hn (by
       have:v=C.nx w o a x t:=by simpa using hv
       rw[<-this,<-z];exact hu)⟩
     have:=zN (xs:=xs) this
     rw[QLq]at this
     exact this
   ·exact zN h
structure Cs.Li(C:Cs)(w o:D)(n m:Nat)(at_:Nat)(R:List Tr):Prop where
 nd:R.Nodup
 re:∀a∈R,C.xF w o a.1 a.2.1 a.2.2/\a.2.1<=n/\a.2.2<=m
 st:(sI C.ls,0,0)∈R
 cl:∀(j:Nat)(a:Tr),j<at_->R[j]? =some a->(a.2.1=n->C.can w a.1=false)/\∀x∈C.ky a.1,O1 o m a x=true->C.nx w o a x (C.to a.1 x)∈R
def Cs.Li.len(K:C.Ok){k:Nat}{R:List Tr}(L:C.Li w o n m k R):R.length<=512*((n+1)*(m+1)):=by
 have a:=nY R (C.SS.flatMap fun s=>(List.range (n+1)).flatMap fun h=>(List.range (m+1)).map fun k=>(s,h,k)) L.nd fun p hp=>by
  obtain⟨r,h1,h2⟩:=L.re p hp
  simp only[List.mem_flatMap,QDq,List.mem_range]
  exact⟨p.1,Ah K r,p.2.1,by omega,p.2.2,by omega,rfl⟩
 rw[mY (c:=(n+1)*(m+1)) _ fun s _=>by rw[mY (c:=m+1) _ fun h _=>by simp,List.length_range]]at a
 exact Nat.le_trans a (Nat.mul_le_mul_right _ (Jy K))
def abK(K:C.Ok){x:D}{s t:St}(hx:x∈C.st s)(e:C.led s x=some t):x∈C.ky s/\C.to s x=t:=
 ⟨List.mem_filter.mpr ⟨hx,by rw[e];rfl⟩,by rw[Cs.to,e];rfl⟩
def Rh(K:C.Ok){k:Nat}{R:List Tr}(L:C.Li w o n m k R)(e:R[k]? =some a)(ng:a.2.1=n->C.can w a.1=false):C.Li w o n m (k+1) (R++C.ad w o m a (C.st a.1) R):=by
 have am:=QBz e
 obtain⟨r,h1,h2⟩:=L.re a am
 have kl:=(QCz.mp e).1
 refine⟨zN L.nd,fun p hp=>?_,QWz _ L.st,fun j b hj ej=>?_⟩
 ·rcases QXz.mp hp with z|z
  ·exact L.re p z
  ·obtain⟨x,hx,t,et,ok,rfl⟩:=Og z
   obtain⟨kx,rfl⟩:=abK K hx et
   refine⟨.step r kx,?_,?_⟩
   ·show a.2.1+bn (bK x w)<=n
    cases ew:bK x w with
    |false=>exact h1
    |true=>
     by_cases c:a.2.1=n
     ·rw[Nq kx ew]at ng
      exact absurd (ng c) (by decide)
     ·show a.2.1+1<=n
      omega
   ·show a.2.2+bn (bK x o)<=m
    cases eo:bK x o with
    |false=>exact h2
    |true=>
     rw[O1,eo]at ok
     have:a.2.2<m:=by simpa using ok
     exact this
 ·by_cases c:j=k
  ·subst c
   rw[Qwz kl,e]at ej
   cases ej
   exact⟨ng,fun x hx ok=>tu (oE hx).2 ok (oE hx).1⟩
  ·rw[Qwz (by omega)]at ej
   obtain⟨c1,c2⟩:=L.cl j b (by omega) ej
   exact⟨c1,fun x hx ok=>QWz _ (c2 x hx ok)⟩
def W9{R:List Tr}(L:C.Li w o n m R.length R):¬C.pX w o n m:=by
 have all:∀{s:St}{h k:Nat},C.xF w o s h k->h<=n->k<=m->(s,h,k)∈R:=fun r=>by
  induction r with
  |nil=>exact fun _ _=>L.st
  | @step s h k x r hx ih=>
   intro hn km
   have i:=ih (by omega) (by omega)
   obtain⟨j,ej⟩:=List.getElem?_of_mem i
   refine(L.cl j _ (QCz.mp ej).1 ej).2 x hx ?_
   unfold O1
   cases eo:bK x o with
   |false=>rfl
   |true=>rw[eo]at km;have:k+1<=m:=km;simp;omega
 rintro ⟨s,k,km,r,c⟩
 obtain⟨j,ej⟩:=List.getElem?_of_mem (all r (QVz _) km)
 have:=(L.cl j _ (QCz.mp ej).1 ej).1 rfl
 rw[c]at this
 cases this
def Rg:C.Li w o n m 0 [(sI C.ls,0,0)]:=
 ⟨by simp,fun a ha=>by rw[QDz.mp ha];exact⟨.nil,QIq _,QIq _⟩,QDz.mpr rfl,fun j a hj=>by omega⟩
end
end Tx
end
section
open PySem Mini
namespace Tx
@[simp high]theorem agA(a0 a1 a2 a3 a4 a5 a6 a7 a8 a9 a10 a11 a12 a13 a14:Sl)(r:Ev):(a0::a1::a2::a3::a4::a5::a6::a7::a8::a9::a10::a11::a12::a13::a14::r)[14]? =some a14:=rfl
@[simp high]theorem ago(a0 a1 a2 a3 a4 a5 a6 a7 a8 a9 a10 a11 a12 a13 a14 v:Sl)(r:Ev):List.set (a0::a1::a2::a3::a4::a5::a6::a7::a8::a9::a10::a11::a12::a13::a14::r) 14 v=a0::a1::a2::a3::a4::a5::a6::a7::a8::a9::a10::a11::a12::a13::v::r:=rfl
def S6(o:D):Prop:=∀q:Str,aH .eq (.str q) o=some (bK (.str q) o)/\aH .ne (.str q) o=some (!bK (.str q) o)
def m5(q:Str):S6 (.str q):=fun p=>⟨by simp[bK],by simp[bK]⟩
def R5:S6 .non:=fun p=>⟨rfl,rfl⟩
section
variable{C:Cs}{w o:D}{n1 m:Nat}{a:Tr}
noncomputable def Em:S:=(.cons AAs (.cons (.ite (.and (.cons ACS AAr)) ACZ .nil) (.cons (.ite (.and (.cons ACS AAm)) ABK .nil) .nil)))
noncomputable def lcσ(C:Cs)(w o:D)(n1 m:Nat)(R:List Tr)(k:Nat)(s9 vZ vY s12 jm fH:Sl):Ev:=
 [.val C.n,.val C.t,.val w,.val (.int ((n1:Int)+1)),.val o,.val (.int m),.own (.lst (R.map tD)),.own (.sdt (R.map tD) (tV R)),.val (.int k),s9,vZ,vY,s12,jm,fH]
noncomputable def lL(C:Cs)(w:D)(n1:Nat)(a:Tr)(xs:List D):Bool:=decide (a.2.1=n1)&&xs.any fun x=>bK x w&&(C.led a.1 x).isSome
def aaz(x:D)(t:St):D.tup [au t,.int ((a.2.1:Int)+b2i (bK x w)),.int ((a.2.2:Int)+b2i (bK x o))]=tD (C.nx w o a x t):=by
 have:∀(i:Nat)(b:Bool),((i+bn b:Nat):Int)=(i:Int)+b2i b:=fun i b=>by cases b<;>simp[bn,b2i]
 simp only[tD,Cs.nx,this]
theorem yS(n:Nat)(K:C.Ok)(S:C.S a.1)(qw:Str)(ho:S6 o)(k:Nat):∀(xs:List D)(R:List Tr)(s12 jm fH:Sl),(∀x∈xs,x∈C.st a.1)->R.length+xs.length<=4000000->bB s12->bB jm->bB fH->
  (lL C (.str qw) n1 a xs=true->∃rest,bI (.name 12) (ex (pg.cf (n+2)) Em) xs (lcσ C (.str qw) o n1 m R k (.val (au a.1)) (.val (.int a.2.1)) (.val (.int a.2.2)) s12 jm fH)=.ret (.val (.bl true)) (.val C.n:: .val C.t:: .val (.str qw):: .val (.int ((n1:Int)+1)):: .val o:: .val (.int m)::rest))/\
  (lL C (.str qw) n1 a xs=false->∃s12' s13' s14',bB s12'/\bB s13'/\bB s14'/\bI (.name 12) (ex (pg.cf (n+2)) Em) xs (lcσ C (.str qw) o n1 m R k (.val (au a.1)) (.val (.int a.2.1)) (.val (.int a.2.2)) s12 jm fH)=.next (lcσ C (.str qw) o n1 m (R++C.ad (.str qw) o m a xs R) k (.val (au a.1)) (.val (.int a.2.1)) (.val (.int a.2.2)) s12' s13' s14'))
 |[]=>fun R s12 jm fH _ _ h12 h13 h14=>⟨fun z=>by simp[lL]at z,fun _=>⟨s12,jm,fH,h12,h13,h14,by simp[bI,Cs.ad]⟩⟩
 |x::xs=>fun R s12 jm fH hx hl h12 h13 h14=>by
  obtain⟨q,rfl⟩:=K.aaf S x (hx x QYz)
  have ld:=K.Rm n S (x:=.str q) ⟨q,rfl⟩
  have hx':∀y∈xs,y∈C.st a.1:=fun y hy=>hx y (QYq _ hy)
  rw[QBq]at hl
  have ew:=(m5 qw q).1
  obtain⟨eo,eo'⟩:=ho q
  have tt:bV (.name 12) (.str q) (lcσ C (.str qw) o n1 m R k (.val (au a.1)) (.val (.int a.2.1)) (.val (.int a.2.2)) s12 jm fH)=some (lcσ C (.str qw) o n1 m R k (.val (au a.1)) (.val (.int a.2.1)) (.val (.int a.2.2)) (.val (.str q)) jm fH):=by
   rcases h12 with rfl|⟨d,rfl⟩<;>simp[bV,lcσ]
  have k13:∀(σ:Ev)d,vW 13 σ (.val d) (some jm)=some (σ.set 13 (.val d)):=fun σ d=>by
   rcases h13 with rfl|⟨d,rfl⟩<;>rfl
  have k14:∀(σ:Ev)d,vW 14 σ (.val d) (some fH)=some (σ.set 14 (.val d)):=fun σ d=>by
   rcases h14 with rfl|⟨d,rfl⟩<;>rfl
  have sb:(n1:Int)+1-1=n1:=by omega
  have en:((a.2.1:Int)==(n1:Int))=decide (a.2.1=n1):=by
   by_cases c:a.2.1=n1
   ·simp[c]
   ·rw[QEz c];simp;omega
  have lt:decide ((a.2.2:Int)< (m:Int))=decide (a.2.2<m):=by simp
  rw[bI,tt]
  simp only[Cs.ad]
  cases e:C.led a.1 (.str q)with
  |none=>
   rw[e]at ld
   have go:ex (pg.cf (n+2)) Em (lcσ C (.str qw) o n1 m R k (.val (au a.1)) (.val (.int a.2.1)) (.val (.int a.2.2)) (.val (.str q)) jm fH)=.next (lcσ C (.str qw) o n1 m R k (.val (au a.1)) (.val (.int a.2.1)) (.val (.int a.2.2)) (.val (.str q)) (.val .non) fH):=by
    simp[Em,lcσ,ld,k13,gA]
   have gl:lL C (.str qw) n1 a (.str q::xs)=lL C (.str qw) n1 a xs:=by simp[lL,e]
   simp only[go,cQ,gl]
   exact yS n K S qw ho k xs R (.val (.str q)) (.val .non) fH hx' (by omega) (.inr ⟨_,rfl⟩) (.inr ⟨_,rfl⟩) h14
  |some t=>
   rw[e]at ld
   have nn:=oG t
   have gl:lL C (.str qw) n1 a (.str q::xs)=((decide (a.2.1=n1)&&bK (.str q) (.str qw))||lL C (.str qw) n1 a xs):=by
    simp only[lL,List.any_cons,e,Option.isSome_some,Bool.and_true]
    cases decide (a.2.1=n1)<;>cases bK (D.str q) (D.str qw)<;>rfl
   cases g1:(bK (.str q) (.str qw)&&decide (a.2.1=n1))with
   |true=>
    rw[QUq]at g1
    rw[gl,g1.1,g1.2]
    refine⟨fun _=>?_,fun z=>by simp at z⟩
    rw[g1.1]at ew
    rw[g1.2]at en
    have go:ex (pg.cf (n+2)) Em (lcσ C (.str qw) o n1 m R k (.val (au a.1)) (.val (.int a.2.1)) (.val (.int a.2.2)) (.val (.str q)) jm fH)=.ret (.val (.bl true)) (lcσ C (.str qw) o n1 m R k (.val (au a.1)) (.val (.int a.2.1)) (.val (.int a.2.2)) (.val (.str q)) (.val (au t)) fH):=by
     simp[-eq_str,Em,lcσ,ld,k13,gA,nn,ew,sb,en]
    rw[go]
    exact⟨_,rfl⟩
   |false=>
    have g2:(decide (a.2.1=n1)&&bK (.str q) (.str qw))=false:=by rw[Bool.and_comm];exact g1
    rw[gl,g2,Bool.false_or]
    have ni:=Q0 (C.nx (.str qw) o a (.str q) t) R
    have tx:=aaz (C:=C) (w:=.str qw) (o:=o) (a:=a) (.str q) t
    have f1:fits (R.length+1)=true:=by simp[fits];omega
    have te:∀s13':Sl,s13'=.val (au t)->ev (pg.cf (n+2)) (.and (.cons ACS AAr)) (lcσ C (.str qw) o n1 m R k (.val (au a.1)) (.val (.int a.2.1)) (.val (.int a.2.2)) (.val (.str q)) s13' fH)=.ok (.val (.bl false)) (lcσ C (.str qw) o n1 m R k (.val (au a.1)) (.val (.int a.2.1)) (.val (.int a.2.2)) (.val (.str q)) s13' fH):=fun s13' z=>by
     subst z
     cases c1:bK (D.str q) (D.str qw)with
     |false=>rw[c1]at ew;simp[-eq_str,lcσ,nn,ew]
     |true=>
      rw[c1]at ew g1
      rw[Bool.true_and]at g1
      rw[g1]at en
      simp[-eq_str,lcσ,nn,ew,sb,en]
    have s1:ex (pg.cf (n+2)) AAs (lcσ C (.str qw) o n1 m R k (.val (au a.1)) (.val (.int a.2.1)) (.val (.int a.2.2)) (.val (.str q)) jm fH)=.next (lcσ C (.str qw) o n1 m R k (.val (au a.1)) (.val (.int a.2.1)) (.val (.int a.2.2)) (.val (.str q)) (.val (au t)) fH):=by
     simp[lcσ,ld,k13,gA]
    have te':=te _ rfl
    cases ok:O1 o m a (.str q)with
    |false=>
     have ok1:bK (.str q) o=true/\decide (a.2.2<m)=false:=by
      unfold O1 at ok
      cases c1:bK (D.str q) o with
      |false=>rw[c1]at ok;simp at ok
      |true=>rw[c1]at ok;simpa using ok
     rw[ok1.1]at eo'
     have go:ex (pg.cf (n+2)) Em (lcσ C (.str qw) o n1 m R k (.val (au a.1)) (.val (.int a.2.1)) (.val (.int a.2.2)) (.val (.str q)) jm fH)=.next (lcσ C (.str qw) o n1 m R k (.val (au a.1)) (.val (.int a.2.1)) (.val (.int a.2.2)) (.val (.str q)) (.val (au t)) fH):=by
      have lt':=ok1.2
      unfold Em
      rw[iI,s1,cF,iI,pH,te',jM]
      simp[-eq_str,lcσ,nn,eo',lt']
     simp only[go,cQ,Qxq,if_false]
     exact yS n K S qw ho k xs R (.val (.str q)) (.val (au t)) fH hx' (by omega) (.inr ⟨_,rfl⟩) (.inr ⟨_,rfl⟩) h14
    |true=>
     have tb:ev (pg.cf (n+2)) (.and (.cons ACS AAm)) (lcσ C (.str qw) o n1 m R k (.val (au a.1)) (.val (.int a.2.1)) (.val (.int a.2.2)) (.val (.str q)) (.val (au t)) fH)=.ok (.val (.bl true)) (lcσ C (.str qw) o n1 m R k (.val (au a.1)) (.val (.int a.2.1)) (.val (.int a.2.2)) (.val (.str q)) (.val (au t)) fH):=by
      unfold O1 at ok
      cases c1:bK (D.str q) o with
      |false=>rw[c1]at eo';simp[-eq_str,lcσ,nn,eo']
      |true=>
       rw[c1]at eo' ok
       have lt':decide (a.2.2<m)=true:=by simpa using ok
       simp[-eq_str,lcσ,nn,eo',lt']
     have s2:ex (pg.cf (n+2)) AAS (lcσ C (.str qw) o n1 m R k (.val (au a.1)) (.val (.int a.2.1)) (.val (.int a.2.2)) (.val (.str q)) (.val (au t)) fH)=.next (lcσ C (.str qw) o n1 m R k (.val (au a.1)) (.val (.int a.2.1)) (.val (.int a.2.2)) (.val (.str q)) (.val (au t)) (.val (tD (C.nx (.str qw) o a (.str q) t)))):=by
      simp[-eq_str,lcσ,ew,eo,aX,tx,k14]
     simp only[if_true]
     by_cases ht:C.nx (.str qw) o a (.str q) t∈R
     ·rw[QFq ht]at ni
      have go:ex (pg.cf (n+2)) Em (lcσ C (.str qw) o n1 m R k (.val (au a.1)) (.val (.int a.2.1)) (.val (.int a.2.2)) (.val (.str q)) jm fH)=.next (lcσ C (.str qw) o n1 m R k (.val (au a.1)) (.val (.int a.2.1)) (.val (.int a.2.2)) (.val (.str q)) (.val (au t)) (.val (tD (C.nx (.str qw) o a (.str q) t)))):=by
       unfold Em
       rw[iI,s1,cF,iI,pH,te',jM]
       simp only[Qxq,wG,R3,cF,iI,pH,tb,jM,Bk,s2]
       simp[lcσ,ni,Ob.d]
      simp only[go,cQ,if_pos ht]
      exact yS n K S qw ho k xs R (.val (.str q)) (.val (au t)) _ hx' (by omega) (.inr ⟨_,rfl⟩) (.inr ⟨_,rfl⟩) (.inr ⟨_,rfl⟩)
     ·rw[QEz ht]at ni
      have pt:=abg ht f1
      have ap:R.map tD++[tD (C.nx (.str qw) o a (.str q) t)]=(R++[C.nx (.str qw) o a (.str q) t]).map tD:=by simp
      have go:ex (pg.cf (n+2)) Em (lcσ C (.str qw) o n1 m R k (.val (au a.1)) (.val (.int a.2.1)) (.val (.int a.2.2)) (.val (.str q)) jm fH)=.next (lcσ C (.str qw) o n1 m (R++[C.nx (.str qw) o a (.str q) t]) k (.val (au a.1)) (.val (.int a.2.1)) (.val (.int a.2.2)) (.val (.str q)) (.val (au t)) (.val (tD (C.nx (.str qw) o a (.str q) t)))):=by
       unfold Em
       rw[iI,s1,cF,iI,pH,te',jM]
       simp only[Qxq,wG,R3,cF,iI,pH,tb,jM,Bk,s2]
       simp[-List.map_append,lcσ,ni,Ob.d,pt,cH,tL,f1,ap]
      simp only[go,cQ,if_neg ht]
      have:=yS n K S qw ho k xs (R++[C.nx (.str qw) o a (.str q) t]) (.val (.str q)) (.val (au t)) (.val (tD (C.nx (.str qw) o a (.str q) t))) hx' (by simp;omega) (.inr ⟨_,rfl⟩) (.inr ⟨_,rfl⟩) (.inr ⟨_,rfl⟩)
      rw[QLq]at this
      exact this
def O5:E:=ADW
def Ip:S:=(.cons ABy (.cons (.for_ (.name 12) ACW Em) ABx))
def Ez(K:C.Ok){w:D}:lL C w n1 a (C.st a.1)=(decide (a.2.1=n1)&&C.can w a.1):=by
 unfold lL Cs.can Cs.ky
 congr 1
 generalize C.st a.1=L
 induction L with
 |nil=>rfl
 |cons x L ih=>
  rw[List.any_cons,ih,List.filter_cons]
  cases C.led a.1 x with
  |none=>simp
  |some t=>simp[aU]
theorem El(n:Nat)(K:C.Ok)(qw:Str)(ho:S6 o)(hb:512*((n1+1)*(m+1))+7<4000000):∀(f k:Nat)(R:List Tr)(s9 vZ vY s12 jm fH:Sl),C.Li (.str qw) o n1 m k R->k<=R.length->512*((n1+1)*(m+1))<f+k->bB s9->bB vZ->bB vY->bB s12->bB jm->bB fH->
  (∃rest,aZ (ev (pg.cf (n+4)) O5) (ex (pg.cf (n+4)) Ip) f (lcσ C (.str qw) o n1 m R k s9 vZ vY s12 jm fH)=.ret (.val (.bl true)) (.val C.n:: .val C.t:: .val (.str qw):: .val (.int ((n1:Int)+1)):: .val o:: .val (.int m)::rest)/\C.pX (.str qw) o n1 m)\/
  (∃rest,aZ (ev (pg.cf (n+4)) O5) (ex (pg.cf (n+4)) Ip) f (lcσ C (.str qw) o n1 m R k s9 vZ vY s12 jm fH)=.next (.val C.n:: .val C.t:: .val (.str qw):: .val (.int ((n1:Int)+1)):: .val o:: .val (.int m)::rest)/\¬C.pX (.str qw) o n1 m)
 |0=>fun k R _ _ _ _ _ _ L hk hf _ _ _ _ _ _=>by have:=L.len K;omega
 |f+1=>fun k R s9 vZ vY s12 jm fH L hk hf h9 h10 h11 h12 h13 h14=>by
  have rb:=L.len K
  by_cases c:k<R.length
  ·obtain⟨a,e⟩:∃a,R[k]? =some a:=⟨_,QXq c⟩
   have am:=QBz e
   obtain⟨r,r1,r2⟩:=L.re a am
   have S:=yg K (Ah K r)
   have st:=K.Hn n S
   have ak:at? (R.map tD) (k:Int)=some (tD a):=by
    rw[fc _ _ (by simpa using c)]
    simp[e]
   have sl:(C.st a.1).length<=7:=Nat.le_trans (K.sub S).length_le (abD K)
   have LG:=yS (m:=m) (n1:=n1) (a:=a) (n+2) K S qw ho k (C.st a.1) R s12 jm fH (fun x hx=>hx) (by omega) h12 h13 h14
   have te:ev (pg.cf (n+4)) O5 (lcσ C (.str qw) o n1 m R k s9 vZ vY s12 jm fH)=.ok (.val (.bl true)) (lcσ C (.str qw) o n1 m R k s9 vZ vY s12 jm fH):=by
    simp[O5,lcσ,c]
   have s1:ex (pg.cf (n+4)) ABy (lcσ C (.str qw) o n1 m R k s9 vZ vY s12 jm fH)=.next (lcσ C (.str qw) o n1 m R k (.val (au a.1)) (.val (.int a.2.1)) (.val (.int a.2.2)) s12 jm fH):=by
    rcases h9 with rfl|⟨d,rfl⟩<;>rcases h10 with rfl|⟨d,rfl⟩<;>rcases h11 with rfl|⟨d,rfl⟩<;>simp[lcσ,ak,tD,bV,gU]
   have s2:∀fl,bI (.name 12) (ex (pg.cf (n+4)) Em) (C.st a.1) (lcσ C (.str qw) o n1 m R k (.val (au a.1)) (.val (.int a.2.1)) (.val (.int a.2.2)) s12 jm fH)=fl->ex (pg.cf (n+4)) Ip (lcσ C (.str qw) o n1 m R k s9 vZ vY s12 jm fH)=fl.seq (ex (pg.cf (n+4)) ABx):=fun fl hfl=>by
    unfold Ip
    rw[iI,s1,cF,iI]
    congr 1
    rw[<-hfl]
    simp[lcσ,st,items]
   rw[aZ,te]
   cases g:lL C (.str qw) n1 a (C.st a.1)with
   |true=>
    obtain⟨rest,z⟩:=LG.1 g
    rw[Ez K,QUq]at g
    have g1:a.2.1=n1:=by simpa using g.1
    refine .inl ⟨rest,?_,a.1,a.2.2,r2,g1▸r,g.2⟩
    show(ex (pg.cf (n+4)) Ip _).turn _=_
    rw[s2 _ z]
    rfl
   |false=>
    obtain⟨t12,t13,t14,i12,i13,i14,z⟩:=LG.2 g
    rw[Ez K]at g
    have L':=Rh K L e fun z=>by
     rw[z]at g
     simpa using g
    have I:=El n K qw ho hb f (k+1) _ (.val (au a.1)) (.val (.int a.2.1)) (.val (.int a.2.2)) t12 t13 t14 L' (by simp;omega) (by omega) (.inr ⟨_,rfl⟩) (.inr ⟨_,rfl⟩) (.inr ⟨_,rfl⟩) i12 i13 i14
    have tn:∀g:Ev->Fl,(ex (pg.cf (n+4)) Ip (lcσ C (.str qw) o n1 m R k s9 vZ vY s12 jm fH)).turn g=g (lcσ C (.str qw) o n1 m (R++C.ad (.str qw) o m a (C.st a.1) R) (k+1) (.val (au a.1)) (.val (.int a.2.1)) (.val (.int a.2.2)) t12 t13 t14):=fun g=>by
     rw[s2 _ z,cF]
     simp[lcσ]
    show(∃rest,(ex (pg.cf (n+4)) Ip _).turn _=_/\_)\/(∃rest,(ex (pg.cf (n+4)) Ip _).turn _=_/\_)
    rw[tn]
    exact I
  ·have te:ev (pg.cf (n+4)) O5 (lcσ C (.str qw) o n1 m R k s9 vZ vY s12 jm fH)=.ok (.val (.bl false)) (lcσ C (.str qw) o n1 m R k s9 vZ vY s12 jm fH):=by
    simp[O5,lcσ,c]
   have hk':k=R.length:=by omega
   subst hk'
   have z:aZ (ev (pg.cf (n+4)) O5) (ex (pg.cf (n+4)) Ip) (f+1) (lcσ C (.str qw) o n1 m R R.length s9 vZ vY s12 jm fH)=.next (lcσ C (.str qw) o n1 m R R.length s9 vZ vY s12 jm fH):=by
    rw[aZ,te]
    rfl
   exact .inr ⟨_,z,W9 L⟩
def rZ(n:Nat)(K:C.Ok)(qw:Str)(ho:S6 o)(hb:512*((n1+1)*(m+1))+7<4000000):∃b,(b=true↔C.pX (.str qw) o n1 m)/\
  pg.fn (n+5) 50 [.val C.n,.val C.t,.val (.str qw),.val (.int ((n1:Int)+1)),.val o,.val (.int m)]=.ok (.val (.bl b)) [.val C.n,.val C.t,.val (.str qw),.val (.int ((n1:Int)+1)),.val o,.val (.int m)]:=by
 have L:=El n K qw ho hb 4000000 0 [(sI C.ls,0,0)] .un .un .un .un .un .un Rg (QIq _) (by omega) (.inl rfl) (.inl rfl) (.inl rfl) (.inl rfl) (.inl rfl) (.inl rfl)
 have n2:=abF (C:=C)
 have ds:zu [tD (sI C.ls,0,0),.bl true]=some (.new (.sdt [tD (sI C.ls,0,0)] [.bl true])):=by
  have:HW [tD (sI C.ls,0,0),.bl true]=some (.new (.sdt [tD (sI C.ls,0,0)] [.bl true])):=by
   show(if cj (tD (sI C.ls,0,0))then _ else none)=_
   rw[Ju];rfl
  unfold zu
  rw[this]
  rfl
 have se:D.tup [.tup [aK C.ls,.int 0],.int 0,.int 0]=tD (sI C.ls,0,0):=rfl
 have hbd:gM=⟨6,15,(.cons ACH (.cons ACc (.cons (.set 8 AAH) (.cons (.while_ O5 Ip) AAP))))⟩:=rfl
 have go:∀fl,aZ (ev (pg.cf (n+4)) O5) (ex (pg.cf (n+4)) Ip) 4000000 (lcσ C (.str qw) o n1 m [(sI C.ls,0,0)] 0 .un .un .un .un .un .un)=fl->
   ex (pg.cf (n+4)) gM.body [.val C.n,.val C.t,.val (.str qw),.val (.int ((n1:Int)+1)),.val o,.val (.int m),.un,.un,.un,.un,.un,.un,.un,.un,.un]=fl.seq (ex (pg.cf (n+4)) AAP):=fun fl hfl=>by
  have tn:(pg.cf (n+4)).turns=4000000:=rfl
  have hfl':aZ (ev (pg.cf (n+4)) O5) (ex (pg.cf (n+4)) Ip) 4000000 [.val C.n,.val C.t,.val (.str qw),.val (.int ((n1:Int)+1)),.val o,.val (.int m),.own (.lst [tD (sI C.ls,0,0)]),.own (.sdt [tD (sI C.ls,0,0)] [.bl true]),.val (.int 0),.un,.un,.un,.un,.un,.un]=fl:=hfl
  rw[hbd]
  simp[n2,aX,se,ds,Ob.d,tn,hfl']
 rw[yC]
 rcases L with ⟨rest,z,g⟩|⟨rest,z,g⟩
 ·exact⟨true,⟨fun _=>g,fun _=>rfl⟩,by rw[go _ z];rfl⟩
 ·exact⟨false,⟨fun z=>absurd z (by decide),fun z=>absurd z g⟩,by rw[go _ z];rfl⟩
end
end Tx
end
section
open PySem Mini
namespace Tx
abbrev Pl:=St×Nat
section
variable{C:Cs}{w o:D}{n1 m:Nat}{p:Pl}
def Cs.pD(C:Cs)(p:Pl):D:=.tup [.int (C.no p.1),.int p.2]
def Cs.pb(C:Cs)(w:D)(p:Pl)(x:D):Pl:=(C.to p.1 x,p.2+bn (bK x w))
noncomputable def Cs.mO(C:Cs):List Pl->Ob
 |[]=>.dct [] []
 |p::M=>.sdt ((p::M).map C.pD) ((p::M).map fun _=>.bl true)
def KC{a b:Pl}(ha:a.1∈C.SS)(hb:b.1∈C.SS):bK (C.pD a) (C.pD b)=decide (a=b):=by
 obtain⟨s,i⟩:=a
 obtain⟨t,j⟩:=b
 simp only[Cs.pD,bK,oN,Bool.and_true,Prod.mk.injEq]
 by_cases e1:s=t
 ·by_cases e2:i=j
  ·simp[e1,e2]
  ·have:¬((i:Int)=(j:Int)):=by omega
   simp[e1,e2,this]
 ·have:¬C.no s=C.no t:=fun z=>e1 (W2 ha hb z)
  have:¬((C.no s:Int)=(C.no t:Int)):=by omega
  simp[e1,this]
def DK(p:Pl):cj (C.pD p)=true:=by simp[Cs.pD,cj,Ir,kA,jN,dep]
def Q4{M:List Pl}(hM:∀q∈M,q.1∈C.SS)(hp:p.1∈C.SS):aH .notin (C.pD p) (C.mO M).d=some (!decide (p∈M)):=by
 cases M with
 |nil=>
  show(if keyOk (C.pD p)then some (!aU (C.pD p) [])else if cj (C.pD p)&&true then some true else none)=_
  rw[DK]
  simp[Cs.pD,keyOk]
 |cons q M=>
  show(if cj (C.pD p)then some (!aU (C.pD p) ((q::M).map C.pD))else none)=_
  rw[DK,rE fun b hb=>KC (hM b hb) hp,if_pos rfl]
  exact congrArg (fun b=>some (!b)) (decide_eq_decide.mpr Iff.rfl)
def abi{M:List Pl}(hM:∀q∈M,q.1∈C.SS)(hp:p.1∈C.SS)(e:p∉M)(f:fits (M.length+1)=true):pP (C.pD p) (.bl true) (C.mO M)=some (C.mO (M++[p])):=by
 cases M with
 |nil=>
  show(if keyOk (C.pD p)&&fits 1 then some (Ob.dct (putD (C.pD p) (.bl true) [] []).1 (putD (C.pD p) (.bl true) [] []).2)else if cj (C.pD p)&&true then some (Ob.sdt [C.pD p] [.bl true])else none)=_
  rw[DK]
  simp[Cs.pD,keyOk,Cs.mO]
 |cons q M=>
  have i:aU (C.pD p) ((q::M).map C.pD)=false:=by
   rw[rE fun b hb=>KC (hM b hb) hp]
   simpa using e
  have pp:putD (C.pD p) (.bl true) ((q::M).map C.pD) ((q::M).map fun _=>.bl true)=((q::M).map C.pD++[C.pD p],((q::M).map fun _=>.bl true)++[.bl true]):=by unfold putD;rw[i];rfl
  show(if cj (C.pD p)&&fits (((q::M).map C.pD).length+1)then some (Ob.sdt (putD (C.pD p) (.bl true) ((q::M).map C.pD) ((q::M).map fun _=>.bl true)).1 (putD (C.pD p) (.bl true) ((q::M).map C.pD) ((q::M).map fun _=>.bl true)).2)else none)=_
  rw[DK,QAq,f,pp]
  simp[Cs.mO]
structure Cs.J(C:Cs)(w o:D)(n1:Nat)(M A L:List Pl)(m:Nat):Prop where
 nd:M.Nodup
 ss:∀p,p∈M\/p∈A\/p∈L->p.1∈C.SS/\p.2<=n1
 st:(sI C.ls,0)∈M\/(sI C.ls,0)∈A
 nx:∀p∈M,∀x∈C.ky p.1,bK x o=false->C.pb w p x∈M\/C.pb w p x∈A
 lx:∀p∈M,∀x∈C.ky p.1,bK x o=true->C.pb w p x∈M\/C.pb w p x∈A\/C.pb w p x∈L
 ly:∀p∈M,(∃k,k<m/\C.xF w o p.1 p.2 k)->∀x∈C.ky p.1,bK x o=true->C.pb w p x∈M\/C.pb w p x∈A
 re:∀p,p∈M\/p∈A->∃k,k<=m/\C.xF w o p.1 p.2 k
 rl:∀p∈L,∃k,k<=m+1/\C.xF w o p.1 p.2 k
 ng:∀p∈M,p.2=n1->C.can w p.1=false
 lo:∀(s:St)(h k:Nat),C.xF w o s h k->h<=n1->k<m->(s,h)∈M
 ma:A≠[]->m<=M.length
 ml:L≠[]->m+1<=M.length
variable{M A L B:List Pl}
def Cs.J.len(K:C.Ok)(J:C.J w o n1 M A L m):M.length<=512*(n1+1):=by
 have a:=nY M (C.SS.flatMap fun s=>(List.range (n1+1)).map fun h=>(s,h)) J.nd fun p hp=>by
  obtain⟨h1,h2⟩:=J.ss p (.inl hp)
  simp only[List.mem_flatMap,QDq,List.mem_range]
  exact⟨p.1,h1,p.2,by omega,rfl⟩
 rw[mY (c:=n1+1) _ fun s _=>by simp]at a
 exact Nat.le_trans a (Nat.mul_le_mul_right _ (Jy K))
def Cs.J.lvl(J:C.J w o n1 M [] L m){s:St}{h k:Nat}(r:C.xF w o s h k):h<=n1->k<=m->(s,h)∈M:=by
 have no:∀{q:Pl},q∈M\/q∈([]:List Pl)->q∈M:=fun z=>z.elim id fun y=>by cases y
 induction r with
 |nil=>exact fun _ _=>no J.st
 | @step s h k x r hx ih=>
  intro hn km
  have i:=ih (by omega) (by omega)
  cases eo:bK x o with
  |false=>exact no (J.nx _ i x hx eo)
  |true=>
   rw[eo]at km
   have:k+1<=m:=km
   exact no (J.ly _ i ⟨k,by omega,r⟩ x hx eo)
theorem Cs.J.up(J:C.J w o n1 M [] L m):C.J w o n1 M L [] (m+1) where
 nd:=J.nd
 ss:=fun p hp=>J.ss p (hp.elim .inl fun z=>z.elim (fun y=>.inr (.inr y)) fun y=>by cases y)
 st:=J.st.elim .inl fun z=>by cases z
 nx:=fun p hp x hx e=>(J.nx p hp x hx e).elim .inl fun z=>by cases z
 lx:=fun p hp x hx e=>(J.lx p hp x hx e).elim .inl fun z=>z.elim (fun y=>by cases y) fun y=>.inr (.inl y)
 ly:=fun p hp _ x hx e=>(J.lx p hp x hx e).elim .inl fun z=>z.elim (fun y=>by cases y) .inr
 re:=fun p hp=>hp.elim (fun z=>let ⟨k,a,b⟩:=J.re p (.inl z);⟨k,by omega,b⟩) fun z=>J.rl p z
 rl:=fun p hp=>by cases hp
 ng:=J.ng
 lo:=fun s h k r hn km=>J.lvl r hn (by omega)
 ma:=J.ml
 ml:=fun z=>absurd rfl z
def Cs.J.done(J:C.J w o n1 M [] [] m)(j:Nat):¬C.pX w o n1 j:=by
 have all:∀{s:St}{h k:Nat},C.xF w o s h k->h<=n1->(s,h)∈M:=fun r=>by
  induction r with
  |nil=>exact fun _=>J.st.elim id fun y=>by cases y
  | @step s h k x r hx ih=>
   intro hn
   have i:=ih (by omega)
   cases eo:bK x o with
   |false=>exact(J.nx _ i x hx eo).elim id fun y=>by cases y
   |true=>exact(J.lx _ i x hx eo).elim id fun y=>y.elim (fun y=>by cases y) fun y=>by cases y
 rintro ⟨s,k,_,r,c⟩
 have:=J.ng _ (all r (QVz _)) rfl
 rw[c]at this
 cases this
def Cs.J.skip(J:C.J w o n1 M (B++[p]) L m)(hp:p∈M):C.J w o n1 M B L m:=by
 have d:∀{q:Pl},q∈M\/q∈B++[p]->q∈M\/q∈B:=fun z=>z.elim .inl fun y=>(QXz.mp y).elim .inr fun y=>.inl (by rw[QDz.mp y];exact hp)
 have u:∀{q:Pl},q∈B->q∈B++[p]:=fun z=>QWz _ z
 refine⟨J.nd,fun q hq=>J.ss q (hq.elim .inl fun z=>.inr (z.elim (fun y=>.inl (u y)) .inr)),d J.st,fun q hq x hx e=>d (J.nx q hq x hx e),fun q hq x hx e=>?_,fun q hq l x hx e=>d (J.ly q hq l x hx e),fun q hq=>J.re q (hq.elim .inl fun z=>.inr (u z)),J.rl,J.ng,J.lo,fun _=>J.ma (by simp),J.ml⟩
 rcases J.lx q hq x hx e with z|z|z
 ·exact .inl z
 ·exact(d (.inr z)).elim .inl fun y=>.inr (.inl y)
 ·exact .inr (.inr z)
noncomputable def Cs.on(C:Cs)(w o:D)(p:Pl)(b:Bool):List Pl:=((C.ky p.1).filter fun x=>bK x o==b).map (C.pb w p)
def nW{b:Bool}{q:Pl}:q∈C.on w o p b↔ ∃x∈C.ky p.1,bK x o=b/\C.pb w p x=q:=by
 simp only[Cs.on,QDq,List.mem_filter,beq_iff_eq]
 exact⟨fun⟨x,⟨a,b⟩,c⟩=>⟨x,a,b,c⟩,fun⟨x,a,b,c⟩=>⟨x,⟨a,b⟩,c⟩⟩
theorem Cs.J.more(K:C.Ok)(J:C.J w o n1 M (B++[p]) L m)(hp:p∉M)(ng:p.2=n1->C.can w p.1=false):
  C.J w o n1 (M++[p]) (B++C.on w o p false) (L++C.on w o p true) m:=by
 have mp:p∈M++[p]:=by simp
 have pa:p∈B++[p]:=by simp
 obtain⟨ps,pn⟩:=J.ss p (.inr (.inl pa))
 obtain⟨k0,k1,r0⟩:=J.re p (.inr pa)
 have mu:∀{q:Pl},q∈M->q∈M++[p]:=fun z=>QWz _ z
 have d:∀{q:Pl},q∈M\/q∈B++[p]->q∈M++[p]\/q∈B++C.on w o p false:=fun z=>z.elim (fun y=>.inl (mu y)) fun y=>(QXz.mp y).elim (fun y=>.inr (QWz _ y)) fun y=>.inl (by rw[QDz.mp y];exact mp)
 have ms:∀{q:Pl},q∈M++[p]->q∈M\/q=p:=fun z=>(QXz.mp z).imp id QDz.mp
 have so:∀x∈C.ky p.1,(C.pb w p x).1∈C.SS/\(C.pb w p x).2<=n1:=fun x hx=>by
  refine⟨Jl K ps hx,?_⟩
  show p.2+bn (bK x w)<=n1
  cases ew:bK x w with
  |false=>exact pn
  |true=>
   by_cases c:p.2=n1
   ·rw[Nq hx ew]at ng
    exact absurd (ng c) (by decide)
   ·show p.2+1<=n1
    omega
 refine⟨?_,fun q hq=>?_,d J.st,fun q hq x hx e=>?_,fun q hq x hx e=>?_,fun q hq l x hx e=>?_,fun q hq=>?_,fun q hq=>?_,fun q hq=>?_,fun s h k r hn km=>mu (J.lo s h k r hn km),fun _=>?_,fun _=>?_⟩
 ·rw[List.nodup_append]
  exact⟨J.nd,by simp,fun a ha b hb e=>hp (by rw[<-QDz.mp hb,<-e];exact ha)⟩
 ·rcases hq with z|z|z
  ·rcases ms z with z|rfl
   ·exact J.ss q (.inl z)
   ·exact⟨ps,pn⟩
  ·rcases QXz.mp z with z|z
   ·exact J.ss q (.inr (.inl (QWz _ z)))
   ·obtain⟨x,hx,_,rfl⟩:=nW.mp z
    exact so x hx
  ·rcases QXz.mp z with z|z
   ·exact J.ss q (.inr (.inr z))
   ·obtain⟨x,hx,_,rfl⟩:=nW.mp z
    exact so x hx
 ·rcases ms hq with z|rfl
  ·exact d (J.nx q z x hx e)
  ·exact .inr (QVq _ (nW.mpr ⟨x,hx,e,rfl⟩))
 ·rcases ms hq with z|rfl
  ·rcases J.lx q z x hx e with y|y|y
   ·exact .inl (mu y)
   ·exact(d (.inr y)).imp id .inl
   ·exact .inr (.inr (QWz _ y))
  ·exact .inr (.inr (QVq _ (nW.mpr ⟨x,hx,e,rfl⟩)))
 ·rcases ms hq with z|rfl
  ·exact d (J.ly q z l x hx e)
  ·obtain⟨k,k2,r⟩:=l
   exact absurd (J.lo _ _ k r pn k2) hp
 ·rcases hq with z|z
  ·rcases ms z with z|rfl
   ·exact J.re q (.inl z)
   ·exact⟨k0,k1,r0⟩
  ·rcases QXz.mp z with z|z
   ·exact J.re q (.inr (QWz _ z))
   ·obtain⟨x,hx,e,rfl⟩:=nW.mp z
    have:=Cs.xF.step r0 hx
    rw[e]at this
    exact⟨k0,k1,this⟩
 ·rcases QXz.mp hq with z|z
  ·exact J.rl q z
  ·obtain⟨x,hx,e,rfl⟩:=nW.mp z
   have:=Cs.xF.step r0 hx
   rw[e]at this
   exact⟨k0+1,by omega,this⟩
 ·rcases ms hq with z|rfl
  ·exact J.ng q z
  ·exact ng
 ·have:=J.ma (by simp)
  simp
  omega
 ·have:=J.ma (by simp)
  simp
  omega
def Cs.Min(C:Cs)(w o:D)(n1 m:Nat):Prop:=C.pX w o n1 m/\∀j,j<m->¬C.pX w o n1 j
def Cs.J.min(J:C.J w o n1 M (B++[p]) L m)(e:p.2=n1)(c:C.can w p.1=true):C.Min w o n1 m:=by
 obtain⟨k,k1,r⟩:=J.re p (.inr (by simp))
 refine⟨⟨p.1,k,k1,e▸r,c⟩,fun j hj g=>?_⟩
 obtain⟨s,i,i1,r',c'⟩:=g
 have:=J.ng _ (J.lo s n1 i r' (QVz _) (by omega)) rfl
 rw[c']at this
 cases this
def YL:C.J w o n1 [] [(sI C.ls,0)] [] 0:=by
 refine⟨by simp,fun p hp=>?_,.inr (by simp),fun p hp=>(by cases hp),fun p hp=>(by cases hp),fun p hp=>(by cases hp),fun p hp=>?_,fun p hp=>(by cases hp),fun p hp=>(by cases hp),fun s h k _ _ z=>(by omega),fun _=>(by simp),fun z=>absurd rfl z⟩
 ·rcases hp with z|z|z
  ·cases z
  ·rw[QDz.mp z]
   obtain⟨Z,e⟩:=vP (C:=C)
   exact⟨by rw[e];exact QYz,QIq _⟩
  ·cases z
 ·rcases hp with z|z
  ·cases z
  ·rw[QDz.mp z]
   exact⟨0,QVz _,.nil⟩
end
end Tx
end
section
open PySem Mini
namespace Tx
def Aw{k:Nat}{σ:Ev}{xs:List D}{x:D}(e:σ[k]? =some (.own (.lst (xs++[x]))))(f:fits (xs.length+1)=true):iz k (.int (-1)) σ=.ok (.val x) (σ.set k (.own (.lst xs))):=by
 have i:ix? (xs++[x]).length (-1)=some xs.length:=by
  unfold ix?
  rw[QTq]
  simp only[QBq,List.length_nil,show(-1:Int)<0 by decide,if_true]
  rw[if_pos (by omega)]
  congr 1
  omega
 have g:(xs++[x])[xs.length]? =some x:=by simp
 have er:(xs++[x]).eraseIdx xs.length=xs:=by rw[List.eraseIdx_append_of_length_le (QVz _)];simp
 have lv:aR k σ=some (.lst (xs++[x])):=by rw[yP,e];rfl
 have f':fits (xs++[x]).length=true:=by rw[QTq];exact f
 have tn:cM k (tL fun ys=>some (ys.eraseIdx xs.length)) σ=some (σ.set k (.own (.lst xs))):=by
  simp[e,tL,er]
 unfold iz
 rw[lv]
 simp only[f',Bool.not_true,Qxq,if_false,i,g,tn]
section
variable{C:Cs}{o:D}{n1 m:Nat}{p:Pl}{qw:Str}
def Cs.W_(C:Cs):D:=.lst (C.SS.map C.wy)
def acy{s:St}(hs:s∈C.SS):at? (C.SS.map C.wy) (C.no s:Int)=some (C.wy s):=by
 rw[fc _ _ (by simpa using Uk hs)]
 simp[KY hs]
def X3(K:C.Ok){s:St}(hs:s∈C.SS){x:D}(hx:x∈C.ky s):getD (C.wy s) x=some (C.toD s x):=by
 obtain⟨q,rfl⟩:=fK K hs x hx
 exact qX (C.toD s) (fK K hs) hx
theorem G5(n:Nat)(K:C.Ok)(hs:p.1∈C.SS):
  pg.fn (n+1) 31 [.val C.W_,.val (.str qw),.val (C.pD p)]=.ok (.new (.dct (C.ky p.1) ((C.ky p.1).map fun x=>C.pD (C.pb (.str qw) p x)))) [.val C.W_,.val (.str qw),.val (C.pD p)]:=by
 have aw:=acy hs
 have e1:ev (pg.cf n) AAj [.val C.W_,.val (.str qw),.val (C.pD p),.val (C.wy p.1)]=.ok (.new (.lst ((C.ky p.1).map fun x=>.tup [x,C.pD (C.pb (.str qw) p x)]))) [.val C.W_,.val (.str qw),.val (C.pD p),.val (C.wy p.1)]:=by
  refine pJ (c:=pg.cf n) (r:=.val (C.wy p.1)) (d:=C.wy p.1) (xs:=C.ky p.1) _ (by simp) rfl rfl fun x hx=>?_
  have g:=X3 K hs hx
  obtain⟨q,rfl⟩:=fK K hs x hx
  have ew:=(m5 qw q).1
  cases c:bK (D.str q) (D.str qw)with
  |true=>
   rw[c]at ew
   simp[-eq_str,g,ew,aX,Cs.pD,Cs.pb,Cs.toD,c,bn]
  |false=>
   rw[c]at ew
   simp[-eq_str,g,ew,aX,Cs.pD,Cs.pb,Cs.toD,c,bn]
 have dm:=rT (fun x=>C.pD (C.pb (.str qw) p x)) (C.ky p.1) [] [] (by simpa using fK K hs) (by simpa using Ut K hs)
 have s1:ex (pg.cf n) (.set 3 (.idx (.var 0) AAv)) [.val C.W_,.val (.str qw),.val (C.pD p),.un]=.next [.val C.W_,.val (.str qw),.val (C.pD p),.val (C.wy p.1)]:=by
  simp[Cs.W_,Cs.pD,aw]
 rw[pN]
 simp only[eZ,iI,s1,cF]
 simp[-u9,e1,dm]
def laP:S:=(.set 8 (.pop0 5))
def laG:E:=ABJ
def laN:S:=AAX
def Xf:S:=(.ite ACg (.cons ADH (.cons (.ite laG (.cons (.ret (.var 7)) .nil) .nil) laN)) .nil)
def laC:S:=(.ite (.not AAa) (.cons (.mov 5 6) (.cons ADS (.cons (.aug 7 AAG) .nil))) .nil)
def Es:S:=(.cons laP (.cons Xf (.cons laC .nil)))
noncomputable def laσ(C:Cs)(qw:Str)(o:D)(n1:Nat)(M A L:List Pl)(m:Nat)(s8 s9:Sl):Ev:=
 [.val C.W_,.val (.str qw),.val (.int ((n1:Int)+1)),.val o,.own (C.mO M),.own (.lst (A.map C.pD)),.own (.lst (L.map C.pD)),.val (.int m),s8,s9]
variable{M A B L:List Pl}
def Xe(c:Cf)(s8 s9:Sl):ex c laC (laσ C qw o n1 M A L m s8 s9)=.next (laσ C qw o n1 M (if A.isEmpty then L else A) (if A.isEmpty then []else L) (if A.isEmpty then m+1 else m) s8 s9):=by
 cases A with
 |nil=>simp[laC,laσ,aX]
 |cons a A=>simp[laC,laσ]
def Xc(c:Cf)(s8 s9:Sl)(h8:bB s8)(f:fits (B.length+1)=true):ex c laP (laσ C qw o n1 M (B++[p]) L m s8 s9)=.next (laσ C qw o n1 M B L m (.val (C.pD p)) s9):=by
 have e:(laσ C qw o n1 M (B++[p]) L m s8 s9)[5]? =some (.own (.lst (B.map C.pD++[C.pD p]))):=by simp[laσ]
 have q:=Aw e (by simpa using f)
 have il:cH (aR 5 (laσ C qw o n1 M (B++[p]) L m s8 s9))=true:=by rw[yP,e];rfl
 unfold laP
 rw[afV,ach,il]
 simp only[Bool.not_true,Su,q]
 rcases h8 with rfl|⟨d,rfl⟩<;>simp[laσ,Xl]
def Rn(c:Cf)(s9:Sl)(K:C.Ok)(hs:p.1∈C.SS):ev c laG (laσ C qw o n1 M A L m (.val (C.pD p)) s9)=.ok (.val (.bl (decide (p.2=n1)&&C.can (.str qw) p.1))) (laσ C qw o n1 M A L m (.val (C.pD p)) s9):=by
 have aw:=acy hs
 have sb:(n1:Int)+1-1=n1:=by omega
 have en:((p.2:Int)==(n1:Int))=decide (p.2=n1):=by
  by_cases c:p.2=n1
  ·simp[c]
  ·rw[QEz c];simp;omega
 have ii:aH .isin (.str qw) (C.wy p.1)=some (C.can (.str qw) p.1):=rfl
 cases c:decide (p.2=n1)with
 |false=>
  rw[c]at en
  simp[laG,laσ,Cs.pD,sb,en]
 |true=>
  rw[c]at en
  simp[laG,laσ,Cs.pD,sb,en,Cs.W_,aw,ii]
def Er(n:Nat)(K:C.Ok)(hs:p.1∈C.SS)(ho:S6 o)(s4 s5 s6 s7 s8 s9:Sl)(cm:Cm)(b:Bool)(hcm:∀q,aH cm (.str q) o=some (bK (.str q) o==b))
  (h9:s9=.own (.dct (C.ky p.1) ((C.ky p.1).map fun x=>C.pD (C.pb (.str qw) p x)))\/s9=.val (.cJ (C.ky p.1) ((C.ky p.1).map fun x=>C.pD (C.pb (.str qw) p x)))):
  ev (pg.cf n) (.comp 1 (.name 0) (.var 9) (.cmp cm (.var 0) (.var 4)) (.idx (.var 10) (.var 0))) [.val C.W_,.val (.str qw),.val (.int ((n1:Int)+1)),.val o,s4,s5,s6,s7,s8,s9]=
   .ok (.new (.lst ((C.on (.str qw) o p b).map C.pD))) [.val C.W_,.val (.str qw),.val (.int ((n1:Int)+1)),.val o,s4,s5,s6,s7,s8,.val (.cJ (C.ky p.1) ((C.ky p.1).map fun x=>C.pD (C.pb (.str qw) p x)))]:=by
 have hx':∀x∈C.ky p.1,getD (.cJ (C.ky p.1) ((C.ky p.1).map fun x=>C.pD (C.pb (.str qw) p x))) x=some (C.pD (C.pb (.str qw) p x)):=fun x hx=>by
  obtain⟨q,rfl⟩:=fK K hs x hx
  exact qX (fun x=>C.pD (C.pb (.str qw) p x)) (fK K hs) hx
 have:=rY (c:=pg.cf n) (σ:=[.val C.W_,.val (.str qw),.val (.int ((n1:Int)+1)),.val o,s4,s5,s6,s7,s8,s9]) (τ:=[.val C.W_,.val (.str qw),.val (.int ((n1:Int)+1)),.val o,s4,s5,s6,s7,s8,.val (.cJ (C.ky p.1) ((C.ky p.1).map fun x=>C.pD (C.pb (.str qw) p x)))])
  (it:=.var 9) (co:=.cmp cm (.var 0) (.var 4)) (el:=.idx (.var 10) (.var 0)) (r:=.val (.cJ (C.ky p.1) ((C.ky p.1).map fun x=>C.pD (C.pb (.str qw) p x)))) (d:=.cJ (C.ky p.1) ((C.ky p.1).map fun x=>C.pD (C.pb (.str qw) p x))) (xs:=C.ky p.1)
  (fun x=>C.pD (C.pb (.str qw) p x)) (fun x=>bK x o==b) (by rcases h9 with rfl|rfl<;>simp) rfl rfl (fun x hx=>by
   obtain⟨q,rfl⟩:=fK K hs x hx
   simp[hcm q]) fun x hx _=>by
   have g:=hx' x hx
   simp[g]
 rw[this]
 refine congrArg (fun l=>Out.ok (Rv.new (.lst l)) _) ?_
 rw[Cs.on,List.map_map]
 rfl
def DN{b:Bool}(K:C.Ok)(hs:p.1∈C.SS):(C.on (.str qw) o p b).length<=7:=by
 rw[Cs.on,QAq]
 exact Nat.le_trans (List.length_filter_le _ _) (ae7 K hs)
def Xd(n:Nat)(K:C.Ok)(hs:p.1∈C.SS)(ho:S6 o)(s9:Sl)(h9:bB s9)(hl:A.length+L.length<=4000000):∃s9',bB s9'/\
  ex (pg.cf (n+1)) laN (laσ C qw o n1 M A L m (.val (C.pD p)) s9)=.next (laσ C qw o n1 M (A++C.on (.str qw) o p false) (L++C.on (.str qw) o p true) m (.val (C.pD p)) s9'):=by
 have pk:=G5 (qw:=qw) n K hs
 have l1:=DN (qw:=qw) (o:=o) (b:=false) K hs
 have l2:=DN (qw:=qw) (o:=o) (b:=true) K hs
 have f1:fits (A.length+(C.on (.str qw) o p false).length)=true:=by simp[fits];omega
 have f2:fits (L.length+(C.on (.str qw) o p true).length)=true:=by simp[fits];omega
 have k9:∀(σ:Ev)s,vW 9 σ s (some s9)=some (σ.set 9 s):=fun σ s=>by rcases h9 with rfl|⟨d,rfl⟩<;>rfl
 have c1:=fun s4 s5 s6 s7 s8=>Er (n1:=n1) (n+1) K hs ho s4 s5 s6 s7 s8 _ .ne false (fun q=>by rw[(ho q).2];cases bK (D.str q) o<;>rfl) (.inl rfl) (qw:=qw)
 have c2:=fun s4 s5 s6 s7 s8=>Er (n1:=n1) (n+1) K hs ho s4 s5 s6 s7 s8 _ .eq true (fun q=>by rw[(ho q).1];cases bK (D.str q) o<;>rfl) (.inr rfl) (qw:=qw)
 refine⟨.val (.cJ (C.ky p.1) ((C.ky p.1).map fun x=>C.pD (C.pb (.str qw) p x))),.inr ⟨_,rfl⟩,?_⟩
 simp[-u9,laN,laσ,pk,k9,cH,c1,c2,tL,f1,f2]
def LaQ(C:Cs)(qw:Str)(o:D)(n1:Nat)(fl:Fl):Prop:=
 (∃(m':Nat)(rest:Ev),fl=.ret (.val (.int m')) (.val C.W_:: .val (.str qw):: .val (.int ((n1:Int)+1)):: .val o::rest)/\C.Min (.str qw) o n1 m'/\m'<=512*(n1+1))\/
 (∃rest:Ev,fl=.next (.val C.W_:: .val (.str qw):: .val (.int ((n1:Int)+1)):: .val o::rest)/\∀j,¬C.pX (.str qw) o n1 j)
theorem Lp(n:Nat)(K:C.Ok)(ho:S6 o)(h3:n1<=2):∀(f:Nat)(M A L:List Pl)(m:Nat)(s8 s9:Sl),C.J (.str qw) o n1 M A L m->(A=[]->L=[])->A.length+L.length+16*(512*(n1+1)-M.length)<f->f<=4000000->bB s8->bB s9->
  LaQ C qw o n1 (aZ (ev (pg.cf (n+1)) AAa) (ex (pg.cf (n+1)) Es) f (laσ C qw o n1 M A L m s8 s9))
 |0=>fun M A L m _ _ _ _ hf _ _ _=>by omega
 |f+1=>fun M A L m s8 s9 J hal hf hf4 h8 h9=>by
  have ml:=J.len K
  rcases List.eq_nil_or_concat A with rfl|⟨B,p,rfl⟩
  ·cases hal rfl
   have te:ev (pg.cf (n+1)) AAa (laσ C qw o n1 M [] [] m s8 s9)=.ok (.val (.tup [])) (laσ C qw o n1 M [] [] m s8 s9):=by simp[laσ]
   have z:aZ (ev (pg.cf (n+1)) AAa) (ex (pg.cf (n+1)) Es) (f+1) (laσ C qw o n1 M [] [] m s8 s9)=.next (laσ C qw o n1 M [] [] m s8 s9):=by
    rw[aZ,te]
    rfl
   exact .inr ⟨_,z,J.done⟩
  ·rw[List.concat_eq_append]at J hf⊢
   simp only[QTq,QBq,List.length_nil]at hf
   have te:ev (pg.cf (n+1)) AAa (laσ C qw o n1 M (B++[p]) L m s8 s9)=.ok (.val (.tup ((B++[p]).map C.pD))) (laσ C qw o n1 M (B++[p]) L m s8 s9):=by simp[laσ]
   have wh:∀fl,ex (pg.cf (n+1)) Es (laσ C qw o n1 M (B++[p]) L m s8 s9)=fl->aZ (ev (pg.cf (n+1)) AAa) (ex (pg.cf (n+1)) Es) (f+1) (laσ C qw o n1 M (B++[p]) L m s8 s9)=fl.turn (aZ (ev (pg.cf (n+1)) AAa) (ex (pg.cf (n+1)) Es) f):=fun fl hfl=>by
    have tr:gP (.tup ((B++[p]).map C.pD))=some true:=by simp[gP]
    rw[aZ,te]
    simp only[Out.Iu,RZ,tr,if_true,hfl]
   have pp:=Xc (C:=C) (qw:=qw) (o:=o) (n1:=n1) (M:=M) (B:=B) (p:=p) (L:=L) (m:=m) (pg.cf (n+1)) s8 s9 h8 (by simp[fits];omega)
   obtain⟨ps,pn⟩:=J.ss p (.inr (.inl (by simp)))
   have hM:∀q∈M,q.1∈C.SS:=fun q hq=>(J.ss q (.inl hq)).1
   have ni:=Q4 hM ps
   have chk:∀(M' A' L':List Pl)(s9':Sl),ex (pg.cf (n+1)) Xf (laσ C qw o n1 M B L m (.val (C.pD p)) s9)=.next (laσ C qw o n1 M' A' L' m (.val (C.pD p)) s9')->
     ex (pg.cf (n+1)) Es (laσ C qw o n1 M (B++[p]) L m s8 s9)=.next (laσ C qw o n1 M' (if A'.isEmpty then L' else A') (if A'.isEmpty then []else L') (if A'.isEmpty then m+1 else m) (.val (C.pD p)) s9'):=fun M' A' L' s9' z=>by
    unfold Es
    rw[iI,pp,cF,iI,z,cF,iI,Xe]
    rfl
   have fin:∀(M' A' L':List Pl)(s9':Sl),C.J (.str qw) o n1 M' A' L' m->A'.length+L'.length+16*(512*(n1+1)-M'.length)<f->bB s9'->ex (pg.cf (n+1)) Es (laσ C qw o n1 M (B++[p]) L m s8 s9)=.next (laσ C qw o n1 M' (if A'.isEmpty then L' else A') (if A'.isEmpty then []else L') (if A'.isEmpty then m+1 else m) (.val (C.pD p)) s9')->LaQ C qw o n1 (aZ (ev (pg.cf (n+1)) AAa) (ex (pg.cf (n+1)) Es) (f+1) (laσ C qw o n1 M (B++[p]) L m s8 s9)):=fun M' A' L' s9' J' hm h9' z=>by
    rw[wh _ z,cQ]
    cases A' with
    |nil=>exact Lp n K ho h3 f M' L' [] (m+1) _ s9' J'.up (fun _=>rfl) (by simpa using hm) (by omega) (.inr ⟨_,rfl⟩) h9'
    |cons a A'=>exact Lp n K ho h3 f M' (a::A') L' m _ s9' J' (fun y=>by cases y) hm (by omega) (.inr ⟨_,rfl⟩) h9'
   by_cases hp:p∈M
   ·rw[QFq hp]at ni
    have z:ex (pg.cf (n+1)) Xf (laσ C qw o n1 M B L m (.val (C.pD p)) s9)=.next (laσ C qw o n1 M B L m (.val (C.pD p)) s9):=by
     simp[Xf,laσ,ni]
    exact fin M B L s9 (J.skip hp) (by omega) h9 (chk _ _ _ _ z)
   ·rw[QEz hp]at ni
    have pt:=abi hM ps hp (by simp[fits];omega)
    have s1:∀t,ex (pg.cf (n+1)) (.ite ACg (.cons ADH t) .nil) (laσ C qw o n1 M B L m (.val (C.pD p)) s9)=ex (pg.cf (n+1)) t (laσ C qw o n1 (M++[p]) B L m (.val (C.pD p)) s9):=fun t=>by
     simp[laσ,ni,pt]
    have gg:=Rn (C:=C) (qw:=qw) (o:=o) (n1:=n1) (M:=M++[p]) (A:=B) (L:=L) (m:=m) (pg.cf (n+1)) s9 K ps
    cases g:(decide (p.2=n1)&&C.can (.str qw) p.1)with
    |true=>
     rw[g]at gg
     rw[QUq]at g
     have z:ex (pg.cf (n+1)) Es (laσ C qw o n1 M (B++[p]) L m s8 s9)=.ret (.val (.int m)) (laσ C qw o n1 (M++[p]) B L m (.val (C.pD p)) s9):=by
      unfold Es Xf
      rw[iI,pp,cF,iI,s1,iI,pH,gg,jM,Bk]
      simp[laσ]
     refine .inl ⟨m,_,(wh _ z).trans rfl,J.min (by simpa using g.1) g.2,?_⟩
     have:=J.ma (by simp)
     omega
    |false=>
     rw[g]at gg
     obtain⟨s9',h9',zn⟩:=Xd (M:=M++[p]) (A:=B) (L:=L) (m:=m) (n1:=n1) (qw:=qw) n K ps ho s9 h9 (by omega)
     have z:ex (pg.cf (n+1)) Xf (laσ C qw o n1 M B L m (.val (C.pD p)) s9)=.next (laσ C qw o n1 (M++[p]) (B++C.on (.str qw) o p false) (L++C.on (.str qw) o p true) m (.val (C.pD p)) s9'):=by
      unfold Xf
      rw[s1,iI,pH,gg,jM,wG,R3,cF,zn]
     have J':=J.more K hp fun e=>by
      rw[QFq e,Bool.true_and]at g
      exact g
     have ml':=J'.len K
     have l1:=DN (qw:=qw) (o:=o) (b:=false) K ps
     have l2:=DN (qw:=qw) (o:=o) (b:=true) K ps
     rw[QTq]at ml'
     simp only[QBq,List.length_nil]at ml'
     exact fin _ _ _ s9' J' (by simp only[QTq,QBq,List.length_nil];omega) h9' (chk _ _ _ _ z)
def Cs.Ans(C:Cs)(w o:D)(n1:Nat)(d:D):Prop:=(∃m:Nat,d=.int m/\C.Min w o n1 m/\m<=512*(n1+1))\/(d=.non/\∀j,¬C.pX w o n1 j)
def Lj(n:Nat)(K:C.Ok)(ho:S6 o)(h3:n1<=2):∃d,C.Ans (.str qw) o n1 d/\
  pg.fn (n+2) 30 [.val C.W_,.val (.str qw),.val (.int ((n1:Int)+1)),.val o]=.ok (.val d) [.val C.W_,.val (.str qw),.val (.int ((n1:Int)+1)),.val o]:=by
 have L:=Lp (qw:=qw) n K ho h3 4000000 [] [(sI C.ls,0)] [] 0 .un .un (YL (n1:=n1)) (fun z=>by cases z) (by simp;omega) (QVz _) (.inl rfl) (.inl rfl)
 have hbd:eV=⟨4,10,(.cons (.set 4 .emp) (.cons ACm (.cons ADS (.cons (.set 7 AAH) (.cons (.while_ AAa Es) (.cons (.ret ABQ) .nil))))))⟩:=rfl
 have p0:C.pD (sI C.ls,0)=.tup [.int 0,.int 0]:=by
  obtain⟨Z,e⟩:=vP (C:=C)
  simp[Cs.pD,Cs.no,e]
 have go:∀fl,aZ (ev (pg.cf (n+1)) AAa) (ex (pg.cf (n+1)) Es) 4000000 (laσ C qw o n1 [] [(sI C.ls,0)] [] 0 .un .un)=fl->
   ex (pg.cf (n+1)) eV.body [.val C.W_,.val (.str qw),.val (.int ((n1:Int)+1)),.val o,.un,.un,.un,.un,.un,.un]=fl.seq (ex (pg.cf (n+1)) (.cons (.ret ABQ) .nil)):=fun fl hfl=>by
  have tn:(pg.cf (n+1)).turns=4000000:=rfl
  have hfl':aZ (ev (pg.cf (n+1)) AAa) (ex (pg.cf (n+1)) Es) 4000000 [.val C.W_,.val (.str qw),.val (.int ((n1:Int)+1)),.val o,.own (.dct [] []),.own (.lst [.tup [.int 0,.int 0]]),.own (.lst []),.val (.int 0),.un,.un]=fl:=by
   rw[<-p0]
   exact hfl
  rw[hbd]
  simp[aX,tn,hfl']
 rw[tR]
 rcases L with ⟨m',rest,z,g,b⟩|⟨rest,z,g⟩
 ·exact⟨.int m',.inl ⟨m',rfl,g,b⟩,by rw[go _ z];rfl⟩
 ·exact⟨.non,.inr ⟨rfl,g⟩,by rw[go _ z];rfl⟩
end
end Tx
end
section
open PySem Mini
namespace Tx
section
variable{C:Cs}{n1:Nat}{qw:Str}
def Hc n k a b:pg.fn (n+1) 4 [.val (.int k),.val (.int a),.val (.int b)]=.ok (.val (.bl (decide (a<=k)&&decide (k<=b)))) [.val (.int k),.val (.int a),.val (.int b)]:=by
 rw[pA]
 by_cases c:a<=k<;>simp[gO,c,oF]
def wk(K:C.Ok):∃x xs,C.nm=x::xs:=by
 have l:=dO K.o.h2 K.o.g5
 have:=K.o.g1
 cases e:C.nm with
 |nil=>rw[Cs.nm]at e;rw[e,List.length_nil]at l;omega
 |cons x xs=>exact⟨x,xs,rfl⟩
theorem Hf(n:Nat)(K:C.Ok)(hw:D.str qw∈C.nm)(h3:n1<=2):∃g:D->D,(∀o∈C.nm,C.Ans (.str qw) o n1 (g o))/\
  pg.fn (n+12) 27 [.val C.n,.val C.t,.val (.str qw),.val (.int ((n1:Int)+1))]=.ok (.val (if aU .non (C.nm.map g)then .non else .lst (C.nm.map g))) [.val C.n,.val C.t,.val (.str qw),.val (.int ((n1:Int)+1))]:=by
 have lk:∀o:D,∃d,o∈C.nm->C.Ans (.str qw) o n1 d/\pg.fn (n+11) 30 [.val C.W_,.val (.str qw),.val (.int ((n1:Int)+1)),.val o]=.ok (.val d) [.val C.W_,.val (.str qw),.val (.int ((n1:Int)+1)),.val o]:=fun o=>by
  by_cases h:o∈C.nm
  ·obtain⟨q,rfl⟩:=bw C.h C.g o h
   obtain⟨d,a,b⟩:=Lj (n1:=n1) (qw:=qw) (n+9) K (m5 q) h3
   exact⟨d,fun _=>⟨a,b⟩⟩
  ·exact⟨.non,fun z=>absurd z h⟩
 obtain⟨g,hg⟩:=Classical.skolem.mp lk
 refine⟨g,fun o ho=>(hg o ho).1,?_⟩
 have ck:=K.checked (n+2)
 have wn:pg.fn (n+11) 13 [.val C.n]=.ok (.new (.lst C.nm)) [.val C.n]:=
  dD (n+10) (hd C.h) (cL C.g) C.ks (.tup (C.ls.map .bl)) (by rw[K.o.kl,cX K.o.g5]) (by rw[gf K.o.h2,cX K.o.g5];have:=K.o.h2;have:=K.o.g5;omega)
 have iw:=gb (n+10) (.inr rfl) (bw C.h C.g) hw
 have nu:=Hc (n+10) ((n1:Int)+1) 1 20
 rw[QFq (by omega:(1:Int)<=(n1:Int)+1),QFq (by omega:(n1:Int)+1<=20)]at nu
 have wo:=zX n K
 obtain⟨x0,xs,e0⟩:=wk K
 have cp:ev (pg.cf (n+11)) ABr [.val C.n,.val C.t,.val (.str qw),.val (.int ((n1:Int)+1)),.val (.lst C.nm),.own (.lst (C.SS.map C.wy)),.un]=.ok (.new (.lst (C.nm.map g))) [.val C.n,.val C.t,.val (.str qw),.val (.int ((n1:Int)+1)),.val (.lst C.nm),.val C.W_,.un]:=by
  have el:∀x∈C.nm,∀sl,(sl=.own (.lst (C.SS.map C.wy))\/sl=.val C.W_)->∃r,r.gK=some (g x)/\ev (pg.cf (n+11)) (.call 30 AAl) [.val x,.val C.n,.val C.t,.val (.str qw),.val (.int ((n1:Int)+1)),.val (.lst C.nm),sl,.un]=.ok r [.val x,.val C.n,.val C.t,.val (.str qw),.val (.int ((n1:Int)+1)),.val (.lst C.nm),.val C.W_,.un]:=fun x hx sl h=>by
   have l:=(hg x hx).2
   have od:D.lst (C.SS.map C.wy)=C.W_:=rfl
   refine⟨.val (g x),rfl,?_⟩
   rcases h with rfl|rfl<;>simp[od,l]
  have:=UV (c:=pg.cf (n+11)) (σ:=[.val C.n,.val C.t,.val (.str qw),.val (.int ((n1:Int)+1)),.val (.lst C.nm),.own (.lst (C.SS.map C.wy)),.un]) (τ0:=[.val C.n,.val C.t,.val (.str qw),.val (.int ((n1:Int)+1)),.val (.lst C.nm),.own (.lst (C.SS.map C.wy)),.un]) (τ:=[.val C.n,.val C.t,.val (.str qw),.val (.int ((n1:Int)+1)),.val (.lst C.nm),.val C.W_,.un])
   (it:=.var 4) (el:=.call 30 AAl) (r:=.val (.lst C.nm)) (d:=.lst C.nm) (x0:=x0) (xs:=xs) g (by simp) rfl (by rw[e0];rfl) (el x0 (by rw[e0];exact QYz) _ (.inl rfl)) fun x hx=>el x (by rw[e0];exact QYq _ hx) _ (.inr rfl)
  rw[this,<-e0]
 have io:∀xs:List D,(∀x∈xs,x∈C.nm)->(xs.map g).all flat=true:=fun xs h=>by
  rw[List.all_eq_true]
  intro d hd
  obtain⟨x,hx,rfl⟩:=QDq.mp hd
  rcases (hg x (h x hx)).1 with ⟨m,e,_⟩|⟨e,_⟩<;>rw[e]<;>rfl
 have ci:aH .isin .non (.lst (C.nm.map g))=some (aU .non (C.nm.map g)):=by
  show(if eU .non (C.nm.map g)then _ else none)=_
  have:eU .non (C.nm.map g)=true:=by unfold eU;rw[io _ fun x h=>h];rfl
  rw[this]
  rfl
 have g9:(pg.cf (n+11)).gl 9=some (.int 20):=rfl
 have hb:sU=⟨4,7,(.cons ACd (.cons (.set 4 ACU) (.cons (.ite ADY ABc .nil) (.cons (.ite ACV ABc .nil) (.cons (.set 5 (.call 28 ABS)) (.cons (.set 6 ABr) (.cons (.ret (.ite (.cmp .isin ABQ (.var 6)) ABQ (.var 6))) .nil)))))))⟩:=rfl
 rw[JZ,hb]
 cases c:aU .non (C.nm.map g)with
 |true=>
  rw[c]at ci
  simp[-u9,ck,wn,iw,g9,nu,wo,cp,ci]
 |false=>
  rw[c]at ci
  simp[-u9,ck,wn,iw,g9,nu,wo,cp,ci]
def lbA:E:=ABW
def lbC:S:=(.cons (.ite ABO AAP (.cons (.ite AAt AAP .nil) .nil)) .nil)
noncomputable def lbB:S:=(.cons (.ite lbA AAP .nil) (.cons (.ite (.cmp .eq (.var 7) (.var 4)) (.cons (.ite ADM AAP .nil) .nil) lbC) .nil))
noncomputable def lbσ(ns:List Int)(C:Cs)(qw:Str)(n1:Nat)(s3:Sl)(d6:D)(s7 s8:Sl):Ev:=
 [.val (.lst (ns.map .int)),.val C.n,.val C.t,s3,.val (.str qw),.val (.int ((n1:Int)+1)),.val d6,s7,s8]
def bdd(h3:n1<=2){m:Nat}(h:m<=512*(n1+1)):512*((n1+1)*(m+1))+7<4000000:=by
 have:(n1+1)*(m+1)<=3*1537:=Nat.mul_le_mul (by omega) (by omega)
 omega
def Rk(n:Nat)(ns:List Int)(K:C.Ok)(h3:n1<=2)(s3:Sl)(d6:D){x:D}(hx:x∈C.nm){m:Nat}(hm:C.Min (.str qw) x n1 m)(hb:m<=512*(n1+1)):
  ex (pg.cf (n+5)) lbB (lbσ ns C qw n1 s3 d6 (.val x) (.val (.int m)))=.next (lbσ ns C qw n1 s3 d6 (.val x) (.val (.int m))):=by
 obtain⟨q,rfl⟩:=bw C.h C.g x hx
 have m0:¬(m:Int)<0:=by omega
 have a1:ev (pg.cf (n+5)) lbA (lbσ ns C qw n1 s3 d6 (.val (.str q)) (.val (.int m)))=.ok (.val (.bl false)) (lbσ ns C qw n1 s3 d6 (.val (.str q)) (.val (.int m))):=by
  simp[lbA,lbσ,oF]
 unfold lbB
 rw[iI,pH,a1,jM,wG,R3,cF,iI]
 by_cases e:q=qw
 ·subst e
  have mn:m=n1:=by
   obtain⟨⟨s,k,k1,r,c⟩,lo⟩:=hm
   have:k=n1:=JQ r
   subst this
   by_cases z:m=k
   ·exact z
   ·exact absurd ⟨s,k,QVz _,r,c⟩ (lo k (by omega))
  subst mn
  have sb:(m:Int)+1-1=m:=by omega
  simp[lbσ,sb]
 ·obtain⟨b1,i1,c1⟩:=rZ (o:=.str q) (n1:=n1) (m:=m) n K qw (m5 q) (bdd h3 hb)
  have b1t:b1=true:=i1.mpr hm.1
  subst b1t
  by_cases z:m=0
  ·subst z
   have c1':pg.fn (n+5) 50 [.val C.n,.val C.t,.val (.str qw),.val (.int ((n1:Int)+1)),.val (.str q),.val (.int 0)]=_:=c1
   simp[lbC,lbσ,e,c1']
  ·obtain⟨b2,i2,c2⟩:=rZ (o:=.str q) (n1:=n1) (m:=m-1) n K qw (m5 q) (bdd h3 (by omega))
   have b2f:b2=false:=by
    cases b2 with
    |false=>rfl
    |true=>exact absurd (i2.mp rfl) (hm.2 (m-1) (by omega))
   subst b2f
   have mm:(m:Int)-1=((m-1:Nat):Int):=by omega
   have mp:0<m:=by omega
   simp[lbC,lbσ,e,c1,mm,c2,mp]
theorem Us(n:Nat)(ns:List Int)(K:C.Ok)(h3:n1<=2)(s3:Sl)(d6:D){g:D->D}:∀(L:List D)(s7 s8:Sl),(∀x∈L,x∈C.nm/\∃m:Nat,g x=.int m/\C.Min (.str qw) x n1 m/\m<=512*(n1+1))->bB s7->bB s8->
  ∃s7' s8',bI (.tup [7,8]) (ex (pg.cf (n+5)) lbB) (aQ L (L.map g)) (lbσ ns C qw n1 s3 d6 s7 s8)=.next (lbσ ns C qw n1 s3 d6 s7' s8')
 |[]=>fun s7 s8 _ _ _=>⟨s7,s8,by simp[aQ,bI]⟩
 |x::L=>fun s7 s8 h h7 h8=>by
  obtain⟨hx,m,e,hm,hb⟩:=h x QYz
  obtain⟨a,b,z⟩:=Us n ns K h3 s3 d6 (g:=g) L (.val x) (.val (.int m)) (fun y hy=>h y (QYq _ hy)) (.inr ⟨_,rfl⟩) (.inr ⟨_,rfl⟩)
  have t:=Rk (qw:=qw) n ns K h3 s3 d6 hx hm hb
  refine⟨a,b,?_⟩
  have st:bV (.tup [7,8]) (.tup [x,.int m]) (lbσ ns C qw n1 s3 d6 s7 s8)=some (lbσ ns C qw n1 s3 d6 (.val x) (.val (.int m))):=by
   rcases h7 with rfl|⟨d,rfl⟩<;>rcases h8 with rfl|⟨d,rfl⟩<;>simp[bV,gU,lbσ]
  rw[Qyz,e,aQ,bI,st]
  simp only[t,cQ,z]
theorem Mh{g:D->D}:∀{L:List D},(∀x∈L,∃m:Nat,g x=.int m)->aU .non (L.map g)=false
 |[]=>fun _=>rfl
 |x::L=>fun h=>by
  obtain⟨m,e⟩:=h x QYz
  rw[Qyz,aU,e,Mh fun y hy=>h y (QYq _ hy)]
  rfl
noncomputable def lwR:S:=(.cons (.ite (.not (.call 50 (.cons (.var 1) (.cons (.var 2) (.cons (.var 4) (.cons (.var 5) (.cons ABQ AAw))))))) (.cons (.ret (.cmp .jL (.var 6) ABQ)) .nil) .nil) (.cons (.ite ABZ AAP .nil) (.cons (.for_ (.tup [7,8]) (.zip (.var 3) (.var 6)) lbB) ACZ)))
theorem W7(n:Nat)(ns:List Int)(K:C.Ok)(h3:n1<=2){g:D->D}(hg:∀o∈C.nm,C.Ans (.str qw) o n1 (g o)):
  ∃σ,ex (pg.cf (n+5)) lwR (lbσ ns C qw n1 (.own (.lst C.nm)) (if aU .non (C.nm.map g)then .non else .lst (C.nm.map g)) .un .un)=.ret (.val (.bl true)) σ:=by
 obtain⟨b,i,c⟩:=rZ (o:=.non) (n1:=n1) (m:=0) n K qw R5 (bdd h3 (QIq _))
 have c':pg.fn (n+5) 50 [.val C.n,.val C.t,.val (.str qw),.val (.int ((n1:Int)+1)),.val .non,.val (.int 0)]=.ok (.val (.bl b)) [.val C.n,.val C.t,.val (.str qw),.val (.int ((n1:Int)+1)),.val .non,.val (.int 0)]:=c
 have all:∀o m,C.pX (.str qw) o n1 m->b=true:=fun o m z=>by
  obtain⟨m',s,k,k1,r,c⟩:=rF .non z
  exact i.mpr ⟨s,k,by rw[JR K r];exact QVz _,r,c⟩
 cases b with
 |false=>
  obtain⟨x0,xs,e0⟩:=wk K
  have inn:aU .non (C.nm.map g)=true:=by
   rw[e0,Qyz,aU]
   rcases hg x0 (by rw[e0];exact QYz)with ⟨m,_,hm,_⟩|⟨e,_⟩
   ·exact absurd (all _ _ hm.1) (by decide)
   ·rw[e];rfl
  rw[inn]
  exact⟨_,by simp[lwR,lbσ,c'];rfl⟩
 |true=>
  have gl:=i.mp rfl
  have ms:∀x∈C.nm,∃m:Nat,g x=.int m/\C.Min (.str qw) x n1 m/\m<=512*(n1+1):=fun x hx=>by
   rcases hg x hx with h|⟨_,h⟩
   ·exact h
   ·obtain⟨m',z⟩:=rF x gl
    exact absurd z (h m')
  have inn:aU .non (C.nm.map g)=false:=Mh fun x hx=>let ⟨m,e,_⟩:=ms x hx;⟨m,e⟩
  rw[inn]
  obtain⟨a,b,z⟩:=Us (qw:=qw) n ns K h3 (.val (.lst C.nm)) (.lst (C.nm.map g)) C.nm .un .un (fun x hx=>⟨hx,ms x hx⟩) (.inl rfl) (.inl rfl)
  have z':bI (.tup [7,8]) (ex (pg.cf (n+5)) lbB) (aQ C.nm (C.nm.map g)) [.val (.lst (ns.map .int)),.val C.n,.val C.t,.val (.lst C.nm),.val (.str qw),.val (.int ((n1:Int)+1)),.val (.lst (C.nm.map g)),.un,.un]=_:=z
  exact⟨_,by simp[lwR,lbσ,c',oF,items,z'];rfl⟩
def math(ns:List Int)(hl:ns.length<=63):∃qs,pg.fn 60 51 [.val (.lst (ns.map .int))]=.ok (.val (.bl true)) qs:=by
 obtain⟨C,K,e'⟩:=Sh 50 ns 3 (by omega)
 have wn:pg.fn 59 45 [.val C.n]=.ok (.new (.lst C.nm)) [.val C.n]:=lN 58 K.o
 obtain⟨x0,xs,e0⟩:=wk K
 have lp:0<C.nm.length:=by rw[e0];simp
 obtain⟨r,r0,r1,er⟩:=qU 57 ns 0 (C.nm.length:Int) (by omega) (by omega)
 obtain⟨j,rfl⟩:∃j:Nat,r=j:=⟨r.toNat,by omega⟩
 have jl:j<C.nm.length:=by omega
 obtain⟨w,ew⟩:∃w,C.nm[j]? =some w:=⟨_,QXq jl⟩
 have aw:at? C.nm (j:Int)=some w:=by rw[fc _ _ jl,ew]
 have wm:=QBz ew
 obtain⟨qw,rfl⟩:=bw C.h C.g w wm
 obtain⟨t,t0,t1,et⟩:=qU 57 ns 1 3 (by omega) (by omega)
 obtain⟨n1,rfl⟩:∃n1:Nat,t=n1:=⟨t.toNat,by omega⟩
 have h3:n1<=2:=by omega
 obtain⟨g,hg,ne⟩:=Hf (n1:=n1) 47 K wm h3
 obtain⟨σ,le⟩:=W7 (qw:=qw) 54 ns K h3 hg
 have hb:NB=⟨1,9,(.cons ABt (.cons ADJ (.cons AAp (.cons ABL (.cons AAu lwR)))))⟩:=rfl
 have st1:∀t,ex (pg.cf 59) (.cons ABt t) [.val (.lst (ns.map .int)),.un,.un,.un,.un,.un,.un,.un,.un]=ex (pg.cf 59) t [.val (.lst (ns.map .int)),.val C.n,.val C.t,.un,.un,.un,.un,.un,.un]:=fun t=>by
  simp[e',bV,gU]
 have s1:((1:Int)+(n1:Int))=(n1:Int)+1:=by omega
 have st2:∀t,ex (pg.cf 59) (.cons ADJ (.cons AAp (.cons ABL t))) [.val (.lst (ns.map .int)),.val C.n,.val C.t,.un,.un,.un,.un,.un,.un]=ex (pg.cf 59) t [.val (.lst (ns.map .int)),.val C.n,.val C.t,.own (.lst C.nm),.val (.str qw),.val (.int ((n1:Int)+1)),.un,.un,.un]:=fun t=>by
  simp[wn,er,aw,et,s1]
 have st3:∀t,ex (pg.cf 59) (.cons AAu t) [.val (.lst (ns.map .int)),.val C.n,.val C.t,.own (.lst C.nm),.val (.str qw),.val (.int ((n1:Int)+1)),.un,.un,.un]=ex (pg.cf 59) t (lbσ ns C qw n1 (.own (.lst C.nm)) (if aU .non (C.nm.map g)then .non else .lst (C.nm.map g)) .un .un):=fun t=>by
  simp[ne,lbσ]
 rw[show(60:Nat)=59+1 from rfl,aa2,hb]
 simp only[st1,st2,st3,le]
 exact⟨_,rfl⟩
end
end Tx
end
namespace Tx
open PySem PySem.W L2 Mini
def bM{K:QQq}{x:Str}{st:Stmt}(m:Value)(f c:Addr)(a:PySem.W.nsIn K mainGlobals x=some (some (.ref f)):=by kernel_rfl)(l:K.lookup f=some (fO x st m c):=by kernel_rfl)(q:PySem.W.codeIn K (.ref c) x=true:=by kernel_rfl):Oq K x st:=Mini.dIn a l q (by unfold PySem.W.keepIn;dsimp only;rw[l];rfl)
end Tx
open PySem PySem.W PyProof.Rows
theorem PySem.Challenge.cw_anywait_k19_needed_holds : PySem.Challenge.rw_anywait_k19_needed.Holds := by
 w_on
 refine PySem.W.holds_law Tx.w0w fun said => ?_
 refine PySem.W.holds_open (q := Tx.qV) (loose := Tx.lo) (Xt := fun s => recOk [] s) (XP := fun _ _ => True) (Yf := Hook.obs Tx.Kh) (Ya := Hook.val Tx.Kh) (YP := Hook.says Tx.Kh) (N := 5538) Tx.hl (Hook.of Tx.Kh) (Hook.keeps Tx.Kh) (fun _ _ => trivial) (fun _ _ _ _ _ => trivial) (by rfl) (by rfl) (by rfl) (fun s e => recFacts_of e) (by rfl) said (by decide +kernel) ⟨rfl, rfl, rfl, rfl, rfl, by decide +kernel⟩ ?hw ?hc
 case hw => w_witness2
 case hc =>
  refine Mini.Ja (p := Tx.pg) (L := 51) (y := "_law_script") (l := PySem.Challenge.rw_anywait_k19_needed) rfl rfl (fun w h Y => PySem.W.kIn_of Y) Tx.math ?qF
  intro w mg fa h KX G hmg
  refine Mini.SJ (dL := Tx.d51) KX G hmg rfl rfl rfl Tx.bd Tx.scp Tx.nC ?qA ?qB ?qZ
  case qA =>
   show Mini.AllIn _ Tx.nms
   exact ⟨Tx.bM Tx.j6 83 82, Tx.bM Tx.j6 88 87, Tx.bM Tx.j6 93 92, Tx.bM Tx.j6 100 99, Tx.bM Tx.j6 107 106, Tx.bM Tx.j6 112 111, Tx.bM Tx.j6 117 116, Tx.bM Tx.j6 122 121, Tx.bM Tx.j6 129 128, Tx.bM Tx.j6 134 133, Tx.bM Tx.j6 139 138, Tx.bM Tx.j6 146 145, Tx.bM Tx.j6 153 152, Tx.bM Tx.j6 158 157, Tx.bM Tx.j6 163 162, Tx.bM Tx.j6 168 167, Tx.bM Tx.j6 175 174, Tx.bM Tx.Zh 182 181, Tx.bM Tx.Zh 187 186, Tx.bM Tx.Zh 192 191, Tx.bM Tx.DW 199 198, Tx.bM Tx.DW 206 205, Tx.bM Tx.DW 211 210, Tx.bM Tx.DW 218 217, Tx.bM Tx.DW 225 224, Tx.bM Tx.DW 230 229, Tx.bM Tx.DW 237 236, Tx.bM Tx.O3 242 241, Tx.bM Tx.O3 247 246, Tx.bM Tx.O3 252 251, Tx.bM Tx.O3 257 256, Tx.bM Tx.O3 262 261, Tx.bM Tx.iM 269 268, Tx.bM Tx.iM 276 275, Tx.bM Tx.iM 283 282, Tx.bM Tx.iM 290 289, Tx.bM Tx.iM 295 294, Tx.bM Tx.iM 302 301, Tx.bM Tx.iM 307 306, Tx.bM Tx.iM 312 311, Tx.bM Tx.iM 317 316, Tx.bM Tx.iM 324 323, Tx.bM Tx.iM 331 330, Tx.bM Tx.iM 336 335, Tx.bM Tx.iM 343 342, Tx.bM Tx.iM 348 347, Tx.bM Tx.iM 353 352, Tx.bM Tx.iM 358 357, Tx.bM Tx.iM 363 362, Tx.bM Tx.iM 368 367, Tx.bM Tx.iM 375 374, Tx.bM Tx.iM 382 381, trivial⟩
  case qB => exact ⟨.v (u := .str "abcdefghijklmnopqrstuvwxyz" 273) (by kernel_rfl) (by decide +kernel), .v (u := .int 6 275) (by kernel_rfl) (by decide +kernel), .t (a := 76) (o := Tx.o76) (by kernel_rfl) (by kernel_rfl) (by decide +kernel), .v (u := .int 3 292) (by kernel_rfl) (by decide +kernel), .v (u := .int 5 294) (by kernel_rfl) (by decide +kernel), .v (u := .int 4 296) (by kernel_rfl) (by decide +kernel), .v (u := .int 8 298) (by kernel_rfl) (by decide +kernel), .v (u := .int 3 300) (by kernel_rfl) (by decide +kernel), .v (u := .int 12 428) (by kernel_rfl) (by decide +kernel), .v (u := .int 20 516) (by kernel_rfl) (by decide +kernel), trivial⟩
  case qZ => exact ⟨by kernel_rfl, by kernel_rfl, by kernel_rfl, by kernel_rfl, by kernel_rfl, by kernel_rfl, by kernel_rfl, by kernel_rfl, by kernel_rfl, by kernel_rfl, by kernel_rfl, by kernel_rfl, by kernel_rfl, by kernel_rfl, trivial⟩