import PyProof.Rows.All
import Wide.All
import OpenK.AllK
import Wide.FinOn
import PySem.Syntax
import Lean
import PyProof.EqAt
import PyProof.EqKinds
import PyProof.TupleCall
import PyProof.TupleKey
import PyProof.DictRoadsH
import PyProof.P3Eq
import Wide.Seal
import KE.KDictList
import KE.KSortAsk
import PyProof.ListMulAny
import PyProof.FactsAll.tuple_2
import PyProof.NeData
import PyProof.P3In
import PyProof.CompFree
import KE.KMinKey
import KE.KBoundM
import KE.KSuperObj
import PyProof.Rows.CallKwBuiltin
import PySem.Challenge.RW_anywait_k18_whole_ring
set_option linter.all false
set_option Elab.async false
set_option maxRecDepth 100000
set_option maxHeartbeats 0
set_option compiler.extract_closed false
set_option bootstrap.genMatcherCode false
abbrev QQq:=PySem.W.Frag
abbrev QQz:=List (PySem.Addr×PySem.Obj)
abbrev QZq:=PySem.Value→PySem.Shared→Prop
abbrev QZz:=PySem.Str→Option PySem.Value
def QJq:=@Option.bind_eq_some_iff
def QJz:=@Option.map_eq_some_iff
def QYq:=@List.mem_cons_of_mem
def QYz:=@List.mem_cons_self
def QXq:=@List.getElem?_eq_getElem
def QXz:=@List.mem_append
def QWq:=@PySem.Heap.get?_push_of_some
def QWz:=@List.mem_append_left
def QVq:=@List.mem_append_right
def QVz:=@Nat.le_refl
def QUq:=@Bool.and_eq_true
def QUz:=@decide_eq_true_eq
def QTq:=@List.length_append
def QTz:=@List.mem_map_of_mem
def QKq:=@PySem.wpAny_bind
def QKz:=@PySem.wpAny_pure
def QGq:=@PySem.wpAny_mono
def QGz:=@PySem.wpAny_field
def Qqq:=@PySem.wpAny_holding
def Qqz:=@PySem.Heap.lt_size
def Qzq:=@PySem.Heap.get?_push_size
def Qzz:=@PySem.wpAny_call_entry
def Qjq:=@PySem.wpAny_newObj_type
def Qjz:=@Bool.false_ne_true
def Qyq:=@List.size_toArray
def Qyz:=@List.map_cons
def Qxq:=@Bool.false_eq_true
def Qxz:=@List.getElem?_set_ne
def Qwq:=@List.getElem?_set_self
def Qwz:=@List.getElem?_append_left
def Qvq:=@Nat.lt_of_lt_of_le
def Qvz:=@Nat.ne_of_lt
def QAq:=@List.length_map
def QAz:=@List.not_mem_nil
def QBq:=@List.length_cons
def QBz:=@List.mem_of_getElem?
def QCq:=@List.mem_cons
def QCz:=@List.getElem?_eq_some_iff
def QDq:=@List.mem_map
def QDz:=@List.mem_singleton
def QEq:=@Option.some.inj
def QEz:=@decide_eq_false
def QFq:=@decide_eq_true
def QFz:=@List.getElem?_map
def QHq:=@Option.bind_some
def QHz:=@List.lookup_cons
def QIq:=@Nat.zero_le
def QIz:=@List.getElem?_append_right
def QLq:=@List.cons_append
noncomputable section
section
namespace L2
open PySem
noncomputable def dg(s:Stmt):Arguments:=match s with
 |.FunctionDef _ a _ _ _ _ _ _ _ _=>a
 |_=>{posonlyargs:=[],args:=[],vararg:=none,kwonlyargs:=[],kw_defaults:=[],kwarg:=none,defaults:=[]}
def bY(s:Stmt):List Stmt:=match s with
 |.FunctionDef _ _ b _ _ _ _ _ _ _=>b
 |_=>[]
noncomputable def aj(s:Stmt):Scope:=match s with
 |.FunctionDef _ _ _ _ _ _ sc _ _ _=>sc
 |_=>{kind:=.function,names:=[],isGenerator:=false,isCoroutine:=false}
end L2
end
section
namespace Tx
open PySem PySem.W L2 PyProof.Rows
theorem w0w:PySem.Challenge.rw_anywait_k18_whole_ring.wellSaid=true:=by kernel_rfl
noncomputable def top(i:Nat):Stmt:=PySem.Challenge.pw_anywait_k18_whole_ring.main.body.getD i (.Pass ⟨0,0,0,0⟩)
abbrev s0:Stmt:=top 15
abbrev s1:Stmt:=top 16
abbrev s2:Stmt:=top 17
abbrev s3:Stmt:=top 18
abbrev s4:Stmt:=top 19
abbrev s5:Stmt:=top 20
abbrev s6:Stmt:=top 21
abbrev s7:Stmt:=top 22
abbrev s8:Stmt:=top 23
abbrev s9:Stmt:=top 24
abbrev s10:Stmt:=top 25
abbrev s11:Stmt:=top 26
abbrev s12:Stmt:=top 27
abbrev s13:Stmt:=top 28
abbrev s14:Stmt:=top 29
abbrev s15:Stmt:=top 30
abbrev s16:Stmt:=top 31
abbrev s17:Stmt:=top 34
abbrev s18:Stmt:=top 35
abbrev s19:Stmt:=top 36
abbrev s20:Stmt:=top 38
abbrev s21:Stmt:=top 39
abbrev s22:Stmt:=top 40
abbrev s23:Stmt:=top 41
abbrev s24:Stmt:=top 42
abbrev s25:Stmt:=top 43
abbrev s26:Stmt:=top 44
abbrev s27:Stmt:=top 45
abbrev s28:Stmt:=top 47
abbrev s29:Stmt:=top 48
abbrev s30:Stmt:=top 49
abbrev s31:Stmt:=top 50
abbrev s32:Stmt:=top 54
abbrev s33:Stmt:=top 55
abbrev s34:Stmt:=top 56
abbrev s35:Stmt:=top 57
abbrev s36:Stmt:=top 60
abbrev s37:Stmt:=top 61
abbrev s38:Stmt:=top 62
abbrev s39:Stmt:=top 63
abbrev s40:Stmt:=top 64
abbrev s41:Stmt:=top 53
noncomputable def top2(j:Nat):Stmt:=match top 58 with|.ClassDef _ _ _ b _ _ _ _ _ _ _=>b.getD j (.Pass ⟨0,0,0,0⟩)|s=>s
abbrev s90:Stmt:=top2 0
abbrev s91:Stmt:=top2 1
abbrev s92:Stmt:=top2 2
abbrev s93:Stmt:=top2 3
def gE(P:Params)(x:Str)(i:Nat)(v:Value):DictEntry:=⟨PyData.keyHash P x,.str x i,v⟩
noncomputable def fO(x:Str)(st:Stmt)(m:Value)(c:Addr):Obj:=⟨.type "function",none,.func (PySem.W.fnOf x x (dg st) (bY st) (aj st) .none .none .none m none (.ref c) .none), #[]⟩
noncomputable def fQ0(x q:Str)(st:Stmt)(m:Value)(c:Addr):Obj:=⟨.type "function",none,.func (PySem.W.fnOf x q (dg st) (bY st) (aj st) .none .none .none m none (.ref c) .none), #[]⟩
noncomputable def cQ(x y:Str)(a:Nat)(l n:Int)(r s:Nat)(u v:Value)(t:Nat)(q:Int)(z:Nat):Obj:=⟨.type "code",none,.fields #[.str x a,.str y (a+1),.str "/claim/cut.py" (a+2),.int l 0,.int n 0,.int 0 0,.int 0 0,.int 3 0,.ref r,.bool true,.int 181 0,.ref s,.none,u,v,.ref t,.int q 0,.int l 0,.str "/claim/cut.py" z], #[]⟩
noncomputable def cO(x:Str)(a:Nat)(l n:Int)(r s:Nat)(u v:Value)(t:Nat)(q:Int)(z:Nat):Obj:=⟨.type "code",none,.fields #[.str x a,.str x (a+1),.str "/claim/cut.py" (a+2),.int l 0,.int n 0,.int 0 0,.int 0 0,.int 3 0,.ref r,.bool true,.int 181 0,.ref s,.none,u,v,.ref t,.int q 0,.int l 0,.str "/claim/cut.py" z], #[]⟩
def VR:Value:=.str "anywait.faults" 514
def lR:Value:=.str "anywait.nets" 262
def BL:Value:=.str "anywait.stands" 441
def mo3:Value:=.str "anywait.talks" 417
def yE:Value:=.str "anywait.waits" 559
def Q5:Value:=.str "law_anywait_k18_whole_ring" 668
noncomputable def o71:Obj:=⟨.type "tuple",none,.seq #[.str "input" 268,.str "gate" 269,.str "start" 270,.str "out" 271,.str "state" 272,.str "same" 273,.str "not" 274,.str "and" 275,.str "or" 276,.str "both" 277,.str "held" 278,.str "table" 279,.str "on" 280,.str "off" 281], #[]⟩
noncomputable def Kf(P:Params):QQq:=[(3,⟨.type "dict",none,.dict #[gE P "__name__" 165 (.str "law_anywait_k18_whole_ring" 668),gE P "__doc__" 166 .none,gE P "__package__" 167 .none,gE P "__loader__" 168 (.builtin "__main__.__loader__#opaque"),gE P "__spec__" 169 .none,gE P "__annotations__" 170 (.ref 6),gE P "__builtins__" 171 (.ref 4),gE P "__file__" 173 (.str "/claim/cut.py" 172),gE P "__cached__" 174 .none,gE P "_wall" 193 (.ref 21),gE P "WaitError" 213 (.ref 31),gE P "NoNet" 229 (.ref 44),gE P "NoTalk" 245 (.ref 56),gE P "NoWaits" 261 (.ref 68),gE P "LETTERS" 265 (.str "abcdefghijklmnopqrstuvwxyz" 264),gE P "LONGEST_NAME" 267 (.int 6 266),gE P "WORDS" 282 (.ref 71),gE P "MOST_INPUTS" 284 (.int 3 283),gE P "MOST_GATES" 286 (.int 5 285),gE P "MOST_WIRES" 288 (.int 4 287),gE P "MOST_TABLE_WIRES" 290 (.int 8 289),gE P "DEEPEST_HELD" 292 (.int 3 291),gE P "checked" 299 (.ref 78),gE P "is_net" 305 (.ref 83),gE P "has_parts" 311 (.ref 88),gE P "is_tuple" 320 (.ref 95),gE P "is_number" 329 (.ref 102),gE P "is_name" 335 (.ref 107),gE P "are_unlike" 341 (.ref 112),gE P "is_row" 347 (.ref 117),gE P "is_wire" 355 (.ref 124),gE P "are_wires" 361 (.ref 129),gE P "are_rows" 367 (.ref 134),gE P "is_kind" 378 (.ref 141),gE P "is_held" 387 (.ref 148),gE P "wire_names" 393 (.ref 153),gE P "waiting_gates" 399 (.ref 158),gE P "told" 405 (.ref 163),gE P "told_held" 416 (.ref 170),gE P "MOST_STATES" 420 (.int 12 419),gE P "checked_talk" 428 (.ref 177),gE P "is_talk" 434 (.ref 182),gE P "is_state" 440 (.ref 187),gE P "steps" 451 (.ref 194),gE P "stands" 461 (.ref 201),gE P "first_stand" 468 (.ref 208),gE P "steps_at" 474 (.ref 213),gE P "is_unasked" 483 (.ref 220),gE P "led_to" 494 (.ref 227),gE P "changed" 500 (.ref 232),gE P "newly_met" 513 (.ref 239),gE P "fault" 526 (.ref 246),gE P "fault_at" 539 (.ref 253),gE P "has_out" 545 (.ref 258),gE P "fault_of_step" 558 (.ref 265),gE P "LONGEST_WAIT" 562 (.int 99 561),gE P "pace" 574 (.ref 272),gE P "check_waits" 580 (.ref 277),gE P "since_when" 586 (.ref 282),gE P "round_from" 592 (.ref 287),gE P "time_behind" 600 (.ref 294),gE P "Going" 667 (.ref 337),gE P "_law_cell_at" 677 (.ref 348),gE P "_law_mixed" 687 (.ref 355),gE P "_law_next" 696 (.ref 362),gE P "_law_ring" 702 (.ref 367),gE P "law" 708 (.ref 372)] 67, #[]⟩),
 (78,fO "checked" s0 lR 77),
 (77,cO "checked" 293 22 1 72 73 (.ref 74) (.ref 75) 76 297 298),
 (83,fO "is_net" s1 lR 82),
 (82,cO "is_net" 300 26 1 79 80 .none .none 81 303 304),
 (88,fO "has_parts" s2 lR 87),
 (87,cO "has_parts" 306 33 1 84 85 .none .none 86 309 310),
 (95,fO "is_tuple" s3 lR 94),
 (94,cO "is_tuple" 312 37 3 89 90 (.ref 91) (.ref 92) 93 318 319),
 (102,fO "is_number" s4 lR 101),
 (101,cO "is_number" 321 39 3 96 97 (.ref 98) (.ref 99) 100 327 328),
 (107,fO "is_name" s5 lR 106),
 (106,cO "is_name" 330 41 1 103 104 .none .none 105 333 334),
 (112,fO "are_unlike" s6 lR 111),
 (111,cO "are_unlike" 336 45 1 108 109 .none .none 110 339 340),
 (117,fO "is_row" s7 lR 116),
 (116,cO "is_row" 342 47 2 113 114 .none .none 115 345 346),
 (124,fO "is_wire" s8 lR 123),
 (123,cO "is_wire" 348 49 2 118 119 (.ref 120) (.ref 121) 122 353 354),
 (129,fO "are_wires" s9 lR 128),
 (128,cO "are_wires" 356 51 4 125 126 .none .none 127 359 360),
 (134,fO "are_rows" s10 lR 133),
 (133,cO "are_rows" 362 55 2 130 131 .none .none 132 365 366),
 (141,fO "is_kind" s11 lR 140),
 (140,cO "is_kind" 368 59 3 135 136 (.ref 137) (.ref 138) 139 376 377),
 (148,fO "is_held" s12 lR 147),
 (147,cO "is_held" 379 75 3 142 143 (.ref 144) (.ref 145) 146 385 386),
 (153,fO "wire_names" s13 lR 152),
 (152,cO "wire_names" 388 77 1 149 150 .none .none 151 391 392),
 (158,fO "waiting_gates" s14 lR 157),
 (157,cO "waiting_gates" 394 79 2 154 155 .none .none 156 397 398),
 (163,fO "told" s15 lR 162),
 (162,cO "told" 400 82 3 159 160 .none .none 161 403 404),
 (170,fO "told_held" s16 lR 169),
 (169,cO "told_held" 406 98 3 164 165 (.ref 166) (.ref 167) 168 414 415),
 (177,fO "checked_talk" s17 mo3 176),
 (176,cO "checked_talk" 421 104 2 171 172 (.ref 173) (.ref 174) 175 426 427),
 (182,fO "is_talk" s18 mo3 181),
 (181,cO "is_talk" 429 108 2 178 179 .none .none 180 432 433),
 (187,fO "is_state" s19 mo3 186),
 (186,cO "is_state" 435 116 3 183 184 .none .none 185 438 439),
 (194,fO "steps" s20 BL 193),
 (193,cO "steps" 443 123 3 188 189 (.ref 190) (.ref 191) 192 449 450),
 (201,fO "stands" s21 BL 200),
 (200,cO "stands" 452 125 2 195 196 (.ref 197) (.ref 198) 199 459 460),
 (208,fO "first_stand" s22 BL 207),
 (207,cO "first_stand" 462 132 1 202 203 (.ref 204) (.ref 205) 206 466 467),
 (213,fO "steps_at" s23 BL 212),
 (212,cO "steps_at" 469 134 3 209 210 .none .none 211 472 473),
 (220,fO "is_unasked" s24 BL 219),
 (219,cO "is_unasked" 475 137 3 214 215 (.ref 216) (.ref 217) 218 481 482),
 (227,fO "led_to" s25 BL 226),
 (226,cO "led_to" 484 139 4 221 222 (.ref 223) (.ref 224) 225 492 493),
 (232,fO "changed" s26 BL 231),
 (231,cO "changed" 495 144 3 228 229 .none .none 230 498 499),
 (239,fO "newly_met" s27 BL 238),
 (238,cO "newly_met" 501 146 4 233 234 (.ref 235) (.ref 236) 237 511 512),
 (246,fO "fault" s28 VR 245),
 (245,cO "fault" 516 155 2 240 241 (.ref 242) (.ref 243) 244 524 525),
 (253,fO "fault_at" s29 VR 252),
 (252,cO "fault_at" 527 165 4 247 248 (.ref 249) (.ref 250) 251 537 538),
 (258,fO "has_out" s30 VR 257),
 (257,cO "has_out" 540 174 2 254 255 .none .none 256 543 544),
 (265,fO "fault_of_step" s31 VR 264),
 (264,cO "fault_of_step" 546 176 5 259 260 (.ref 261) (.ref 262) 263 556 557),
 (277,fO "check_waits" s32 yE 276),
 (276,cO "check_waits" 575 197 3 273 274 .none .none 275 578 579),
 (282,fO "since_when" s33 yE 281),
 (281,cO "since_when" 581 202 3 278 279 .none .none 280 584 585),
 (287,fO "round_from" s34 yE 286),
 (286,cO "round_from" 587 204 3 283 284 .none .none 285 590 591),
 (294,fO "time_behind" s35 yE 293),
 (293,cO "time_behind" 593 208 2 288 289 (.ref 290) (.ref 291) 292 598 599),
 (348,fO "_law_cell_at" s36 Q5 347),
 (347,cO "_law_cell_at" 670 239 2 342 343 (.ref 344) (.ref 345) 346 675 676),
 (355,fO "_law_mixed" s37 Q5 354),
 (354,cO "_law_mixed" 678 245 3 349 350 (.ref 351) (.ref 352) 353 685 686),
 (362,fO "_law_next" s38 Q5 361),
 (361,cO "_law_next" 688 248 3 356 357 (.ref 358) (.ref 359) 360 694 695),
 (367,fO "_law_ring" s39 Q5 366),
 (366,cO "_law_ring" 697 251 2 363 364 .none .none 365 700 701),
 (372,fO "law" s40 Q5 371),
 (371,cO "law" 703 257 1 368 369 .none .none 370 706 707),
 (272,fO "pace" s41 yE 271),
 (271,cO "pace" 563 186 3 266 267 (.ref 268) (.ref 269) 270 572 573),
 (337,⟨.type "type",none,.cls {name:="Going",bases:=[.type "object"],mro:=[.ref 337,.type "object"],ns:=336,qualname:="Going"}, #[none,none,some (.str "Going" 601),some (.str "Going" 609),some (.builtin "object.__new__"),some (.bool true)]⟩),
 (336,⟨.type "dict",none,.dict #[gE P "__module__" 608 (.str "anywait.waits" 559),gE P "__firstlineno__" 612 (.int 210 611),gE P "__init__" 622 (.ref 308),gE P "due" 630 (.ref 315),gE P "change" 640 (.ref 322),gE P "still" 646 (.ref 327),gE P "ending" 653 (.ref 334),gE P "__static_attributes__" 660 (.ref 335),gE P "__dict__" 662 (.ref 338),gE P "__weakref__" 664 (.ref 339),gE P "__doc__" 665 .none] 4, #[]⟩),
 (308,fQ0 "__init__" "Going.__init__" s90 yE 307),
 (307,cQ "__init__" "Going.__init__" 613 212 4 302 303 (.ref 304) (.ref 305) 306 620 621),
 (315,fQ0 "due" "Going.due" s91 yE 314),
 (314,cQ "due" "Going.due" 623 220 2 309 310 (.ref 311) (.ref 312) 313 628 629),
 (322,fQ0 "change" "Going.change" s92 yE 321),
 (321,cQ "change" "Going.change" 631 223 1 316 317 (.ref 318) (.ref 319) 320 638 639),
 (327,fQ0 "still" "Going.still" s93 yE 326),
 (326,cQ "still" "Going.still" 641 232 1 323 324 .none .none 325 644 645),
 (71,o71)]
noncomputable def Ka:List Addr:=[3,78,77,83,82,88,87,95,94,102,101,107,106,112,111,117,116,124,123,129,128,134,133,141,140,148,147,153,152,158,157,163,162,170,169,177,176,182,181,187,186,194,193,201,200,208,207,213,212,220,219,227,226,232,231,239,238,246,245,253,252,258,257,265,264,277,276,282,281,287,286,294,293,348,347,355,354,362,361,367,366,372,371,272,271,337,336,308,307,315,314,322,321,327,326,71]
def Ke(P:Params):Ka=(Kf P).map (·.1):=rfl
abbrev Kh:PySem.W.Hook:=PySem.W.kHook Kf Ka Ke
noncomputable def lo:List Str:="_wall"::"__name__"::"WaitError"::"NoNet"::"NoTalk"::"NoWaits"::"LETTERS"::"LONGEST_NAME"::"WORDS"::"MOST_INPUTS"::"MOST_GATES"::"MOST_WIRES"::"MOST_TABLE_WIRES"::"DEEPEST_HELD"::"checked"::"is_net"::"has_parts"::"is_tuple"::"is_number"::"is_name"::"are_unlike"::"is_row"::"is_wire"::"are_wires"::"are_rows"::"is_kind"::"is_held"::"wire_names"::"waiting_gates"::"told"::"told_held"::"MOST_STATES"::"checked_talk"::"is_talk"::"is_state"::"steps"::"stands"::"first_stand"::"steps_at"::"is_unasked"::"led_to"::"changed"::"newly_met"::"fault"::"fault_at"::"has_out"::"fault_of_step"::"LONGEST_WAIT"::"pace"::"check_waits"::"since_when"::"round_from"::"time_behind"::"Going"::"_law_cell_at"::"_law_mixed"::"_law_next"::"_law_ring"::[]
def qV:Program:=view PySem.Challenge.pw_anywait_k18_whole_ring [64]
def hl:LeftO PySem.Challenge.pw_anywait_k18_whole_ring qV lo (fun s=>recOk [] s) (Hook.obs Kh) (Hook.val Kh) 5316:=fun w=>by rw[PySem.W.Fast.te4187177175401517315,PySem.W.Fast.te5923862056798008813,PySem.W.Fast.te14364793385576792824];kernel_rfl
end Tx
end
section
namespace L2
open PySem PySem.Spec PyProof.Rows
abbrev Key:=Sum Int Str
def vM:Key->Value->Bool
 |.inl k,v=>Value.isInt k v
 |.inr x,v=>Value.isStrOf x v
def ab7(w:World):Key->Int
 |.inl k=>hashInt k
 |.inr x=>hashStr w x
theorem bR:∀{k:Key}{v:Value},vM k v=true->(∃i t,k=Sum.inl i/\v=Value.int i t)\/(∃x t,k=Sum.inr x/\v=Value.str x t)
 |.inl i,v,h=>by obtain⟨t,e⟩:=Value.isInt_shape h;exact .inl ⟨i,t,rfl,e⟩
 |.inr x,v,h=>by obtain⟨t,e⟩:=Value.isStrOf_shape h;exact .inr ⟨x,t,rfl,e⟩
def JZ i t:vM (.inl i) (.int i t)=true:=by simp[vM,Value.isInt]
def JX x t:vM (.inr x) (.str x t)=true:=by simp[vM,Value.isStrOf]
def Ys a b:decide ((Sum.inl a:Key)=Sum.inl b)=(a==b):=by
 by_cases e:a=b
 ·subst e;simp
 ·rw[QEz (fun q=>e (Sum.inl.inj q))];exact(beq_eq_false_iff_ne.mpr e).symm
def Yq a b:decide ((Sum.inr a:Key)=Sum.inr b)=decide (a=b):=by
 by_cases e:a=b
 ·subst e;simp
 ·rw[QEz (fun q=>e (Sum.inr.inj q)),QEz e]
def Yr a b:decide ((Sum.inl a:Key)=Sum.inr b)=false:=QEz (fun q=>nomatch q)
def Dz a b:decide ((Sum.inr a:Key)=Sum.inl b)=false:=QEz (fun q=>nomatch q)
noncomputable def bQ(prog:Program)(w:World):PySem.KeyKind prog w Key where
 is:=vM
 hash:=ab7 w
 inj:=fun v a b ha hb=>by
  rcases bR ha with ⟨i,t,rfl,rfl⟩|⟨x,t,rfl,rfl⟩
  ·rcases bR hb with ⟨j,u,rfl,e⟩|⟨y,u,rfl,e⟩
   ·injection e with e1 _;rw[e1]
   ·exact nomatch e
  ·rcases bR hb with ⟨j,u,rfl,e⟩|⟨y,u,rfl,e⟩
   ·exact nomatch e
   ·injection e with e1 _;rw[e1]
 byValue:=fun k v h=>by rcases bR h with ⟨i,t,rfl,rfl⟩|⟨x,t,rfl,rfl⟩<;>rfl
 pyHash:=fun hv h=>by
  rcases bR hv with ⟨i,t,rfl,rfl⟩|⟨x,t,rfl,rfl⟩
  ·exact wpAny_pyHash_int h
  ·exact wpAny_pyHash_str h
 eqBool:=fun hu hv h=>by
  rcases bR hu with ⟨i,t,rfl,rfl⟩|⟨x,t,rfl,rfl⟩
  ·rcases bR hv with ⟨j,u,rfl,rfl⟩|⟨y,u,rfl,rfl⟩
   ·rw[Ys]at h;exact wpAny_eqBool_int h
   ·rw[Yr]at h;exact SeqAt.EqAt.int_str i t y u _ _ _ _ h
  ·rcases bR hv with ⟨j,u,rfl,rfl⟩|⟨y,u,rfl,rfl⟩
   ·rw[Dz]at h;exact SeqAt.EqAt.str_int x t j u _ _ _ _ h
   ·rw[Yq]at h;exact wpAny_eqBool_str h
 «strs»:=fun k x t v h=>by
  rcases bR h with ⟨i,u,rfl,e⟩|⟨y,u,rfl,e⟩
  ·exact nomatch e
  ·injection e with e1 _;subst e1;cases v<;>rfl
def z6 prog w i t:(bQ prog w).is (.inl i) (.int i t)=true:=JZ i t
def zZ prog w x t:(bQ prog w).is (.inr x) (.str x t)=true:=JX x t
inductive V where
 |non|bl (b:Bool)|int (i:Int)|str (x:Str)|byt (b:Array UInt8)|flt (b:UInt64)|ref (a:Addr)|ty (n:String)
 deriving DecidableEq
noncomputable def RelV:V->Value->Prop
 |.non,u=>u=Value.none
 |.bl b,u=>u=Value.bool b
 |.int i,u=>∃t,u=Value.int i t
 |.str x,u=>∃t,u=Value.str x t
 |.byt b,u=>∃t,u=Value.bytes b t
 |.flt b,u=>∃t,u=Value.float b t
 |.ref a,u=>u=Value.ref a
 |.ty n,u=>u=Value.type n
abbrev Vals:List V->List Value->Prop:=Paired RelV
theorem Vals.length{us:List Value}(r:Vals xs us):xs.length=us.length:=Paired.length r
theorem Vals.get:∀{xs:List V}{us:List Value}{i:Nat}{x:V},Vals xs us->xs[i]? =some x->∃u,us[i]? =some u/\RelV x u
 |_,_,_,_,.nil=>fun e=>by simp at e
 |_,_,0,_,.cons r _=>fun e=>by simp at e;subst e;exact⟨_,rfl,r⟩
 |_,_,i+1,x,.cons _ t=>fun e=>by obtain⟨u,h1,h2⟩:=Vals.get t (by simpa using e);exact⟨u,by simpa using h1,h2⟩
theorem Vals.set{u:Value}(r:RelV x u):∀{xs:List V}{us:List Value}(i:Nat),Vals xs us->Vals (xs.set i x) (us.set i u)
 |_,_,_,.nil=>.nil
 |_,_,0,.cons _ t=>.cons r t
 |_,_,i+1,.cons q t=>.cons q (Vals.set r i t)
theorem Vals.append:∀{xs ys:List V}{us ws:List Value},Vals xs us->Vals ys ws->Vals (xs++ys) (us++ws)
 |_,_,_,_,.nil=>fun s=>s
 |_,_,_,_,.cons r t=>fun s=>.cons r (Vals.append t s)
theorem Vals.take:∀{xs:List V}{us:List Value}(n:Nat),Vals xs us->Vals (xs.take n) (us.take n)
 |_,_,0,_=>.nil
 |_,_,_+1,.nil=>.nil
 |_,_,n+1,.cons r t=>.cons r (Vals.take n t)
theorem Vals.drop:∀{xs:List V}{us:List Value}(n:Nat),Vals xs us->Vals (xs.drop n) (us.drop n)
 |_,_,0,r=>r
 |_,_,_+1,.nil=>.nil
 |_,_,n+1,.cons _ t=>Vals.drop n t
def iC:Option V->Option Value->Prop
 |some v,some u=>RelV v u
 |none,none=>True
 |_,_=>False
noncomputable def KV{κ:Type}:List (κ×V)->List (κ×Value)->Prop:=Paired fun(p:κ×V)(q:κ×Value)=>p.1=q.1/\RelV p.2 q.2
def kV:Key->V
 |.inl i=>.int i
 |.inr x=>.str x
abbrev SK:=PyData
noncomputable instance skDec:DecidableEq PyData:=fun a b=>Classical.propDecidable (a=b)
abbrev SV:=SK×Addr×V
mutual
def hH(w:World):PyData->Int
 |.int i=>hashInt i
 |.str x=>ab7 w (.inr x)
 |.tuple xs=>reduceHash (Builtin.Tuple.tupleHashOf (hHs w xs))
 |_=>0
def hHs(w:World):List PyData->List Int
 |[]=>[]
 |x::xs=>hH w x::hHs w xs
end
abbrev QV:SV->SK×Addr×Value->Prop:=fun p q=>p.1=q.1/\p.2.1=q.2.1/\RelV p.2.2 q.2.2
inductive HO where
 |lst (xs:List V)
 |tup (xs:List V)
 |dK (kvs:List (Key×V))|dT (kvs:List (List Key×V))|dS (xs:List SV)
 |set (S:Int->Bool) (n:Nat)
 |ins (C dx:Addr) (fs:List (Str×V))
 |own (x:Addr)
 |xd (fs:List (Str×V))
 |met (f x:Addr)
 |rng (lo hi:Int)
 |frz (o:Obj) (u:HO)
 |tbl (ps:Array Value)
 |ext (φ:Heap->Prop)
abbrev Hp:=Addr->Option HO
def upd(H:Hp)(a:Addr)(o:HO):Hp:=fun b=>if b=a then some o else H b
def aq{a:Addr}:upd H a o a=some o:=by unfold upd;rw[if_pos rfl]
def ak{a b:Addr}(h:b≠a):upd H a o b=H b:=by unfold upd;rw[if_neg h]
def wH{H:Hp}{a:Addr}{o u:HO}:upd (upd H a o) a u=upd H a u:=by funext b;unfold upd;split<;>rfl
def ab0{H:Hp}{o u:HO}(h:H a=some o)(h':H b=some u)(d:o≠u):a≠b:=by intro e;subst e;rw[h]at h';exact d (QEq h')
def gZ{H:Hp}{o:HO}(h:H a=some o)(h':H b=none):a≠b:=by intro e;subst e;rw[h]at h';cases h'
def TupOk(h:Heap)(a:Addr)(items:Array Value):Prop:=∃o,h.get? a=some o/\o.cls=.type "tuple"/\o.dict=none/\∃n,o.data=.seq items n
def TupOk.is{a:Addr}(x:TupOk h a items):IsTup h a items:=let ⟨o,e,c,_,d⟩:=x;⟨o,e,c,d⟩
def TupOk.new(h:Heap)items:TupOk (h.push {cls:=.type "tuple",data:=.seq items}) h.objs.size items:=⟨_,Qzq _ rfl,rfl,rfl,_,rfl⟩
section
variable(P:Program)(w:World)
noncomputable def bZ(H:Hp)(h:Heap)(a:Addr):HO->Prop
 |.lst xs=>xs.length<=sizeLine/\∃(its:List Value)(n:Nat),Vals xs its/\h.get? a=some {cls:=.type "list",data:=.seq its.toArray n}
 |.tup xs=>xs.length<=sizeLine/\∃its:List Value,Vals xs its/\TupOk h a its.toArray
 |.dK kvs=>kvs.length<=sizeLine/\(a==sysModules)=false/\∃vs,KV kvs vs/\h.DictOf (bQ P w) a vs
 |.dT kvs=>kvs.length<=sizeLine/\(a==sysModules)=false/\∃xs:List (List Key×Addr×Value),
   Paired (fun(p:List Key×V)(q:List Key×Addr×Value)=>p.1=q.1/\H q.2.1=some (.tup (p.1.map kV))/\RelV p.2 q.2.2) kvs xs/\
   ∃o es ep,h.get? a=some o/\o.ExactDict/\o.data=.dict es ep/\es.toList=xs.map (entryOfKey (tupleKind (bQ P w)))/\(xs.map (·.1)).Nodup
 |.dS xs=>xs.length<=sizeLine/\(a==sysModules)=false/\(xs.map (·.1)).Nodup/\∃(ys:List (SK×Addr×Value))(o:Obj)(es:Array DictEntry)(ep:Nat),Paired QV xs ys/\h.get? a=some o/\o.ExactDict/\o.data=.dict es ep/\es.toList=ys.map fun y=>⟨hH w y.1,.ref y.2.1,y.2.2⟩
 |.set S n=>h.SetOf (intKind P w) a S n
 |.ins C dx fs=>H dx=some (.own a)/\fs.length<=1000/\dx≠a/\h.get? a=some (PySem.W.instObj C dx)/\
   ∃mA,h.Ns1 dx mA/\(∀f,iC (fs.lookup f) (mA f))/\PySem.Within mA (fs.map (·.1))
 |.own _=>∃o,h.get? a=some o
 |.xd fs=>∃mA,h.Ns1 a mA/\∀f,iC (fs.lookup f) (mA f)
 |.rng lo hi=>∃t u v,h.get? a=some {cls:=.type "range",data:=.fields #[.int lo t,.int hi u,.int 1 v]}
 |.frz o u=>h.get? a=some o/\bZ H h a u
 |.tbl ps=>h.get? a=some {cls:=.none,data:=.fields ps}
 |.met f x=>h.get? a=some (PySem.W.methodObj (.ref f) (.ref x))
 |.ext φ=>φ h/\(∃o,h.get? a=some o)/\∀h1 h2:Heap,φ h1->(∀o,h1.get? a=some o->h2.get? a=some o)->φ h2
def mQ(H:Hp)(h:Heap):Prop:=∀a o,H a=some o->bZ P w H h a o
end
section
variable{P:Program}{w:World}{H H':Hp}{h h':Heap}{a:Addr}{o:HO}
theorem bZ.lt(x:bZ P w H h a o):a<h.objs.size:=by
 cases o with
 |lst xs=>obtain⟨_,_,_,_,e⟩:=x;exact Qqz e
 |tup xs=>obtain⟨_,_,_,p⟩:=x;exact p.is.lt
 |dK kvs=>obtain⟨_,_,_,_,o,_,_,e,_⟩:=x;exact Qqz e
 |dT kvs=>obtain⟨_,_,_,_,o,_,_,e,_⟩:=x;exact Qqz e
 |dS xs=>obtain⟨_,_,_,_,o,_,_,_,e,_⟩:=x;exact Qqz e
 |set S n=>obtain⟨o,_,_,_,e,_⟩:=x;exact Qqz e
 |ins C dx fs=>obtain⟨_,_,_,e,_⟩:=x;exact Qqz e
 |own y=>obtain⟨_,e⟩:=x;exact Qqz e
 |xd fs=>obtain⟨_,⟨_,_,_,e,_⟩,_⟩:=x;exact Qqz e
 |rng lo hi=>obtain⟨_,_,_,e⟩:=x;exact Qqz e
 |frz ob u=>obtain⟨e,_⟩:=x;exact Qqz e
 |tbl ps=>exact Qqz (x)
 |met f y=>exact Qqz (x)
 |ext φ=>obtain⟨_,⟨_,e⟩,_⟩:=x;exact Qqz e
theorem Paired.Yl{α β:Type}{F G:α->β->Prop}:∀{l₁:List α}{l₂:List β},Paired F l₁ l₂->(∀a b,F a b->G a b)->Paired G l₁ l₂
 |_,_,.nil=>fun _=>.nil
 |_,_,.cons r t=>fun f=>.cons (f _ _ r) (Paired.Yl t f)
theorem bZ.stay(x:bZ P w H h a o)(k:∀b u,(b=a\/H b=some (.own a))->h.get? b=some u->h'.get? b=some u)
  (ho:∀b,H b=some (.own a)->H' b=some (.own a))(ht:∀b xs,H b=some (.tup xs)->H' b=some (.tup xs)):bZ P w H' h' a o:=by
 induction o with
 |lst xs=>obtain⟨z,its,n,r,e⟩:=x;exact⟨z,its,n,r,k _ _ (.inl rfl) e⟩
 |tup xs=>obtain⟨z,its,r,ob,e,c⟩:=x;exact⟨z,its,r,ob,k _ _ (.inl rfl) e,c⟩
 |dK kvs=>obtain⟨z,y,vs,r,ob,es,ep,e,c⟩:=x;exact⟨z,y,vs,r,ob,es,ep,k _ _ (.inl rfl) e,c⟩
 |dT kvs=>obtain⟨z,y,xs,r,ob,es,ep,e,c⟩:=x;exact⟨z,y,xs,Paired.Yl r fun p q z=>⟨z.1,ht _ _ z.2.1,z.2.2⟩,ob,es,ep,k _ _ (.inl rfl) e,c⟩
 |dS xs=>obtain⟨z,y,nd,ys,ob,es,ep,pr,e,c⟩:=x;exact⟨z,y,nd,ys,ob,es,ep,pr,k _ _ (.inl rfl) e,c⟩
 |set S n=>obtain⟨ob,es,ep,t,e,c⟩:=x;exact⟨ob,es,ep,t,k _ _ (.inl rfl) e,c⟩
 |ins C dx fs=>obtain⟨d,z,ne,e,mA,⟨od,es,ep,e2,c⟩,r⟩:=x;exact⟨ho _ d,z,ne,k _ _ (.inl rfl) e,mA,⟨od,es,ep,k _ _ (.inr d) e2,c⟩,r⟩
 |own y=>obtain⟨ob,e⟩:=x;exact⟨ob,k _ _ (.inl rfl) e⟩
 |xd fs=>obtain⟨mA,⟨od,es,ep,e,c⟩,r⟩:=x;exact⟨mA,⟨od,es,ep,k _ _ (.inl rfl) e,c⟩,r⟩
 |rng lo hi=>obtain⟨t,u,v,e⟩:=x;exact⟨t,u,v,k _ _ (.inl rfl) e⟩
 |frz ob u ih=>obtain⟨e,q⟩:=x;exact⟨k _ _ (.inl rfl) e,ih q⟩
 |tbl ps=>exact k a _ (.inl rfl) x
 |met f y=>exact k a _ (.inl rfl) x
 |ext φ=>obtain⟨p,⟨o,e⟩,st⟩:=x;exact⟨st _ _ p fun o q=>k _ _ (.inl rfl) q,⟨o,k _ _ (.inl rfl) e⟩,st⟩
theorem mQ.lt(x:mQ P w H h)(e:H a=some o):a<h.objs.size:=(x a o e).lt
def mQ.fresh(x:mQ P w H h)(e:h.objs.size<=a):H a=none:=by
 cases q:H a with
 |none=>rfl
 |some u=>exact absurd (Qvq (x.lt q) e) (Nat.lt_irrefl _)
def mQ.kept(x:mQ P w H h)(k:∀b u,h.get? b=some u->h'.get? b=some u):mQ P w H h':=fun a o e=>(x a o e).stay (fun b u _ q=>k b u q) (fun _ q=>q) fun _ _ q=>q
def mQ.laid(x:mQ P w H h)(k:∀b u,h.get? b=some u->h'.get? b=some u)(hp:h.objs.size<=a)(new:bZ P w (upd H a o) h' a o):mQ P w (upd H a o) h':=fun b u e=>by
 have hn:=x.fresh hp;by_cases hb:b=a
 ·subst hb;rw[aq]at e;cases e;exact new
 ·rw[ak hb]at e;exact(x b u e).stay (fun c v _ q=>k c v q) (fun c q=>by rw[ak (gZ q hn)];exact q) fun c xs q=>by rw[ak (gZ q hn)];exact q
end
def Rd(H:Hp)(a:Addr)(u:HO):Prop:=H a=some u\/∃o,H a=some (.frz o u)
def Rd.ok{w:World}{h:Heap}{u:HO}(r:Rd H a u)(x:mQ P w H h):bZ P w H h a u:=by
 rcases r with r|⟨o,r⟩
 ·exact x a u r
 ·obtain⟨_,q⟩:=x a _ r;exact q
noncomputable def Mut:Option HO->Prop
 |some (.lst _)=>True
 |some (.dK _)=>True
 |some (.dT _)=>True
 |some (.dS _)=>True
 |some (.set _ _)=>True
 |some (.ins _ _ _)=>True
 |some (.ext _)=>True
 |_=>False
section
variable{P:Program}{w:World}{H:Hp}{h h':Heap}{x e:Addr}{o':HO}
def mQ.write(ok:mQ P w H h)(mu:Mut (H x))(he:e=x\/H e=some (.own x))(k:∀b u,b≠e->h.get? b=some u->h'.get? b=some u)(heo:∃u,h'.get? e=some u)
  (new:bZ P w (upd H x o') h' x o'):mQ P w (upd H x o') h':=fun b u q=>by
 have nown:∀c y,H c=some (.own y)->c≠x:=fun c y r z=>by subst z;rw[r]at mu;exact mu
 by_cases hb:b=x
 ·subst hb;rw[aq]at q;cases q;exact new
 ·rw[ak hb]at q;by_cases hbe:b=e
  ·have q':H b=some (.own x):=by
    rcases he with z|z
    ·exact absurd (hbe.trans z) hb
    ·rw[hbe];exact z
   rw[q]at q';cases q'
   obtain⟨v,hv⟩:=heo
   exact⟨v,by rw[hbe];exact hv⟩
  ·refine(ok b u q).stay (fun c v hc r=>k c v ?_ r) (fun c r=>by rw[ak (nown c b r)];exact r) fun c xs r=>by rw[ak ((fun c xs r z=>by subst z;rw[r]at mu;exact mu) c xs r)];exact r
   rcases hc with rfl|hc
   ·exact hbe
   ·rintro rfl;rcases he with z|z
    ·exact nown c b hc z
    ·rw[hc]at z;cases z;exact hb rfl
end
structure Un(fs ex:List Addr)(H H':Hp)(h h':Heap):Prop where
 keep:∀b o,h.get? b=some o->H b=none->b∉fs->b∉ex->h'.get? b=some o
 slot:∀b o,h.get? b=some o->H b=none->b∈fs->b∉ex->∃sl,h'.get? b=some {o with slots:=sl}
 free:∀b o,h.get? b=some o->H b=none->b∉ex->H' b=none
 there:∀b o,h.get? b=some o->b∉ex->∃o',h'.get? b=some o'
 tups:∀b xs,H b=some (.tup xs)->H' b=some (.tup xs)
 frzs:∀b o u,H b=some (.frz o u)->H' b=some (.frz o u)
 tbls:∀b ps,H b=some (.tbl ps)->∃more,H' b=some (.tbl (ps++more))
section
variable{fs fs' ex ex':List Addr}{H H1 H2:Hp}{h h1 h2 h':Heap}{a x e:Addr}{o:HO}
def Un.any(u:Un fs ex H H1 h h1){ob:Obj}(q:h.get? b=some ob)(n:H b=none)(hx:b∉ex):∃sl,h1.get? b=some {ob with slots:=sl}:=by
 by_cases hb:b∈fs
 ·exact u.slot b ob q n hb hx
 ·exact⟨ob.slots,u.keep b ob q n hb hx⟩
def Un.kept(k:∀b u,h.get? b=some u->h'.get? b=some u):Un fs ex H H h h':=
 ⟨fun b ob q _ _ _=>k b ob q,fun b ob q _ _ _=>⟨ob.slots,k b ob q⟩,fun _ _ _ n _=>n,fun b ob q _=>⟨ob,k b ob q⟩,fun _ _ q=>q,fun _ _ _ q=>q,fun _ ps q=>⟨#[],by rw[q];simp⟩⟩
def Un.refl:Un fs ex H H h h:=Un.kept fun _ _ q=>q
theorem Un.laid(k:∀b u,h.get? b=some u->h'.get? b=some u)(hp:h.objs.size<=a)(hn:H a=none):Un fs ex H (upd H a o) h h' where
 keep:=fun b u q _ _ _=>k b u q
 slot:=fun b u q _ _ _=>⟨u.slots,k b u q⟩
 free:=fun b u q n _=>by rw[ak (Qvz (Qvq (Qqz q) hp))];exact n
 there:=fun b u q _=>⟨u,k b u q⟩
 tups:=fun b xs q=>by rw[ak (gZ q hn)];exact q
 frzs:=fun b u xs q=>by rw[ak (gZ q hn)];exact q
 tbls:=fun b ps q=>⟨#[],by rw[ak (gZ q hn),q];simp⟩
def Un.write(mu:Mut (H x))(he:e=x\/H e=some (.own x))(k:∀b u,b≠e->h.get? b=some u->h'.get? b=some u)(heo:∃u,h'.get? e=some u):Un fs ex H (upd H x o) h h':=by
 have hx:∀b,H b=none->b≠x:=fun b n z=>by subst z;rw[n]at mu;exact mu
 have hb:∀b,H b=none->b≠e:=fun b n z=>by
  subst z;rcases he with r|r
  ·exact hx b n r
  ·rw[n]at r;cases r
 have hm:∀b u,H b=some u->¬Mut (some u)->b≠x:=fun b u q nm z=>by subst z;rw[q]at mu;exact nm mu
 refine⟨fun b u q n _ _=>k b u (hb b n) q,fun b u q n _ _=>⟨u.slots,k b u (hb b n) q⟩,fun b u q n _=>by rw[ak (hx b n)];exact n,fun b u q _=>?_,
  fun b xs q=>by rw[ak (hm b _ q fun z=>z)];exact q,fun b u xs q=>by rw[ak (hm b _ q fun z=>z)];exact q,fun b ps q=>⟨#[],by rw[ak (hm b _ q fun z=>z),q];simp⟩⟩
 by_cases hbe:b=e
 ·subst hbe;exact heo
 ·exact⟨u,k b u hbe q⟩
end
def trk(h:Heap)(H:Hp):List Addr:=(List.range h.objs.size).filter fun a=>(H a).isSome
def J5(h:Heap)(H:Hp):Heap:=PySem.W.hideAll h (trk h H)
def J4 h H:(J5 h H).objs.size=h.objs.size:=PySem.W.hideAll_size _ _
def O7{H:Hp}{o:Obj}(e:h.get? b=some o)(n:H b=none):(J5 h H).get? b=some o:=
 PySem.W.hideAll_get _ e fun hm=>by have q:=(List.mem_filter.mp hm).2;rw[n]at q;simp at q
def Tt{H:Hp}{o:Obj}(e:(J5 h H).get? b=some o):h.get? b=some o/\H b=none:=by
 have e':=PySem.W.of_hideAll _ e;refine⟨e',?_⟩;cases q:H b with
 |none=>rfl
 |some x=>have z:(J5 h H).get? b=none:=PySem.W.hideAll_none _ (List.mem_filter.mpr ⟨List.mem_range.mpr (Qqz e'),by simp[q]⟩);rw[z]at e;cases e
noncomputable def UJ(g h:Heap)(L:Addr):List (Addr×Obj):=(List.range h.objs.size).filterMap fun a=>if a=L\/(g.get? a).isSome=true then none else(h.get? a).map fun o=>(a,o)
def rest(g h:Heap)(L d:Addr):List (Addr×Obj):=(UJ g h L).filter fun p=>decide (p.1≠d)
structure Mod(K:QQq)(mg:QZz)(base:Heap):Prop where
 kin:K.In base
 glob:base.Ns mainGlobals mg
 blt:∃mb,base.Ns builtinsNs mb/\∀x:Str,x≠"__name__"->mb x=bootBuiltins x
 nolimit:base.NoLimit
structure Cx where
 prog:Program
 w:World
 K:QQq
 mg:Str->Option Value
 base:Heap
 A:Around
 N:List Str
 s₀:Shared
 H₀:Hp
 env:Env
 outer:List Env
 stack:List Env
 ex:List Addr
 fn:Str->Bool
 calm:Bool
 pn:List (Addr×Obj)
 xe:Value->Shared->Prop
def frs(l:List Env):List Addr:=l.filterMap (·.frame)
abbrev Cx.fs(X:Cx):List Addr:=frs X.outer
def Fw(sc:Scope)(x:Str):Prop:=sc.names.lookup x=some .local\/sc.names.lookup x=some .cell\/sc.names.lookup x=some .free
def Loc(sc:Scope)(x:Str):Prop:=sc.names.lookup x=some .local\/sc.names.lookup x=some .cell
def Look(env:Env)(h:Heap)(m:QZz)(x:Str)(u:Value):Prop:=
 (env.kindOf x=some .local/\m x=some u)\/((env.kindOf x=some .cell\/env.kindOf x=some .free)/\∃c,env.cells.lookup x=some c/\h.IsCell c (some u))
structure Cx.Ok(X:Cx):Prop where
 mod:Mod X.K X.mg X.base
 kind:X.env.scope.kind=.function
 glob:X.env.globals=mainGlobals
 blt:X.env.builtins=builtinsNs
 above:X.s₀.heap.objs.size<=X.env.locals
 inj:∀x y c,X.env.cells.lookup x=some c->X.env.cells.lookup y=some c->x=y
 has:∀x,(X.env.kindOf x=some .cell\/X.env.kindOf x=some .free)->∃c,X.env.cells.lookup x=some c
 cab:∀x c,X.fn x=true->X.env.cells.lookup x=some c->X.s₀.heap.objs.size<=c
 hd:X.calm=true->X.A.handled=none
 frames:X.A.frames=some X.stack
 stk:X.stack=X.outer\/(X.stack=X.env::X.outer/\X.env.frame=some X.env.locals)
 exf:∀b∈X.ex,b≠X.env.locals/\∀x c,X.env.cells.lookup x=some c->c≠b
 bs:∀b o,X.base.get? b=some o->X.s₀.heap.get? b=some o/\X.H₀ b=none
 bsz:X.base.objs.size<=X.s₀.heap.objs.size
 noex:∀b o,X.base.get? b=some o->b∉X.ex
 exfs:∀b∈X.ex,b∉X.fs
 my:X.s₀.heap.FunFrames X.base X.outer
 frf:∀b∈X.fs,X.H₀ b=none
structure Inv(X:Cx)(γ:QQz)(σ:List (Option V))(H:Hp)(s:Shared):Prop where
 ok:X.Ok
 os:s.os=X.s₀.os
 bare:AllBare s.gens
 base:Un X.fs X.ex X.H₀ H X.s₀.heap s.heap
 loc:∃m,s.heap.Ns X.env.locals m/\∀(i:Nat)(x:Str)(v:V),X.N[i]? =some x->σ[i]? =some (some v)->Fw X.env.scope x->∃u,RelV v u/\Look X.env s.heap m x u
 cell:∀x c,X.env.cells.lookup x=some c->∃v,s.heap.IsCell c v
 free:H X.env.locals=none
 freeC:∀x c,X.env.cells.lookup x=some c->H c=none
 pin:∀p∈X.pn++γ,s.heap.get? p.1=some p.2/\H p.1=none/\p.1≠X.env.locals/\p.1∉X.fs/\∀v,p.2.data≠ .cell v
 hok:mQ X.prog X.w H s.heap
 len:σ.length=X.N.length
section
variable{X:Cx}{γ:QQz}{σ:List (Option V)}{H H':Hp}{s:Shared}{h':Heap}
def Cx.Ok.afr(ok:X.Ok){o:Obj}(e:X.base.get? b=some o):b∉X.fs:=fun hb=>by have:=(ok.my.mem hb).1;rw[e]at this;cases this
theorem Inv.bs(I:Inv X γ σ H s):∀b o,X.base.get? b=some o->s.heap.get? b=some o/\H b=none:=fun b o e=>⟨I.base.keep b o (I.ok.bs b o e).1 (I.ok.bs b o e).2 (I.ok.afr e) (I.ok.noex b o e),I.base.free b o (I.ok.bs b o e).1 (I.ok.bs b o e).2 (I.ok.noex b o e)⟩
def Inv.bk(I:Inv X γ σ H s):∀b o,X.base.get? b=some o->s.heap.get? b=some o:=fun b o e=>(I.bs b o e).1
theorem Inv.mod(I:Inv X γ σ H s):Mod X.K X.mg X.base:=I.ok.mod
def Inv.Ab(I:Inv X γ σ H s):X.K.In s.heap:=I.ok.mod.kin.keeps I.bk
theorem Inv.lt(I:Inv X γ σ H s):X.env.locals<s.heap.objs.size:=let ⟨_,hn,_⟩:=I.loc;hn.lt
def Inv.sz(I:Inv X γ σ H s):X.s₀.heap.objs.size<=s.heap.objs.size:=Nat.le_trans I.ok.above (Nat.le_of_lt I.lt)
def Inv.afq(I:Inv X γ σ H s){a:Addr}(h:s.heap.objs.size<=a):a∉X.fs:=fun hb=>by obtain⟨_,o,ho,_⟩:=I.ok.my.mem hb;exact absurd (Qvq (Qqz ho) (Nat.le_trans I.sz h)) (Nat.lt_irrefl _)
def Inv.Zy(I:Inv X γ σ H s):∀x c,X.env.cells.lookup x=some c->c≠X.env.locals:=fun x c e z=>by obtain⟨v,o,ho,hd⟩:=I.cell x c e;obtain⟨m,⟨o',es,ep,ho',hd',_⟩,_⟩:=I.loc;rw[z,ho']at ho;cases ho;rw[hd']at hd;cases hd
theorem Inv.my(I:Inv X γ σ H s):s.heap.FunFrames X.base X.outer:=by
 have all:∀l,(∀b∈frs l,b∈X.fs)->X.s₀.heap.FunFrames X.base l->s.heap.FunFrames X.base l:=by
  intro l;induction l with
  |nil=>intro _ _;trivial
  |cons env r ih=>intro hs hl;obtain⟨hk,⟨L,o,hf,hn,ho,hd⟩,hr⟩:=hl;have hL:=hs L (by unfold frs;rw[List.filterMap_cons,hf];exact QYz);obtain⟨sl,e⟩:=I.base.slot L o ho (I.ok.frf L hL) hL fun z=>I.ok.exfs L z hL;exact⟨hk,⟨L,_,hf,hn,e,hd⟩,ih (fun b hb=>hs b (by unfold frs;rw[List.filterMap_cons,hf];exact QYq _ hb)) hr⟩
 exact all X.outer (fun _ hb=>hb) I.ok.my
theorem Inv.stack(I:Inv X γ σ H s):s.heap.FunFrames X.base X.stack:=by
 rcases I.ok.stk with e|⟨e,hf⟩
 ·rw[e];exact I.my
 ·rw[e];obtain⟨m,hn,_⟩:=I.loc;exact .cons (by rw[I.ok.kind];decide) hf hn (Heap.get?_none_of_le (Nat.le_trans I.ok.bsz I.ok.above)) I.my
def Inv.Ck(I:Inv X γ σ H s):∀b∈frs X.stack,b∈X.env.locals::X.fs:=fun b hb=>by
 rcases I.ok.stk with e|⟨e,hf⟩
 ·rw[e]at hb;exact QYq _ hb
 ·rw[e]at hb;unfold frs at hb;rw[List.filterMap_cons,hf]at hb;exact hb
def Inv.Gg(I:Inv X γ σ H s):∀b∈frs X.stack,H b=none:=fun b hb=>by
 rcases QCq.mp (I.Ck b hb)with e|hb
 ·rw[e];exact I.free
 ·obtain⟨_,o,ho,_⟩:=I.ok.my.mem hb;exact I.base.free b o ho (I.ok.frf b hb) fun z=>I.ok.exfs b z hb
def Inv.step{t':Nat}{ch:List Addr}(I:Inv X γ σ H s)
  (hch:∀b∈ch,(b∈X.ex\/X.s₀.heap.objs.size<=b)/\b≠X.env.locals/\(∀x c,X.env.cells.lookup x=some c->c≠b)/\∀p∈X.pn++γ,p.1≠b)
  (keep:∀b o,b≠X.env.locals->b∉X.fs->b∉ch->s.heap.get? b=some o->H b=none->h'.get? b=some o)
  (slot:∀b o,b≠X.env.locals->b∈X.fs->b∉ch->s.heap.get? b=some o->H b=none->∃sl,h'.get? b=some {o with slots:=sl})(free:∀b o,b∉ch->s.heap.get? b=some o->H b=none->H' b=none)
  (there:∀b o,b∉ch->s.heap.get? b=some o->∃o',h'.get? b=some o')
  (tups:∀b xs,H b=some (.tup xs)->H' b=some (.tup xs))(frzs:∀b o u,H b=some (.frz o u)->H' b=some (.frz o u))(tbls:∀b ps,H b=some (.tbl ps)->∃more,H' b=some (.tbl (ps++more)))
  (ns:∀m,s.heap.Ns X.env.locals m->h'.Ns X.env.locals m)(hok:mQ X.prog X.w H' h')(hg:AllBare g'):
  Inv X γ σ H' {s with heap:=h',gens:=g',drawn:=d',toks:=t'}:=by
 have neL:∀b o,X.s₀.heap.get? b=some o->b≠X.env.locals:=fun b o e=>Qvz (Qvq (Qqz e) I.ok.above);have neC:∀b o,X.s₀.heap.get? b=some o->b∉X.ex->b∉ch:=fun b o e hx hb=>by
  rcases (hch b hb).1 with z|z
  ·exact hx z
  ·exact absurd (Qvq (Qqz e) z) (Nat.lt_irrefl _)
 have cellK:∀x c,X.env.cells.lookup x=some c->∀v,s.heap.IsCell c v->h'.IsCell c v:=fun x c e v⟨o,ho,hd⟩=>by
  have nch:=fun z=>(hch c z).2.2.1 x c e rfl;by_cases hc:c∈X.fs
  ·obtain⟨sl,q⟩:=slot c o (I.Zy x c e) hc nch ho (I.freeC x c e);exact⟨_,q,hd⟩
  ·exact⟨o,keep c o (I.Zy x c e) hc nch ho (I.freeC x c e),hd⟩
 refine⟨I.ok,I.os,hg,⟨fun b o e n hb hx=>?_,fun b o e n hb hx=>?_,fun b o e n hx=>?_,fun b o e hx=>?_,fun b xs e=>tups b xs (I.base.tups b xs e),fun b o xs e=>frzs b o xs (I.base.frzs b o xs e),fun b ps e=>?_⟩,?_,fun x c e=>?_,?_,fun x c e=>?_,fun p hp=>?_,hok,I.len⟩
 ·exact keep b o (neL b o e) hb (neC b o e hx) (I.base.keep b o e n hb hx) (I.base.free b o e n hx)
 ·obtain⟨sl,e1⟩:=I.base.slot b o e n hb hx;obtain⟨sl',e2⟩:=slot b _ (neL b o e) hb (neC b o e hx) e1 (I.base.free b o e n hx);exact⟨sl',e2⟩
 ·obtain⟨o',e1⟩:=I.base.there b o e hx;exact free b o' (neC b o e hx) e1 (I.base.free b o e n hx)
 ·obtain⟨o',e1⟩:=I.base.there b o e hx;exact there b o' (neC b o e hx) e1
 ·obtain⟨m1,e1⟩:=I.base.tbls b ps e;obtain⟨m2,e2⟩:=tbls b _ e1;exact⟨m1++m2,by rw[e2,Array.append_assoc]⟩
 ·obtain⟨m,hn,hl⟩:=I.loc;refine⟨m,ns m hn,fun i x v e1 e2 e3=>?_⟩;obtain⟨u,r,l⟩:=hl i x v e1 e2 e3;refine⟨u,r,?_⟩;rcases l with l|⟨k,c,e,z⟩
  ·exact .inl l
  ·exact .inr ⟨k,c,e,cellK x c e _ z⟩
 ·obtain⟨v,z⟩:=I.cell x c e;exact⟨v,cellK x c e v z⟩
 ·obtain⟨m,⟨o,_,_,ho,_⟩,_⟩:=I.loc;exact free _ o (fun z=>(hch _ z).2.1 rfl) ho I.free
 ·obtain⟨v,o,ho,hd⟩:=I.cell x c e;exact free c o (fun z=>(hch c z).2.2.1 x c e rfl) ho (I.freeC x c e)
 ·obtain⟨e,n,ne,nf,d⟩:=I.pin p hp;have nch:=fun z=>(hch p.1 z).2.2.2 p hp rfl;exact⟨keep p.1 p.2 ne nf nch e n,free p.1 p.2 nch e n,ne,nf,d⟩
def Inv.un(I:Inv X γ σ H s)(u:Un X.fs [] H H' s.heap h')(hok:mQ X.prog X.w H' h'):Inv X γ σ H' {s with heap:=h',toks:=t'}:=by obtain⟨m,⟨o,es,ep,ho,r⟩,_⟩:=id I.loc;obtain⟨sl,hL⟩:=u.any ho I.free (by simp);exact I.step (ch:=[]) (fun _ z=>nomatch z) (fun b o _ hb _ e n=>u.keep b o e n hb (by simp)) (fun b o _ hb _ e n=>u.slot b o e n hb (by simp)) (fun b o _ e n=>u.free b o e n (by simp)) (fun b o _ e=>u.there b o e (by simp)) u.tups u.frzs u.tbls (fun m' hm=>by obtain⟨o',es',ep',ho',r'⟩:=hm;rw[ho]at ho';cases ho';exact⟨_,es',ep',hL,r'⟩) hok I.bare
def Inv.call{t':Nat}{ch:List Addr}(I:Inv X γ σ H s)(u:Un (frs X.stack) ch H H' s.heap h')(hok:mQ X.prog X.w H' h')(hg:AllBare g')
  (hch:∀b∈ch,(b∈X.ex\/X.s₀.heap.objs.size<=b)/\b≠X.env.locals/\(∀x c,X.env.cells.lookup x=some c->c≠b)/\∀p∈X.pn++γ,p.1≠b):
  Inv X γ σ H' {s with heap:=h',gens:=g',drawn:=d',toks:=t'}:=by
 obtain⟨m,⟨o,es,ep,ho,r⟩,_⟩:=id I.loc;obtain⟨sl,hL⟩:=u.any ho I.free fun z=>(hch _ z).2.1 rfl;exact I.step hch (fun b o hL hb hc e n=>u.keep b o e n (fun z=>(QCq.mp (I.Ck b z)).elim hL hb) hc) (fun b o _ _ hc e n=>u.any e n hc) (fun b o hc e n=>u.free b o e n hc) (fun b o hc e=>u.there b o e hc) u.tups u.frzs u.tbls (fun m' hm=>by obtain⟨o',es',ep',ho',r'⟩:=hm;rw[ho]at ho';cases ho';exact⟨_,es',ep',hL,r'⟩) hok hg
def Inv.turned{it:Addr}(I:Inv X γ σ H s)(k:∀b o,b≠it->s.heap.get? b=some o->h'.get? b=some o)(hn:H it=none)(hL:it≠X.env.locals)
  (h1:it∈X.ex\/X.s₀.heap.objs.size<=it)(h2:∀x c,X.env.cells.lookup x=some c->c≠it)(h3:∀p∈X.pn++γ,p.1≠it):Inv X γ σ H {s with heap:=h',toks:=t'}:=by
 have nit:∀b u,H b=some u->b≠it:=fun b u e z=>by rw[z,hn]at e;cases e
 refine I.step (ch:=[it]) (fun b hb=>?_) (fun b o _ _ hc e _=>k b o (fun z=>hc (by simp[z])) e) (fun b o _ _ hc e _=>⟨o.slots,k b o (fun z=>hc (by simp[z])) e⟩) (fun _ _ _ _ n=>n)
  (fun b o hc e=>⟨o,k b o (fun z=>hc (by simp[z])) e⟩) (fun _ _ e=>e) (fun _ _ _ e=>e) (fun b ps e=>⟨#[],by rw[e];simp⟩) (fun m hm=>?_) (fun b u e=>?_) I.bare
 ·have e:b=it:=by simpa using hb
  subst e;exact⟨h1,hL,h2,h3⟩
 ·obtain⟨o,es,ep,ho,r⟩:=hm;exact⟨o,es,ep,k _ o (Ne.symm hL) ho,r⟩
 ·refine(I.hok b u e).stay (fun c v hc q=>k c v ?_ q) (fun _ q=>q) fun _ _ q=>q;rcases hc with z|z
  ·rw[z];exact nit b u e
  ·exact nit c _ z
def Inv.tok(I:Inv X γ σ H s)t:Inv X γ σ H {s with toks:=t}:=I.un Un.refl I.hok
theorem Inv.kept(I:Inv X γ σ H s)(k:∀b u,s.heap.get? b=some u->h'.get? b=some u):Inv X γ σ H {s with heap:=h',toks:=t'}:=I.un (Un.kept k) (I.hok.kept k)
theorem Inv.laid{a:Addr}{o:HO}(I:Inv X γ σ H s)(k:∀b u,s.heap.get? b=some u->h'.get? b=some u)(hp:s.heap.objs.size<=a)(new:bZ X.prog X.w (upd H a o) h' a o):
  Inv X γ σ (upd H a o) {s with heap:=h',toks:=t'}:=I.un (Un.laid k hp (I.hok.fresh hp)) (I.hok.laid k hp new)
theorem Inv.write{o:HO}(I:Inv X γ σ H s)(mu:Mut (H x))(he:e=x\/H e=some (.own x))(k:∀b u,b≠e->s.heap.get? b=some u->h'.get? b=some u)(heo:∃u,h'.get? e=some u)
  (new:bZ X.prog X.w (upd H x o) h' x o):Inv X γ σ (upd H x o) {s with heap:=h',toks:=t'}:=I.un (Un.write mu he k heo) (I.hok.write mu he k heo new)
def Inv.xF(I:Inv X γ σ H s)(h:∀p∈Θ,s.heap.get? p.1=some p.2/\H p.1=none/\p.1≠X.env.locals/\p.1∉X.fs/\∀v,p.2.data≠ .cell v):Inv X Θ σ H s:=
 ⟨I.ok,I.os,I.bare,I.base,I.loc,I.cell,I.free,I.freeC,fun p hp=>(QXz.mp hp).elim (fun z=>I.pin p (QWz _ z)) (h p),I.hok,I.len⟩
def zT{N:List Str}(hN:N.Nodup){i j:Nat}(a:N[i]? =some x)(b:N[j]? =some x):i=j:=by obtain⟨h1,e1⟩:=QCz.mp a;obtain⟨h2,e2⟩:=QCz.mp b;exact(List.getElem_inj hN).mp (e1.trans e2.symm)
def uW{A:Around}{i:Nat}{v:V}{u:Value}(I:Inv X γ σ H s)(hN:X.N.Nodup)(hi:X.N[i]? =some x)(hx:Loc X.env.scope x)(r:RelV v u)
  (h:∀s',Inv X γ (σ.set i (some v)) H s'->(∃a,Heap.SameBut a s.heap s'.heap/\(a=X.env.locals\/X.env.cells.lookup x=some a))->Q () s')(hf:X.fn x=true\/X.env.scope.names.lookup x=some .local:=by first|exact .inl rfl|exact .inr rfl|assumption):wpAny M A (storeName X.env x u) Q E s:=by
 obtain⟨m,hn,hl⟩:=id I.loc;have hiσ:i<σ.length:=by rw[I.len];exact(QCz.mp hi).1
 have Zy:=I.Zy;have tracked:∀{a:Addr}{h':Heap},(∃o,s.heap.get? a=some o/\H a=none)->Heap.SameBut a s.heap h'->mQ X.prog X.w H h':=fun{a h'}ha hs b ob e=>by
  obtain⟨_,_,hfree⟩:=ha;refine(I.hok b ob e).stay (fun c w' hc q=>(hs.2 c ?_).trans q) (fun _ q=>q) fun _ _ q=>q;rintro rfl;rcases hc with rfl|hc
  ·rw[hfree]at e;cases e
  ·rw[hfree]at hc;cases hc
 rcases hx with hk|hk
 ·refine wpAny_storeName_local hk hn (fun h' hn' hs=>?_) (by rw[I.ok.kind];rfl);obtain⟨oL,_,_,hoL,_⟩:=id hn;refine h _ ⟨I.ok,I.os,I.bare,⟨fun b o e n hb hx=>?_,fun b o e n hb hx=>?_,I.base.free,fun b o e hx=>?_,I.base.tups,I.base.frzs,I.base.tbls⟩,⟨_,hn',fun j y v' e1 e2 e3=>?_⟩,fun y c e=>?_,I.free,I.freeC,fun p hp=>?_,tracked ⟨oL,hoL,I.free⟩ hs,by simpa using I.len⟩ ⟨_,hs,.inl rfl⟩
  ·exact(hs.2 b (Qvz (Qvq (Qqz e) I.ok.above))).trans (I.base.keep b o e n hb hx)
  ·obtain⟨sl,e1⟩:=I.base.slot b o e n hb hx;exact⟨sl,(hs.2 b (Qvz (Qvq (Qqz e) I.ok.above))).trans e1⟩
  ·obtain⟨o',e1⟩:=I.base.there b o e hx;exact⟨o',(hs.2 b (Qvz (Qvq (Qqz e) I.ok.above))).trans e1⟩
  ·by_cases hj:j=i
   ·subst hj;rw[hi]at e1;cases e1;rw[Qwq hiσ]at e2;cases e2;exact⟨u,r,.inl ⟨hk,by simp⟩⟩
   ·rw[Qxz (Ne.symm hj)]at e2;obtain⟨u',r',q⟩:=hl j y v' e1 e2 e3;refine⟨u',r',?_⟩;rcases q with ⟨k,e⟩|⟨k,c,e,z⟩
    ·refine .inl ⟨k,?_⟩;have:y≠x:=fun e=>hj (zT hN e1 (e▸hi));simp[this,e]
    ·exact .inr ⟨k,c,e,z.sameBut hs (Zy y c e)⟩
  ·obtain⟨w',z⟩:=I.cell y c e;exact⟨w',z.sameBut hs (Zy y c e)⟩
  ·obtain⟨e,n,ne,nf,d⟩:=I.pin p hp;exact⟨(hs.2 p.1 ne).trans e,n,ne,nf,d⟩
 ·have hfn:X.fn x=true:=by
   rcases hf with z|z
   ·exact z
   ·rw[z]at hk;cases hk
  obtain⟨c,hc⟩:=I.ok.has x (.inl hk)
  obtain⟨w',z⟩:=I.cell x c hc
  refine wpAny_storeName_cell I.ok.kind hk hc z (fun h' hc' hs=>?_)
  obtain⟨oc,hoc,hocd⟩:=id z
  refine h {s with heap:=h'} ⟨I.ok,I.os,I.bare,⟨fun b o e n hb hx=>?_,fun b o e n hb hx=>?_,I.base.free,fun b o e hx=>?_,I.base.tups,I.base.frzs,I.base.tbls⟩,⟨m,hn.sameBut hs (Ne.symm (Zy x c hc)),fun j y v' e1 e2 e3=>?_⟩,fun y c' e=>?_,I.free,I.freeC,fun p hp=>?_,tracked ⟨oc,hoc,I.freeC x c hc⟩ hs,by simpa using I.len⟩ ⟨c,hs,.inr hc⟩
  ·exact(hs.2 b (Qvz (Qvq (Qqz e) (I.ok.cab x c hfn hc)))).trans (I.base.keep b o e n hb hx)
  ·obtain⟨sl,e1⟩:=I.base.slot b o e n hb hx
   exact⟨sl,(hs.2 b (Qvz (Qvq (Qqz e) (I.ok.cab x c hfn hc)))).trans e1⟩
  ·obtain⟨o',e1⟩:=I.base.there b o e hx
   exact⟨o',(hs.2 b (Qvz (Qvq (Qqz e) (I.ok.cab x c hfn hc)))).trans e1⟩
  ·by_cases hj:j=i
   ·subst hj
    rw[hi]at e1;cases e1
    rw[Qwq hiσ]at e2
    cases e2
    exact⟨u,r,.inr ⟨.inl hk,c,hc,hc'⟩⟩
   ·rw[Qxz (Ne.symm hj)]at e2
    obtain⟨u',r',q⟩:=hl j y v' e1 e2 e3
    refine⟨u',r',?_⟩
    rcases q with q|⟨k,c',e,z'⟩
    ·exact .inl q
    ·refine .inr ⟨k,c',e,z'.sameBut hs ?_⟩
     rintro rfl
     exact hj (zT hN e1 (I.ok.inj _ _ _ e hc▸hi))
  ·by_cases hcc:c'=c
   ·subst hcc;exact⟨_,hc'⟩
   ·obtain⟨w2,z2⟩:=I.cell y c' e
    exact⟨w2,z2.sameBut hs hcc⟩
  ·obtain⟨e,n,ne,nf,d⟩:=I.pin p hp
   refine⟨(hs.2 p.1 ?_).trans e,n,ne,nf,d⟩
   intro q
   rw[q,hoc]at e
   exact d w' (by rw[<- (QEq e)];exact hocd)
def za{A:Around}{i:Nat}{v:V}{u:Value}(I:Inv X γ σ H s)(hN:X.N.Nodup)(hi:X.N[i]? =some x)(hx:Loc X.env.scope x)(r:RelV v u)
  (h:∀s',Inv X γ (σ.set i (some v)) H s'->Q () s')(hf:X.fn x=true\/X.env.scope.names.lookup x=some .local:=by first|exact .inl rfl|exact .inr rfl|assumption):wpAny M A (storeName X.env x u) Q E s:=
 uW I hN hi hx r (fun s' I' _=>h s' I') hf
def Inv.call'{ch:List Addr}(I:Inv X γ σ H s)(ho:s'.os=s.os)(u:Un (frs X.stack) ch H H' s.heap s'.heap)(hok:mQ X.prog X.w H' s'.heap)(hg:AllBare s'.gens)
  (hch:∀b∈ch,(b∈X.ex\/X.s₀.heap.objs.size<=b)/\b≠X.env.locals/\(∀x c,X.env.cells.lookup x=some c->c≠b)/\∀p∈X.pn++γ,p.1≠b):Inv X γ σ H' s':=by
 obtain⟨h',g',d',t',o'⟩:=s';subst ho;exact I.call u hok hg hch
end
abbrev XK:=Value->Option Addr->Hp->Prop
abbrev St:=List (Option V)
abbrev VK:=V->Hp->Prop
abbrev TE:=St->Hp->VK->Prop
abbrev TT:=St->Hp->(Bool->Hp->Prop)->Prop
abbrev TA:=St->Hp->(List V->Hp->Prop)->Prop
structure Ends where
 nx:St->Hp->Prop
 rt:VK
 bk:St->Hp->Prop:=fun _ _=>False
 ct:St->Hp->Prop:=fun _ _=>False
abbrev TS:=Ends->St->Hp->Prop
def EP(X:Cx)(γ:QQz)(σ:St)(Q:VK)(u:Value)(s':Shared):Prop:=∃v H',Inv X γ σ H' s'/\RelV v u/\Q v H'
def TP(X:Cx)(γ:QQz)(σ:St)(Q:Bool->Hp->Prop)(b:Bool)(s':Shared):Prop:=∃H',Inv X γ σ H' s'/\Q b H'
def AP(X:Cx)(γ:QQz)(σ:St)(Q:List V->Hp->Prop)(us:List Value)(s':Shared):Prop:=∃vs H',Inv X γ σ H' s'/\Vals vs us/\Q vs H'
def SP(X:Cx)(γ:QQz)(D:Ends)(f:Flow)(s':Shared):Prop:=
 match f with
 |.next=>∃ζ H',Inv X γ ζ H' s'/\D.nx ζ H'
 |.brk=>∃ζ H',Inv X γ ζ H' s'/\D.bk ζ H'
 |.cont=>∃ζ H',Inv X γ ζ H' s'/\D.ct ζ H'
 |.ret u=>∃v ζ H',Inv X γ ζ H' s'/\RelV v u/\D.rt v H'
def PE(X:Cx)(e:Expr)(t:TE):Prop:=
 ∀(γ:QQz)(s:Shared)(σ:St)(H:Hp)(Q:VK),Inv X γ σ H s->t σ H Q->wpAny (model X.prog X.w) X.A (eval e X.env) (EP X γ σ Q) X.xe s
def PT(X:Cx)(e:Expr)(t:TT):Prop:=
 ∀(γ:QQz)(s:Shared)(σ:St)(H:Hp)(Q:Bool->Hp->Prop),Inv X γ σ H s->t σ H Q->wpAny (model X.prog X.w) X.A (isTrue e X.env (eval e X.env)) (TP X γ σ Q) X.xe s
def PW(X:Cx)(e:Expr)(t:TT):Prop:=
 ∀(whole:Sem Value)(γ:QQz)(s:Shared)(σ:St)(H:Hp)(Q:Bool->Hp->Prop),Inv X γ σ H s->t σ H Q->wpAny (model X.prog X.w) X.A (isTrue e X.env whole) (TP X γ σ Q) X.xe s
def PW.pt{e:Expr}(h:PW X e t):PT X e t:=h _
def PA(X:Cx)(es:List Expr)(t:TA):Prop:=
 ∀(pos:Pos)(γ:QQz)(s:Shared)(σ:St)(H:Hp)(Q:List V->Hp->Prop),Inv X γ σ H s->t σ H Q->wpAny (model X.prog X.w) X.A (spliced (backTo pos (starEach es X.env))) (AP X γ σ Q) X.xe s
def PS(X:Cx)(st:Stmt)(t:TS):Prop:=
 ∀(γ:QQz)(s:Shared)(σ:St)(H:Hp)(D:Ends),Inv X γ σ H s->t D σ H->wpAny (model X.prog X.w) X.A (exec st X.env) (SP X γ D) X.xe s
def wF(X:Cx)(st:List Stmt)(t:TS):Prop:=
 ∀(γ:QQz)(s:Shared)(σ:St)(H:Hp)(D:Ends),Inv X γ σ H s->t D σ H->wpAny (model X.prog X.w) X.A (execs st X.env) (SP X γ D) X.xe s
def bJ{t:Sem α}{Q Q':α->Shared->Prop}{A:Around}{s:Shared}(h:wpAny M A t Q E s)(hQ:∀a s,Q a s->Q' a s):wpAny M A t Q' E s:=QGq h hQ fun _ _ x=>x
section
variable{X:Cx}
def bin{ta tb:TE}(ha:PE X a ta)(hb:PE X b tb){s:Shared}{σ:St}{R:V->V->Hp->Prop}(I:Inv X γ σ H s)(h:ta σ H fun x H1=>tb σ H1 fun y H2=>R x y H2)
{Q:α->Shared->Prop} {f:Value->Value->Sem α}
  (hf:∀v u s2 x y H2,Inv X γ σ H2 s2->RelV x v->RelV y u->R x y H2->wpAny (model X.prog X.w) X.A (f v u) Q X.xe s2):
  wpAny (model X.prog X.w) X.A (eval a X.env) (fun v θ=>wpAny (model X.prog X.w) X.A (eval b X.env) (fun u Φ=>wpAny (model X.prog X.w) X.A (f v u) Q X.xe Φ) X.xe θ) X.xe s:=by
 refine bJ (ha γ s σ H _ I h) fun v s1⟨x,H1,I1,r1,q1⟩=>?_;refine bJ (hb γ s1 σ H1 _ I1 q1) fun u s2⟨y,H2,I2,r2,q2⟩=>?_;exact hf v u s2 x y H2 I2 r1 r2 q2
def aN(i:Nat):TE:=fun σ H Q=>∃v,σ[i]? =some (some v)/\Q v H
def tC(v:V):TE:=fun _ H Q=>Q v H
def cA{x:Str}{pos:Pos}(hN:X.N[i]? =some x)(hv:Fw X.env.scope x)(hd:(x==("__debug__":Str))=false:=by decide)(hcd:(x==("__classdict__":Str))=false:=by decide):PE X (.Name x pos) (aN i):=by
 intro γ s σ H Q I h;obtain⟨v,e,h⟩:=h;obtain⟨m,hn,hl⟩:=I.loc;obtain⟨u,r,l⟩:=hl i x v hN e hv;have fin:EP X γ σ Q u s:=⟨v,H,I,r,h⟩;rcases l with ⟨hk,hm⟩|⟨hk,c,hc,hcell⟩
 ·exact wpAny_Name (wpAny_loadName_local I.ok.kind hk hn hm fin) hd
 ·rcases hk with hk|hk
  ·exact wpAny_Name (wpAny_loadName_cell I.ok.kind hk hc hcell fin) hd
  ·exact wpAny_Name (wpAny_loadName_free I.ok.kind hk hc hcell fin hcd) hd
def Nk{i j pos}:PE X (.Constant (.int i) j pos) (tC (.int i)):=fun _ _ _ H _ I h=>wpAny_Constant_int ⟨.int i,H,I.tok _,⟨_,rfl⟩,h⟩
def abN{b j pos}:PE X (.Constant (.bool b) j pos) (tC (.bl b)):=fun _ _ _ H _ I h=>Constant_bool ⟨.bl b,H,I,rfl,h⟩
def Dh{j pos}:PE X (.Constant .none j pos) (tC .non):=fun _ _ _ H _ I h=>Constant_none ⟨.non,H,I,rfl,h⟩
def XH{x j pos}:PE X (.Constant (.str x) j pos) (tC (.str x)):=fun _ _ _ H _ I h=>Calls.Constant_str ⟨.str x,H,I.tok _,⟨_,rfl⟩,h⟩
def Gl(X:Cx)(x:Str):Prop:=X.env.kindOf x=some .globalImplicit
def xT{γ:QQz}{σ:St}{x:Str}{pos:Pos}(I:Inv X γ σ H s)(hg:Gl X x)(hm:X.mg x=some u)(h:Q u s)
  (hd:(x==("__debug__":Str))=false:=by decide):wpAny (model X.prog X.w) X.A (eval (.Name x pos) X.env) Q E s:=
 Calls.Name_function_global I.ok.kind hg (Calls.loadGlobal_global (by rw[I.ok.glob];exact I.mod.glob.keeps I.bk) hm h) hd
def kj{E:QZq}{s:Shared}{σ:St}{x:Str}{pos:Pos}(I:Inv X γ σ H s)(hg:Gl X x)(hm:X.mg x=none)(hv:bootBuiltins x=some u)(h:Q u s)
  (hn:x≠"__name__":=by decide)(hd:(x==("__debug__":Str))=false:=by decide):wpAny (model X.prog X.w) X.A (eval (.Name x pos) X.env) Q E s:=by
 obtain⟨mb,h1,h2⟩:=I.mod.blt;exact Calls.Name_function_global I.ok.kind hg (Calls.loadGlobal_builtin (by rw[I.ok.glob];exact I.mod.glob.keeps I.bk) hm (by rw[I.ok.blt];exact h1.keeps I.bk) ((h2 x hn).trans hv) h) hd
def SN{v:V}{pos:Pos}(hg:Gl X x)(hm:X.mg x=some u)(r:RelV v u)(hd:(x==("__debug__":Str))=false:=by decide):PE X (.Name x pos) (tC v):=
 fun _ _ _ H _ I h=>xT I hg hm ⟨v,H,I,r,h⟩ hd
def S5{v:V}{pos:Pos}(hg:Gl X x)(hm:X.mg x=none)(hv:bootBuiltins x=some u)(r:RelV v u)(hn:x≠"__name__":=by decide)(hd:(x==("__debug__":Str))=false:=by decide):PE X (.Name x pos) (tC v):=
 fun _ _ _ H _ I h=>kj I hg hm hv ⟨v,H,I,r,h⟩ hn hd
noncomputable def t2I(ta tb:TE)(k:Int->Int->Hp->Prop):St->Hp->Prop:=fun σ H=>ta σ H fun x H1=>tb σ H1 fun y H2=>∃i j,x=.int i/\y=.int j/\k i j H2
def aeC(ta tb:TE):TE:=fun σ H Q=>t2I ta tb (fun i j H2=>Q (.int (i+j)) H2) σ H
def aaV(ta tb:TE):TE:=fun σ H Q=>t2I ta tb (fun i j H2=>Q (.int (i-j)) H2) σ H
variable{a b:Expr}{ta tb:TE}{pos:Pos}
def XR(ha:PE X a ta)(hb:PE X b tb):PE X (.BinOp a .Add b pos) (aeC ta tb):=by intro γ s σ H Q I h;refine wpAny_BinOp (bin ha hb I h fun v u s2 x y H2 I2 rx ry q=>?_);obtain⟨i,j,rfl,rfl,q⟩:=q;obtain⟨t,rfl⟩:=rx;obtain⟨t',rfl⟩:=ry;exact add_int ⟨.int _,H2,I2.tok _,⟨_,rfl⟩,q⟩
def XF(ha:PE X a ta)(hb:PE X b tb):PE X (.BinOp a .Sub b pos) (aaV ta tb):=by intro γ s σ H Q I h;refine wpAny_BinOp (bin ha hb I h fun v u s2 x y H2 I2 rx ry q=>?_);obtain⟨i,j,rfl,rfl,q⟩:=q;obtain⟨t,rfl⟩:=rx;obtain⟨t',rfl⟩:=ry;exact sub_int ⟨.int _,H2,I2.tok _,⟨_,rfl⟩,q⟩
variable{tA tB':TT}{rest:List Expr}
def aeB(t u:TT):TT:=fun σ H Q=>t σ H fun c H1=>if c=true then u σ H1 Q else Q false H1
def tOr(t u:TT):TT:=fun σ H Q=>t σ H fun c H1=>if c=true then Q true H1 else u σ H1 Q
def aev(t:TT):TT:=fun σ H Q=>t σ H fun c H1=>Q (!c) H1
def Sg(ha:PT X a tA):PW X (.BoolOp .And [a] pos) tA:=by
 intro wh γ s σ H Q I h;refine isTrue_and (bJ (ha γ s σ H Q I h) fun c s1 e=>?_);cases c with
 |true=>exact isTrue_and_nil e
 |false=>exact e
def Xq(ha:PT X a tA):PW X (.BoolOp .Or [a] pos) tA:=by
 intro wh γ s σ H Q I h;refine isTrue_or (bJ (ha γ s σ H Q I h) fun c s1 e=>?_);cases c with
 |false=>exact isTrue_or_nil e
 |true=>exact e
def Xr(ha:PT X a tA)(hb:PW X (.BoolOp .And (b::rest) pos) tB'):PW X (.BoolOp .And (a::b::rest) pos) (aeB tA tB'):=by
 intro wh γ s σ H Q I h;refine isTrue_and (bJ (ha γ s σ H _ I h) fun c s1⟨H1,I1,q1⟩=>?_);cases c with
 |true=>exact hb wh γ s1 σ H1 Q I1 q1
 |false=>exact⟨H1,I1,q1⟩
def abJ(ha:PT X a tA)(hb:PW X (.BoolOp .Or (b::rest) pos) tB'):PW X (.BoolOp .Or (a::b::rest) pos) (tOr tA tB'):=by
 intro wh γ s σ H Q I h;refine isTrue_or (bJ (ha γ s σ H _ I h) fun c s1⟨H1,I1,q1⟩=>?_);cases c with
 |true=>exact⟨H1,I1,q1⟩
 |false=>exact hb wh γ s1 σ H1 Q I1 q1
def Xw(ha:PT X a tA):PT X (.UnaryOp .Not a pos) (aev tA):=by intro γ s σ H Q I h;exact isTrue_not (ha γ s σ H _ I h)
noncomputable def aa5(ta tb:TE):TE:=fun σ H Q=>ta σ H fun x H1=>∃c,x=.bl c/\if c=true then tb σ H1 Q else Q (.bl false) H1
noncomputable def aeu(ta tb:TE):TE:=fun σ H Q=>ta σ H fun x H1=>∃c,x=.bl c/\if c=true then Q (.bl true) H1 else tb σ H1 Q
def Ni{op}(h:PE X a t):PE X (.BoolOp op [a] pos) t:=fun γ s σ H Q I hw=>BoolOp_one (h γ s σ H Q I hw)
def XQ(ha:PE X a ta)(hb:PE X (.BoolOp .And (b::rest) pos) tb):PE X (.BoolOp .And (a::b::rest) pos) (aa5 ta tb):=by
 intro γ s σ H Q I h;refine BoolOp_and (bJ (ha γ s σ H _ I h) fun v s1⟨x,H1,I1,r1,q1⟩=>?_);obtain⟨c,rfl,q1⟩:=q1;cases r1;refine wpAny_truthy_bool ?_;cases c with
 |true=>exact hb γ s1 σ H1 Q I1 q1
 |false=>exact⟨.bl false,H1,I1,rfl,q1⟩
def abL(ha:PE X a ta)(hb:PE X (.BoolOp .Or (b::rest) pos) tb):PE X (.BoolOp .Or (a::b::rest) pos) (aeu ta tb):=by
 intro γ s σ H Q I h;refine BoolOp_or (bJ (ha γ s σ H _ I h) fun v s1⟨x,H1,I1,r1,q1⟩=>?_);obtain⟨c,rfl,q1⟩:=q1;cases r1;refine wpAny_truthy_bool ?_;cases c with
 |false=>exact hb γ s1 σ H1 Q I1 q1
 |true=>exact⟨.bl true,H1,I1,rfl,q1⟩
noncomputable def tIf(t:TT)(ta tb:TE):TE:=fun σ H Q=>t σ H fun c H1=>if c=true then ta σ H1 Q else tb σ H1 Q
def zL(hc:PT X c tA)(ha:PE X a ta)(hb:PE X b tb):PE X (.IfExp c a b pos) (tIf tA ta tb):=by
 intro γ s σ H Q I h;refine wpAny_IfExp (bJ (hc γ s σ H _ I h) fun d s1⟨H1,I1,q1⟩=>?_);cases d with
 |true=>exact ha γ s1 σ H1 Q I1 q1
 |false=>exact hb γ s1 σ H1 Q I1 q1
end
def lC(K:QQq)(H:Hp)(a:Addr)(xs:List V):Prop:=
 Rd H a (.lst xs)\/
  ∃(o:Obj)(its:Array Value)(n:Nat),K.lookup a=some o/\o.cls=.type "list"/\o.dict=none/\o.data=.seq its n/\its.size<=sizeLine/\Vals xs its.toList
def jM(K:QQq)(H:Hp)(a:Addr)(xs:List V):Prop:=
 Rd H a (.tup xs)\/
  ∃(o:Obj)(its:Array Value)(n:Nat),K.lookup a=some o/\o.cls=.type "tuple"/\o.dict=none/\o.data=.seq its n/\its.size<=sizeLine/\Vals xs its.toList
noncomputable def agE:Value->Option V
 |.none=>some .non
 |.bool b=>some (.bl b)
 |.int i _=>some (.int i)
 |.str x _=>some (.str x)
 |.bytes b _=>some (.byt b)
 |.float b _=>some (.flt b)
 |.ref a=>some (.ref a)
 |.type n=>some (.ty n)
 |_=>none
def RelV.abs{u:Value}(r:RelV x u):agE u=some x:=by
 cases x with
 |non=>cases r;rfl
 |bl _=>cases r;rfl
 |int _=>obtain⟨t,rfl⟩:=r;rfl
 |str _=>obtain⟨t,rfl⟩:=r;rfl
 |byt _=>obtain⟨t,rfl⟩:=r;rfl
 |flt _=>obtain⟨t,rfl⟩:=r;rfl
 |ref _=>cases r;rfl
 |ty _=>cases r;rfl
def RelV.inj{x y:V}{u:Value}(r:RelV x u)(q:RelV y u):x=y:=QEq (r.abs.symm.trans q.abs)
theorem Vals.inj:∀{xs ys:List V}{us:List Value},Vals xs us->Vals ys us->xs=ys
 |_,_,_,.nil,.nil=>rfl
 |_,_,_,.cons r t,.cons r' t'=>by rw[r.inj r',Vals.inj t t']
section
variable{X:Cx}{γ:QQz}{σ:St}{H:Hp}{s:Shared}{a:Addr}{xs ys:List V}
def Inv.list(I:Inv X γ σ H s)(h:lC X.K H a xs):∃its:List Value,Vals xs its/\PlainL s.heap a its.toArray/\xs.length<=sizeLine:=by
 rcases h with h|⟨o,its,n,hk,hc,hd,hs,hz,r⟩
 ·obtain⟨z,its,n,r,e⟩:=h.ok I.hok;exact⟨its,r,⟨_,n,e,rfl,rfl,rfl⟩,z⟩
 ·refine⟨its.toList,r,⟨o,n,I.Ab a o hk,hc,hd,by simpa using hs⟩,?_⟩;have e:=r.length;simp only[Array.length_toList]at e;omega
def Inv.Cd(I:Inv X γ σ H s)(h:jM X.K H a xs):∃its:List Value,Vals xs its/\TupOk s.heap a its.toArray/\xs.length<=sizeLine:=by
 rcases h with h|⟨o,its,n,hk,hc,hn,hs,hz,r⟩
 ·obtain⟨z,its,r,p⟩:=h.ok I.hok;exact⟨its,r,p,z⟩
 ·refine⟨its.toList,r,⟨o,I.Ab a o hk,hc,hn,n,by simpa using hs⟩,?_⟩;have e:=r.length;simp only[Array.length_toList]at e;omega
def Inv.tuple(I:Inv X γ σ H s)(h:jM X.K H a xs):∃its:List Value,Vals xs its/\IsTup s.heap a its.toArray/\xs.length<=sizeLine:=by obtain⟨its,r,p,z⟩:=I.Cd h;exact⟨its,r,p.is,z⟩
def Inv.z9(I:Inv X γ σ H s)(h:lC X.K H a xs)(h':lC X.K H a ys):xs=ys:=by
 obtain⟨its,r,⟨o,n,e,_,_,d⟩,_⟩:=I.list h;obtain⟨its',r',⟨o',n',e',_,_,d'⟩,_⟩:=I.list h';rw[e]at e';cases e';rw[d]at d';injection d' with d1 _;have:its=its':=by simpa using congrArg Array.toList d1
 subst this;exact r.inj r'
def Inv.uU(I:Inv X γ σ H s)(h:jM X.K H a xs)(h':jM X.K H a ys):xs=ys:=by
 obtain⟨its,r,⟨o,e,_,n,d⟩,_⟩:=I.tuple h;obtain⟨its',r',⟨o',e',_,n',d'⟩,_⟩:=I.tuple h';rw[e]at e';cases e';rw[d]at d';injection d' with d1 _;have:its=its':=by simpa using congrArg Array.toList d1
 subst this;exact r.inj r'
end
abbrev Cx.wish(X:Cx)(E:QZq):Cx:={X with xe:=E}
abbrev Cx.nQ(X:Cx):Cx:=X.wish fun _ _=>False
theorem Cx.Ok.wish{X:Cx}(ok:X.Ok)E:(X.wish E).Ok:=
 ⟨ok.mod,ok.kind,ok.glob,ok.blt,ok.above,ok.inj,ok.has,ok.cab,ok.hd,ok.frames,ok.stk,ok.exf,ok.bs,ok.bsz,ok.noex,ok.exfs,ok.my,ok.frf⟩
def Cx.Ok.jW{X:Cx}(ok:(X.wish E).Ok):X.Ok:=
 ⟨ok.mod,ok.kind,ok.glob,ok.blt,ok.above,ok.inj,ok.has,ok.cab,ok.hd,ok.frames,ok.stk,ok.exf,ok.bs,ok.bsz,ok.noex,ok.exfs,ok.my,ok.frf⟩
section
variable{X:Cx}{γ:QQz}{σ:St}{H:Hp}{s:Shared}{E:QZq}
theorem Inv.wish(I:Inv X γ σ H s)E:Inv (X.wish E) γ σ H s:=⟨I.ok.wish E,I.os,I.bare,I.base,I.loc,I.cell,I.free,I.freeC,I.pin,I.hok,I.len⟩
theorem Inv.jW(I:Inv (X.wish E) γ σ H s):Inv X γ σ H s:=⟨I.ok.jW,I.os,I.bare,I.base,I.loc,I.cell,I.free,I.freeC,I.pin,I.hok,I.len⟩
theorem SP.jW{f:Flow}(h:SP (X.wish E) γ D f s'):SP X γ D f s':=by
 cases f with
 |next=>obtain⟨ζ,H',I,q⟩:=h;exact⟨ζ,H',I.jW,q⟩
 |brk=>obtain⟨ζ,H',I,q⟩:=h;exact⟨ζ,H',I.jW,q⟩
 |cont=>obtain⟨ζ,H',I,q⟩:=h;exact⟨ζ,H',I.jW,q⟩
 |ret u=>obtain⟨v,ζ,H',I,r,q⟩:=h;exact⟨v,ζ,H',I.jW,r,q⟩
theorem wF.nQ{st:List Stmt}(h:wF X.nQ st t):wF X st t:=fun γ s σ H D I hw=>QGq (h γ s σ H D (I.wish _) hw) (fun _ _ q=>q.jW) fun _ _ z=>False.elim z
end
section
variable{X:Cx}{st:Stmt}{rest:List Stmt}{t u:TS}{e:Expr}{te:TE}{pos:Pos}
def Vf:TS:=fun D σ H=>D.nx σ H
def iJ(t u:TS):TS:=fun D σ H=>t {D with nx:=u D} σ H
def Gv:wF X [] Vf:=fun _ _ σ H _ I h=>wpAny_execs_nil ⟨σ,H,I,h⟩
def bj(h1:PS X st t)(h2:wF X rest u):wF X (st::rest) (iJ t u):=by
 intro γ s σ H D I h;refine wpAny_execs_cons (bJ (h1 γ s σ H {D with nx:=u D} I h) fun f s1 q=>?_);cases f with
 |next=>obtain⟨ζ,H',I',q⟩:=q;exact h2 γ s1 ζ H' D I' q
 |ret v=>exact q
 |brk=>exact q
 |cont=>exact q
def jw(h1:PS X st t):wF X [st] t:=by
 intro γ s σ H D I h;refine wpAny_execs_cons (bJ (h1 γ s σ H D I h) fun f s1 q=>?_);cases f with
 |next=>exact wpAny_execs_nil q
 |ret v=>exact q
 |brk=>exact q
 |cont=>exact q
def Inv.quiet{σ:St}{H:Hp}(I:Inv X γ σ H s):interactive X.env=false:=by simp[interactive,I.ok.kind]
def rE(te:TE):TS:=fun D σ H=>te σ H fun _ H1=>D.nx σ H1
def lK(he:PE X e te)(hs:swapsWith e none pos.line X.env=pure false:=by rfl):PS X (.Expr e pos) (rE te):=by intro γ s σ H D I h;exact wpAny_Expr_any (bJ (he γ s σ H _ I h) fun v s1⟨x,H1,I1,r1,q1⟩=>⟨σ,H1,I1,q1⟩) I.quiet hs
def Lr(te:TE):TS:=fun D σ H=>te σ H D.rt
def iQ(he:PE X e te):PS X (.Return (some e) pos) (Lr te):=by intro γ s σ H D I h;exact wpAny_Return_some (bJ (he γ s σ H _ I h) fun v s1⟨x,H1,I1,r1,q1⟩=>⟨x,σ,H1,I1,r1,q1⟩)
def aaW:TS:=fun D _ H=>D.rt .non H
def Sh:PS X (.Return none pos) aaW:=fun _ _ σ H _ I h=>wpAny_Return_none ⟨.non,σ,H,I,rfl,h⟩
def aa1(c:TT)(t u:TS):TS:=fun D σ H=>c σ H fun b H1=>if b=true then t D σ H1 else u D σ H1
def VF{a b:List Stmt}(hc:PT X c tc)(ha:wF X a t)(hb:wF X b u):PS X (.If c a b pos) (aa1 tc t u):=by
 intro γ s σ H D I h;refine wpAny_If (bJ (hc γ s σ H _ I h) fun d s1⟨H1,I1,q1⟩=>?_);cases d with
 |true=>exact ha γ s1 σ H1 D I1 q1
 |false=>exact hb γ s1 σ H1 D I1 q1
end
abbrev TG:=V->St->Hp->(St->Hp->Prop)->Prop
abbrev ZV:=List V->St->Hp->(St->Hp->Prop)->Prop
def PG(X:Cx)(target:Expr)(t:TG):Prop:=
 ∀(γ:QQz)(s:Shared)(σ:St)(H:Hp)(v:V)(u:Value)(Q:St->Hp->Prop),Inv X γ σ H s->RelV v u->t v σ H Q->
  wpAny (model X.prog X.w) X.A (assign target X.env u) (fun _ s'=>∃ζ H',Inv X γ ζ H' s'/\Q ζ H') X.xe s
def PGs(X:Cx)(ts:List Expr)(t:ZV):Prop:=
 ∀(γ:QQz)(s:Shared)(σ:St)(H:Hp)(vs:List V)(us:List Value)(Q:St->Hp->Prop),Inv X γ σ H s->Vals vs us->t vs σ H Q->
  wpAny (model X.prog X.w) X.A (assignInOrder ((assignEach ts X.env).map (·.2)) us) (fun _ s'=>∃ζ H',Inv X γ ζ H' s'/\Q ζ H') X.xe s
abbrev ac4:=V->V->V->Hp->(Hp->Prop)->Prop
def KN(X:Cx)(t:ac4):Prop:=
 ∀(γ:QQz)(s:Shared)(σ:St)(H:Hp)(o i v:V)(ov iv u:Value)(Q:Hp->Prop),Inv X γ σ H s->RelV o ov->RelV i iv->RelV v u->t o i v H Q->
  wpAny (model X.prog X.w) X.A (setItem ov iv u) (fun _ s'=>∃H',Inv X γ σ H' s'/\Q H') X.xe s
section
variable{X:Cx}{pos:Pos}
def jO(i:Nat):TG:=fun v σ H Q=>Q (σ.set i (some v)) H
def Gx{x:Str}(hN:X.N.Nodup)(hi:X.N[i]? =some x)(hx:Loc X.env.scope x)(hf:X.fn x=true\/X.env.scope.names.lookup x=some .local:=by first|exact .inl rfl|exact .inr rfl|assumption):PG X (.Name x pos) (jO i):=by intro γ s σ H v u Q I r h;exact wpAny_assign_Name (za I hN hi hx r (fun s' I'=>⟨_,H,I',h⟩) hf)
def af5:ZV:=fun vs σ H Q=>vs=[]/\Q σ H
def acE(t:TG)(u:ZV):ZV:=fun vs σ H Q=>∃v r,vs=v::r/\t v σ H fun ζ H'=>u r ζ H' Q
def Sx:PGs X [] af5:=by intro γ s σ H vs us Q I r h;obtain⟨e,h⟩:=h;subst e;cases r;exact assignInOrder_nil ⟨σ,H,I,h⟩
theorem Nb{es:List Expr}{u:ZV}(h1:PG X e t)(h2:PGs X es u)
  (hs:(assignEach (e::es) X.env).map (·.2)=assign e X.env::(assignEach es X.env).map (·.2):=by rfl):PGs X (e::es) (acE t u):=by
 intro γ s σ H vs us Q I r h;obtain⟨v,vr,e1,h⟩:=h;subst e1;cases r with
 |cons r rr=>rw[hs];exact assignInOrder_cons (bJ (h1 γ s σ H _ _ _ I r h) fun _ s1⟨ο,H1,I1,q1⟩=>h2 γ s1 ο H1 _ _ Q I1 rr q1)
noncomputable def af4(K:QQq)(n:Nat)(t:ZV):TG:=fun v σ H Q=>∃a xs,v=.ref a/\jM K H a xs/\xs.length=n/\t xs σ H Q
def XD{k:Nat}{t:ZV}(hc:X.calm=true)(h:PGs X es t)
  (hn:(assignEach es X.env).length=n:=by rfl)(hst:(assignEach es X.env).findIdx? (·.1)=none:=by rfl):PG X (.Tuple es k pos) (af4 X.K n t):=by
 intro γ s σ H v u Q I r hw;obtain⟨a,xs,e1,hq,hl,hw⟩:=hw;subst e1;cases r;obtain⟨its,rv,ht,hz⟩:=I.tuple hq;exact assign_Tuple_tuple (I.ok.hd hc) ht (by simp[hn,<-hl,rv.length]) hst fun h' hx=>h γ _ σ H xs _ Q (I.kept (t':=s.toks) fun b o e=>hx b o (Qvz (Qqz e)) e) (by simpa using rv) hw
noncomputable def acD(to ti:TE)(t:ac4):TG:=fun v σ H Q=>to σ H fun o H1=>ti σ H1 fun i H2=>t o i v H2 fun H3=>Q σ H3
def Nf{to ti:TE}(ho:PE X o to)(hi:PE X i ti)(hs:KN X t)
  (ha:∀v,assign (.Subscript o i pos) X.env v=(do
   let ov<-holding [v] (eval o X.env)
   let iv<-holding [v,ov] (eval i X.env)
   standAt pos
   holding [v,ov,iv] (setItem ov iv v)
   release [v,ov,iv] []):=by intro _;rfl):PG X (.Subscript o i pos) (acD to ti t):=by
 intro γ s σ H v u Q I r h;refine QKq (Qqq (bJ (ho γ s σ H _ I h) fun ov s1⟨x,H1,I1,r1,q1⟩=>?_));exact QKq (Qqq (bJ (hi γ s1 σ H1 _ I1 q1) fun iv s2⟨y,H2,I2,r2,q2⟩=>QKq (wpAny_standAt (QKq (Qqq (bJ (hs γ s2 σ H2 x y v ov iv u _ I2 r1 r2 r q2) fun _ s3⟨H3,I3,q3⟩=>wpAny_release ⟨σ,H3,I3,q3⟩))))))
def o8(te:TE)(g:TG):TS:=fun D σ H=>te σ H fun x H1=>g x σ H1 D.nx
def M6{te:TE}(he:PE X e te)(hg:PG X tg g)(hs:swapsWithSole [tg] e pos.line X.env=pure false:=by rfl)(hw:swappedStores [tg] e X.env=pure none:=by rfl)
  (h1:(assignEach [tg] X.env).map (·.2)=[assign tg X.env]:=by rfl):PS X (.Assign [tg] e pos) (o8 te g):=by
 intro γ s σ H D I h;refine wpAny_Assign_stores (bJ (he γ s σ H _ I h) fun v s1⟨x,H1,I1,r1,q1⟩=>?_) hs hw;rw[h1];exact bJ (hg γ s1 σ H1 x v _ I1 r1 q1) fun _ s2 q=>q
def jX{x:Str}{te:TE}(hN:X.N.Nodup)(hi:X.N[i]? =some x)(hx:Loc X.env.scope x)(he:PE X e te)(hs:swapsWith e (some (.Name x pos')) pos.line X.env=pure false:=by rfl)(hf:X.fn x=true\/X.env.scope.names.lookup x=some .local:=by first|exact .inl rfl|exact .inr rfl|assumption):
  PS X (.Assign [.Name x pos'] e pos) (o8 te (jO i)):=by
 intro γ s σ H D I h;exact wpAny_Assign_Name (bJ (he γ s σ H _ I h) fun v s1⟨y,H1,I1,r1,q1⟩=>za I1 hN hi hx r1 (fun s2 I2=>⟨_,H1,I2,q1⟩) hf) hs
end
section
variable{X:Cx}{pos:Pos}
noncomputable def Ln(c:TT)(tb:TS):TS:=fun D σ H=>∃W:Nat->St->Hp->Prop,(∃m,W m σ H)/\∀m σ H,W m σ H->
 c σ H fun b H1=>if b=true then∃N:St->Hp->Prop,(∀ζ H',N ζ H'->∃m',m'<m/\W m' ζ H')/\tb {D with nx:=N,ct:=N,bk:=D.nx} σ H1 else D.nx σ H1
def zJ{body:List Stmt}{tb:TS}(hp:PassesOwn (model X.prog X.w) X.A X.env X.xe)(hc:PT X c tc)(hb:wF X body tb):PS X (.While c body [] pos) (Ln tc tb):=by
 intro γ s σ H D I h;obtain⟨W,⟨m0,w0⟩,turn⟩:=h;refine wpAny_While (codeAny_whileLoop (fun n s'=>∃ζ H',Inv X γ ζ H' s'/\W n ζ H') ?_ m0 ⟨σ,H,I,w0⟩);rintro n s1 ⟨ο,H1,I1,w1⟩;refine wpAny_passesOwn hp (bJ (hc γ s1 ο H1 _ I1 (turn n ο H1 w1)) fun b s2⟨H2,I2,q2⟩=>?_);cases b with
 |true=>
  obtain⟨N,hN,q2⟩:=q2;refine wpAny_passesOwn hp (bJ (hb γ s2 ο H2 _ I2 q2) fun f s3 q3=>?_);cases f with
  |next=>obtain⟨σ3,H3,I3,n3⟩:=q3;obtain⟨m',hm,w3⟩:=hN σ3 H3 n3;exact⟨m',hm,σ3,H3,I3,w3⟩
  |cont=>obtain⟨σ3,H3,I3,n3⟩:=q3;obtain⟨m',hm,w3⟩:=hN σ3 H3 n3;exact⟨m',hm,σ3,H3,I3,w3⟩
  |brk=>exact q3
  |ret v=>exact q3
 |false=>exact wpAny_execs_nil ⟨ο,H2,I2,q2⟩
end
structure It where
 go:Nat->Hp->Prop
 yld:Nat->Hp->V->Hp->Prop
 stop:Nat->Hp->Prop
def dB(X:Cx)(γ:QQz)(H:Hp)(b:Addr):Prop:=
 H b=none/\b≠X.env.locals/\b∉X.fs/\(b∈X.ex\/X.s₀.heap.objs.size<=b)/\(∀x c,X.env.cells.lookup x=some c->c≠b)/\∀p∈X.pn++γ,p.1≠b
def Inv.pM{X:Cx}{σ:St}{H H':Hp}{b:Addr}(I:Inv X γ σ H s)(hb:s.heap.objs.size<=b)(hn:H' b=none):dB X γ H' b:=by
 refine⟨hn,Nat.ne_of_gt (Qvq I.lt hb),I.afq hb,.inr (Nat.le_trans I.sz hb),fun x c e z=>?_,fun p hp z=>?_⟩
 ·obtain⟨v,q⟩:=I.cell x c e;exact absurd (Qvq q.lt (by rw[z];exact hb)) (Nat.lt_irrefl _)
 ·exact absurd (Qvq (Qqz (I.pin p hp).1) (by rw[z];exact hb)) (Nat.lt_irrefl _)
structure Turn(P:Program)(w:World)(K:QQq)(tg:Expr)(J:It)(fp:List Addr)(it:Addr)(tn:Nat->Heap->Prop):Prop where
 mem:it∈fp
 obj:∀i h,tn i h->∀b∈fp,∃o,h.get? b=some o/\∀v,o.data≠ .cell v
 keep:∀i h h',tn i h->(∀b∈fp,∀o,h.get? b=some o->h'.get? b=some o)->tn i h'
 item:∀(X:Cx),X.prog=P->X.w=w->X.K=K->X.calm=true->∀(i:Nat)(γ:QQz)(s:Shared)(σ:St)(H:Hp)(E:QZq),Inv X γ σ H s->(∀b∈fp,dB X γ H b)->tn i s.heap->J.go i H->
  wpAny (model P w) X.A (pyNext (.ref it)) (fun r s1=>∃u,r=some u/\
   wpAny (model P w) X.A (letOwnedTupleGo tg (.ref it) u) (fun _ s2=>∃x H',Inv X γ σ H' s2/\RelV x u/\J.yld i H x H'/\tn (i+1) s2.heap/\∀b∈fp,H' b=none) E s1) E s
 done:∀(X:Cx),X.prog=P->X.w=w->X.K=K->X.calm=true->∀(i:Nat)(γ:QQz)(s:Shared)(σ:St)(H:Hp)(E:QZq),Inv X γ σ H s->(∀b∈fp,dB X γ H b)->tn i s.heap->J.stop i H->
  wpAny (model P w) X.A (pyNext (.ref it)) (fun r s1=>r=none/\Inv X γ σ H s1) E s
 self:∀(A:Around)(i:Nat)(s:Shared)(Q:QZq)(E:QZq),tn i s.heap->Q (.ref it) s->wpAny (model P w) A (pyIter (.ref it)) Q E s
abbrev TI:=St->Hp->(It->Hp->Prop)->Prop
def PIE(X:Cx)(γ:QQz)(σ:St)(tg:Expr)(R:It->Hp->Prop)(itv:Value)(s2:Shared):Prop:=
 ∃(it:Addr)(fp:List Addr)(tn:Nat->Heap->Prop)(J:It)(H':Hp),itv=.ref it/\Inv X γ σ H' s2/\Turn X.prog X.w X.K tg J fp it tn/\tn 0 s2.heap/\(∀b∈fp,dB X γ H' b)/\R J H'
def PI(X:Cx)(tg iter:Expr)(wi:TI):Prop:=
 ∀(γ:QQz)(s:Shared)(σ:St)(H:Hp)(R:It->Hp->Prop),Inv X γ σ H s->wi σ H R->
  wpAny (model X.prog X.w) X.A (eval iter X.env) (fun v s1=>wpAny (model X.prog X.w) X.A (pyIter v) (PIE X γ σ tg R) X.xe s1) X.xe s
def vR {A : Around} {s : Shared} {it : Addr} {o : Obj} {vs : Array Value} (ho : s.heap.get? it = some o) (hc : o.cls = .type n) (hd : o.data = .fields vs)
    (hn : ["enumerate", "zip", "dict_itemiterator", "dict_reverseitemiterator", "odict_iterator", "itertools.zip_longest", "itertools.pairwise"].contains n = false) (hQ : Q () s) : wpAny M A (letOwnedTupleGo tg (.ref it) u) Q E s := by
  cases tg <;> first
    | exact QKz hQ
    | (cases u <;> first
        | exact QKz hQ
        | (refine QKq (wpAny_load ho ?_)
           rw [hc, hd]
           show wpAny M A (if _ = true then _ else _) Q E s
           rw [if_neg (by intro h; rw [hn, Bool.false_and] at h; cases h)]
           exact QKz hQ))
noncomputable def Itl(K:QQq)(a:Addr):It:=
 ⟨fun i H=>∃xs x,lC K H a xs/\xs[i]? =some x,fun i H x H'=>H'=H/\∀xs,lC K H a xs->xs[i]? =some x,fun i H=>∃xs,lC K H a xs/\xs.length<=i⟩
noncomputable def Itt(K:QQq)(a:Addr):It:=
 ⟨fun i H=>∃xs x,jM K H a xs/\xs[i]? =some x,fun i H x H'=>H'=H/\∀xs,jM K H a xs->xs[i]? =some x,fun i H=>∃xs,jM K H a xs/\xs.length<=i⟩
noncomputable def Itr(lo:Int)(n:Nat):It:=⟨fun i _=>i<n,fun i H x H'=>H'=H/\x=.int (lo+i),fun i _=>n<=i⟩
theorem o5{w:World}{K:QQq}a it:Turn P w K tg (Itl K a) [it] it (fun i h=>h.IsListIter it a i) where
 mem:=by simp
 obj:=fun i h st b hb=>by
  have e:b=it:=by simpa using hb
  subst e;obtain⟨o,e,c,d⟩:=st;exact⟨o,e,fun v z=>by rw[d]at z;cases z⟩
 keep:=fun i h h' st k=>st.at fun o e=>k it (by simp) o e
 item:=by intro X hP hw hK hc i γ s σ H E I hf st hg;subst hP hw hK;obtain⟨xs,x,hq,hx⟩:=hg;obtain⟨its,rv,p,hz⟩:=I.list hq;obtain⟨u,hu,ru⟩:=rv.get hx;obtain⟨f0,f1,f2,f3,f4,f5⟩:=hf it (by simp);refine wpAny_pyNext_list_item st p.isList (by simpa using hu) fun h' st' sb=>?_;obtain⟨o,e,c,d⟩:=id st';exact⟨u,rfl,vR e c d (by decide) ⟨x,H,I.turned (t':=s.toks) (fun b o hb e=>(sb.2 b hb).trans e) f0 f1 f3 f4 f5,ru,⟨rfl,fun ys hy=>by rw[I.z9 hy hq];exact hx⟩,st',fun b hb=>(hf b hb).1⟩⟩
 done:=by intro X hP hw hK hc i γ s σ H E I hf st hg;subst hP hw hK;obtain⟨xs,hq,hx⟩:=hg;obtain⟨its,rv,p,hz⟩:=I.list hq;obtain⟨f0,f1,f2,f3,f4,f5⟩:=hf it (by simp);have hl:=rv.length;exact wpAny_pyNext_list_end (I.ok.hd hc) st p.isList (by simp;omega) fun h' eb=>⟨rfl,I.turned (fun b o hb e=>eb b o hb e) f0 f1 f3 f4 f5⟩
 self:=fun _ _ _ _ _ st h=>wpAny_pyIter_listiter st h
theorem BZ{w:World}{K:QQq}a it:Turn P w K tg (Itt K a) [it] it (fun i h=>h.IsTupleIter it a i) where
 mem:=by simp
 obj:=fun i h st b hb=>by
  have e:b=it:=by simpa using hb
  subst e;obtain⟨o,e,c,d⟩:=st;exact⟨o,e,fun v z=>by rw[d]at z;cases z⟩
 keep:=fun i h h' st k=>st.at fun o e=>k it (by simp) o e
 item:=by intro X hP hw hK hc i γ s σ H E I hf st hg;subst hP hw hK;obtain⟨xs,x,hq,hx⟩:=hg;obtain⟨its,rv,p,hz⟩:=I.tuple hq;obtain⟨u,hu,ru⟩:=rv.get hx;obtain⟨f0,f1,f2,f3,f4,f5⟩:=hf it (by simp);refine wpAny_pyNext_tuple_item st (p) (by simpa using hu) fun h' st' sb=>?_;obtain⟨o,e,c,d⟩:=id st';exact⟨u,rfl,vR e c d (by decide) ⟨x,H,I.turned (t':=s.toks) (fun b o hb e=>(sb.2 b hb).trans e) f0 f1 f3 f4 f5,ru,⟨rfl,fun ys hy=>by rw[I.uU hy hq];exact hx⟩,st',fun b hb=>(hf b hb).1⟩⟩
 done:=by intro X hP hw hK hc i γ s σ H E I hf st hg;subst hP hw hK;obtain⟨xs,hq,hx⟩:=hg;obtain⟨its,rv,p,hz⟩:=I.tuple hq;obtain⟨f0,f1,f2,f3,f4,f5⟩:=hf it (by simp);have hl:=rv.length;exact wpAny_pyNext_tuple_end (I.ok.hd hc) st (p) (by simp;omega) fun h' eb=>⟨rfl,I.turned (fun b o hb e=>eb b o hb e) f0 f1 f3 f4 f5⟩
 self:=fun _ _ _ _ _ st h=>wpAny_pyIter_tupleiter st h
theorem Ca{w:World}{K:QQq}it lo n:Turn P w K tg (Itr lo n) [it] it (fun i h=>IsRangeIter h it (lo+(i:Nat)*1) ((n:Int)- (i:Nat)) 1) where
 mem:=by simp
 obj:=fun i h st b hb=>by
  have e:b=it:=by simpa using hb
  subst e;exact⟨_,st,fun v z=>by cases z⟩
 keep:=fun i h h' st k=>k it (by simp) _ st
 item:=by intro X hP hw hK hc i γ s σ H E I hf st hg;subst hP hw hK;obtain⟨f0,f1,f2,f3,f4,f5⟩:=hf it (by simp);refine(Walks.range (prog:=X.prog) (w:=X.w) (I.ok.hd hc) it lo 1 n).item i s _ _ hg st fun v h' tk hv st' kk=>?_;obtain⟨t,rfl⟩:=hv;refine⟨_,rfl,vR st' rfl rfl (by decide) ⟨.int _,H,(I.turned (fun b o hb e=>kk b o (by simpa using hb) e) f0 f1 f3 f4 f5),⟨t,?_⟩,⟨rfl,rfl⟩,st',fun b hb=>(hf b hb).1⟩⟩;rw[Int.mul_one]
 done:=by intro X hP hw hK hc i γ s σ H E I hf st hg;obtain⟨f0,f1,f2,f3,f4,f5⟩:=hf it (by simp);exact wpAny_pyNext_range_end (I.ok.hd hc) st (by have:n<=i:=hg;omega) fun h' eb=>⟨rfl,I.turned (fun b o hb e=>eb b o hb e) f0 f1 f3 f4 f5⟩
 self:=fun _ _ _ _ _ st h=>wpAny_pyIter_rangeiter st h
section
variable{X:Cx}{tg:Expr}
def Mw{σ:St}{H:Hp}{R:It->Hp->Prop}{lo hi:Int}{tk:Nat}(I:Inv X γ σ H s)(h1: -(2 ^62)<=lo)(h2:lo<2 ^62)(h3: -(2 ^62)<=hi)(h4:hi<2 ^62)
  (q:R (Itr lo (hi-lo).toNat) H):wpAny (model X.prog X.w) X.A (pyIter (.ref s.heap.objs.size)) (PIE X γ σ tg R) E {s with heap:=s.heap.push {cls:=.type "range",data:=.fields #[.int lo t,.int hi u,.int 1 v]},toks:=tk}:=by
 refine wpAny_pyIter_range (IsRange.new ..) (small_one h1 h2 h3 h4) ?_;have I1:Inv X γ σ H {s with heap:=s.heap.push {cls:=.type "range",data:=.fields #[.int lo t,.int hi u,.int 1 v]},toks:=tk}:=I.kept fun b o e=>QWq _ e;refine⟨(s.heap.push {cls:=.type "range",data:=.fields #[.int lo t,.int hi u,.int 1 v]}).objs.size,[(s.heap.push {cls:=.type "range",data:=.fields #[.int lo t,.int hi u,.int 1 v]}).objs.size],_,_,H,rfl,
  I1.kept fun b o e=>QWq _ e,Ca _ lo (hi-lo).toNat,?_,fun b hb=>?_,q⟩
 ·have e1:lo+((0:Nat))*1=lo:=by simp
  have e2:(((hi-lo).toNat:Nat))- ((0:Nat))=Builtin.Range.rangeSize lo hi 1:=by rw[rangeSize_one];split<;>omega
  rw[e1,e2];exact Qzq _ rfl
 ·have e:b=(s.heap.push {cls:=.type "range",data:=.fields #[.int lo t,.int hi u,.int 1 v]}).objs.size:=by simpa using hb
  subst e;exact I1.pM (QVz _) (I1.hok.fresh (QVz _))
noncomputable def acr(ta:TA):TI:=fun σ H R=>ta σ H fun vs H1=>∃j:Int,vs=[.int j]/\ -(2 ^62)<=j/\j<2 ^62/\R (Itr 0 j.toNat) H1
def Js{ta:TA}(hg:Gl X "range")(hm:X.mg "range"=none)(ha:PA X [a] ta)(hs:starEach [a] X.env=[(false,eval a X.env)]:=by rfl):PI X tg (.Call (.Name "range" p) [a] [] pos) (acr ta):=by
 intro γ s σ H R I h;refine Call_ (kj I hg hm boot_range (PyProof.Rows.callWith_type1 (bJ (ha pos γ s σ H _ I h) fun us s1⟨vs,H1,I1,r1,q1⟩=>?_) hs rfl));obtain⟨j,e,q1,q2,q⟩:=q1;subst e;cases r1 with
 |cons r rr=>cases rr;obtain⟨t,rfl⟩:=r;exact call_range_1 (Mw I1 (by omega) (by omega) q1 q2 (by simpa using q))
noncomputable def aey(wi:TI)(g:TG)(tb:TS):TS:=fun D σ H=>wi σ H fun J H1=>∃W:Nat->Nat->St->Hp->Prop,(∃m,W 0 m σ H1)/\∀i m σ H,W i m σ H->
 (J.stop i H/\D.nx σ H)\/(J.go i H/\∃N:St->Hp->Prop,(∀ζ H',N ζ H'->∃m',m'<m/\W (i+1) m' ζ H')/\∀x H',J.yld i H x H'->g x σ H' fun π H2=>tb {D with nx:=N,ct:=N,bk:=D.nx} π H2)
noncomputable def sG(fp:List Addr)(h:Heap):List (Addr×Obj):=fp.filterMap fun b=>(h.get? b).map fun o=>(b,o)
def ig{h:Heap}{o:Obj}(hb:b∈fp)(e:h.get? b=some o):(b,o)∈sG fp h:=List.mem_filterMap.mpr ⟨b,hb,by rw[e];rfl⟩
def JB{h:Heap}(hp:p∈sG fp h):p.1∈fp/\h.get? p.1=some p.2:=by
 obtain⟨b,hb,e⟩:=List.mem_filterMap.mp hp;cases q:h.get? b with
 |none=>rw[q]at e;cases e
 |some o=>rw[q]at e;have e':=QEq e;subst e';exact⟨hb,q⟩
def Inv.pinned{σ:St}{s:Shared}(I:Inv X γ σ H s)(hf:∀b∈fp,dB X γ H b)(ho:∀b∈fp,∃o,s.heap.get? b=some o/\∀v,o.data≠ .cell v):Inv X (γ++sG fp s.heap) σ H s:=
 I.xF fun p hp=>(QXz.mp hp).elim (fun z=>I.pin p (QVq _ z)) fun z=>by obtain⟨hb,e⟩:=JB z;obtain⟨f0,f1,f2,_⟩:=hf p.1 hb;obtain⟨o,e',d⟩:=ho p.1 hb;rw[e]at e';cases e';exact⟨e,f0,f1,f2,d⟩
def Inv.dj{σ:St}{H:Hp}(I:Inv X (γ++pl) σ H s):Inv X γ σ H s:=I.xF fun p hp=>I.pin p (QVq _ (QWz _ hp))
theorem Xz{body:List Stmt}{g:TG}{pos:Pos}(hp:PassesOwn (model X.prog X.w) X.A X.env X.xe)(hc:X.calm=true)(hi:PI X tg iter wi)(hg:PG X tg g)(hb:wF X body tb)
  (hs:∀x,foldedSetIterable iter X.env x=pure x:=by intro _;rfl):PS X (.For tg iter body [] pos) (aey wi g tb):=by
 intro γ s σ H D I h;refine wpAny_For (bJ (hi γ s σ H _ I h) fun v s1 h1=>bJ h1 fun itv s2 h2=>?_) hs;obtain⟨it,fp,tn,J,H2,e,I2,T,st2,f2,W,⟨m0,w0⟩,turn⟩:=h2;subst e;have stat:∀{H':Hp},(∀b∈fp,H' b=none)->∀b∈fp,dB X γ H' b:=fun hn b hb=>⟨hn b hb,(f2 b hb).2⟩;refine codeAny_forLoop_any (fun n s'=>∃i ζ H',Inv X γ ζ H' s'/\tn i s'.heap/\(∀b∈fp,H' b=none)/\W i n ζ H') ?_ m0 ⟨0,σ,H2,I2,st2,fun b hb=>(f2 b hb).1,w0⟩;rintro n s3 ⟨i,σ3,H3,I3,st3,fr3,w3⟩;rcases turn i n σ3 H3 w3 with ⟨stop,qn⟩|⟨go,N,hN,step⟩
 ·refine wpAny_passesOwn hp (bJ (T.done X rfl rfl rfl hc i γ s3 σ3 H3 X.xe I3 (stat fr3) st3 stop) fun r s4⟨hr,I4⟩=>?_);subst hr;exact wpAny_execs_nil ⟨σ3,H3,I4,qn⟩
 ·refine wpAny_passesOwn hp (bJ (T.item X rfl rfl rfl hc i γ s3 σ3 H3 X.xe I3 (stat fr3) st3 go) fun r s4⟨u,hr,h4⟩=>?_);subst hr;refine wpAny_passesOwn hp (bJ h4 fun _ s5⟨x,H5,I5,r5,y5,st5,fr5⟩=>?_);refine wpAny_passesOwn hp (bJ (hg _ s5 σ3 H5 x u _ (I5.pinned (stat fr5) (T.obj _ _ st5)) r5 (step x H5 y5)) fun _ s6⟨σ6,H6,I6,q6⟩=>?_);refine wpAny_passesOwn hp (bJ (hb _ s6 σ6 H6 _ I6 q6) fun f s7 q7=>?_);have again:∀{σ7:St}{H7:Hp},Inv X _ σ7 H7 s7->N σ7 H7->∃m,m<n/\∃i ζ H',Inv X γ ζ H' s7/\tn i s7.heap/\(∀b∈fp,H' b=none)/\W i m ζ H':=fun{σ7 H7}I7 n7=>by
   obtain⟨m',hm,w7⟩:=hN σ7 H7 n7;refine⟨m',hm,i+1,σ7,H7,I7.dj,T.keep _ _ _ st5 fun b hb o e=>(I7.pin (b,o) (QVq _ (QVq _ (ig hb e)))).1,fun b hb=>?_,w7⟩;obtain⟨o,e,d⟩:=T.obj _ _ st5 b hb;exact(I7.pin (b,o) (QVq _ (QVq _ (ig hb e)))).2.1
  cases f with
  |next=>obtain⟨σ7,H7,I7,n7⟩:=q7;exact again I7 n7
  |cont=>obtain⟨σ7,H7,I7,n7⟩:=q7;exact again I7 n7
  |brk=>obtain⟨σ7,H7,I7,q7⟩:=q7;exact⟨σ7,H7,I7.dj,q7⟩
  |ret v=>obtain⟨x7,σ7,H7,I7,r7,q7⟩:=q7;exact⟨x7,σ7,H7,I7.dj,r7,q7⟩
end
abbrev R2:=V->V->Hp->VK->Prop
def gq(X:Cx)(f:Value->Value->Sem Value)(r:R2):Prop:=
 ∀(γ:QQz)(s:Shared)(σ:St)(H:Hp)(x y:V)(v u:Value)(Q:VK),Inv X γ σ H s->RelV x v->RelV y u->r x y H Q->
  wpAny (model X.prog X.w) X.A (f v u) (EP X γ σ Q) X.xe s
def iw(X:Cx)(f:Value)(r:List V->Hp->VK->Prop):Prop:=
 ∀(γ:QQz)(s:Shared)(σ:St)(H:Hp)(xs:List V)(us:List Value)(Q:VK),Inv X γ σ H s->Vals xs us->r xs H Q->
  wpAny (model X.prog X.w) X.A (call f us) (EP X γ σ Q) X.xe s
def agG(X:Cx)(r:V->Hp->(Bool->Hp->Prop)->Prop):Prop:=
 ∀(γ:QQz)(s:Shared)(σ:St)(H:Hp)(x:V)(v:Value)(Q:Bool->Hp->Prop),Inv X γ σ H s->RelV x v->r x H Q->
  wpAny (model X.prog X.w) X.A (truthy v) (TP X γ σ Q) X.xe s
def Ve(r:R2)(ta tb:TE):TE:=fun σ H Q=>ta σ H fun x H1=>tb σ H1 fun y H2=>r x y H2 Q
noncomputable def rI(C:Int->Int->Prop)(g:Int->Int->V):R2:=fun x y H Q=>∃i j,x=.int i/\y=.int j/\C i j/\Q (g i j) H
def M3(g:Int->Int->V):R2:=fun x y H Q=>∃i j,x=.int i/\y=.int j/\Q (g i j) H
section
variable{X:Cx}{a b c:Expr}{ta tb tc:TE}{pos:Pos}
def ZC(ha:PE X a ta)(hb:PE X b tb){s:Shared}{σ:St}{R:V->V->Hp->Prop}(I:Inv X γ σ H s)
  (h:ta σ H fun x H1=>tb σ H1 fun y H2=>R x y H2){f:Value->Value->Sem Value}
  (hf:∀v u s2 x y H2,Inv X γ σ H2 s2->RelV x v->RelV y u->R x y H2->wpAny (model X.prog X.w) X.A (f v u) Q X.xe s2):
  wpAny (model X.prog X.w) X.A (eval a X.env) (fun v θ=>wpAny (model X.prog X.w) X.A (eval b X.env) (fun u Φ=>wpAny (model X.prog X.w) X.A (f v u) Q X.xe Φ) X.xe θ) X.xe s:=by
 exact bJ (ha γ s σ H _ I h) fun v s1⟨x,H1,I1,r1,q1⟩=>bJ (hb γ s1 σ H1 _ I1 q1) fun u s2⟨y,H2,I2,r2,q2⟩=>hf v u s2 x y H2 I2 r1 r2 q2
def vz{r:R2}(ho:gq X (binaryOp op) r)(ha:PE X a ta)(hb:PE X b tb):PE X (.BinOp a op b pos) (Ve r ta tb):=by intro γ s σ H Q I h;exact wpAny_BinOp (ZC ha hb I h fun v u s2 x y H2 I2 rx ry q=>ho γ s2 σ H2 x y v u Q I2 rx ry q)
def opI{C:Int->Int->Prop}{g:Int->Int->Int}
  (rule:∀(i j:Int)(t u:Tok)(s:Shared)(Q:QZq)(E:QZq),C i j->Q (.int (g i j) s.toks) {s with toks:=s.toks+1}->wpAny (model X.prog X.w) X.A (f (.int i t) (.int j u)) Q E s):
  gq X f (rI C fun i j=>.int (g i j)):=by
 intro γ s σ H x y v u Q I rx ry h;obtain⟨i,j,rfl,rfl,hc,q⟩:=h;obtain⟨t,rfl⟩:=rx;obtain⟨t',rfl⟩:=ry;exact rule i j t t' s _ _ hc ⟨.int _,H,I.tok _,⟨_,rfl⟩,q⟩
def abV{g:Int->Int->Int}
  (rule:∀(i j:Int)(t u:Tok)(s:Shared)(Q:QZq)(E:QZq),Q (.int (g i j) s.toks) {s with toks:=s.toks+1}->wpAny (model X.prog X.w) X.A (f (.int i t) (.int j u)) Q E s):
  gq X f (M3 fun i j=>.int (g i j)):=by
 intro γ s σ H x y v u Q I rx ry h;obtain⟨i,j,rfl,rfl,q⟩:=h;obtain⟨t,rfl⟩:=rx;obtain⟨t',rfl⟩:=ry;exact rule i j t t' s _ _ ⟨.int _,H,I.tok _,⟨_,rfl⟩,q⟩
def Tr{g:Int->Int->Bool}
  (rule:∀(i j:Int)(t u:Tok)(s:Shared)(Q:QZq)(E:QZq),Q (.bool (g i j)) s->wpAny (model X.prog X.w) X.A (f (.int i t) (.int j u)) Q E s):
  gq X f (M3 fun i j=>.bl (g i j)):=by
 intro γ s σ H x y v u Q I rx ry h;obtain⟨i,j,rfl,rfl,q⟩:=h;obtain⟨t,rfl⟩:=rx;obtain⟨t',rfl⟩:=ry;exact rule i j t t' s _ _ ⟨.bl _,H,I,rfl,q⟩
def adi(i j:Int):Prop:=0<j/\j<1073741824
def adh(i j:Int):Prop:=0<=j/\j<=1000000/\i.natAbs<2 ^64
def U4(i j:Int):Prop:=(-(2 ^64)<i/\i<2 ^64)\/(-(2 ^64)<j/\j<2 ^64)
def U4.ok(h:U4 i j):IntMulOk i j:=by
 rcases h with ⟨h1,h2⟩|⟨h1,h2⟩
 ·exact .of_left (intBits_le_64 h1 h2)
 ·exact .of_right (intBits_le_64 h1 h2)
def Yh:gq X (binaryOp .Add) (M3 fun i j=>.int (i+j)):=abV fun _ _ _ _ _ _ _ q=>add_int q
def X4:gq X (binaryOp .Sub) (M3 fun i j=>.int (i-j)):=abV fun _ _ _ _ _ _ _ q=>sub_int q
def X7:gq X (binaryOp .Mult) (rI U4 fun i j=>.int (i*j)):=opI fun _ _ _ _ _ _ _ hc q=>mul_int q hc.ok
def Th:gq X (binaryOp .FloorDiv) (rI adi fun i j=>.int (i/j)):=opI fun i j _ _ _ _ _ hc q=>by have h1:=hc.1;have h2:=hc.2;exact floordiv_int (by omega) (by rw[Int.fdiv_eq_ediv_of_nonneg i (by omega)];exact q) (.inl (PyProof.noPylong_small (by omega)))
def X8:gq X (binaryOp .Mod) (rI (fun _ j=>0<j) fun i j=>.int (i%j)):=opI fun i j _ _ _ _ _ hc q=>by have h1:=hc;exact mod_int' (by omega) (by rw[Int.fmod_eq_emod_of_nonneg i (by omega)];exact q)
def X5:gq X (binaryOp .Pow) (rI adh fun i j=>.int (i ^j.toNat)):=opI fun _ _ _ _ _ _ _ hc q=>pow_int_small hc.1 hc.2.1 hc.2.2 q
end
noncomputable def RG:V->V->Bool
 |.non,.non=>true|.non,.int _=>true|.int _,.non=>true|.non,.bl _=>true|.bl _,.non=>true|.non,.str _=>true|.str _,.non=>true
 |.int _,.int _=>true|.bl _,.bl _=>true|.str _,.str _=>true|.byt _,.byt _=>true
 |.int _,.str _=>true|.str _,.int _=>true|.bl _,.str _=>true|.str _,.bl _=>true
 |_,_=>false
def rEq:R2:=fun x y H Q=>RG x y=true/\Q (.bl (decide (x=y))) H
def rNe:R2:=fun x y H Q=>RG x y=true/\Q (.bl (!decide (x=y))) H
def Hz:decide (V.int i=V.int j)=(i==j):=by rw[Bool.eq_iff_iff];simp
def Ql:decide (V.bl i=V.bl j)=(i==j):=by rw[Bool.eq_iff_iff];simp
def Hy:decide (V.str i=V.str j)=(i==j):=by rw[Bool.eq_iff_iff];simp
def HB:decide (V.byt i=V.byt j)=(i.toList==j.toList):=by rw[Bool.eq_iff_iff];cases i;cases j;simp
section
variable{X:Cx}{a b c:Expr}{ta tb tc:TE}{pos:Pos}
def aV{σ:St}{H:Hp}{Q:VK}(I:Inv X γ σ H s)(q:Q (.bl k) H)(e:k=k'):EP X γ σ Q (.bool k') s:=by subst e;exact⟨.bl k,H,I,rfl,q⟩
def abT:gq X (compareOp .Eq) rEq:=by
 intro γ s σ H x y v u Q I rx ry h;obtain⟨hs,q⟩:=h;cases x with
 |non=>
  cases rx;cases y with
  |non=>cases ry;exact PySem.EqNone.eq_none_none (aV I q (by simp))
  |bl j=>cases ry;exact PySem.EqNone.eq_none_bool (aV I q (by simp))
  |int j=>obtain⟨t',rfl⟩:=ry;exact PySem.EqNone.eq_none_int (aV I q (by simp))
  |str j=>obtain⟨t',rfl⟩:=ry;exact PySem.EqNone.eq_none_str (aV I q (by simp))
  |_=>exact absurd (hs) Qjz
 |bl i=>
  cases rx;cases y with
  |non=>cases ry;exact PySem.EqNone.eq_bool_none (aV I q (by simp))
  |bl j=>cases ry;exact eq_bool (aV I q Ql)
  |str j=>obtain⟨t',rfl⟩:=ry;exact PySem.EqMixed.eq_bool_str (aV I q (by simp))
  |_=>exact absurd (hs) Qjz
 |int i=>
  obtain⟨t,rfl⟩:=rx;cases y with
  |non=>cases ry;exact PySem.EqNone.eq_int_none (aV I q (by simp))
  |int j=>obtain⟨t',rfl⟩:=ry;exact eq_int (aV I q Hz)
  |str j=>obtain⟨t',rfl⟩:=ry;exact PySem.EqMixed.eq_int_str (aV I q (by simp))
  |_=>exact absurd (hs) Qjz
 |str i=>
  obtain⟨t,rfl⟩:=rx;cases y with
  |non=>cases ry;exact PySem.EqNone.eq_str_none (aV I q (by simp))
  |bl j=>cases ry;exact PySem.EqMixed.eq_str_bool (aV I q (by simp))
  |int j=>obtain⟨t',rfl⟩:=ry;exact PySem.EqMixed.eq_str_int (aV I q (by simp))
  |str j=>obtain⟨t',rfl⟩:=ry;exact eq_str (aV I q Hy)
  |_=>exact absurd (hs) Qjz
 |byt i=>
  obtain⟨t,rfl⟩:=rx;cases y with
  |byt j=>obtain⟨t',rfl⟩:=ry;exact PySem.W.eq_bytes (aV I q HB)
  |_=>exact absurd (hs) Qjz
 |_=>cases y<;>exact absurd (hs) Qjz
def abO:gq X (compareOp .NotEq) rNe:=by
 intro γ s σ H x y v u Q I rx ry h;obtain⟨hs,q⟩:=h;cases x with
 |non=>
  cases rx;cases y with
  |non=>cases ry;exact PySem.EqNone.ne_none_none (aV I q (by simp))
  |bl j=>cases ry;exact PySem.EqNone.ne_none_bool (aV I q (by simp))
  |int j=>obtain⟨t',rfl⟩:=ry;exact PySem.EqNone.ne_none_int (aV I q (by simp))
  |str j=>obtain⟨t',rfl⟩:=ry;exact PySem.EqNone.ne_none_str (aV I q (by simp))
  |_=>exact absurd (hs) Qjz
 |bl i=>
  cases rx;cases y with
  |non=>cases ry;exact PySem.EqNone.ne_bool_none (aV I q (by simp))
  |bl j=>cases ry;exact ne_bool (aV I q (congrArg not Ql))
  |str j=>obtain⟨t',rfl⟩:=ry;exact PySem.EqMixed.ne_bool_str (aV I q (by simp))
  |_=>exact absurd (hs) Qjz
 |int i=>
  obtain⟨t,rfl⟩:=rx;cases y with
  |non=>cases ry;exact PySem.EqNone.ne_int_none (aV I q (by simp))
  |int j=>obtain⟨t',rfl⟩:=ry;exact ne_int (aV I q (congrArg not Hz))
  |str j=>obtain⟨t',rfl⟩:=ry;exact PySem.EqMixed.ne_int_str (aV I q (by simp))
  |_=>exact absurd (hs) Qjz
 |str i=>
  obtain⟨t,rfl⟩:=rx;cases y with
  |non=>cases ry;exact PySem.EqNone.ne_str_none (aV I q (by simp))
  |bl j=>cases ry;exact PySem.EqMixed.ne_str_bool (aV I q (by simp))
  |int j=>obtain⟨t',rfl⟩:=ry;exact PySem.EqMixed.ne_str_int (aV I q (by simp))
  |str j=>obtain⟨t',rfl⟩:=ry;exact ne_str (aV I q (congrArg not Hy))
  |_=>exact absurd (hs) Qjz
 |byt i=>
  obtain⟨t,rfl⟩:=rx;cases y with
  |byt j=>obtain⟨t',rfl⟩:=ry;exact PySem.W.ne_bytes (aV I q (congrArg not HB))
  |_=>exact absurd (hs) Qjz
 |_=>cases y<;>exact absurd (hs) Qjz
def abP:gq X (compareOp .Lt) (M3 fun i j=>.bl (decide (i<j))):=Tr fun _ _ _ _ _ _ _ q=>lt_int q
def abQ:gq X (compareOp .LtE) (M3 fun i j=>.bl (decide (i<=j))):=Tr fun _ _ _ _ _ _ _ q=>le_int q
def abR:gq X (compareOp .Gt) (M3 fun i j=>.bl (decide (j<i))):=Tr fun _ _ _ _ _ _ _ q=>gt_int q
def abS:gq X (compareOp .GtE) (M3 fun i j=>.bl (decide (j<=i))):=Tr fun _ _ _ _ _ _ _ q=>ge_int q
def Jy:gq X (compareOp .In) (fun x y H Q=>∃i j,x=.str i/\y=.str j/\Q (.bl (!(Builtin.Str.occurrences j i 0 j.length 1).isEmpty)) H):=by intro γ s σ H x y v u Q I rx ry h;obtain⟨i,j,rfl,rfl,q⟩:=h;obtain⟨t,rfl⟩:=rx;obtain⟨t',rfl⟩:=ry;exact in_str (aV I q rfl)
def Nv:gq X (compareOp .Is) (fun x y H Q=>y=.non/\Q (.bl (decide (x=.non))) H):=by
 intro γ s σ H x y v u Q I rx ry h;obtain⟨rfl,q⟩:=h;cases ry;refine is_none_gen (aV I q ?_);cases x<;>first
  |(cases rx;rfl)
  |(obtain⟨t,rfl⟩:=rx;rfl)
def Td:gq X (compareOp .IsNot) (fun x y H Q=>y=.non/\Q (.bl (!decide (x=.non))) H):=by
 intro γ s σ H x y v u Q I rx ry h;obtain⟨rfl,q⟩:=h;cases ry;refine isnot_none_gen (aV I q ?_);cases x<;>first
  |(cases rx;rfl)
  |(obtain⟨t,rfl⟩:=rx;rfl)
def gq.or{f:Value->Value->Sem Value}{r r':R2}(h:gq X f r)(h':gq X f r'):gq X f (fun x y H Q=>r x y H Q\/r' x y H Q):=by
 intro γ s σ H x y v u Q I rx ry q;rcases q with q|q
 ·exact h γ s σ H x y v u Q I rx ry q
 ·exact h' γ s σ H x y v u Q I rx ry q
def SX{r:R2}(ho:gq X (compareOp op) r)(ha:PE X a ta)(hb:PE X b tb)(hm:behindInMarks op b=false):PE X (.Compare a [op] [b] pos) (Ve r ta tb):=by intro γ s σ H Q I h;exact wpAny_Compare1 (ZC ha hb I h fun v u s2 x y H2 I2 rx ry q=>ho γ s2 σ H2 x y v u Q I2 rx ry q) hm
def Gd(t:TE):TT:=fun σ H Q=>t σ H fun x H'=>∃k,x=.bl k/\Q k H'
def xx{r:R2}(ho:gq X (compareOp op) r)(ha:PE X a ta)(hb:PE X b tb)(hm:behindInMarks op b=false):PT X (.Compare a [op] [b] pos) (Gd (Ve r ta tb)):=by
 intro γ s σ H Q I h;refine wpAny_isTrue_Compare1 (bJ (ha γ s σ H _ I h) fun v s1⟨x,H1,I1,r1,q1⟩=>bJ (hb γ s1 σ H1 _ I1 q1) fun u s2⟨y,H2,I2,r2,q2⟩=>bJ (ho γ s2 σ H2 x y v u _ I2 r1 r2 q2) fun c s3⟨z,H3,I3,r3,k,e,q3⟩=>?_) hm
 subst e;cases r3;exact wpAny_truthy_bool ⟨H3,I3,q3⟩
noncomputable def Cj(r r':R2)(ta tb tc:TE):TE:=fun σ H Q=>ta σ H fun x H1=>tb σ H1 fun y H2=>r x y H2 fun z H3=>∃k,z=.bl k/\
 (if k=true then tc σ H3 fun w' H4=>r' y w' H4 Q else Q (.bl false) H3)
theorem Nt{r r':R2}(ho:gq X (compareOp op) r)(ho':gq X (compareOp op') r')(ha:PE X a ta)(hb:PE X b tb)(hc:PE X c tc)
  (hm:lastMarks [op,op'] [b,c]=false:=by with_unfolding_all rfl):PE X (.Compare a [op,op'] [b,c] pos) (Cj r r' ta tb tc):=by
 intro γ s σ H Q I h;refine Compare_chain (bJ (ha γ s σ H _ I h) fun v s1⟨x,H1,I1,r1,q1⟩=>chain_link (bJ (hb γ s1 σ H1 _ I1 q1) fun u s2⟨y,H2,I2,r2,q2⟩=>bJ (ho γ s2 σ H2 x y v u _ I2 r1 r2 q2) fun d s3⟨z,H3,I3,r3,k,e,q3⟩=>?_)) hm
 subst e;cases r3;refine wpAny_truthy_bool ?_;cases k with
 |false=>exact ite_ff ⟨.bl false,H3,I3,rfl,q3⟩
 |true=>exact ite_tt (chain_last (bJ (hc γ s3 σ H3 _ I3 q3) fun w' s4⟨z',H4,I4,r4,q4⟩=>ho' γ s4 σ H4 y z' u w' Q I4 r2 r4 q4))
theorem M5{r r':R2}(ho:gq X (compareOp op) r)(ho':gq X (compareOp op') r')(ha:PE X a ta)(hb:PE X b tb)(hc:PE X c tc)
  (hm:lastMarks [op,op'] [b,c]=false:=by with_unfolding_all rfl):PT X (.Compare a [op,op'] [b,c] pos) (Gd (Cj r r' ta tb tc)):=by
 intro γ s σ H Q I h;refine isTrue_chain (bJ (ha γ s σ H _ I h) fun v s1⟨x,H1,I1,r1,q1⟩=>test_link (bJ (hb γ s1 σ H1 _ I1 q1) fun u s2⟨y,H2,I2,r2,q2⟩=>bJ (ho γ s2 σ H2 x y v u _ I2 r1 r2 q2) fun d s3⟨z,H3,I3,r3,k,e,q3⟩=>?_)) hm
 subst e;cases r3;refine wpAny_truthy_bool ?_;cases k with
 |false=>obtain⟨k',e',q'⟩:=q3;cases e';exact ite_ff ⟨H3,I3,q'⟩
 |true=>refine ite_tt (test_last (bJ (hc γ s3 σ H3 _ I3 q3) fun w' s4⟨z',H4,I4,r4,q4⟩=>bJ (ho' γ s4 σ H4 y z' u w' _ I4 r2 r4 q4) fun d' s5⟨z2,H5,I5,r5,k2,e2,q5⟩=>?_));subst e2;cases r5;exact wpAny_truthy_bool ⟨H5,I5,q5⟩
def KJ(K:QQq)(x:V)(H:Hp)(k:Bool):Prop:=
 match x with
 |.non=>k=false
 |.bl b=>k=b
 |.int i=>k=(i !=0)
 |.str y=>y.length<=sizeLine/\k=((y.length:Int) !=0)
 |.byt y=>y.size<=sizeLine/\k=((y.size:Int) !=0)
 |.ref p=>(∃xs,lC K H p xs/\k= !xs.isEmpty)\/(∃xs,jM K H p xs/\k= !xs.isEmpty)\/∃kvs,H p=some (.dK kvs)/\k= !kvs.isEmpty
 |_=>False
def DW{kvs:List (κ×V)}{vs:List (κ×Value)}(r:KV kvs vs):(!vs.isEmpty)= !kvs.isEmpty:=by cases r<;>rfl
def tE{its:List Value}(r:Vals xs its):(!its.toArray.isEmpty)= !xs.isEmpty:=by cases r<;>simp
def xQ:(sizeLine:Nat)<2 ^63:=by rw[sizeLine_eq];decide
def Lg:agG X (fun x H Q=>∃k,KJ X.K x H k/\Q k H):=by
 intro γ s σ H x v Q I rx h;obtain⟨k,e,q⟩:=h;have hs:=sizeLine_eq;cases x with
 |non=>cases rx;subst e;exact truthy_none ⟨H,I,q⟩
 |bl b=>cases rx;subst e;exact wpAny_truthy_bool ⟨H,I,q⟩
 |int i=>obtain⟨t,rfl⟩:=rx;subst e;exact PySem.P.truthy_int ⟨H,I,q⟩
 |str y=>obtain⟨t,rfl⟩:=rx;obtain⟨hy,e'⟩:y.length<=sizeLine/\k=((y.length:Int) !=0):=e;subst e';exact PySem.P.truthy_str (by omega) ⟨H,I.tok _,q⟩
 |byt y=>obtain⟨t,rfl⟩:=rx;obtain⟨hy,e'⟩:y.size<=sizeLine/\k=((y.size:Int) !=0):=e;subst e';exact PySem.W.truthy_bytes (by omega) ⟨H,I.tok _,q⟩
 |ref p=>
  cases rx;have e':=e;rcases e' with ⟨xs,hx,e'⟩|⟨xs,hx,e'⟩|⟨kvs,hx,e'⟩
  ·subst e';obtain⟨its,r,pl,hz⟩:=I.list hx;have hlen:=r.length;exact wpAny_truthy_list pl.isList (by simp only[Qyq];omega) ⟨H,I.tok _,by rw[tE r];exact q⟩
  ·subst e';obtain⟨its,r,pl,hz⟩:=I.tuple hx;have hlen:=r.length;exact truthy_tuple pl (by simp only[Qyq];omega) ⟨H,I.tok _,by rw[tE r];exact q⟩
  ·subst e';obtain⟨hz,hS,vs,r,m⟩:kvs.length<=sizeLine/\(p==sysModules)=false/\∃vs,KV kvs vs/\s.heap.DictOf _ p vs:=I.hok p _ hx;have hlen:=Paired.length r;exact wpAny_truthy_dict hS m (by omega) ⟨H,I.tok _,by rw[DW r];exact q⟩
 |_=>exact(e).elim
def zH(ha:PE X a ta)(he:∀whole,isTrue a X.env whole=(do let v<-whole;standAt a.pos;holding [v] (truthy v))):
  PT X a (fun σ H Q=>ta σ H fun x H'=>∃k,KJ X.K x H' k/\Q k H'):=by
 intro γ s σ H Q I h;exact isTrue_plain (bJ (ha γ s σ H _ I h) fun v s1⟨x,H1,I1,r1,q1⟩=>Lg γ s1 σ H1 x v Q I1 r1 q1) (he _)
def vals1{us:List Value}(r:Vals [x] us):∃u,us=[u]/\RelV x u:=by
 cases r with
 |cons r1 r2=>cases r2;exact⟨_,rfl,r1⟩
def U0(K:QQq)(x:V)(H:Hp)(n:Nat):Prop:=
 match x with
 |.str y=>y.length<=sizeLine/\n=y.length
 |.byt y=>y.size<=sizeLine/\n=y.size
 |.ref p=>(∃xs,lC K H p xs/\n=xs.length)\/∃xs,jM K H p xs/\n=xs.length
 |_=>False
def uh:iw X (.builtin "len") (fun xs H Q=>∃x n,xs=[x]/\U0 X.K x H n/\Q (.int n) H):=by
 intro γ s σ H xs us Q I r h;obtain⟨x,n,rfl,e,q⟩:=h;obtain⟨u,rfl,rx⟩:=vals1 r;have hs:=sizeLine_eq;cases x with
 |str y=>obtain⟨t,rfl⟩:=rx;obtain⟨hy,e'⟩:y.length<=sizeLine/\n=y.length:=e;subst e';exact len_str (by omega) ⟨.int _,H,I.tok _,⟨_,rfl⟩,q⟩
 |byt y=>obtain⟨t,rfl⟩:=rx;obtain⟨hy,e'⟩:y.size<=sizeLine/\n=y.size:=e;subst e';exact PySem.W.len_bytes (by omega) ⟨.int _,H,I.tok _,⟨_,rfl⟩,q⟩
 |ref p=>
  cases rx;have e':=e;rcases e' with ⟨xs,hx,e'⟩|⟨xs,hx,e'⟩
  ·subst e';obtain⟨its,r',pl,hz⟩:=I.list hx;have hlen:=r'.length;exact Calls.call_len_list pl.isList (by simp only[Qyq];omega) ⟨.int xs.length,H,I.tok _,⟨_,by simp only[Qyq];rw[hlen]⟩,q⟩
  ·subst e';obtain⟨its,r',pl,hz⟩:=I.tuple hx;have hlen:=r'.length;exact len_tuple pl (by simp only[Qyq];omega) ⟨.int xs.length,H,I.tok _,⟨_,by simp only[Qyq];rw[hlen]⟩,q⟩
 |_=>exact(e).elim
end
structure Fx(h:Heap)(x dx C:Addr)(mA:QZz):Prop where
 obj:h.get? x=some (PySem.W.instObj C dx)
 ns:h.Ns1 dx mA
 ne:dx≠x
def JP{h:Heap}{dx:Addr}{mA:QZz}(n:h.Ns1 dx mA):∃od,h.get? dx=some od/\∀name,PySem.W.lookIn name od=some (mA name):=by
 obtain⟨o,es,ep,ho,hd,hk,_,hm⟩:=n;refine⟨o,ho,fun name=>?_⟩;have e:=hm name;unfold nsFind findBy at e;rw[<-Array.find?_toList]at e;unfold PySem.W.lookIn;rw[hd];dsimp only;split
 ·rename_i y q;rw[q]at e;exact congrArg some e
 ·rename_i q;rw[q]at e;have a:es.toList.any (·.refKey)=false:=by
   rw[List.any_eq_false];intro y hy;obtain⟨z,t,hkey⟩:=hk y (Array.mem_toList_iff.mp hy);simp[DictEntry.refKey,hkey]
  have a':¬es.toList.any (·.refKey)=true:=by rw[a];exact Qjz
  rw[if_neg a'];exact congrArg some e
def Fx.look{h:Heap}{x dx C:Addr}{mA:QZz}(I:Fx h x dx C mA):∃od,PySem.W.InstAt h x (PySem.W.instObj C dx) C (some od)/\∀name,PySem.W.lookIn name od=some (mA name):=
 let ⟨od,ho,hl⟩:=JP I.ns
 ⟨od,⟨I.obj,rfl,rfl,ho⟩,hl⟩
section
variable{prog:Program}{w:World}{A:Around}{E:QZq}{s:Shared}{K:QQq}{x dx C f:Addr}{mA:QZz}{name:Str}{v:Value}
def Uh{expr:Bool}{Q:QZq}(X:K.In s.heap)(I:Fx s.heap x dx C mA)(hg:PySem.W.plainGet K C name=true)(hh:PySem.W.hasDictIn K C=true)
  (ha:PySem.W.findIn K (.ref C) name=some none)(hv:mA name=some v)(hv':PySem.W.handedIn v=true)(h:Q v {s with toks:=s.toks+1}):
  wpAny (model prog w) A (getAttr (.ref x) name expr) Q E s:=by
 obtain⟨od,J,hl⟩:=I.look;exact PySem.W.get_value X J (PySem.W.plainGet_of hg).1 (PySem.W.findObj_own hh ha rfl (by rw[hl,hv])) hv' h
def Py{pl:Sem Bool}{Q:Value×List Value->Shared->Prop}(X:K.In s.heap)(I:Fx s.heap x dx C mA)(hg:PySem.W.plainGet K C name=true)
  (hf:PySem.W.findIn K (.ref C) name=some (some (.ref f)))(ht:PySem.W.isFn K (.ref f)=true)(hv:mA name=none)(h:Q (.ref f,[.ref x]) s):
  wpAny (model prog w) A (getMethod (.ref x) name pl) Q E s:=by
 obtain⟨od,J,hl⟩:=I.look;exact PySem.W.method_fn X J (PySem.W.plainGet_of hg).1 (PySem.W.plainGet_of hg).2 hf (beq_iff_eq.mp ht) (by show(PySem.W.lookIn name od).map (·.isSome)=some false;rw[hl,hv];rfl) h
def RB{ns:List Str}{Q:Unit->Shared->Prop}(X:K.In s.heap)(I:Fx s.heap x dx C mA)
  (hs:PySem.W.findIn K (.ref C) "__setattr__"=some (some (.builtin "object.__setattr__")))(hp:PySem.W.plainOver K C=true)(ht:PySem.W.takerIn K C name=some none)(hh:PySem.W.hasDictIn K C=true)
  (hw:PySem.Within mA ns)(hsz:ns.length<=sizeLine)
  (h:∀h',Fx h' x dx C (fun y=>if y=name then some v else mA y)->Heap.SameBut dx s.heap h'->Q () {s with heap:=h',toks:=s.toks+2}):
  wpAny (model prog w) A (setAttr (.ref x) name v) Q E s:=by
 obtain⟨od,J,hl⟩:=I.look;refine PySem.W.set_plain X J hs (PySem.W.osa_open (s:={s with toks:=s.toks+1}) (r:=none) X J hp ht fun b=>?_);obtain⟨cd,hc,hd'⟩:=PySem.W.any_some hh;have hx:s.heap.get? x=some ⟨.ref C,some dx,.plain, #[]⟩:=I.obj;refine QKq (QKz (QKq (QKq (wpAny_loadPart hx (QKq (PySem.W.Looks.here (s:={s with toks:=s.toks+1}) (PySem.W.looks_clsIn X hc) ?_))))));rw[hd'];refine QKz (a:=some dx) (QKq (QKz (QKq ?_)));refine wpAny_nsSet1 (s:={s with toks:=s.toks+1}) I.ns fun h' hn2 hs2=>?_;obtain⟨oD,esD,epD,hoD,hdD,hcD⟩:=hn2.count (PySem.Within.cons name v hw);refine QKq (wpAny_lookBehind hoD (by rw[hdD];exact pastItsLine_dict (Nat.le_trans hcD (by rw[QBq];omega))) ?_);exact QKz (h _ ⟨(hs2.2 _ (Ne.symm I.ne)).trans I.obj,hn2,I.ne⟩ hs2)
def Ol{R:Result->Shared->Prop}{vs:List Value}{kw:List (Str×Value)}(X:K.In s.heap)(hm:PySem.W.makesIn K C=true)
  (hi:PySem.W.findIn K (.ref C) "__init__"=some (some (.ref f)))(hf:PySem.W.typeIn K (.ref f)=some (.type "function"))
  (h:codeAny (model prog w) (A.under (.builtin "type.__call__" ⟨.ref C::vs,kw⟩)) (.call (.ref f) ⟨.ref (s.heap.objs.size+1)::vs,kw⟩) (PySem.W.InitBack (s.heap.objs.size+1) R)
   {s with heap:=(s.heap.push PySem.W.emptyDict).push (PySem.W.instObj C s.heap.objs.size)}):
  codeAny (model prog w) A (.call (.ref C) ⟨vs,kw⟩) R s:=by
 obtain⟨hh,g,d,t,os⟩:=s;exact PySem.W.make_core (PySem.W.makes_of X hm) (PySem.W.looks_findIn X hi) (fun self=>PySem.W.bind_fn X self hf) (.inl rfl) h
end
noncomputable def ju(f:Str)(v:V):List (Str×V)->List (Str×V)
 |[]=>[(f,v)]
 |(g,x)::r=>if g=f then(g,v)::r else(g,x)::ju f v r
theorem qg(f g:Str)(v:V):∀fs:List (Str×V),(ju f v fs).lookup g=if g=f then some v else fs.lookup g
 |[]=>by
  show List.lookup g [(f,v)]=_;by_cases h:g=f
  ·have hb:(g==f)=true:=beq_iff_eq.mpr h;simp only[List.lookup,hb,if_pos h]
  ·have hb:(g==f)=false:=beq_eq_false_iff_ne.mpr h;simp only[List.lookup,hb,if_neg h]
 |(k,x)::r=>by
  have ih:=qg f g v r;rw[show ju f v ((k,x)::r)=(if k=f then(k,v)::r else(k,x)::ju f v r)from rfl];by_cases hk:k=f
  ·rw[if_pos hk];by_cases h:g=k
   ·have hb:(g==k)=true:=beq_iff_eq.mpr h;simp only[List.lookup,hb,if_pos (h.trans hk)]
   ·have hb:(g==k)=false:=beq_eq_false_iff_ne.mpr h;simp only[List.lookup,hb,if_neg (fun e:g=f=>h (e.trans hk.symm))]
  ·rw[if_neg hk];by_cases h:g=k
   ·have hb:(g==k)=true:=beq_iff_eq.mpr h;simp only[List.lookup,hb,if_neg (fun e:g=f=>hk (h.symm.trans e))]
   ·have hb:(g==k)=false:=beq_eq_false_iff_ne.mpr h;simp only[List.lookup,hb];exact ih
theorem pG(f:Str)(v:V):∀fs:List (Str×V),f∈(ju f v fs).map (·.1)/\∀g,g∈fs.map (·.1)->g∈(ju f v fs).map (·.1)
 |[]=>⟨by simp[ju],fun g h=>by simp at h⟩
 |(k,x)::r=>by
  obtain⟨i1,i2⟩:=pG f v r;rw[show ju f v ((k,x)::r)=(if k=f then(k,v)::r else(k,x)::ju f v r)from rfl];by_cases hk:k=f
  ·rw[if_pos hk];subst hk;exact⟨by simp,fun g h=>by simpa using h⟩
  ·rw[if_neg hk];refine⟨?_,fun g h=>?_⟩
   ·rw[Qyz];exact QYq _ i1
   ·rw[Qyz]at h⊢;rcases QCq.mp h with e|e
    ·exact QCq.mpr (.inl e)
    ·exact QYq _ (i2 g e)
theorem qi(f:Str)(v:V):∀fs:List (Str×V),(ju f v fs).length<=fs.length+1
 |[]=>by simp[ju]
 |(k,x)::r=>by
  have ih:=qi f v r;rw[show ju f v ((k,x)::r)=(if k=f then(k,v)::r else(k,x)::ju f v r)from rfl];by_cases hk:k=f
  ·rw[if_pos hk,QBq,QBq];omega
  ·rw[if_neg hk,QBq,QBq];omega
def iC.some_of{o:Option Value}(r:iC (some v) o):∃u,o=some u/\RelV v u:=by
 cases o with
 |none=>exact(r).elim
 |some u=>exact⟨u,rfl,r⟩
def iC.none_of{o:Option Value}(r:iC none o):o=none:=by
 cases o with
 |none=>rfl
 |some u=>exact(show False from r).elim
def J6{v:V}{u:Value}(r:RelV v u):PySem.W.handedIn u=true:=by
 cases v with
 |non=>cases (show u=Value.none from r);rfl
 |bl b=>cases (show u=Value.bool b from r);rfl
 |int i=>obtain⟨t,e⟩:=(show∃t,u=Value.int i t from r);cases e;rfl
 |str x=>obtain⟨t,e⟩:=(show∃t,u=Value.str x t from r);cases e;rfl
 |byt b=>obtain⟨t,e⟩:=(show∃t,u=Value.bytes b t from r);cases e;rfl
 |flt b=>obtain⟨t,e⟩:=(show∃t,u=Value.float b t from r);cases e;rfl
 |ref a=>cases (show u=Value.ref a from r);rfl
 |ty n=>cases (show u=Value.type n from r);rfl
section
variable{P:Program}{w:World}{H H':Hp}{h h':Heap}{a C dx:Addr}{fs fs':List (Str×V)}
def qL(hok:mQ P w H h)(e:H a=some (.ins C dx fs)):∃mA,Fx h a dx C mA/\(∀f,iC (fs.lookup f) (mA f))/\PySem.Within mA (fs.map (·.1))/\fs.length<=1000/\H dx=some (.own a):=by obtain⟨d,z,ne,ob,mA,n,r,q⟩:=(show bZ P w H h a (.ins C dx fs)from hok a _ e);exact⟨mA,⟨ob,n,ne⟩,r,q,z,d⟩
end
structure oZ(K:QQq)(C:Addr):Prop where
 pg:PySem.W.plainGet K C Str.empty=true
 hd:PySem.W.hasDictIn K C=true
 po:PySem.W.plainOver K C=true
 sa:PySem.W.findIn K (.ref C) "__setattr__"=some (some (.builtin "object.__setattr__"))
def oZ.get{K:QQq}{C:Addr}(c:oZ K C)(f:Str):PySem.W.plainGet K C f=true:=c.pg
def aW(K:QQq)(C:Addr)(f:Str):Prop:=PySem.W.findIn K (.ref C) f=some none
def aW.taker{K:QQq}{C:Addr}{f:Str}(n:aW K C f):PySem.W.takerIn K C f=some none:=by unfold PySem.W.takerIn;rw[show PySem.W.findIn K (.ref C) f=some none from n];rfl
structure Meth(K:QQq)(C:Addr)(m:Str)(f:Addr):Prop where
 at_:PySem.W.findIn K (.ref C) m=some (some (.ref f))
 fn:PySem.W.isFn K (.ref f)=true
 kp:PySem.W.keepIn K (.ref f)=true
section
variable{X:Cx}{γ:QQz}{σ:St}{H:Hp}{s:Shared}{a C dx:Addr}{fs:List (Str×V)}{f:Str}{v:V}{A:Around}{E:QZq}
def Ef{b:Bool}{Q:QZq}(I:Inv X γ σ H s)(e:H a=some (.ins C dx fs))(c:oZ X.K C)(n:aW X.K C f)(l:fs.lookup f=some v)
  (h:∀u s',Inv X γ σ H s'->RelV v u->Q u s'):wpAny (model X.prog X.w) A (getAttr (.ref a) f b) Q E s:=by
 obtain⟨mA,O,r,_,_,_⟩:=qL I.hok e;obtain⟨u,hu,ru⟩:=iC.some_of (v:=v) (o:=mA f) (by rw[<-l];exact r f);exact Uh I.Ab O (c.get f) c.hd n hu (J6 ru) (h u _ (I.tok _) ru)
def tO{m:Str}{g:Addr}{pl:Sem Bool}{Q:Value×List Value->Shared->Prop}(I:Inv X γ σ H s)(e:H a=some (.ins C dx fs))(c:oZ X.K C)(k:Meth X.K C m g)(l:fs.lookup m=none)
  (h:Q (.ref g,[.ref a]) s):wpAny (model X.prog X.w) A (getMethod (.ref a) m pl) Q E s:=by
 obtain⟨mA,O,r,_,_,_⟩:=qL I.hok e;have hn:mA m=none:=iC.none_of (by rw[<-l];exact r m);exact Py I.Ab O (c.get m) k.at_ k.fn hn h
def Cq{y:V}{u:Value}{Q:Unit->Shared->Prop}(I:Inv X γ σ H s)(e:H a=some (.ins C dx fs))(c:oZ X.K C)(n:aW X.K C f)(hl:fs.length<1000)(ry:RelV y u)
  (h:∀s',Inv X γ σ (upd H a (.ins C dx (ju f y fs))) s'->Q () s'):wpAny (model X.prog X.w) A (setAttr (.ref a) f u) Q E s:=by
 obtain⟨mA,O,r,wi,_,ho⟩:=qL I.hok e;have hz:(fs.map (·.1)).length<=sizeLine:=by rw[QAq,sizeLine_eq];omega
 refine RB I.Ab O c.sa c.po n.taker c.hd wi hz fun h' O' sb=>h _ ?_;have hd:∃o,h'.get? dx=some o:=let ⟨o,_,_,e',_⟩:=O'.ns;⟨o,e'⟩
 refine I.write (x:=a) (e:=dx) (by rw[e];exact True.intro) (.inr ho) (fun b q hb z=>(sb.2 b hb).trans z) hd ?_;refine⟨by rw[ak O.ne];exact ho,?_,O.ne,O'.obj,_,O'.ns,fun g=>?_,fun g hg=>?_⟩
 ·have:=qi f y fs;omega
 ·show iC ((ju f y fs).lookup g) (if g=f then some u else mA g);rw[qg];by_cases q:g=f
  ·rw[if_pos q,if_pos q];exact ry
  ·rw[if_neg q,if_neg q];exact r g
 ·by_cases q:g=f
  ·rw[q];exact(pG f y fs).1
  ·refine(pG f y fs).2 g (wi g fun z=>hg ?_);show(if g=f then some u else mA g)=none;rw[if_neg q];exact z
def Inv.made(I:Inv X γ σ H s):Inv X γ σ (upd (upd H s.heap.objs.size (.own (s.heap.objs.size+1))) (s.heap.objs.size+1) (.ins C s.heap.objs.size []))
  {s with heap:=(s.heap.push PySem.W.emptyDict).push (PySem.W.instObj C s.heap.objs.size)}:=by
 have e1:(s.heap.push PySem.W.emptyDict).get? s.heap.objs.size=some PySem.W.emptyDict:=Qzq s.heap rfl;have e2:((s.heap.push PySem.W.emptyDict).push (PySem.W.instObj C s.heap.objs.size)).get? (s.heap.objs.size+1)=some (PySem.W.instObj C s.heap.objs.size):=by have:=Qzq (s.heap.push PySem.W.emptyDict) (o:=PySem.W.instObj C s.heap.objs.size) rfl;rwa[Heap.size_push]at this
 have e3:(s.heap.push PySem.W.emptyDict).Ns s.heap.objs.size (fun _=>none):=⟨PySem.W.emptyDict, #[],_,e1,rfl,(fun e he=>absurd he (by simp)),fun _=>rfl⟩;have I1:=I.laid (a:=s.heap.objs.size) (o:=.own (s.heap.objs.size+1)) (h':=s.heap.push PySem.W.emptyDict) (t':=s.toks) (fun b u q=>QWq _ q) (QVz _) ⟨_,e1⟩;refine I1.laid (a:=s.heap.objs.size+1) (o:=.ins C s.heap.objs.size []) (t':=s.toks) (fun b u q=>QWq _ q) (Nat.le_of_eq (Heap.size_push _ _)) ?_;have ne:s.heap.objs.size≠s.heap.objs.size+1:=Qvz (Nat.lt_succ_self _);refine⟨by rw[ak ne,aq],QIq _,ne,e2,fun _=>none,(Heap.Ns1.of_empty e3).at fun o q=>QWq _ q,fun _=>True.intro,fun y hy=>absurd rfl hy⟩
def Ia{prog:Program}{w:World}{env:Env}{e:Expr}{f:Str}{pos:Pos}{s:Shared}{Q:QZq}(hb:attributeBase e f env (eval e env)=eval e env)
  (h:wpAny (model prog w) A (eval e env) (fun o θ=>wpAny (model prog w) A (getAttr o f true) Q E θ) E s):wpAny (model prog w) A (eval (.Attribute e f pos) env) Q E s:=
 Attribute_any_ h (by rw[arm_eval_Attribute,hb])
end
noncomputable def Rm(K:QQq)(ta:TE)(f:Str):TE:=fun σ H Q=>ta σ H fun x H1=>∃a C dx fs v,x=.ref a/\H1 a=some (.ins C dx fs)/\oZ K C/\aW K C f/\fs.lookup f=some v/\Q v H1
noncomputable def mV(K:QQq)(ta tv:TE)(f:Str):TS:=fun D σ H=>tv σ H fun y H1=>ta σ H1 fun x H2=>∃a C dx fs,x=.ref a/\H2 a=some (.ins C dx fs)/\oZ K C/\aW K C f/\fs.length<1000/\
 D.nx σ (upd H2 a (.ins C dx (ju f y fs)))
section
variable{X:Cx}{o e value:Expr}{f:Str}{pos pos' tpos:Pos}{ta tv:TE}
def pB(he:PE X e ta)(hb:attributeBase e f X.env (eval e X.env)=eval e X.env):PE X (.Attribute e f pos) (Rm X.K ta f):=by intro γ s σ H Q I h;refine Ia hb (bJ (he γ s σ H _ I h) fun u s1⟨x,H1,I1,rx,a,C,dx,fs,v,ex,ea,c,n,l,q⟩=>?_);subst ex;obtain rfl:u=Value.ref a:=rx;exact Ef I1 ea c n l fun u' s2 I2 ru=>⟨v,H1,I2,ru,q⟩
def jY(ha:PE X o ta)(hv:PE X value tv)(hs:swapsWith value (some (.Attribute o f pos')) pos.line X.env=pure false):PS X (.Assign [.Attribute o f pos'] value pos) (mV X.K ta tv f):=by intro γ s σ H D I h;refine plainObj_wpAny_Assign_Attribute (bJ (hv γ s σ H _ I h) fun u s1⟨y,H1,I1,ry,q⟩=>bJ (ha γ s1 σ H1 _ I1 q) fun ov s2⟨x,H2,I2,rx,a,C,dx,fs,ex,ea,c,n,l,q2⟩=>?_) hs;subst ex;obtain rfl:ov=Value.ref a:=rx;exact Cq I2 ea c n l ry fun s3 I3=>⟨σ,_,I3,q2⟩
end
section
variable{X:Cx}{γ:QQz}{σ:St}{H:Hp}{s:Shared}{A:Around}{E:QZq}{Q:QZq}{c:Value}{b:Bool}
end
structure dD(k:Nat)(A:Around):Prop where
 hd:A.handled=none
 dp:A.depth+3*k+5<recursionLimit
 un:A.units+16*k+200<cLine
def dD.mono{A:Around}(r:dD k A)(h:j<=k):dD j A:=⟨r.hd,by have:=r.dp;omega,by have:=r.un;omega⟩
theorem dD.deeper{A:Around}(r:dD (k+1) A)env:dD k (A.deeper env):=
 ⟨r.hd,by have:=r.dp;show A.depth+1+3*k+5<_;omega,by have:=r.un;show A.units+3+16*k+200<_;omega⟩
theorem dD.in1{k:Nat}{A:Around}(r:dD (k+1) A):dD k A.in1:=
 ⟨r.hd,by have:=r.dp;show A.depth+3*k+5<_;omega,by have:=r.un;show A.units+1+16*k+200<_;omega⟩
def Dr{A:Around}{C:Addr}{us:List Value}{kw:List (Str×Value)}:(A.under (.builtin "type.__call__" ⟨.ref C::us,kw⟩)).depth=A.depth+1:=by first|rfl|simp[Around.under,Code.weight,Code.isCreation,Code.isGuard,Code.isCaller,Code.frames,Code.isFrame,guardIds]
def Do{A:Around}{C:Addr}{us:List Value}{kw:List (Str×Value)}:(A.under (.builtin "type.__call__" ⟨.ref C::us,kw⟩)).units=A.units+1:=by first|rfl|simp[Around.under,Code.cUnits,Code.frames,Code.isFrame]
def dD.make{k:Nat}{A:Around}(r:dD (k+1) A)(C:Addr)(us:List Value)(kw:List (Str×Value)):dD k (A.under (.builtin "type.__call__" ⟨.ref C::us,kw⟩)):=
 ⟨r.hd,by have:=r.dp;rw[Dr];omega,by have:=r.un;rw[Do];omega⟩
theorem dD.depth{A:Around}(r:dD k A):A.depth<recursionLimit:=by have:=r.dp;omega
theorem dD.units{k:Nat}{A:Around}(r:dD k A):A.units+64<cLine:=by have:=r.un;omega
def cN:TA:=fun _ H Q=>Q [] H
def aG(ta:TE)(tr:TA):TA:=fun σ H Q=>ta σ H fun x H1=>tr σ H1 fun xs H2=>Q (x::xs) H2
section
variable{X:Cx}{e:Expr}{es:List Expr}{te:TE}{t:TA}{pos:Pos}
def aU:PA X [] cN:=fun _ _ _ _ H Q I h=>Calls.spliced_nil ⟨[],H,I,.nil,h⟩
def aC(ha:PE X e te)(hr:PA X es t)(hs:starEach (e::es) X.env=(false,eval e X.env)::starEach es X.env:=by rfl):PA X (e::es) (aG te t):=by intro pos γ s σ H Q I h;rw[hs];exact Calls.spliced_cons (bJ (ha γ s σ H _ I h) fun u s1⟨x,H1,I1,r1,q1⟩=>bJ (hr pos γ s1 σ H1 _ I1 q1) fun us s2⟨xs,H2,I2,r2,q2⟩=>⟨x::xs,H2,I2,.cons r1 r2,q2⟩)
noncomputable def Rh(t:TA):TE:=fun σ H Q=>t σ H fun xs H1=>xs.length<=sizeLine/\∀p,H1 p=none->Q (.ref p) (upd H1 p (.tup xs))
noncomputable def Lw(t:TA):TE:=fun σ H Q=>t σ H fun xs H1=>xs.length<=sizeLine/\∀p,H1 p=none->Q (.ref p) (upd H1 p (.lst xs))
def Dg{x1}(h:PA X es t):PE X (.Tuple es x1 pos) (Rh t):=by intro γ s σ H Q I hq;refine wpAny_Tuple_spliced (bJ (h pos γ s σ H _ I hq) fun us s1⟨xs,H1,I1,r,z,q⟩=>⟨by rw[<-r.length];exact z,?_⟩);refine⟨.ref s1.heap.objs.size,upd H1 s1.heap.objs.size _,I1.laid (fun b u e=>QWq _ e) (QVz _) ?_,rfl,q _ (I1.hok.fresh (QVz _))⟩;exact⟨z,us,r,TupOk.new _ _⟩
def Di(h:PA X es t):PE X (.List es pos) (Lw t):=by intro γ s σ H Q I hq;refine wpAny_List_spliced (bJ (h pos γ s σ H _ I hq) fun us s1⟨xs,H1,I1,r,z,q⟩=>⟨by rw[<-r.length];exact z,?_⟩);refine⟨.ref s1.heap.objs.size,upd H1 s1.heap.objs.size _,I1.laid (fun b u e=>QWq _ e) (QVz _) ?_,rfl,q _ (I1.hok.fresh (QVz _))⟩;exact⟨z,us,0,r,Qzq _ rfl⟩
end
abbrev Sp:=List V->Hp->VK->XK->Prop
abbrev K1:=List Env->Hp->Shared->XK->Value->Shared->Prop
structure yC(P:Program)(w:World)(K:QQq)(mg:QZz)(base:Heap)(A:Around)(outer:List Env)(s:Shared)(H:Hp):Prop where
 frames:A.frames=some outer
 mod:Mod K mg base
 bs:∀b o,base.get? b=some o->s.heap.get? b=some o/\H b=none
 bsz:base.objs.size<=s.heap.objs.size
 my:s.heap.FunFrames base outer
 frf:∀b∈frs outer,H b=none
 hok:mQ P w H s.heap
 bare:AllBare s.gens
def CE(outer:List Env)(P:Program)(w:World)(H:Hp)(s:Shared)(Q:VK)(u:Value)(s':Shared):Prop:=
 ∃v H',s'.os=s.os/\AllBare s'.gens/\Un (frs outer) [] H H' s.heap s'.heap/\mQ P w H' s'.heap/\RelV v u/\Q v H'
def CR(CX:K1)(outer:List Env)(P:Program)(w:World)(H:Hp)(s:Shared)(Q:VK)(E:XK)(r:Result)(s':Shared):Prop:=
 match r with
 |.ok (.ret u)=>CE outer P w H s Q u s'
 |.ok _=>False
 |.error e=>CX outer H s E e s'
structure bH(P:Program)(w:World)(K:QQq)(mg:QZz)(base:Heap)(CX:K1)(k:Nat)(f:Addr)(fd:FuncData)(ps:List Str)(sp:Sp):Prop where
 len:∀vs H Q E,sp vs H Q E->vs.length=ps.length
 run:∀(A:Around)(outer:List Env)(s:Shared)(H:Hp)(args:Args)(us:List Value)(vs:List V)(Q:VK)(E:XK),dD k A->yC P w K mg base A outer s H->BindsTo s fd args (ps.zip us)->Vals vs us->sp vs H Q E->
  codeAny (model P w) A (.call (.ref f) args) (CR CX outer P w H s Q E) s
theorem bH.mono{w:World}{K:QQq}{base:Heap}{CX:K1}{f:Addr}{ps:List Str}(F:bH P w K mg base CX j f fd ps sp)(h:j<=k):
  bH P w K mg base CX k f fd ps sp:=⟨F.len,fun A outer s H args us vs Q E hr=>F.run A outer s H args us vs Q E (hr.mono h)⟩
def bH.imp{w:World}{K:QQq}{base:Heap}{k:Nat}{f:Addr}{ps:List Str}(F:bH P w K mg base CX k f fd ps sp)
  (h:∀vs H Q E,sp' vs H Q E->sp vs H Q E):bH P w K mg base CX k f fd ps sp':=
 ⟨fun vs H Q E q=>F.len vs H Q E (h _ _ _ _ q),fun A outer s H args us vs Q E hr he hb hv hs=>F.run A outer s H args us vs Q E hr he hb hv (h _ _ _ _ hs)⟩
def yC.make{P:Program}{w:World}{K:QQq}{mg:QZz}{base:Heap}{A:Around}{outer:List Env}{s:Shared}{H:Hp}(e:yC P w K mg base A outer s H)(C:Addr)(us:List Value)(kw:List (Str×Value)):
  yC P w K mg base (A.under (.builtin "type.__call__" ⟨.ref C::us,kw⟩)) outer s H:=⟨by first|exact e.frames|(simpa[Around.under,Code.envs,Code.isFrame,pushEnvs]using e.frames),e.mod,e.bs,e.bsz,e.my,e.frf,e.hok,e.bare⟩
theorem yC.in1{P:Program}{w:World}{K:QQq}{mg:QZz}{base:Heap}{A:Around}{outer:List Env}{s:Shared}{H:Hp}(e:yC P w K mg base A outer s H):
  yC P w K mg base A.in1 outer s H:=⟨e.frames,e.mod,e.bs,e.bsz,e.my,e.frf,e.hok,e.bare⟩
section
variable{X:Cx}{γ:QQz}{σ:St}{H:Hp}{s s':Shared}
def Inv.env0(I:Inv X γ σ H s):yC X.prog X.w X.K X.mg X.base X.A X.stack s H:=
 ⟨I.ok.frames,I.ok.mod,I.bs,Nat.le_trans I.ok.bsz I.sz,I.stack,I.Gg,I.hok,I.bare⟩
def Inv.after{u:Value}(I:Inv X γ σ H s)(h:CE X.stack X.prog X.w H s Q u s'):EP X γ σ Q u s':=by obtain⟨v,H',os,bare,un,hok,r,q⟩:=h;obtain⟨hh,g,d,t,os'⟩:=s';obtain rfl:os'=s.os:=os;exact⟨v,H',I.call un hok bare (fun b z=>absurd z (by simp)),r,q⟩
end
noncomputable def gG(sp:Sp)(dvs:List V)(E:XK)(t:TA):TE:=fun σ H Q=>t σ H fun vs H1=>sp (vs++dvs) H1 Q E
noncomputable def rD(C:Addr)(m:Str)(sp:Sp)(dvs:List V)(E:XK)(ta:TE)(t:TA):TE:=fun σ H Q=>ta σ H fun x H1=>∃a dx fs,x=.ref a/\H1 a=some (.ins C dx fs)/\fs.lookup m=none/\
 t σ H1 fun vs H2=>sp (x::(vs++dvs)) H2 Q E
noncomputable def Vh(C:Addr)(sp:Sp)(dvs:List V)(E:XK)(t:TA):TE:=fun σ H Q=>t σ H fun vs H1=>∀x dx,H1 x=none->H1 dx=none->dx≠x->
 sp (.ref x::(vs++dvs)) (upd (upd H1 dx (.own x)) x (.ins C dx [])) (fun v H2=>v=.non/\Q (.ref x) H2) E
def Binds(K:QQq)(fd:FuncData)(ps:List Str)(ds:List Value):Prop:=
 ∀(s:Shared)(us:List Value),K.In s.heap->(us++ds).length=ps.length->BindsTo s fd ⟨us,[]⟩ (ps.zip (us++ds))
def Binds.all{K:QQq}{fd:FuncData}(h:∀us:List Value,us.length=ps.length->bindArgs fd ⟨us,[]⟩=pure (ps.zip us)):Binds K fd ps []:=fun s us _ hl=>by rw[List.append_nil]at hl⊢;exact .of_eq (h us hl)
def lD(CX:K1)(X:Cx)(E:XK):Prop:=∀(γ:QQz)(σ:St)(H:Hp)(s:Shared)(e:Value)(s':Shared),Inv X γ σ H s->CX X.stack H s E e s'->X.xe e s'
section
variable{X:Cx}{CX:K1}{k:Nat}{f C:Addr}{fd:FuncData}{ps:List Str}{sp:Sp}{dvs:List V}{ds:List Value}{E:XK}{x m:Str}{p pos apos:Pos}{e o:Expr}{es:List Expr}{ta:TE}{t:TA}
theorem Cw{σ:St}{H:Hp}{Q:VK}{vs:List V}(F:bH X.prog X.w X.K X.mg X.base CX k f fd ps sp)(hr:dD k X.A)(hb:Binds X.K fd ps ds)(hd:Vals dvs ds)(hx:lD CX X E)
  (I:Inv X γ σ H s)(r:Vals vs us)(h:sp (vs++dvs) H Q E):wpAny (model X.prog X.w) X.A (call (.ref f) us) (EP X γ σ Q) X.xe s:=by
 have r2:=r.append hd;refine wpAny_call (codeAny_mono (F.run X.A X.stack s H ⟨us,[]⟩ _ _ Q E hr I.env0 (hb s us I.Ab (by rw[<-r2.length];exact F.len _ _ _ _ h)) r2 h) fun r s' hq=>?_);cases r with
 |error e=>exact hx γ σ H s e s' I hq
 |ok fl=>
  cases fl with
  |ret u=>exact I.after hq
  |next=>exact False.elim hq
  |brk=>exact False.elim hq
  |cont=>exact False.elim hq
def fX(F:bH X.prog X.w X.K X.mg X.base CX k f fd ps sp)(hr:dD k X.A)(hg:Gl X x)(hm:X.mg x=some (.ref f))(hk:PySem.W.keepIn X.K (.ref f)=true)(hb:Binds X.K fd ps ds)(hd:Vals dvs ds)(hx:lD CX X E)
  (ha:PA X (e::es) t)(hdb:(x==("__debug__":Str))=false:=by decide)(he:starEach (e::es) X.env=(false,eval e X.env)::starEach es X.env:=by rfl)(hpl:(backTo pos (starEach es X.env)).any (·.1)=false:=by rfl):
  PE X (.Call (.Name x p) (e::es) [] pos) (gG sp dvs E t):=by
 intro γ s σ H Q I h;exact wpAny_Call_Name_kw (xT I hg hm (PySem.W.callWith_K I.ok.mod.kin hk (bJ (ha pos γ s σ H _ I h) fun us s1⟨vs,H1,I1,r,q⟩=>⟨I1.Ab,Cw F hr hb hd hx I1 r q⟩) he hpl) hdb)
def Gy{pl:Sem Bool}(he:PE X o ta)(c:oZ X.K C)(hm:Meth X.K C m f)(F:bH X.prog X.w X.K X.mg X.base CX k f fd ps sp)(hr:dD k X.A)(hb:Binds X.K fd ps ds)(hd:Vals dvs ds)(hx:lD CX X E)(ha:PA X (e::es) t)
  (hst:starEach (e::es) X.env=(false,eval e X.env)::starEach es X.env:=by rfl)(hpl:(backTo pos (starEach es X.env)).any (·.1)=false:=by rfl)
  (ht:eval (.Call (.Attribute o m apos) (e::es) [] pos) X.env=(do
   let ov<-eval o X.env
   standAt apos.atName
   let (f,first)<-holding [ov] (getMethod ov m pl)
   callWith pos f first (backTo pos (starEach (e::es) X.env)) (backToKw pos (keywordEach [] X.env))):=by rfl):
  PE X (.Call (.Attribute o m apos) (e::es) [] pos) (rD C m sp dvs E ta t):=by
 intro γ s σ H Q I h;refine PySem.W.methodCall_KW (pl:=pl) (bJ (he γ s σ H _ I h) fun u s1⟨x,H1,I1,rx,a,dx,fs,ex,ea,l,q⟩=>?_) ht;subst ex;obtain rfl:u=Value.ref a:=rx;refine tO I1 ea c hm l ?_;refine PySem.W.callWith_K (first:=[.ref a]) (h₀:=X.base) I.ok.mod.kin hm.kp (bJ (ha pos γ s1 σ H1 _ I1 q) fun us s2⟨vs,H2,I2,r,q2⟩=>⟨I2.Ab,?_⟩) hst hpl;exact Cw (us:=.ref a::us) (vs:=.ref a::vs) F hr hb hd hx I2 (.cons rfl r) q2
def zK{pl:Sem Bool}(he:PE X o ta)(c:oZ X.K C)(hm:Meth X.K C m f)(F:bH X.prog X.w X.K X.mg X.base CX k f fd ps sp)(hr:dD k X.A)(hb:Binds X.K fd ps ds)(hd:Vals dvs ds)(hx:lD CX X E)
  (ht:eval (.Call (.Attribute o m apos) [] [] pos) X.env=(do
   let ov<-eval o X.env
   standAt apos.atName
   let (f,first)<-holding [ov] (getMethod ov m pl)
   callWith pos f first (backTo pos (starEach [] X.env)) (backToKw pos (keywordEach [] X.env))):=by rfl):
  PE X (.Call (.Attribute o m apos) [] [] pos) (rD C m sp dvs E ta cN):=by
 intro γ s σ H Q I h;refine PySem.W.methodCall_KW (pl:=pl) (bJ (he γ s σ H _ I h) fun u s1⟨x,H1,I1,rx,a,dx,fs,ex,ea,l,q⟩=>?_) ht;subst ex;obtain rfl:u=Value.ref a:=rx;refine tO I1 ea c hm l ?_;exact PySem.W.callWith_K0 (first:=[.ref a]) I1.Ab hm.kp (Cw (us:=[.ref a]) (vs:=[.ref a]) F hr hb hd hx I1 (.cons rfl .nil) q)
structure Mk(K:QQq)(C f:Addr):Prop where
 makes:PySem.W.makesIn K C=true
 init:PySem.W.findIn K (.ref C) "__init__"=some (some (.ref f))
 fn:PySem.W.isFn K (.ref f)=true
 kp:PySem.W.keepIn K (.ref C)=true
theorem Mh{γ:QQz}{σ:St}{H:Hp}{s:Shared}{Q:VK}{us:List Value}{vs:List V}(M:Mk X.K C f)(F:bH X.prog X.w X.K X.mg X.base CX k f fd ps sp)(hr:dD (k+1) X.A)(hb:Binds X.K fd ps ds)(hd:Vals dvs ds)
  (hx:lD CX X E)(I:Inv X γ σ H s)(r:Vals vs us)
  (h:∀x dx,H x=none->H dx=none->dx≠x->sp (.ref x::(vs++dvs)) (upd (upd H dx (.own x)) x (.ins C dx [])) (fun v H2=>v=.non/\Q (.ref x) H2) E):
  wpAny (model X.prog X.w) X.A (call (.ref C) us) (EP X γ σ Q) X.xe s:=by
 have hq:=h (s.heap.objs.size+1) s.heap.objs.size (I.hok.fresh (Nat.le_succ _)) (I.hok.fresh (QVz _)) (Qvz (Nat.lt_succ_self _));have I2:=Inv.made (C:=C) I;have r2:Vals (V.ref (s.heap.objs.size+1)::(vs++dvs)) (Value.ref (s.heap.objs.size+1)::(us++ds)):=.cons rfl (r.append hd);have hl:(Value.ref (s.heap.objs.size+1)::us++ds).length=ps.length:=by have e:=r2.length;rw[F.len _ _ _ _ hq]at e;exact e.symm
 refine wpAny_call (Ol (f:=f) I.Ab M.makes M.init (beq_iff_eq.mp M.fn) (codeAny_mono (F.run _ X.stack _ _ ⟨Value.ref (s.heap.objs.size+1)::us,[]⟩ (Value.ref (s.heap.objs.size+1)::(us++ds)) _ _ E (hr.make C us [])
  (I2.env0.make C us []) (hb _ (Value.ref (s.heap.objs.size+1)::us) I2.Ab hl) r2 hq) fun r s' hq'=>?_))
 cases r with
 |error e=>exact hx γ σ _ _ e s' I2 hq'
 |ok fl=>
  cases fl with
  |ret u=>obtain⟨v,H',I3,rv,ev,q3⟩:=I2.after hq';subst ev;exact⟨rv,⟨V.ref (s.heap.objs.size+1),H',I3,rfl,q3⟩⟩
  |next=>exact False.elim hq'
  |brk=>exact False.elim hq'
  |cont=>exact False.elim hq'
def SM(M:Mk X.K C f)(F:bH X.prog X.w X.K X.mg X.base CX k f fd ps sp)(hr:dD (k+1) X.A)(hg:Gl X x)(hm:X.mg x=some (.ref C))(hb:Binds X.K fd ps ds)(hd:Vals dvs ds)(hx:lD CX X E)
  (ha:PA X (e::es) t)(hdb:(x==("__debug__":Str))=false:=by decide)(he:starEach (e::es) X.env=(false,eval e X.env)::starEach es X.env:=by rfl)(hpl:(backTo pos (starEach es X.env)).any (·.1)=false:=by rfl):
  PE X (.Call (.Name x p) (e::es) [] pos) (Vh C sp dvs E t):=by
 intro γ s σ H Q I h;refine wpAny_Call_Name_kw (xT I hg hm ?_ hdb);refine PySem.W.callWith_K (h₀:=X.base) I.ok.mod.kin M.kp (bJ (ha pos γ s σ H _ I h) fun us s1⟨vs,H1,I1,r,q⟩=>⟨I1.Ab,?_⟩) he hpl;exact Mh M F hr hb hd hx I1 r q
end
def PK(X:Cx)(kws:List Keyword)(t:TA):Prop:=
 ∀(pos:Pos)(γ:QQz)(s:Shared)(σ:St)(H:Hp)(Q:List V->Hp->Prop),Inv X γ σ H s->t σ H Q->wpAny (model X.prog X.w) X.A (evalAll ((backToKw pos (keywordEach kws X.env)).map (·.2))) (AP X γ σ Q) X.xe s
section
variable{X:Cx}{CX:K1}{k:Nat}{f C:Addr}{fd:FuncData}{ps ks:List Str}{sp:Sp}{E:XK}{x m:Str}{p pos apos kpos:Pos}{e o:Expr}{es:List Expr}{kws:List Keyword}{te ta:TE}{t tk:TA}{nm:Option Str}
def XC:PK X [] cN:=fun _ _ _ _ H Q I h=>wpAny_evalAll_nil ⟨[],H,I,.nil,h⟩
def Sw(ha:PE X e te)(hr:PK X kws t):PK X (⟨nm,e,kpos⟩::kws) (aG te t):=by intro pos γ s σ H Q I h;show wpAny _ _ (evalAll ((do let v<-eval e X.env;standAt pos;pure v)::(backToKw pos (keywordEach kws X.env)).map (·.2))) _ _ s;refine wpAny_evalAll_cons (QKq (bJ (ha γ s σ H _ I h) fun u s1⟨x,H1,I1,r1,q1⟩=>QKq (wpAny_standAt (QKz ?_))));exact bJ (hr pos γ s1 σ H1 _ I1 q1) fun us s2⟨xs,H2,I2,r2,q2⟩=>⟨x::xs,H2,I2,.cons r1 r2,q2⟩
variable{g:List Value->List Value->List Value}{gV:List V->List V->List V}
end
structure cX(N P:List Str)(sc:Scope):Prop where
 kind:sc.kind=.function
 co:sc.isCoroutine=false
 gen:sc.isGenerator=false
 nd:N.Nodup
 pre:N.take P.length=P
 par:∀x∈P,sc.names.lookup x=some .local\/sc.names.lookup x=some .cell
 nofree:∀y∈sc.names,y.2≠ .free
theorem wu{kindOf:Str->Option NameKind}:∀{binds:List (Str×Value)}{m:QZz},(∀v,(x,v)∉binds)->bindL kindOf binds m x=m x
 |[],_,_=>rfl
 |(n,v)::r,m,h=>by
  unfold bindL;rw[wu fun w hw=>h w (QYq _ hw)];split
  ·have:x≠n:=by rintro rfl;exact h v QYz
   simp[this]
  ·rfl
theorem wz{kindOf:Str->Option NameKind}:∀{binds:List (Str×Value)}{m:QZz},(∀v,(x,v)∉binds)->bindC kindOf binds m x=m x
 |[],_,_=>rfl
 |(n,v)::r,m,h=>by
  unfold bindC;rw[wz fun w hw=>h w (QYq _ hw)];split
  ·rfl
  ·have:x≠n:=by rintro rfl;exact h v QYz
   simp[this]
theorem ww{kindOf:Str->Option NameKind}{x:Str}{v:Value}:∀{P:List Str}{vs:List Value}{i:Nat}{m:QZz},P.Nodup->P[i]? =some x->vs[i]? =some v->kindOf x=some .local->
  bindL kindOf (P.zip vs) m x=some v
 |[],_,_,_,_,h,_,_=>by simp at h
 |_::_,[],_,_,_,_,h,_=>by simp at h
 |p::P,w::vs,0,m,nd,h1,h2,hk=>by simp at h1 h2;subst h1;subst h2;show bindL kindOf ((p,w)::P.zip vs) m p=_;unfold bindL;rw[wu fun v hv=>(List.nodup_cons.mp nd).1 (List.of_mem_zip hv).1,if_pos hk];simp
 |p::P,w::vs,i+1,m,nd,h1,h2,hk=>by unfold bindL;exact ww (List.nodup_cons.mp nd).2 (by simpa using h1) (by simpa using h2) hk
theorem wA{kindOf:Str->Option NameKind}{x:Str}{v:Value}:∀{P:List Str}{vs:List Value}{i:Nat}{m:QZz},P.Nodup->P[i]? =some x->vs[i]? =some v->kindOf x≠some .local->
  bindC kindOf (P.zip vs) m x=some v
 |[],_,_,_,_,h,_,_=>by simp at h
 |_::_,[],_,_,_,_,h,_=>by simp at h
 |p::P,w::vs,0,m,nd,h1,h2,hk=>by simp at h1 h2;subst h1;subst h2;show bindC kindOf ((p,w)::P.zip vs) m p=_;unfold bindC;rw[wz fun v hv=>(List.nodup_cons.mp nd).1 (List.of_mem_zip hv).1,if_neg hk];simp
 |p::P,w::vs,i+1,m,nd,h1,h2,hk=>by unfold bindC;exact wA (List.nodup_cons.mp nd).2 (by simpa using h1) (by simpa using h2) hk
def start(N:List Str)(vs:List V):St:=vs.map some++List.replicate (N.length-vs.length) none
noncomputable def eE(CX:K1)(P:Program)(w:World)(K:QQq)(mg:QZz)(base:Heap)(N:List Str)(qual:Str)(scope:Scope)(f:Addr)(cd:Value)(A:Around)(outer:List Env)(s:Shared)(H:Hp)(E:XK):Cx where
 prog:=P
 w:=w
 K:=K
 mg:=mg
 base:=base
 A:=A.deeper (envOfC qual scope s.heap.objs.size f cd)
 N:=N
 s₀:=s
 H₀:=H
 env:=envOfC qual scope s.heap.objs.size f cd
 outer:=outer
 stack:=envOfC qual scope s.heap.objs.size f cd::outer
 ex:=[]
 calm:=true
 fn:=fun _=>true
 pn:=[]
 xe:=fun e s'=>wpAny (model P w) (A.deeper (envOfC qual scope s.heap.objs.size f cd)) (leaving (envOfC qual scope s.heap.objs.size f cd) e) (fun _ s''=>CX outer H s E e s'') (fun e' s''=>CX outer H s E e' s'') s'
def Bf{sc:Scope}{n:Nat}(h:sc.names.lookup x=some .cell):∃c,(cellsFrom n sc.names []).lookup x=some c:=by exact Option.isSome_iff_exists.mp (PySem.W.cellsFrom_some sc.names n [] (.inl h))
def J3{CX:K1}{w:World}{K:QQq}{base:Heap}{qual:Str}{f:Addr}{A:Around}{s s1:Shared}{E:XK}
  (S:cX N ps scope)(hd:A.handled=none)(e0:yC P w K mg base A outer s H)(hl:vs.length=ps.length)(r:Vals vs us)
  (x:InCallC s s.heap.objs.size (bindL (envOfC qual scope s.heap.objs.size f cd).kindOf (ps.zip us) fun _=>none) (cellsFrom (s.heap.objs.size+1) scope.names []) (bindC (envOfC qual scope s.heap.objs.size f cd).kindOf (ps.zip us) fun _=>none) s1):
  Inv (eE CX P w K mg base N qual scope f cd A outer s H E) [] (start N vs) H s1:=by
 have hpl:ps.length<=N.length:=by have:=congrArg List.length S.pre;rw[List.length_take]at this;omega
 obtain⟨h1,tk,rfl,hk⟩:=x.done;have noA:∀b:Addr,b∉(eE CX P w K mg base N qual scope f cd A outer s H E).ex:=fun b z=>absurd (show b∈([])from z) (by simp);refine⟨⟨e0.mod,S.kind,rfl,rfl,QVz _,fun y z c h1 h2=>?_,fun y hy=>?_,fun y c _ h=>?_,fun _=>hd,Around.frames_deeper e0.frames,.inr ⟨rfl,rfl⟩,fun b z=>absurd z (noA b),e0.bs,e0.bsz,fun b _ _=>noA b,fun b z=>absurd z (noA b),e0.my,e0.frf⟩,
  rfl,e0.bare,Un.kept hk,⟨_,x.toInCall.ns,fun i y v h1 h2 h3=>?_⟩,fun y c h=>⟨_,x.cell y c h⟩,e0.hok.fresh (QVz _),fun y c h=>?_,fun p hp=>absurd (show p∈([])from hp) (by simp),e0.hok.kept hk,?_⟩
 ·exact name_of_addr x.apart (PySem.mem_of_lookup h1) (PySem.mem_of_lookup h2)
 ·have hy:=hy;rcases hy with hy|hy
  ·exact Bf hy
  ·exact absurd rfl (S.nofree _ (PySem.mem_of_lookup hy))
 ·exact Nat.le_of_lt (x.above y c (PySem.mem_of_lookup h))
 ·have hi:i<vs.length:=by
   unfold start at h2;by_cases hi:i<vs.length
   ·exact hi
   ·rw[QIz (by simpa using hi)]at h2;rw[List.getElem?_replicate]at h2;split at h2<;>cases h2
  have ha:vs[i]? =some v:=by
   unfold start at h2;rw[Qwz (by simpa using hi),QFz]at h2;cases e:vs[i]? with
   |none=>rw[e]at h2;cases h2
   |some a=>rw[e]at h2;cases h2;rfl
  obtain⟨u,hu,rv⟩:=r.get ha
  have hp:ps[i]? =some y:=by rw[<-S.pre,List.getElem?_take_of_lt (by omega)];exact h1
  have ndP:ps.Nodup:=by rw[<-S.pre];exact S.nd.sublist (List.take_sublist _ _)
  refine⟨u,rv,?_⟩
  rcases S.par y (QBz hp)with k|k
  ·exact .inl ⟨k,ww ndP hp hu k⟩
  ·obtain⟨c,e⟩:=Bf k
   refine .inr ⟨.inl k,c,e,?_⟩
   have q:=x.cell y c e
   rw[wA ndP hp hu (by show scope.names.lookup y≠_;rw[k];decide)]at q
   exact q
 ·exact e0.hok.fresh (Nat.le_of_lt (x.above y c (PySem.mem_of_lookup h)))
 ·unfold start;show _=N.length;rw[QTq,QAq,List.length_replicate];omega
def acF{CX:K1}{w:World}{K:QQq}{base:Heap}{k:Nat}{name qual:Str}{body:List Stmt}{dV kV doc pm cdv ct oc:Value}
{N ps:List Str} (lk:K.lookup f=some ⟨oc,od,.func (PySem.W.fnOf name qual params body scope dV kV doc pm an cdv ct),osl⟩) (hcd:PySem.W.codeIn K cdv qual=true) (S:cX N ps scope)
  (len:∀vs H Q E,sp vs H Q E->vs.length=ps.length)
  (hbody:∀(A:Around)(outer:List Env)(s:Shared)(H:Hp)(vs:List V)(Q:VK)(E:XK),dD k (A.deeper (envOfC qual scope s.heap.objs.size f cdv))->sp vs H Q E->
   ∃t,wF (eE CX P w K mg base N qual scope f cdv A outer s H E) body t/\t {nx:=fun _ H'=>Q .non H',rt:=Q} (start N vs) H):
  bH P w K mg base CX (k+1) f (PySem.W.fnOf name qual params body scope dV kV doc pm an cdv ct) ps sp:=by
 refine⟨len,fun A outer s H args us vs Q E hr e0 hb r hsp=>?_⟩;have hl:=len _ _ _ _ hsp;have KX:=e0.mod.kin.keeps fun b o e=>(e0.bs b o e).1;have lim:=e0.mod.nolimit.keeps fun b o e=>(e0.bs b o e).1;have hkind:∀y∈ps.zip us,scope.names.lookup y.1=some .local\/(scope.names.lookup y.1=some .cell/\((cellsFrom (s.heap.objs.size+1) scope.names []).lookup y.1).isSome=true):=fun⟨n,v⟩hy=>by
  rcases S.par n (List.of_mem_zip hy).1 with q|q
  ·exact .inl q
  ·exact .inr ⟨q,PySem.W.cellsFrom_some _ _ _ (.inl q)⟩
 refine codeAny_call_function hr.depth (KX _ _ lk) rfl S.co S.gen rfl (PySem.W.codeRec_of KX hcd) (hb _ _ _ _ ?_);refine wpAny_newFunctionEnv_cells S.kind hkind fun env he s1 x=>?_;subst he;refine⟨lim.keeps x.toInCall.keep,codeAny_func ?_⟩;obtain⟨t,ht,hq⟩:=hbody A outer s H vs Q E (hr.deeper _) hsp;have I:Inv (eE CX P w K mg base N qual scope f cdv A outer s H E) [] _ H s1:=J3 S hr.hd e0 hl r x;refine QGq (ht [] s1 _ H _ I hq) (fun fl s' hs=>?_) fun e s' hs=>hs;have fin:∀{ζ:St}{H':Hp}{v:V}{u:Value},Inv (eE CX P w K mg base N qual scope f cdv A outer s H E) [] ζ H' s'->RelV v u->Q v H'->CE outer P w H s Q u s':=
  fun{ζ H' v u}J rv q=>⟨v,H',J.os,J.bare,J.base,J.hok,rv,q⟩
 cases fl with
 |ret u=>obtain⟨v,ζ,H',J,rv,q⟩:=hs;exact fin J rv q
 |next=>obtain⟨ζ,H',J,q⟩:=hs;exact fin (v:=V.non) J rfl q
 |brk=>obtain⟨_,_,_,q⟩:=hs;exact False.elim q
 |cont=>obtain⟨_,_,_,q⟩:=hs;exact False.elim q
section
variable{X:Cx}{x:Str}{p pos:Pos}{e:Expr}{es:List Expr}{t:TA}{id T:String}{r:List V->Hp->VK->Prop}
def WR(r:List V->Hp->VK->Prop)(t:TA):TE:=fun σ H Q=>t σ H fun vs H1=>r vs H1 Q
def j0(hc:iw X (.builtin id) r)(hg:Gl X x)(hm:X.mg x=none)(hv:bootBuiltins x=some (.builtin id))(ha:PA X (e::es) t)(hn:x≠"__name__":=by decide)(hdb:(x==("__debug__":Str))=false:=by decide)
  (he:starEach (e::es) X.env=(false,eval e X.env)::starEach es X.env:=by rfl)(hpl:(backTo pos (starEach es X.env)).any (·.1)=false:=by rfl):PE X (.Call (.Name x p) (e::es) [] pos) (WR r t):=by
 intro γ s σ H Q I h;exact wpAny_Call_Name_kw (kj I hg hm hv (PyProof.Rows.callWith_builtin1 (bJ (ha pos γ s σ H _ I h) fun us s1⟨vs,H1,I1,r1,q1⟩=>hc γ s1 σ H1 vs us Q I1 r1 q1) he hpl) hn hdb)
def ji(hc:iw X (.type T) r)(hg:Gl X x)(hm:X.mg x=none)(hv:bootBuiltins x=some (.type T))(ha:PA X (e::es) t)(hn:x≠"__name__":=by decide)(hdb:(x==("__debug__":Str))=false:=by decide)
  (he:starEach (e::es) X.env=(false,eval e X.env)::starEach es X.env:=by rfl)(hpl:(backTo pos (starEach es X.env)).any (·.1)=false:=by rfl):PE X (.Call (.Name x p) (e::es) [] pos) (WR r t):=by
 intro γ s σ H Q I h;exact wpAny_Call_Name_kw (kj I hg hm hv (PyProof.Rows.callWith_type1 (bJ (ha pos γ s σ H _ I h) fun us s1⟨vs,H1,I1,r1,q1⟩=>hc γ s1 σ H1 vs us Q I1 r1 q1) he hpl) hn hdb)
end
end L2
namespace HT
open PySem PyProof.Rows
section
open PySem.SeqAt
open PySem.AutoSeq1 (wpAny_loadPart')
open PySem.MeetsSeq PySem.MeetsSeq2 PySem.MeetsSeq3
end
section
variable{prog:Program}{w:World}{A:Around}{E:QZq}{s:Shared}
def Uw{vs ws:List Value}(ht:IsTup s.heap t vs.toArray)(hb:IsTup s.heap b ws.toArray)(hv:vs≠[])
  (h1:ws=[]->Q (.ref t) s)(h2:ws≠[]->Q (.ref s.heap.objs.size) {s with heap:=s.heap.push {cls:=.type "tuple",data:=.seq (vs++ws).toArray}})
  (hsz:vs.length+ws.length<=sizeLine):wpAny (model prog w) A (binaryOp .Add (.ref t) (.ref b)) Q E s:=by
 obtain⟨⟨cls,dd,data,sl⟩,ho,hc,n,hd⟩:=id ht;obtain⟨⟨cls2,dd2,data2,sl2⟩,ho2,hc2,n2,hd2⟩:=id hb;subst hc hd hc2 hd2;have e:vs.toArray++ws.toArray=(vs++ws).toArray:=by simp
 by_cases hw:ws=[]
 ·exact concat_meets ⟨_,ho,rfl⟩ ⟨_,ho2,rfl⟩ noFill_tuple_add seq_tuple_add PySem.F.slot_tuple_add PySem.F.entry_tuple_add (PySem.F.args_tuple_add_2 _ _)
   (tuple_addW1 t b vs.toArray ws.toArray n n2 dd dd2 sl sl2 (by simpa using hv) (by simp[hw])) ⟨ho,ho2,h1 hw⟩
 ·refine concat_meets ⟨_,ho,rfl⟩ ⟨_,ho2,rfl⟩ noFill_tuple_add seq_tuple_add PySem.F.slot_tuple_add PySem.F.entry_tuple_add (PySem.F.args_tuple_add_2 _ _)
   (tuple_addW2 t b vs.toArray ws.toArray n n2 dd dd2 sl sl2 (by simpa using hv) (by simpa using hw) (by rw[Qyq,Qyq];exact hsz)) ⟨ho,ho2,?_⟩
  rw[e]
  exact h2 hw
noncomputable def gC(n d:Nat):Option Int->Nat
 |none=>d
 |some v=>if v<0 then(v+(n:Int)).toNat else min v.toNat n
def nW n d:gC n d none=d:=rfl
def aeK n d(hd:d<=n)o:gC n d o<=n:=by
 cases o with
 |none=>exact hd
 |some v=>
  show(if v<0 then(v+n).toNat else min v.toNat n)<=n;by_cases hv:v<0
  ·rw[if_pos hv];omega
  ·rw[if_neg hv];exact Nat.min_le_right _ _
def HQ v(n d:Nat):(if v<0 then max (v+(n:Int)) 0 else min v (n:Int))=((gC n d (some v):Nat):Int):=by
 show(if v<0 then max (v+n) 0 else min v n)=(((if v<0 then(v+(n:Int)).toNat else min v.toNat n):Nat));by_cases hv:v<0
 ·simp only[if_pos hv];omega
 ·simp only[if_neg hv];omega
def Fv lo hi(n:Nat):Builtin.Slice.sliceAdjust lo hi 1 (n:Int)=(((gC n 0 lo:Nat):Int),((gC n n hi:Nat):Int)):=by
 have h1:¬(1<0):=by omega
 unfold Builtin.Slice.sliceAdjust;refine Prod.ext ?_ ?_
 ·cases lo with
  |none=>rfl
  |some v=>exact HQ v n 0
 ·cases hi with
  |none=>rfl
  |some v=>exact HQ v n n
def De(i j:Nat):Builtin.Slice.slicePlaces (i:Int) (j:Int) 1=j-i:=by unfold Builtin.Slice.slicePlaces;split<;>omega
def rN{o:Option Int}(p:IsPart v o)(h:Q o s):wpAny (model prog w) A (Builtin.Slice.slicePartIndex v) Q E s:=by
 cases p with
 |none=>exact slicePart_none h
 |int i t=>exact slicePart_int h
def je{sl:Addr}{lo hi:Option Int}{n:Nat}(hs:s.heap.IsSliceOf sl vl vu .none)(pl:IsPart vl lo)(pu:IsPart vu hi)
  (h:Q (((gC n 0 lo:Nat):Int),1,gC n n hi-gC n 0 lo) s):wpAny (model prog w) A (Builtin.Slice.sliceApplied (.ref sl) (pure (n:Int))) Q E s:=by
 obtain⟨os,hos,hcs,hds⟩:=id hs;refine QKq (QKq (QGz hos hds rfl (QKq (QGz hos hds rfl (QKq (QGz hos hds rfl (QKz ?_)))))));refine QKq (slicePart_none ?_);refine QKq (rN pl (QKq (rN pu (QKq (QKz ?_)))));show wpAny _ _ (match Builtin.Slice.sliceAdjust lo hi 1 n with|(lo,hi)=>pure (lo,(1:Int),Builtin.Slice.slicePlaces lo hi 1)) _ _ s;rw[Fv lo hi n];show wpAny _ _ (pure ((gC n 0 lo:Int),1,Builtin.Slice.slicePlaces ((gC n 0 lo:Nat)) ((gC n n hi:Nat)) 1)) _ _ s;rw[De];exact QKz h
def M9(xs:Array Value)(i k:Nat):((List.range k).filterMap fun(m:Nat)=>xs[((i:Int)+(m:Int)*1).toNat]?).toArray=((xs.toList.drop i).take k).toArray:=by
 have e:(fun(m:Nat)=>xs[(i+(m:Int)*1).toNat]?)=fun m=>xs[i+m]? :=by
  funext m;have:(i+(m:Int)*1).toNat=i+m:=by omega
  rw[this]
 rw[e];have:=pick_run xs i k;rw[List.filterMap_map]at this;have e2:((fun x=>xs[x]?)∘fun x=>i+x)=fun m=>xs[i+m]? :=rfl;rw[e2]at this;rw[this]
theorem oG{t sl:Addr}{vl vu:Value}{lo hi:Option Int}(ht:IsTup s.heap t items)(hs:s.heap.IsSliceOf sl vl vu .none)(pl:IsPart vl lo)(pu:IsPart vu hi)
  (hw:¬(gC items.size 0 lo=0/\gC items.size items.size hi=items.size))
  (h:Q (.ref s.heap.objs.size) {s with heap:=s.heap.push {cls:=.type "tuple",data:=.seq ((items.toList.drop (gC items.size 0 lo)).take (gC items.size items.size hi-gC items.size 0 lo)).toArray}})
  (hsz:items.size<=sizeLine):wpAny (model prog w) A (getItem (.ref t) (.ref sl)) Q E s:=by
 have htake:sizeOk (.seq ((items.toList.drop (gC items.size 0 lo)).take (gC items.size items.size hi-gC items.size 0 lo)).toArray):=by show((items.toList.drop _).take _).toArray.size<=sizeLine;rw[Qyq,List.length_take,List.length_drop,Array.length_toList];omega
 obtain⟨os,hos,hcs,hds⟩:=id hs;unfold getItem;try with_reducible refine Qqq ?_
 first|refine QKq _|skip
 refine QKq (wpAny_sequenceKey ht.typeIs (by decide) ?_);refine QKq (wpAny_callSpecial?_slot ht.typeIs PyProof.Rows.slot_tuple_getitem
  (Qzz PyProof.Rows.slot_tuple_getitem ht.typeIs entry_tuple_getitem ?_ (args_tuple_getitem _ _)))
 show wpAny _ _ (Builtin.Tuple.tupleItemsOf _>>=_) _ _ s;refine QKq (tupleItemsOf_ ht ?_);refine QKq (wpAny_typeOf ⟨os,hos,hcs⟩ ?_);refine QKq (je hs pl pu ?_);have hno:¬((((gC items.size 0 lo):Int)==0&&(1:Int)==1&&(gC items.size items.size hi-gC items.size 0 lo)==items.size)=true):=by intro q;rw[QUq,QUq]at q;have q1:=eq_of_beq q.1.1;have q2:=eq_of_beq q.2;exact hw ⟨by omega,by omega⟩
 show wpAny _ _ (if (((gC items.size 0 lo):Int)==0&&1==1&&_==items.size)=true then _ else _) _ _ s;rw[if_neg hno,M9];first
  |exact QKq (Qjq (QKz ⟨_,rfl,QKz h⟩) htake)
  |exact QKq _
  |exact QKq (QKq _)
  |exact QKq (QKq _)
end
end HT
namespace L2
open PySem PySem.Spec PyProof.Rows
abbrev TO:=St->Hp->(Option Int->Hp->Prop)->Prop
def PO(X:Cx)(e:Option Expr)(t:TO):Prop:=
 ∀(γ:QQz)(s:Shared)(σ:St)(H:Hp)(Q:Option Int->Hp->Prop),Inv X γ σ H s->t σ H Q->
  wpAny (model X.prog X.w) X.A (evalPart e X.env) (fun u s'=>∃o H',Inv X γ σ H' s'/\IsPart u o/\Q o H') X.xe s
def Rj:TO:=fun _ H Q=>Q none H
def aaX(t:TE):TO:=fun σ H Q=>t σ H fun x H1=>∃i,x=.int i/\Q (some i) H1
section
variable{X:Cx}{e:Expr}{te:TE}{lo hi:Option Expr}{tl th:TO}{pos p2:Pos}
def Sv:PO X none Rj:=by intro γ s σ H Q I h;exact QKz ⟨none,H,I,.none,h⟩
def Su(h:PE X e te):PO X (some e) (aaX te):=by intro γ s σ H Q I hw;refine bJ (h γ s σ H _ I hw) fun u s1⟨x,H1,I1,r1,q1⟩=>?_;obtain⟨i,rfl,q⟩:=q1;obtain⟨t,rfl⟩:=r1;exact⟨some i,H1,I1,.int i t,q⟩
def UT(X:Cx)(r:V->Option Int->Option Int->Hp->VK->Prop):Prop:=
 ∀(γ:QQz)(s:Shared)(σ:St)(H:Hp)(x:V)(v vl vu:Value)(lo hi:Option Int)(sl:Addr)(Q:VK),Inv X γ σ H s->RelV x v->s.heap.IsSliceOf sl vl vu .none->IsPart vl lo->IsPart vu hi->r x lo hi H Q->
  ∃T id,typeLookup (.type T) "__getitem__"=pure (some (.builtin id))/\s.TypeIs v T/\wpAny (model X.prog X.w) X.A (getItem v (.ref sl)) (EP X γ σ Q) X.xe s
def UT.or{r r':V->Option Int->Option Int->Hp->VK->Prop}(h:UT X r)(h':UT X r'):UT X (fun x lo hi H Q=>r x lo hi H Q\/r' x lo hi H Q):=by
 intro γ s σ H x v vl vu lo hi sl Q I rx hs pl pu q;rcases q with q|q
 ·exact h γ s σ H x v vl vu lo hi sl Q I rx hs pl pu q
 ·exact h' γ s σ H x v vl vu lo hi sl Q I rx hs pl pu q
noncomputable def tSl(r:V->Option Int->Option Int->Hp->VK->Prop)(te:TE)(tl th:TO):TE:=fun σ H Q=>te σ H fun x H1=>tl σ H1 fun l H2=>th σ H2 fun u H3=>r x l u H3 Q
def Nh(hr:UT X r)(he:PE X e te)(hl:PO X lo tl)(hu:PO X hi th):PE X (.Subscript e (.Slice lo hi none p2) pos) (tSl r te tl th):=by intro γ s σ H Q I h;refine Subscript_ (bJ (he γ s σ H _ I h) fun v s1⟨x,H1,I1,r1,q1⟩=>?_);refine wpAny_Slice (bJ (hl γ s1 σ H1 _ I1 q1) fun vl s2⟨l,H2,I2,pl,q2⟩=>bJ (hu γ s2 σ H2 _ I2 q2) fun vu s3⟨u,H3,I3,pu,q3⟩=>?_);refine QKz ?_;obtain⟨T,id,hT,ht,hg⟩:=hr γ {s3 with heap:=s3.heap.push {cls:=.type "slice",data:=.fields #[vl,vu,.none]}} σ H3 x v vl vu l u s3.heap.objs.size Q (I3.kept fun b ob q=>QWq _ q) r1 (Heap.IsSliceOf.new ..) pl pu q3;exact tail_any ht hT hg (by with_unfolding_all rfl)
noncomputable def ym(xs:List V)(lo hi:Option Int):List V:=(xs.drop (HT.gC xs.length 0 lo)).take (HT.gC xs.length xs.length hi-HT.gC xs.length 0 lo)
def qy xs lo hi:(ym xs lo hi).length<=xs.length:=by unfold ym;rw[List.length_take,List.length_drop];omega
noncomputable def aby(K:QQq):V->Option Int->Option Int->Hp->VK->Prop:=fun x lo hi H Q=>∃a xs,x=.ref a/\jM K H a xs/\
 ¬(HT.gC xs.length 0 lo=0/\HT.gC xs.length xs.length hi=xs.length)/\∀p,H p=none->Q (.ref p) (upd H p (.tup (ym xs lo hi)))
def Xd:UT X (aby X.K):=by
 intro γ s σ H x v vl vu lo hi sl Q I rx hs pl pu h;obtain⟨a,xs,rfl,hx,hw,q⟩:=h;cases rx;obtain⟨its,r,ht,hz⟩:=I.tuple hx;have hlen:its.toArray.size=xs.length:=by rw[Qyq];exact r.length.symm
 refine⟨"tuple",_,PyProof.Rows.slot_tuple_getitem.lookup,ht.typeIs,?_⟩;refine HT.oG ht hs pl pu (by rw[hlen];exact hw) ?_ (by rw[hlen];exact hz);rw[hlen];refine⟨.ref s.heap.objs.size,_,I.laid (fun b ob q=>QWq _ q) (QVz _) ?_,rfl,q _ (I.hok.fresh (QVz _))⟩;exact⟨Nat.le_trans (qy xs lo hi) hz,_,(r.drop _).take _,TupOk.new _ _⟩
noncomputable def abI(K:QQq):R2:=fun x y H Q=>∃a b xs ys,x=.ref a/\y=.ref b/\jM K H a xs/\jM K H b ys/\xs≠[]/\xs.length+ys.length<=sizeLine/\
 (ys=[]->Q (.ref a) H)/\(ys≠[]->∀p,H p=none->Q (.ref p) (upd H p (.tup (xs++ys))))
def Vals.bV{us:List Value}(r:Vals xs us):us=[]↔xs=[]:=by
 cases r with
 |nil=>simp
 |cons _ _=>simp
def Ti:gq X (binaryOp .Add) (abI X.K):=by intro γ s σ H x y v u Q I rx ry h;obtain⟨a,b,xs,ys,rfl,rfl,ha,hb,hx,hz,q1,q2⟩:=h;cases rx;cases ry;obtain⟨its,r1,p1,_⟩:=I.tuple ha;obtain⟨its2,r2,p2,_⟩:=I.tuple hb;refine HT.Uw p1 p2 (fun z=>hx (r1.bV.mp z)) (fun z=>⟨.ref a,H,I,rfl,q1 (r2.bV.mp z)⟩) (fun z=>?_) (by rw[<-r1.length,<-r2.length];exact hz);refine⟨.ref s.heap.objs.size,_,I.laid (fun b ob q=>QWq _ q) (QVz _) ?_,rfl,q2 (fun w=>z (r2.bV.mpr w)) _ (I.hok.fresh (QVz _))⟩;exact⟨by rw[QTq];exact hz,_,r1.append r2,TupOk.new _ _⟩
end
noncomputable def T8(n:Nat)(i:Int):Option Nat:=if 0<=i then(if i<n then some i.toNat else none)else if-(n:Int)<=i then some (i+n).toNat else none
def ZP{α:Type}(xs:List α)(i:Int):Option α:=(T8 xs.length i).bind fun j=>xs[j]?
def Hk{i:Int}(h:T8 n i=some j):seqIndex? i n=some j/\j<n/\ -(n:Int)<=i/\i<n:=by
 unfold T8 at h;by_cases h0:0<=i
 ·rw[if_pos h0]at h;by_cases h1:i<n
  ·rw[if_pos h1]at h;have e:=QEq h;exact⟨by rw[seqIndex_of h0 h1,e],by omega,by omega,h1⟩
  ·rw[if_neg h1]at h;cases h
 ·rw[if_neg h0]at h;by_cases h1: -n<=i
  ·rw[if_pos h1]at h;have e:=QEq h;exact⟨by rw[seqIndex_neg (by omega) h1,e],by omega,h1,by omega⟩
  ·rw[if_neg h1]at h;cases h
def yz{xs:List α}{v:α}(h:ZP xs i=some v):∃j,seqIndex? i xs.length=some j/\xs[j]? =some v/\j<xs.length/\ -(xs.length:Int)<=i/\i<xs.length:=by
 unfold ZP at h;cases e:T8 xs.length i with
 |none=>rw[e]at h;cases h
 |some j=>rw[e]at h;obtain⟨h1,h2,h3,h4⟩:=Hk e;exact⟨j,h1,h,h2,h3,h4⟩
def qR(b:Expr):Prop:=∀o i,subscripted b false o i=operate [o,i] (getItem o i)
def QW(X:Cx)(r:R2):Prop:=
 ∀(value slice:Expr)(γ:QQz)(s:Shared)(σ:St)(H:Hp)(x y:V)(v u:Value)(Q:VK),Inv X γ σ H s->RelV x v->RelV y u->r x y H Q->
  subscripted slice false v u=operate [v,u] (getItem v u)->wpAny (model X.prog X.w) X.A (subscriptTail value slice v u) (EP X γ σ Q) X.xe s
def MtR(X:Cx)(id:String)(r:V->List V->Hp->VK->Prop):Prop:=
 ∀(γ:QQz)(s:Shared)(σ:St)(H:Hp)(x:V)(xs:List V)(v:Value)(us:List Value)(Q:VK),Inv X γ σ H s->RelV x v->Vals xs us->r x xs H Q->
  wpAny (model X.prog X.w) X.A (call (.builtin id) (v::us)) (EP X γ σ Q) X.xe s
section
variable{X:Cx}{a b:Expr}{ta tb:TE}{pos:Pos}
def QW.or{r r':R2}(h:QW X r)(h':QW X r'):QW X (fun x y H Q=>r x y H Q\/r' x y H Q):=by
 intro value slice γ s σ H x y v u Q I rx ry q hs;rcases q with q|q
 ·exact h value slice γ s σ H x y v u Q I rx ry q hs
 ·exact h' value slice γ s σ H x y v u Q I rx ry q hs
def Nj(hr:QW X r)(ha:PE X a ta)(hb:PE X b tb)(hs:qR b):PE X (.Subscript a b pos) (Ve r ta tb):=by intro γ s σ H Q I h;exact Subscript_ (ZC ha hb I h fun v u s2 x y H2 I2 rx ry q=>hr a b γ s2 σ H2 x y v u Q I2 rx ry q (hs _ _))
noncomputable def abC(K:QQq):R2:=fun x y H Q=>∃p xs i v,x=.ref p/\y=.int i/\lC K H p xs/\ZP xs i=some v/\Q v H
noncomputable def abB(K:QQq):R2:=fun x y H Q=>∃p xs i v,x=.ref p/\y=.int i/\jM K H p xs/\ZP xs i=some v/\Q v H
noncomputable def R8:R2:=fun x y H Q=>∃z i c,x=.str z/\y=.int i/\z.length<=sizeLine/\ZP z.cps.toList i=some c/\Q (.str ⟨#[c]⟩) H
def T7:QW X (abC X.K):=by
 intro value slice γ s σ H x y v u Q I rx ry h hs;obtain⟨p,xs,i,z,rfl,rfl,hq,he,q⟩:=h;cases rx;obtain⟨t,rfl⟩:=ry;obtain⟨its,r,pl,hz⟩:=I.list hq;obtain⟨j,h1,h2,h3,h4,h5⟩:=yz he;obtain⟨w,ew,rw'⟩:=r.get h2;have hl:=r.length;have hn:=xQ;have fin:EP X γ σ Q w s:=⟨z,H,I,rw',q⟩;by_cases h0:0<=i
 ·have hj:i.toNat=j:=by
   rw[seqIndex_of h0 h5]at h1;exact QEq h1
  exact item_listR pl.isList h0 (by omega) (by rw[hj];simpa using ew) fin hs
 ·have hj:(i+its.toArray.size).toNat=j:=by
   rw[seqIndex_neg (by omega) h4]at h1;rw[Qyq,<-hl];exact QEq h1
  exact subscriptTail_builtinR pl.isList.typeIs slot_list_getitem.lookup
   (wpAny_getItem_list_neg pl.isList (by omega) (by rw[Qyq]<;>omega) (by omega) (by rw[hj];simpa using ew) ⟨rfl,fin⟩) hs
def Yw:QW X (abB X.K):=by
 intro value slice γ s σ H x y v u Q I rx ry h hs;obtain⟨p,xs,i,z,rfl,rfl,hq,he,q⟩:=h;cases rx;obtain⟨t,rfl⟩:=ry;obtain⟨its,r,pl,hz⟩:=I.tuple hq;obtain⟨j,h1,h2,h3,h4,h5⟩:=yz he;obtain⟨w,ew,rw'⟩:=r.get h2;have hn:=xQ;exact subscriptTail_builtinR pl.typeIs slot_tuple_getitem.lookup
  (getItem_tuple pl (by omega) (by omega) (by rw[Qyq,<-r.length];exact h1) (by simpa using ew) ⟨rfl,⟨z,H,I,rw',q⟩⟩) hs
def afY:QW X R8:=by
 intro value slice γ s σ H x y v u Q I rx ry h hs;obtain⟨z,i,c,rfl,rfl,hz,he,q⟩:=h;obtain⟨t,rfl⟩:=rx;obtain⟨t',rfl⟩:=ry;obtain⟨j,h1,h2,h3,h4,h5⟩:=yz he;have hl:z.cps.toList.length=z.length:=by simp[Str.length]
 rw[hl]at h1 h4 h5;have hn:=xQ;exact tail_any (typeIs_str s z t) slot_str_getitem.lookup (getItem_str (c:=c) (by have e1:decide (i< -(2 ^63:Int))=false:=QEz (by omega);have e2:decide (i>=2 ^63)=false:=QEz (by omega);rw[e1,e2,Bool.or_false]) (by rw[h1];simpa using h2) ⟨.str ⟨#[c]⟩,H,I.tok _,⟨_,rfl⟩,q⟩) hs
def Dn(its:List Value)n j u:Obj.mapSeq (·.setIfInBounds j u) {cls:=.type "list",data:=.seq its.toArray n}={cls:=.type "list",data:=.seq (its.set j u).toArray n}:=by simp[Obj.mapSeq]
theorem Inv.lst{γ:QQz}{σ:St}{H:Hp}{s:Shared}{p:Addr}{xs:List V}(I:Inv X γ σ H s)(h:H p=some (.lst xs)):
  ∃(its:List Value)(n:Nat),Vals xs its/\s.heap.get? p=some {cls:=.type "list",data:=.seq its.toArray n}/\xs.length<=sizeLine:=by
 obtain⟨z,its,n,r,e⟩:=I.hok p _ h;exact⟨its,n,r,e,z⟩
def Inv.Ym{σ:St}{H:Hp}{p:Addr}{its its':List Value}{n n':Nat}(I:Inv X γ σ H s)(h:H p=some (.lst xs))
  (ho:s.heap.get? p=some {cls:=.type "list",data:=.seq its.toArray n})(hf:f {cls:=.type "list",data:=.seq its.toArray n}={cls:=.type "list",data:=.seq its'.toArray n'})(r:Vals ys its')(hz:ys.length<=sizeLine)t:
  Inv X γ σ (upd H p (.lst ys)) {s with heap:=s.heap.update p f,toks:=t}:=by
 have e:(s.heap.update p f).get? p=some {cls:=.type "list",data:=.seq its'.toArray n'}:=by rw[Heap.get?_update_self f ho (by rw[hf]<;>rfl),hf]
 refine I.write (by rw[h];trivial) (.inl rfl) (fun b u hb q=>(Heap.get?_update_other _ _ (Ne.symm hb)).trans q) ⟨_,e⟩ ?_;exact⟨hz,its',n',r,e⟩
noncomputable def Vt:V->V->V->Hp->(Hp->Prop)->Prop:=fun o i v H Q=>∃p xs k j,o=.ref p/\i=.int k/\H p=some (.lst xs)/\T8 xs.length k=some j/\Q (upd H p (.lst (xs.set j v)))
def set_list:KN X Vt:=by
 intro γ s σ H o i v ov iv u Q I ro ri rv h;obtain⟨p,xs,k,j,rfl,rfl,hp,hj,q⟩:=h;cases ro;obtain⟨t,rfl⟩:=ri;obtain⟨its,n,r,ho,hz⟩:=I.lst hp;obtain⟨h1,h2,h3,h4⟩:=Hk hj;have hl:=r.length;have hn:=xQ;have I':=
  I.Ym hp ho (Dn its n j u) (r.set rv j) (by rw[List.length_set];exact hz) s.toks
 by_cases h0:0<=k
 ·have hk:k.toNat=j:=by
   rw[seqIndex_of h0 h4]at h1;exact QEq h1
  exact PySem.W.ki_setAt ho h0 (by omega) (by rw[Qyq,<-hl];exact h4) (by rw[hk];exact⟨_,I',q⟩)
 ·have hk:(k+its.toArray.size).toNat=j:=by
   rw[seqIndex_neg (by omega) h3]at h1;rw[Qyq,<-hl];exact QEq h1
  exact PySem.W.ki_setBack ho (by omega) (by rw[Qyq,<-hl];exact h3) (by omega) (by rw[hk];exact⟨_,I',q⟩)
def wW lo hi n:(sliceBounds lo hi none n).1=((HT.gC n 0 lo:Nat):Int)/\(sliceBounds lo hi none n).2.1=((HT.gC n n hi:Nat):Int)/\(sliceBounds lo hi none n).2.2=1:=by
 refine⟨?_,?_,rfl⟩
 ·cases lo with
  |none=>simp[sliceBounds,HT.gC]
  |some i=>
   simp only[sliceBounds,HT.gC,Option.getD_none,show 1>0 by decide,if_true];by_cases h:i<0
   ·simp only[h,if_true]<;>omega
   ·simp only[h,if_false]<;>omega
 ·cases hi with
  |none=>simp[sliceBounds,HT.gC]
  |some i=>
   simp only[sliceBounds,HT.gC,Option.getD_none,show 1>0 by decide,if_true];by_cases h:i<0
   ·simp only[h,if_true]<;>omega
   ·simp only[h,if_false]<;>omega
def uH(its:List Value)lo hi:slicePick its.toArray lo hi none=((its.drop (HT.gC its.length 0 lo)).take (HT.gC its.length its.length hi-HT.gC its.length 0 lo)).toArray:=by obtain⟨h1,h2,h3⟩:=wW lo hi its.toArray.size;unfold slicePick;rw[h1,h2,h3];simp only[sliceRange_one,pick_run,Qyq]<;>rfl
noncomputable def abz(K:QQq):V->Option Int->Option Int->Hp->VK->Prop:=fun x lo hi H Q=>∃a xs,x=.ref a/\lC K H a xs/\∀p,H p=none->Q (.ref p) (upd H p (.lst (ym xs lo hi)))
def Ry:UT X (abz X.K):=by intro γ s σ H x v vl vu lo hi sl Q I rx hs pl pu h;obtain⟨a,xs,rfl,hx,q⟩:=h;cases rx;obtain⟨its,r,ht,hz⟩:=I.list hx;have hlen:=r.length;refine⟨"list",_,slot_list_getitem.lookup,ht.isList.typeIs,?_⟩;refine wpAny_getItem_list_slice ht.isList hs pl pu .none (by simp) ?_ (by rw[Qyq]<;>omega);rw[uH,<-hlen];refine⟨.ref s.heap.objs.size,_,I.laid (fun b ob q=>QWq _ q) (QVz _) ?_,rfl,q _ (I.hok.fresh (QVz _))⟩;exact⟨Nat.le_trans (qy xs lo hi) hz,_,0,(r.drop _).take _,Qzq _ rfl⟩
def jP:V->Bool
 |.non=>true
 |.bl _=>true
 |.int _=>true
 |.str _=>true
 |_=>false
noncomputable def Qe:V->V->Bool
 |.non,.non=>true
 |.bl a,.bl b=>a==b
 |.bl a,.int b=>(if a then 1 else 0)==b
 |.int a,.bl b=>a==(if b then 1 else 0)
 |.int a,.int b=>a==b
 |.str a,.str b=>a==b
 |_,_=>false
def Zm{s:Shared}{u v:Value}(ry:RelV y u)(rx:RelV x v)(fy:jP y=true)(fx:jP x=true):SeqAt.EqAt A s u v (Qe y x):=by
 cases y with
 |non=>
  cases ry;cases x with
  |non=>cases rx;exact SeqAt.EqAt.same _
  |bl b=>cases rx;exact SeqAt.EqAt.none_bool b
  |int b=>obtain⟨t,rfl⟩:=rx;exact SeqAt.EqAt.none_int b t
  |str b=>obtain⟨t,rfl⟩:=rx;exact SeqAt.EqAt.none_str b t
  |_=>exact absurd (fx) Qjz
 |bl a=>
  cases ry;cases x with
  |non=>cases rx;exact SeqAt.EqAt.bool_none a
  |bl b=>cases rx;exact SeqAt.EqAt.bool_bool a b
  |int b=>obtain⟨t,rfl⟩:=rx;exact SeqAt.EqAt.bool_int a b t
  |str b=>obtain⟨t,rfl⟩:=rx;exact SeqAt.EqAt.bool_str a b t
  |_=>exact absurd (fx) Qjz
 |int a=>
  obtain⟨t',rfl⟩:=ry;cases x with
  |non=>cases rx;exact SeqAt.EqAt.int_none a t'
  |bl b=>cases rx;exact SeqAt.EqAt.int_bool a t' b
  |int b=>obtain⟨t,rfl⟩:=rx;exact SeqAt.EqAt.int_int a t' b t
  |str b=>obtain⟨t,rfl⟩:=rx;exact SeqAt.EqAt.int_str a t' b t
  |_=>exact absurd (fx) Qjz
 |str a=>
  obtain⟨t',rfl⟩:=ry;cases x with
  |non=>cases rx;exact SeqAt.EqAt.str_none a t'
  |bl b=>cases rx;exact SeqAt.EqAt.str_bool a t' b
  |int b=>obtain⟨t,rfl⟩:=rx;exact SeqAt.EqAt.str_int a t' b t
  |str b=>obtain⟨t,rfl⟩:=rx;exact SeqAt.EqAt.str_str a t' b t
  |_=>exact absurd (fx) Qjz
 |_=>exact absurd (fy) Qjz
noncomputable def Wc(x:V)(u:Value):Bool:=match u with
 |.none=>Qe .non x
 |.bool b=>Qe (.bl b) x
 |.int i _=>Qe (.int i) x
 |.str z _=>Qe (.str z) x
 |_=>false
def El{u:Value}(r:RelV y u)(f:jP y=true):Wc x u=Qe y x:=by
 cases y with
 |non=>cases r;rfl
 |bl b=>cases r;rfl
 |int i=>obtain⟨t,rfl⟩:=r;rfl
 |str z=>obtain⟨t,rfl⟩:=r;rfl
 |_=>exact absurd (f) Qjz
theorem oY{x:V}:∀{xs:List V}{us:List Value},Vals xs us->xs.all jP=true->us.any (Wc x)=xs.any fun y=>Qe y x
 |_,_,.nil=>fun _=>rfl
 |y::xs,u::us,.cons r t=>fun f=>by rw[List.all_cons,QUq]at f;rw[List.any_cons,List.any_cons,El r f.1,oY t f.2]
theorem ik{A:Around}{s:Shared}{x:V}{v:Value}(rx:RelV x v)(fx:jP x=true):∀{xs:List V}{us:List Value},Vals xs us->xs.all jP=true->∀u∈us,SeqAt.EqAt A s u v (Wc x u)
 |_,_,.nil=>fun _=>fun u hu=>by cases hu
 |y::xs,u::us,.cons r t=>fun f=>fun u' hu=>by
  rw[List.all_cons,QUq]at f;rcases QCq.mp hu with rfl|hu
  ·rw[El r f.1];exact Zm r rx f.1 fx
  ·exact ik rx fx t f.2 u' hu
def inV(x:V)(xs:List V):Bool:=xs.any fun y=>Qe y x
noncomputable def rIn(K:QQq)(neg:Bool):R2:=fun x y H Q=>∃p xs,y=.ref p/\(lC K H p xs\/jM K H p xs)/\jP x=true/\xs.all jP=true/\Q (.bl (if neg then !inV x xs else inV x xs)) H
def Jz:gq X (compareOp .In) (rIn X.K false):=by
 intro γ s σ H x y v u Q I rx ry h;obtain⟨p,xs,rfl,hq,fx,fs,q⟩:=h;cases ry;rcases hq with hq|hq
 ·obtain⟨its,r,pl,hz⟩:=I.list hq;refine SeqAt.in_listAt _ pl.isList (fun w hw=>ik rx fx r fs w (by simpa using hw)) ⟨.bl _,H,I,rfl,?_⟩;rw[show its.toArray.any _=its.any (Wc x) by simp,oY r fs];exact q
 ·obtain⟨its,r,pl,hz⟩:=I.tuple hq;refine SeqAt.in_tupleAt _ pl (fun w hw=>ik rx fx r fs w (by simpa using hw)) ⟨.bl _,H,I,rfl,?_⟩;rw[show its.toArray.any _=its.any (Wc x) by simp,oY r fs];exact q
def xJ:gq X (compareOp .NotIn) (rIn X.K true):=by
 intro γ s σ H x y v u Q I rx ry h;obtain⟨p,xs,rfl,hq,fx,fs,q⟩:=h;cases ry;rcases hq with hq|hq
 ·obtain⟨its,r,pl,hz⟩:=I.list hq;refine SeqAt.notIn_listAt _ pl.isList (fun w hw=>ik rx fx r fs w (by simpa using hw)) ⟨.bl _,H,I,rfl,?_⟩;rw[show its.toArray.any _=its.any (Wc x) by simp,oY r fs];exact q
 ·obtain⟨its,r,pl,hz⟩:=I.tuple hq;refine SeqAt.notIn_tupleAt _ pl (fun w hw=>ik rx fx r fs w (by simpa using hw)) ⟨.bl _,H,I,rfl,?_⟩;rw[show its.toArray.any _=its.any (Wc x) by simp,oY r fs];exact q
def yu:iw X (.type "list") (fun xs H Q=>∃p ys,xs=[.ref p]/\(lC X.K H p ys\/jM X.K H p ys)/\∀l,H l=none->Q (.ref l) (upd H l (.lst ys))):=by
 intro γ s σ H xs us Q I r h;obtain⟨p,ys,rfl,hq,q⟩:=h;obtain⟨u,rfl,rx⟩:=vals1 r;cases rx;have fin:∀its,Vals ys its->ys.length<=sizeLine->∀h' c',_->
   h'.get? s.heap.objs.size=some {cls:=.type "list",dict:=none,data:=.seq its.toArray c',slots:= #[]}->EP X γ σ Q _ {s with heap:=h'}:=fun its r' hz h' c' kp e=>
  ⟨.ref s.heap.objs.size,_,I.laid kp (QVz _) (show bZ X.prog X.w _ h' _ (.lst ys)from⟨hz,its,c',r',e⟩),rfl,q _ (I.hok.fresh (QVz _))⟩
 rcases hq with hq|hq
 ·obtain⟨its,r',pl,hz⟩:=I.list hq;have hlen:=r'.length;obtain⟨o,ho,hc,n,hd⟩:=pl.isList;exact call_list_seq p (.inl rfl) ho hc hd (fun h' c' kp e=>fin its r' hz h' c' kp e) (by simp only[Qyq]<;>omega)
 ·obtain⟨its,r',pl,hz⟩:=I.tuple hq;have hlen:=r'.length;obtain⟨o,ho,hc,n,hd⟩:=pl;exact call_list_seq p (.inr rfl) ho hc hd (fun h' c' kp e=>fin its r' hz h' c' kp e) (by simp only[Qyq]<;>omega)
def mJ:iw X (.type "tuple") (fun xs H Q=>∃p ys,xs=[.ref p]/\((lC X.K H p ys/\∀l,H l=none->Q (.ref l) (upd H l (.tup ys)))\/(jM X.K H p ys/\Q (.ref p) H))):=by
 intro γ s σ H xs us Q I r h;obtain⟨p,ys,rfl,h⟩:=h;obtain⟨u,rfl,rx⟩:=vals1 r;cases rx;rcases h with ⟨hq,q⟩|⟨hq,q⟩
 ·obtain⟨its,r',pl,hz⟩:=I.list hq;have hlen:=r'.length;refine call_tuple_list pl.isList (fun h' kp=>?_) (by simp only[Qyq]<;>omega);have I1:=I.kept (t':=s.toks) kp;have I2:=
   I1.laid (t':=s.toks) (fun b o e=>QWq _ e) (QVz _) (show bZ X.prog X.w _ _ _ (.tup ys)from⟨hz,its,r',TupOk.new _ _⟩)
  exact⟨.ref h'.objs.size,_,I2,rfl,q _ (I1.hok.fresh (QVz _))⟩
 ·obtain⟨its,r',pl,hz⟩:=I.tuple hq;exact call_tuple_same pl ⟨.ref p,H,I,rfl,q⟩
def tyV(K:QQq)(T:String)(x:V)(H:Hp):Prop:=match x with
 |.str _=>T="str"
 |.int _=>T="int"
 |.ref p=>(T="list"/\∃xs,lC K H p xs)\/(T="tuple"/\∃o,K.lookup p=some o/\o.cls=.type "tuple"/\o.dict=none)\/
   (T="dict"/\((∃kvs,H p=some (.dK kvs))\/∃kvs,H p=some (.dT kvs)))\/(T="set"/\∃S n,H p=some (.set S n))
 |_=>False
theorem WD{σ:St}{H:Hp}{T:String}{x:V}(I:Inv X γ σ H s)(r:RelV x v)(ty:tyV X.K T x H):
  s.TypeIs v T/\∀a,v=.ref a->∃ob,s.heap.get? a=some ob/\ob.dict=none:=by
 cases x with
 |str z=>obtain⟨t,rfl⟩:=r;cases (ty);exact⟨typeIs_str s z t,fun _ e=>nomatch e⟩
 |int i=>obtain⟨t,rfl⟩:=r;cases (ty);exact⟨typeIs_int s i t,fun _ e=>nomatch e⟩
 |ref p=>
  cases r;rcases ty with ⟨rfl,xs,hq⟩|⟨rfl,o,hk,hc,hd⟩|⟨rfl,hk⟩|⟨rfl,S,n,hk⟩
  ·obtain⟨its,_,pl,_⟩:=I.list hq;refine⟨pl.isList.typeIs,fun a e=>?_⟩;cases e;obtain⟨o,n,e,c,hd,_⟩:=pl;exact⟨o,e,hd⟩
  ·refine⟨⟨o,I.Ab p o hk,hc⟩,fun a e=>?_⟩;cases e;exact⟨o,I.Ab _ o hk,hd⟩
  ·have z:∃o,s.heap.get? p=some o/\o.ExactDict:=by
    rcases hk with ⟨kvs,hk⟩|⟨kvs,hk⟩
    ·obtain⟨_,_,_,_,o,_,_,e,ex,_⟩:=I.hok p _ hk;exact⟨o,e,ex⟩
    ·obtain⟨_,_,_,_,o,_,_,e,ex,_⟩:=I.hok p _ hk;exact⟨o,e,ex⟩
   obtain⟨o,e,ex⟩:=z
   refine⟨⟨o,e,ex.1⟩,fun a e2=>?_⟩
   cases e2
   exact⟨o,e,ex.2.1⟩
  ·obtain⟨o,_,_,_,e,ex,_⟩:=I.hok p _ hk;refine⟨⟨o,e,ex.1⟩,fun a e2=>?_⟩;cases e2;exact⟨o,e,ex.2.1⟩
 |_=>exact False.elim ty
noncomputable def tBM(K:QQq)(T:String)(r:V->List V->Hp->VK->Prop)(to:TE)(t:TA):TE:=fun σ H Q=>to σ H fun x H1=>tyV K T x H1/\t σ H1 fun xs H2=>r x xs H2 Q
variable{o e:Expr}{es:List Expr}{to:TE}{t:TA}{name:Str}{apos cpos:Pos}{T id:String}{r:V->List V->Hp->VK->Prop}
def abM(pa:PlainAttrs T)(slot:Slot T name id)(hty:typeOf (.builtin id)=pure (.type "method_descriptor"))(hm:MtR X id r)(ho:PE X o to)(ha:PA X (e::es) t)
  (hbase:attributeBase o name X.env (eval o X.env)=eval o X.env:=by rfl)
  (hfew:((backTo cpos (starEach (e::es) X.env)).all (fun x=> !x.1)&&(backToKw cpos (keywordEach [] X.env)).all (fun x=>x.1.isSome)
   &&decide ((e::es).length+([]:List Keyword).length+(if ([]:List Keyword).isEmpty then 0 else 1)<30))=true:=by rfl)
  (hline:(apos.endLine==cpos.line)=true:=by rfl)(hs:starEach (e::es) X.env=(false,eval e X.env)::starEach es X.env:=by rfl)(hplain:(backTo cpos (starEach es X.env)).any (·.1)=false:=by rfl):
  PE X (.Call (.Attribute o name apos) (e::es) [] cpos) (tBM X.K T r to t):=by
 intro γ s σ H Q I h;refine wpAny_Call_method_late hbase hfew hline rfl (bJ (ho γ s σ H _ I h) fun v s1⟨x,H1,I1,r1,ty,q1⟩=>?_);obtain⟨h1,h2⟩:=WD I1 r1 ty;refine⟨T,id,pa,slot,hty,h1,h2,?_⟩;have hA:=ha cpos γ s1 σ H1 _ I1 q1;rw[hs]at hA⊢;exact Calls.callWith_builtin (by show(false||(backTo cpos _).any (·.1))=false;rw[hplain]<;>rfl) (Calls.evalArgs_plain (bJ hA fun us s2⟨vs,H2,I2,r2,q2⟩=>hm γ s2 σ H2 x vs v us Q I2 r1 r2 q2))
end
def MtM(X:Cx)(id:String)(r:V->List V->Hp->VK->Prop):Prop:=
 ∀(γ:QQz)(s:Shared)(σ:St)(H:Hp)(x:V)(xs:List V)(v:Value)(us:List Value)(Q:VK),Inv X γ σ H s->RelV x v->Vals xs us->r x xs H Q->
  wpAny (model X.prog X.w) X.A (call (.builtin id) (v::us)) (EP X γ σ Q) X.xe s
theorem Vals.one:∀{x:V}{us:List Value},Vals [x] us->∃u,us=[u]/\RelV x u
 |_,_,.cons r .nil=>⟨_,rfl,r⟩
theorem Vals.two:∀{x y:V}{us:List Value},Vals [x,y] us->∃u v,us=[u,v]/\RelV x u/\RelV y v
 |_,_,_,.cons r (.cons q .nil)=>⟨_,_,rfl,r,q⟩
theorem Vals.zero:∀{us:List Value},Vals [] us->us=[]
 |_,.nil=>rfl
section
variable{X:Cx}{γ:QQz}{σ:St}{H:Hp}{s:Shared}{l b:Addr}{xs ys zs:List V}
def Inv.afu{its its':List Value}{n:Nat}{t':Nat}(I:Inv X γ σ H s)(hH:H l=some (.lst xs))
  (e:s.heap.get? l=some {cls:=.type "list",data:=.seq its.toArray n})(hf:f its.toArray=its'.toArray)(hv:Vals ys its')(hz:ys.length<=sizeLine):
  Inv X γ σ (upd H l (.lst ys)) {s with heap:=s.heap.update l (Obj.mapSeq f),toks:=t'}:=by
 have q:=PySem.IsL.update e f;rw[hf]at q;refine I.write (by rw[hH];exact trivial) (.inl rfl) (fun b' u hb hu=>(Heap.get?_update_other s.heap _ (Ne.symm hb)).trans hu) ⟨_,q⟩ ?_;exact⟨hz,its',_,hv,q⟩
def Inv.ab6{t':Nat}(I:Inv X γ σ H s)(hv:Vals ys its)(hz:ys.length<=sizeLine):
  Inv X γ σ (upd H s.heap.objs.size (.lst ys)) {s with heap:=s.heap.push {cls:=.type "list",data:=.seq its.toArray},toks:=t'}:=
 I.laid (fun _ _ q=>QWq _ q) (QVz _) ⟨hz,its,0,hv,Qzq _ rfl⟩
theorem Inv.fresh(I:Inv X γ σ H s):H s.heap.objs.size=none:=I.hok.fresh (QVz _)
def Inv.aft(I:Inv X γ σ H s)(hH:H l=some (.lst xs)):xs.length<=sizeLine/\∃(its:List Value)(n:Nat),Vals xs its/\xs.length=its.length/\s.heap.get? l=some {cls:=.type "list",data:=.seq its.toArray n}:=by obtain⟨z,its,n,r,e⟩:=I.hok l _ hH;exact⟨z,its,n,r,r.length,e⟩
end
section
variable{X:Cx}
noncomputable def xr:V->List V->Hp->VK->Prop:=fun x vs H Q=>∃l xs y,x=.ref l/\vs=[y]/\H l=some (.lst xs)/\xs.length<sizeLine/\Q .non (upd H l (.lst (xs++[y])))
def lQ:MtM X "list.append" xr:=by intro γ s σ H x vs v us Q I rx rv h;obtain⟨l,xs,y,rfl,rfl,hH,hz,q⟩:=h;cases rx;obtain⟨u,rfl,ru⟩:=rv.one;obtain⟨z,its,n,r,hl,e⟩:=I.aft hH;refine call_meets F.slot_list_append ⟨_,e,rfl⟩ F.entry_list_append (F.args_list_append_2 _ _) (PySem.list_append l its.toArray n u (by rw[Qyq];omega)) ⟨e,?_⟩;refine⟨.non,_,I.afu hH e (by simp) (r.append (.cons ru .nil)) ?_,rfl,q⟩;rw[QTq,List.length_singleton];omega
end
section
variable{prog:Program}{w:World}{A:Around}{E:QZq}{s:Shared}
end
section
variable{X:Cx}
end
section
variable{κ:Type}[DecidableEq κ]
def eO(kvs:List (κ×V))(k:κ):Option V:=(kvs.find? fun kv=>decide (kv.1=k)).map (·.2)
noncomputable def putK(kvs:List (κ×V))(k:κ)(v:V):List (κ×V):=
 if (kvs.any fun kv=>decide (kv.1=k))=true then kvs.map (fun kv=>if kv.1=k then(kv.1,v)else kv)else kvs++[(k,v)]
def qw(kvs:List (κ×V))(k:κ):List (κ×V):=kvs.filter fun kv=>decide (kv.1≠k)
def jb{p:κ×V}{k:κ}(e:p.1=k):eO (p::r) k=some p.2:=by simp[eO,List.find?_cons,e]
def jc{p:κ×V}{k:κ}(e:¬p.1=k):eO (p::r) k=eO r k:=by simp[eO,List.find?_cons,e]
theorem qX(k:κ):∀kvs:List (κ×V),(kvs.any fun kv=>decide (kv.1=k))=(eO kvs k).isSome
 |[]=>rfl
 |p::r=>by
  rw[List.any_cons];by_cases e:p.1=k
  ·simp only[jb e,QFq e,Bool.true_or,Option.isSome_some]
  ·rw[jc e,QEz e,Bool.false_or];exact qX k r
def j9(kvs:List (κ×V))(k:κ)v:(putK kvs k v).length<=kvs.length+1:=by
 unfold putK;split
 ·rw[QAq];omega
 ·rw[QTq,QBq,List.length_nil];omega
def iC.eQ{u:Option Value}(r:iC o u):o.isSome=u.isSome:=by
 cases o with
 |none=>cases u with
  |none=>rfl
  |some _=>exact(r).elim
 |some _=>cases u with
  |none=>exact(r).elim
  |some _=>rfl
theorem iC.getD{u:Option Value}{d':Value}(r:iC o u)(rd:RelV d d'):RelV (o.getD d) (u.getD d'):=by
 cases o with
 |none=>cases u with
  |none=>exact rd
  |some _=>exact(r).elim
 |some _=>cases u with
  |none=>exact(r).elim
  |some _=>exact r
def KV.val{vs:List (κ×Value)}(r:KV kvs vs)(k:κ):iC (eO kvs k) (valueAt vs k):=by
 induction r with
 |nil=>exact True.intro
 | @cons p q ps qs h t ih=>
  obtain⟨h1,h2⟩:=h;by_cases e:p.1=k
  ·have b:valueAt (q::qs) k=some q.2:=by simp[valueAt,List.find?_cons,h1.symm.trans e]
   rw[jb e,b];exact h2
  ·have e':¬q.1=k:=fun z=>e (h1.trans z);have b:valueAt (q::qs) k=valueAt qs k:=by simp[valueAt,List.find?_cons,e']
   rw[jc e,b];exact ih
theorem KV.any{vs:List (κ×Value)}(r:KV kvs vs)(k:κ):(kvs.any fun kv=>decide (kv.1=k))=vs.any fun kv=>decide (kv.1=k):=by
 induction r with
 |nil=>rfl
 |cons h t ih=>rw[List.any_cons,List.any_cons,ih,h.1]
theorem KV.repl{vs:List (κ×Value)}(r:KV kvs vs)(k:κ){u:Value}(ry:RelV y u):
  KV (kvs.map fun kv=>if kv.1=k then(kv.1,y)else kv) (vs.map fun kv=>if kv.1=k then(kv.1,u)else kv):=by
 induction r with
 |nil=>exact .nil
 | @cons p q ps qs h t ih=>
  rw[Qyz,Qyz];refine .cons ?_ ih;obtain⟨h1,h2⟩:=h;by_cases e:p.1=k
  ·rw[if_pos e,if_pos (h1.symm.trans e)];exact⟨h1,ry⟩
  ·rw[if_neg e,if_neg (fun z=>e (h1.trans z))];exact⟨h1,h2⟩
def KV.put{vs:List (κ×Value)}(r:KV kvs vs)(k:κ){u:Value}(ry:RelV y u):KV (putK kvs k y) (stored vs k u):=by
 unfold putK stored;rw[r.any k];by_cases e:(vs.any fun kv=>decide (kv.1=k))=true
 ·rw[if_pos e,if_pos e];exact r.repl k ry
 ·rw[if_neg e,if_neg e];exact Paired.snoc r ⟨rfl,ry⟩
def KV.drop{vs:List (κ×Value)}(r:KV kvs vs)(k:κ):KV (qw kvs k) (without vs k):=by
 unfold qw without;induction r with
 |nil=>exact .nil
 | @cons p q ps qs h t ih=>
  obtain⟨h1,h2⟩:=h;rw[List.filter_cons,List.filter_cons];by_cases e:p.1=k
  ·have a:¬decide (p.1≠k)=true:=by simp[e]
   rw[if_neg a,if_neg (by simp[h1.symm.trans e])];exact ih
  ·have e':¬q.1=k:=fun z=>e (h1.trans z);rw[if_pos (by simp[e]),if_pos (by simp[e'])];exact .cons ⟨h1,h2⟩ ih
theorem KV.length{kvs:List (κ×V)}(r:KV kvs vs):kvs.length=vs.length:=Paired.length r
def Qj(kvs:List (κ×V))(k:κ):(qw kvs k).length<=kvs.length:=List.length_filter_le _ _
end
def qj{w:World}{u:Value}(r:RelV (kV k) u):(bQ P w).is k u=true:=by
 cases k with
 |inl i=>obtain⟨t,e⟩:=(r);subst e;exact z6 P w i t
 |inr x=>obtain⟨t,e⟩:=(r);subst e;exact zZ P w x t
theorem vO{w:World}:∀{ks:List Key}{us:List Value},Vals (ks.map kV) us->ItemsAre (bQ P w) ks us
 |[],_,r=>by rw[List.map_nil]at r;cases r;exact .nil
 |k::ks,_,r=>by
  cases r with
  |cons h t=>exact .cons (qj h) (vO t)
abbrev KT(H:Hp):List (List Key×V)->List (List Key×Addr×Value)->Prop:=Paired fun p q=>p.1=q.1/\H q.2.1=some (.tup (p.1.map kV))/\RelV p.2 q.2.2
def KT.val{kvs:List (List Key×V)}(r:KT H kvs xs)k:iC (eO kvs k) ((atKey xs k).map (·.2)):=by
 induction r with
 |nil=>exact True.intro
 | @cons p q ps qs h t ih=>
  obtain⟨h1,_,h2⟩:=h;by_cases e:p.1=k
  ·have b:atKey (q::qs) k=some q.2:=by simp[atKey,List.find?_cons,h1.symm.trans e]
   rw[jb e,b];exact h2
  ·have e':¬q.1=k:=fun z=>e (h1.trans z);have b:atKey (q::qs) k=atKey qs k:=by simp[atKey,List.find?_cons,e']
   rw[jc e,b];exact ih
theorem KT.repl{kvs:List (List Key×V)}(r:KT H kvs xs)k{u:Value}(ry:RelV y u):
  KT H (kvs.map fun kv=>if kv.1=k then(kv.1,y)else kv) (xs.map (putAt k u)):=by
 induction r with
 |nil=>exact .nil
 | @cons p q ps qs h t ih=>
  rw[Qyz,Qyz];refine .cons ?_ ih;obtain⟨h1,h2,h3⟩:=h;unfold putAt;by_cases e:p.1=k
  ·rw[if_pos e,if_pos (h1.symm.trans e)];exact⟨h1,h2,ry⟩
  ·rw[if_neg e,if_neg (fun z=>e (h1.trans z))];exact⟨h1,h2,h3⟩
def KT.put{kvs:List (List Key×V)}(r:KT H kvs xs)k{y:V}(hb:H b=some (.tup (k.map kV)))(ry:RelV y u):
  KT H (putK kvs k y) (storedH xs k b u):=by
 have e:(kvs.any fun kv=>decide (kv.1=k))=(atKey xs k).isSome:=by rw[qX,(r.val k).eQ,Option.isSome_map]
 unfold putK storedH;rw[e];by_cases q:(atKey xs k).isSome=true
 ·rw[if_pos q,if_pos q];exact r.repl k ry
 ·rw[if_neg q,if_neg q];exact Paired.snoc r ⟨rfl,hb,ry⟩
def KT.keeps{kvs:List (List Key×V)}(r:KT H kvs xs)(ht:∀b ys,H b=some (.tup ys)->H' b=some (.tup ys)):KT H' kvs xs:=
 Paired.Yl r fun _ _ z=>⟨z.1,ht _ _ z.2.1,z.2.2⟩
section
variable{P:Program}{w:World}{H:Hp}{h:Heap}{a:Addr}
def zz(ok:mQ P w H h)(e:Rd H a u):bZ P w H h a u:=e.ok ok
def oM(ok:mQ P w H h)(e:Rd H a (.dK kvs)):kvs.length<=sizeLine/\(a==sysModules)=false/\∃vs,KV kvs vs/\h.DictOf (bQ P w) a vs:=
 show bZ P w H h a _ from zz ok e
def Hv(ok:mQ P w H h)(e:H a=some (.dK kvs)):kvs.length<=sizeLine/\(a==sysModules)=false/\∃vs,KV kvs vs/\h.DictOf (bQ P w) a vs:=oM ok (.inl e)
def km(ok:mQ P w H h)(e:H a=some (.tup (ks.map kV))):(tupleKind (bQ P w)).is h ks a:=by obtain⟨_,its,r,o,h1,h2,_,n,h3⟩:=(ok a _ e);exact⟨o,its.toArray,n,h1,h2,h3,by simpa using vO r⟩
theorem tY(ok:mQ P w H h)(e:Rd H a (.dT kvs)):kvs.length<=sizeLine/\(a==sysModules)=false/\
  ∃xs,KT H kvs xs/\h.DictOfH (tupleKind (bQ P w)) a xs:=by
 obtain⟨z,y,xs,r,o,es,ep,h1,h2,h3,h4,h5⟩:=(zz ok e);refine⟨z,y,xs,r,o,es,ep,h1,h2,h3,h4,fun x hx=>?_,h5⟩;have all:∀{l:List _}{m:List _},KT H l m->∀x∈m,(tupleKind (bQ P w)).is h x.1 x.2.1:=by
  intro l m q;induction q with
  |nil=>intro x hx;exact nomatch hx
  | @cons p q ps qs hq t ih=>
   intro x hx;rcases QCq.mp hx with e|hx
   ·subst e;exact km ok (by rw[<-hq.1];exact hq.2.1)
   ·exact ih x hx
 exact all r x hx
def acI(ok:mQ P w H h)(e:H a=some (.dT kvs)):kvs.length<=sizeLine/\(a==sysModules)=false/\
  ∃xs,KT H kvs xs/\h.DictOfH (tupleKind (bQ P w)) a xs:=tY ok (.inl e)
end
def lE(H:Hp)(a:Addr)(y:V)(r:Option V):Prop:=
 (∃kvs k,Rd H a (.dK kvs)/\y=kV k/\r=eO kvs k)\/∃kvs k b,Rd H a (.dT kvs)/\y=.ref b/\H b=some (.tup (k.map kV))/\r=eO kvs k
def Q0(H:Hp)(a:Addr)(y v:V)(H':Hp):Prop:=
 (∃kvs k,H a=some (.dK kvs)/\y=kV k/\kvs.length<sizeLine/\H'=upd H a (.dK (putK kvs k v)))\/
 ∃kvs k b,H a=some (.dT kvs)/\y=.ref b/\H b=some (.tup (k.map kV))/\kvs.length<sizeLine/\H'=upd H a (.dT (putK kvs k v))
theorem lE.k{a:Addr}{k:Key}(e:H a=some (.dK kvs)):lE H a (kV k) (eO kvs k):=.inl ⟨kvs,k,.inl e,rfl,rfl⟩
def lE.t{a b:Addr}{k:List Key}(e:H a=some (.dT kvs))(eb:H b=some (.tup (k.map kV))):lE H a (.ref b) (eO kvs k):=.inr ⟨kvs,k,b,.inl e,rfl,eb,rfl⟩
theorem Q0.k{a:Addr}{k:Key}(e:H a=some (.dK kvs))(hl:kvs.length<sizeLine):Q0 H a (kV k) v (upd H a (.dK (putK kvs k v))):=.inl ⟨kvs,k,e,rfl,hl,rfl⟩
section
variable{X:Cx}{γ:QQz}{σ:St}{H:Hp}{s:Shared}{a:Addr}{y v:V}{u r:Value}{o:Option V}{A:Around}{E:QZq}
def Inv.big(I:Inv X γ σ H s):sysModules<s.heap.objs.size:=by exact Nat.lt_trans (by decide) ((I.mod.glob.keeps I.bk).lt)
def vY(hu:A.units+1<cLine)(I:Inv X γ σ H s)(g:lE H a y (some v))(ry:RelV y u)(h:∀w' s',Inv X γ σ H s'->RelV v w'->Q w' s'):
  wpAny (model X.prog X.w) A (getItem (.ref a) u) Q E s:=by
 rcases g with ⟨kvs,k,e,ey,l⟩|⟨kvs,k,b,e,ey,eb,l⟩
 ·subst ey;obtain⟨z,hd,vs,rel,dd⟩:=oM I.hok e;obtain⟨w',hw,rw'⟩:=iC.some_of (by rw[l];exact rel.val k);exact wpAny_getItem_of (qj ry) dd.mapOf hw (h w' _ (I.tok _) rw')
 ·subst ey;cases (ry);obtain⟨z,hd,xs,rel,dd⟩:=tY I.hok e;obtain⟨w',hw,rw'⟩:=iC.some_of (by rw[l];exact rel.val k);obtain⟨p,hp,hp2⟩:=QJz.mp hw;refine wpAny_getItem_heap (tupleKind_room_in1 hu) (km I.hok eb) dd hp ?_;rw[hp2];exact h w' _ (I.tok _) rw'
def agm(hu:A.units+1<cLine)(I:Inv X γ σ H s)(g:lE H a y o)(ry:RelV y u)(h:∀s',Inv X γ σ H s'->Q (.bool o.isSome) s'):
  wpAny (model X.prog X.w) A (compareOp .In u (.ref a)) Q E s:=by
 rcases g with ⟨kvs,k,e,ey,l⟩|⟨kvs,k,b,e,ey,eb,l⟩
 ·subst ey;obtain⟨z,hd,vs,rel,dd⟩:=oM I.hok e;refine wpAny_in_of (qj ry) hd dd.mapOf ?_;rw[<- (rel.val k).eQ,<-l];exact h _ (I.tok _)
 ·subst ey;cases (ry);obtain⟨z,hd,xs,rel,dd⟩:=tY I.hok e;refine wpAny_in_heap (tupleKind_room_in1 hu) (km I.hok eb) hd dd ?_;have q:=(rel.val k).eQ;rw[Option.isSome_map]at q;rw[<-q,<-l];exact h _ (I.tok _)
def Us(hu:A.units+1<cLine)(I:Inv X γ σ H s)(g:lE H a y o)(ry:RelV y u)(h:∀s',Inv X γ σ H s'->Q (.bool (!o.isSome)) s'):
  wpAny (model X.prog X.w) A (compareOp .NotIn u (.ref a)) Q E s:=by
 rcases g with ⟨kvs,k,e,ey,l⟩|⟨kvs,k,b,e,ey,eb,l⟩
 ·subst ey;obtain⟨z,hd,vs,rel,dd⟩:=oM I.hok e;refine wpAny_notIn_of (qj ry) hd dd.mapOf ?_;rw[<- (rel.val k).eQ,<-l];exact h _ (I.tok _)
 ·subst ey;cases (ry);obtain⟨z,hd,xs,rel,dd⟩:=tY I.hok e;refine wpAny_notIn_heap (tupleKind_room_in1 hu) (km I.hok eb) hd dd ?_;have q:=(rel.val k).eQ;rw[Option.isSome_map]at q;rw[<-q,<-l];exact h _ (I.tok _)
def iH{t':Nat}(I:Inv X γ σ H s)(mu:Mut (H a))(hs:Heap.SameBut a s.heap h')(he:∃q,h'.get? a=some q)(new:bZ X.prog X.w (upd H a ob) h' a ob):
  Inv X γ σ (upd H a ob) {s with heap:=h',toks:=t'}:=
 I.write mu (.inl rfl) (fun b q hb z=>(hs.2 b hb).trans z) he new
def Ep{w:World}{h':Heap}{vs:List (Key×Value)}(z:kvs.length<=sizeLine)(hd:(a==sysModules)=false)(rel:KV kvs vs)(dd:h'.DictOf (bQ P w) a vs):
  bZ P w H' h' a (.dK kvs):=⟨z,hd,vs,rel,dd⟩
def Ku{Q:Unit->Shared->Prop}(hu:A.units+1<cLine)(I:Inv X γ σ H s)(g:Q0 H a y v H')(ry:RelV y u)(rv:RelV v r)(h:∀s',Inv X γ σ H' s'->Q () s'):
  wpAny (model X.prog X.w) A (setItem (.ref a) u r) Q E s:=by
 rcases g with ⟨kvs,k,e,ey,l,eH⟩|⟨kvs,k,b,e,ey,eb,l,eH⟩
 ·subst ey eH;obtain⟨z,hd,vs,rel,dd⟩:=Hv I.hok e;have hz:vs.length<=sizeLine:=by rw[<-rel.length];exact z
  refine wpAny_setItem_pairs (qj ry) dd fun h' dd' hs=>h _ ?_;exact iH I (by rw[e];exact True.intro) hs (let ⟨q,_,_,hq,_⟩:=dd';⟨q,hq⟩) (Ep (by have:=j9 kvs k v;omega) hd (rel.put k rv) dd')
 ·subst ey eH;cases (ry);obtain⟨z,hd,xs,rel,dd⟩:=acI I.hok e;have hz:xs.length<=sizeLine:=by rw[<-Paired.length rel];exact z
  refine wpAny_setItem_heap (tupleKind_room_in1 hu) (km I.hok eb) dd fun h' dd' hs=>h _ ?_;obtain⟨q,es,ep,hq,h2,h3,h4,_,h5⟩:=dd';refine iH I (by rw[e];exact True.intro) hs ⟨q,hq⟩ ⟨(by have:=j9 kvs k v;omega),hd,_,(rel.put k eb rv).keeps fun c ys ec=>?_,q,es,ep,hq,h2,h3,h4,h5⟩;rw[ak (ab0 ec e (fun z=>nomatch z))];exact ec
end
section
variable{X:Cx}{γ:QQz}{σ:St}{H:Hp}{s:Shared}{a:Addr}{kvs:List (Key×V)}{k:Key}{u:Value}{A:Around}{E:QZq}
theorem acJ{v:V}{more:List Value}{Q:QZq}(I:Inv X γ σ H s)(e:H a=some (.dK kvs))(ry:RelV (kV k) u)(l:eO kvs k=some v)(hm:more=[]\/∃x,more=[x])
  (h:∀w' s',Inv X γ σ (upd H a (.dK (qw kvs k))) s'->RelV v w'->Q w' s'):wpAny (model X.prog X.w) A (call (.builtin "dict.pop") (.ref a::u::more)) Q E s:=by
 obtain⟨z,hd,vs,rel,dd⟩:=Hv I.hok e;obtain⟨w',hw,rw'⟩:=iC.some_of (v:=v) (o:=valueAt vs k) (by rw[<-l];exact rel.val k);have hp:(keyPart u).isSome=true:=by
  cases k with
  |inl i=>obtain⟨t,q⟩:=(show∃t,u=Value.int i t from ry);subst q;rfl
  |inr x=>obtain⟨t,q⟩:=(show∃t,u=Value.str x t from ry);subst q;rfl
 have ha:argsOk "dict.pop" ⟨.ref a::u::more,[]⟩:=by
  rcases hm with q|⟨x,q⟩
  ·subst q;exact PySem.F.args_dict_pop_2 _ _
  ·subst q;exact PySem.F.args_dict_pop_3 _ _ _
 refine call_meetsIn PySem.F.slot_dict_pop dd.typeIs PySem.F.entry_dict_pop ha (meets_dict_pop_there (bQ X.prog X.w) a (qj ry) more hm hp)
  ⟨vs,w',dd,by rw[<-rel.length];exact z,hw,fun h' dd' hs=>h w' _ ?_ rw'⟩
 have he:∃q,h'.get? a=some q:=let ⟨q,_,_,hq,_⟩:=dd';⟨q,hq⟩
 exact iH I (by rw[e];exact True.intro) hs he (Ep (Nat.le_trans (Qj kvs k) z) hd (rel.drop k) dd')
def acK(I:Inv X γ σ H s)(e:Rd H a (.dK kvs))(h:∀t s',Inv X γ σ H s'->Q (.int kvs.length t) s'):wpAny (model X.prog X.w) A (call (.builtin "len") [.ref a]) Q E s:=by obtain⟨z,hd,vs,rel,dd⟩:=oM I.hok e;refine call_len_dict hd dd (by rw[<-rel.length];rw[sizeLine_eq]at z;omega) ?_;rw[<-rel.length];exact h _ _ (I.tok _)
end
def ac8(i:Expr):Prop:=∀ov iv,subscripted i false ov iv=operate [ov,iv] (getItem ov iv)
theorem Rn{prog:Program}{w:World}{A:Around}{E:QZq}{s:Shared}{env:Env}{value slice:Expr}{pos:Pos}{T id:String}{Q:QZq}
  (hl:typeLookup (.type T) "__getitem__"=pure (some (.builtin id)))(hs:ac8 slice)
  (h:wpAny (model prog w) A (eval value env) (fun o θ=>wpAny (model prog w) A (eval slice env) (fun i Φ=>Φ.TypeIs o T/\wpAny (model prog w) A (getItem o i) Q E Φ) E θ) E s):
  wpAny (model prog w) A (eval (.Subscript value slice pos) env) Q E s:=by
 refine Subscript_ (QGq h (fun o θ Δ=>QGq Δ (fun i Φ h₂=>?_) fun _ _ x=>x) fun _ _ x=>x);obtain⟨hT,h₂⟩:=h₂;unfold subscriptTail;refine QKq ?_;rw[getitemInPython_of_ne hT.not_modules];refine QKq (wpAny_specialOf hT hl ?_);have fin:wpAny (model prog w) A (subscripted slice false o i) (fun r s₃=>wpAny (model prog w) A (letTemporaryGo value o r>>=fun _=>pure r) Q E s₃) E Φ:=by rw[hs o i];exact wpAny_operating (QGq h₂ (fun r s₃ h₃=>QKq (wpAny_letTemporaryGo (QKz h₃))) fun _ _ x=>x)
 first
  |exact QKz (QKq fin)
  |exact QKq (QKz (QKq fin))
  |exact QKq fin
def qx{X:Cx}{σ:St}{H:Hp}{a:Addr}{y:V}(I:Inv X γ σ H s)(g:lE H a y o):s.TypeIs (.ref a) "dict":=by
 rcases g with ⟨kvs,k,e,_,_⟩|⟨kvs,k,b,e,_,_,_⟩
 ·obtain⟨_,_,vs,_,dd⟩:=oM I.hok e;exact dd.typeIs
 ·obtain⟨_,_,xs,_,dd⟩:=tY I.hok e;exact dd.typeIs
noncomputable def aa4(td ty:TE):TE:=fun σ H Q=>td σ H fun x H1=>ty σ H1 fun y H2=>∃a v,x=.ref a/\lE H2 a y (some v)/\Q v H2
section
variable{X:Cx}{o i e value:Expr}{pos pos' tpos:Pos}{td ty tv:TE}
def Gz(hu:X.A.units+1<cLine)(ho:PE X o td)(hi:PE X i ty)(hs:ac8 i):PE X (.Subscript o i pos) (aa4 td ty):=by intro γ s σ H Q I h;refine Rn PySem.F.slot_dict_getitem.lookup hs (bJ (ho γ s σ H _ I h) fun u s1⟨x,H1,I1,rx,q1⟩=>bJ (hi γ s1 σ H1 _ I1 q1) fun iv s2⟨y,H2,I2,ry,a,v,ex,g,q2⟩=>?_);subst ex;obtain rfl:u=Value.ref a:=rx;exact⟨qx I2 g,vY hu I2 g ry fun w' s3 I3 rw'=>⟨v,H2,I3,rw',q2⟩⟩
end
def tZ{w:World}(h:Heap)(hb:sysModules<h.objs.size):bZ P w H (h.push {cls:=.type "dict",data:=.dict #[]}) h.objs.size (.dK []):=
 ⟨QIq _,beq_eq_false_iff_ne.mpr (Ne.symm (Qvz hb)),[],.nil,Heap.DictOf.new h⟩
def WP:TE:=fun _ H Q=>∀p,H p=none->Q (.ref p) (upd H p (.dK []))
section
variable{X:Cx}{pos:Pos}
def zM:PE X (.Dict [] [] pos) WP:=fun γ s σ H Q I h=>wpAny_Dict_empty ⟨.ref s.heap.objs.size,_,I.laid (fun _ _ q=>QWq _ q) (QVz _) (tZ s.heap I.big),rfl,h _ (I.hok.fresh (QVz _))⟩
end
noncomputable def wN:List (TE×TE)->St->Hp->(List (V×V)->Hp->Prop)->Prop
 |[],_,H,Q=>Q [] H
 |(tk,tv)::r,σ,H,Q=>tk σ H fun x H1=>tv σ H1 fun y H2=>wN r σ H2 fun ps H3=>Q ((x,y)::ps) H3
abbrev VV:List (V×V)->List (Value×Value)->Prop:=Paired fun p q=>RelV p.1 q.1/\RelV p.2 q.2
def PPs(X:Cx)(pos:Pos)(keys:List (Option Expr))(values:List Expr)(mF:List (TE×TE)):Prop:=
 ∀(γ:QQz)(s:Shared)(σ:St)(H:Hp)(Q:List (V×V)->Hp->Prop),Inv X γ σ H s->wN mF σ H Q->
  wpAny (model X.prog X.w) X.A (evalPairs (pairTrees keys values X.env pos)) (fun vs s'=>∃ps H',Inv X γ σ H' s'/\VV ps vs/\Q ps H') X.xe s
def Sq{pos:Pos}:PPs X pos [] [] []:=fun γ s σ H Q I h=>pairTrees_nil_walk ⟨[],H,I,.nil,h⟩
def M8{pos:Pos}{ks:List (Option Expr)}{tk tv:TE}(hk:PE X k tk)(hv:PE X v tv)(hr:PPs X pos ks vs mF):
  PPs X pos (some k::ks) (v::vs) ((tk,tv)::mF):=fun γ s σ H Q I h=>
 pairTrees_cons_walk (bJ (hk γ s σ H _ I h) fun u s1⟨x,H1,I1,rx,q1⟩=>bJ (hv γ s1 σ H1 _ I1 q1) fun w2 s2⟨y,H2,I2,ry,q2⟩=>bJ (hr γ s2 σ H2 _ I2 q2) fun ws s3⟨ps,H3,I3,rel,q3⟩=>⟨(x,y)::ps,H3,I3,.cons ⟨rx,ry⟩ rel,q3⟩)
structure M1(X:Cx)(o:Expr)(m:Str)(apos:Pos)(e:Expr)(cpos:Pos):Prop where
 base:attributeBase o m X.env (eval o X.env)=eval o X.env
 few:((backTo cpos (starEach [e] X.env)).all (fun x=> !x.1)&&(backToKw cpos (keywordEach [] X.env)).all (fun x=>x.1.isSome)
  &&decide (([e]:List Expr).length+([]:List Keyword).length+(if ([]:List Keyword).isEmpty then 0 else 1)<30))=true
 line:(apos.endLine==cpos.line)=true
 trees:backTo cpos (starEach [e] X.env)=[(false,eval e X.env)]
structure M2(X:Cx)(o:Expr)(m:Str)(apos:Pos)(e f:Expr)(cpos:Pos):Prop where
 base:attributeBase o m X.env (eval o X.env)=eval o X.env
 few:((backTo cpos (starEach [e,f] X.env)).all (fun x=> !x.1)&&(backToKw cpos (keywordEach [] X.env)).all (fun x=>x.1.isSome)
  &&decide (([e,f]:List Expr).length+([]:List Keyword).length+(if ([]:List Keyword).isEmpty then 0 else 1)<30))=true
 line:(apos.endLine==cpos.line)=true
 trees:backTo cpos (starEach [e,f] X.env)=[(false,eval e X.env),(false,eval f X.env)]
def IsD(H:Hp)(a:Addr):Prop:=(∃kvs,Rd H a (.dK kvs))\/∃kvs,Rd H a (.dT kvs)
def O1{X:Cx}{σ:St}{H:Hp}{a:Addr}(I:Inv X γ σ H s)(d:IsD H a):
  s.TypeIs (.ref a) "dict"/\(∀b,Value.ref a=.ref b->∃ob,s.heap.get? b=some ob/\ob.dict=none)/\(a==sysModules)=false:=by
 rcases d with ⟨kvs,e⟩|⟨kvs,e⟩
 ·obtain⟨_,hd,vs,_,dd⟩:=oM I.hok e;refine⟨dd.typeIs,fun b q=>?_,hd⟩;cases q;obtain⟨ob,_,_,h1,h2,_⟩:=dd;exact⟨ob,h1,h2.2.1⟩
 ·obtain⟨_,hd,xs,_,dd⟩:=tY I.hok e;refine⟨dd.typeIs,fun b q=>?_,hd⟩;cases q;obtain⟨ob,_,_,h1,h2,_⟩:=dd;exact⟨ob,h1,h2.2.1⟩
section
variable{X:Cx}{γ:QQz}{σ:St}{H:Hp}{s:Shared}{a:Addr}{y d:V}{u r:Value}{o:Option V}{A:Around}{E:QZq}
def Zr(hu:A.units+1<cLine)(I:Inv X γ σ H s)(g:lE H a y o)(ry:RelV y u)(rd:RelV d r)(h:∀w' s',Inv X γ σ H s'->RelV (o.getD d) w'->Q w' s'):
  wpAny (model X.prog X.w) A (call (.builtin "dict.get") [.ref a,u,r]) Q E s:=by
 rcases g with ⟨kvs,k,e,ey,l⟩|⟨kvs,k,b,e,ey,eb,l⟩
 ·subst ey;obtain⟨z,hd,vs,rel,dd⟩:=oM I.hok e;refine call_meetsIn PySem.F.slot_dict_get dd.typeIs PySem.F.entry_dict_get (PySem.F.args_dict_get_3 _ _ _) (meets_dict_get_default _ a (qj ry) hd r) ⟨_,dd.mapOf,h _ _ (I.tok _) ?_⟩;rw[l];exact(rel.val k).getD rd
 ·subst ey;cases (ry);obtain⟨z,hd,xs,rel,dd⟩:=tY I.hok e;refine call_meetsIn PySem.F.slot_dict_get dd.typeIs PySem.F.entry_dict_get (PySem.F.args_dict_get_3 _ _ _) (meetsH_dict_get_default _ a b hd r) ⟨tupleKind_room_in1 hu,k,xs,km I.hok eb,dd,h _ _ (I.tok _) ?_⟩;rw[l];exact(rel.val k).getD rd
end
noncomputable def WQ(td ty tx:TE):TE:=fun σ H Q=>td σ H fun x H1=>∃a,x=.ref a/\IsD H1 a/\ty σ H1 fun y H2=>tx σ H2 fun z H3=>∃o,lE H3 a y o/\Q (o.getD z) H3
noncomputable def Ci(td ty:TE):TE:=fun σ H Q=>td σ H fun x H1=>∃a,x=.ref a/\IsD H1 a/\ty σ H1 fun y H2=>∃kvs k v,H2 a=some (.dK kvs)/\y=kV k/\eO kvs k=some v/\Q v (upd H2 a (.dK (qw kvs k)))
section
variable{X:Cx}{o e f:Expr}{apos cpos:Pos}{td ty tx:TE}
def Nq(hu:X.A.units+1<cLine)(ho:PE X o td)(he:PE X e ty)(hf:PE X f tx)(m:M2 X o "get" apos e f cpos):PE X (.Call (.Attribute o "get" apos) [e,f] [] cpos) (WQ td ty tx):=by
 intro γ s σ H Q I h;refine wpAny_Call_method m.base m.few m.line PySem.F.plainAttrs_dict PySem.F.slot_dict_get PySem.F.type_dict_get (bJ (ho γ s σ H _ I h) fun u s1⟨x,H1,I1,rx,a,ex,d,q1⟩=>?_);subst ex;obtain rfl:u=Value.ref a:=rx;obtain⟨t1,t2,_⟩:=O1 I1 d;refine⟨t1,t2,?_⟩;rw[m.trees];refine Calls.callWith_builtin rfl (Calls.evalArgs_plain (Calls.spliced_cons (bJ (he γ s1 σ H1 _ I1 q1) fun iv s2⟨y,H2,I2,ry,q2⟩=>Calls.spliced_cons (bJ (hf γ s2 σ H2 _ I2 q2) fun fv s3⟨z,H3,I3,rz,ov,g,q3⟩=>Calls.spliced_nil ?_))))
 exact Zr hu I3 g ry rz fun w' s4 I4 rw'=>⟨_,H3,I4,rw',q3⟩
def Np(ho:PE X o td)(he:PE X e ty)(m:M1 X o "pop" apos e cpos):PE X (.Call (.Attribute o "pop" apos) [e] [] cpos) (Ci td ty):=by intro γ s σ H Q I h;refine wpAny_Call_method m.base m.few m.line PySem.F.plainAttrs_dict PySem.F.slot_dict_pop PySem.F.type_dict_pop (bJ (ho γ s σ H _ I h) fun u s1⟨x,H1,I1,rx,a,ex,d,q1⟩=>?_);subst ex;obtain rfl:u=Value.ref a:=rx;obtain⟨t1,t2,_⟩:=O1 I1 d;refine⟨t1,t2,?_⟩;rw[m.trees];refine Calls.callWith_builtin rfl (Calls.evalArgs_plain (Calls.spliced_cons (bJ (he γ s1 σ H1 _ I1 q1) fun iv s2⟨y,H2,I2,ry,kvs,k,v,ea,ey,l,q2⟩=>Calls.spliced_nil ?_)));subst ey;exact acJ I2 ea ry l (.inl rfl) fun w' s3 I3 rw'=>⟨v,_,I3,rw',q2⟩
end
section
variable{X:Cx}{γ:QQz}{σ:St}{H:Hp}{s:Shared}{a:Addr}{kvs:List (Key×V)}{A:Around}{E:QZq}
end
section
variable{X:Cx}{γ:QQz}{σ:St}{H:Hp}{s:Shared}{a:Addr}{y:V}{u:Value}{A:Around}{E:QZq}
end
end L2
namespace Att
open PySem PySem.W PySem.Calls PyProof.Rows
def qH{h:Heap}:∀(ns:List Int)(vs:List Value),WellAll P h vs (ns.map WData.int)->IntsAre vs ns:=by
 intro ns;induction ns with
 |nil=>intro vs w;cases w;exact .nil
 |cons n ns ih=>
  intro vs w;cases w with
  |cons a b=>cases a;exact .cons _ _ (ih _ b)
theorem IW{l:OpenLaw}(hn:l.most=some n){h:Heap}
  (hpre:l.row.toRowW.claim.pre args=true)(hwl:WellAll P h vals args):
  ∃a vs ns,vals=[Value.ref a]/\args=[WData.list (ns.map WData.int)]/\h.get? a=some {cls:=.type "list",data:=.seq vs.toArray}/\IntsAre vs ns/\ns.length<=n:=by
 obtain⟨d,r,rfl,h1,h2⟩:=hasAllW_cons ((pre_splitW hpre).1);obtain rfl:=hasAllW_nil h2;obtain⟨xs,rfl,h3⟩:=hasW_list h1;obtain⟨ns,rfl⟩:=items_int h3;have hlen:ns.length<=n:=by
  have h4:(WTm.not (.lt (.lit (.int n)) (.len (.arg 0)))).holds [] {args:=[.list (ns.map .int)]}=true:=by have h4:=(holds_andW ((pre_splitW hpre).2)).1;rw[hn]at h4;exact h4
  have h5:=condW_of h4 (w_not (w_lt w_lit (w_len_list (w_arg rfl))));refine Nat.le_of_not_lt fun q=>?_;first
   |(rw[QFq q']at h5;exact absurd h5 (by decide))
   |(simp at h5;omega)
 cases hwl with
 |cons w1 w2=>
  cases w2;cases w1 with
  |list ho hall=>exact⟨_,_,ns,rfl,rfl,ho,qH ns _ hall,hlen⟩
def Jr(l:OpenLaw)args:l.row.toRowW.claim.post args (.bool true) args=true:=
 postW_of
  (show WShape.has [] _ .bool=true by first|rfl|decide|simp[WShape.has,WShape.arms,WShape.armsAll])
  (w_eq_bool (w_res rfl) w_lit) rfl
def Bm{l:OpenLaw}{n:Nat}{loose:List Str}{YP:World->Heap->Prop}
  (hn:l.most=some n)(hdf:d.params.defaults=[])
  (call:∀(w:World)(s₀ θ:Shared)(mg mb:QZz)(fa:Addr)(o:Obj)(pm cd doc:Value)(a:Addr)(vs:List Value)(ns:List Int),
   Ground q loose [] XP w s₀ mg mb θ.heap->YP w θ.heap->
   θ.heap.get? fa=some o->o.data=.func (docDef d.name d.params d.body d.scope pm cd doc)->θ.heap.CodeRec cd d.name->mg d.name=some (.ref fa)->
   θ.heap.get? a=some {cls:=.type "list",data:=.seq vs.toArray}->IntsAre vs ns->ns.length<=n->θ.gens= #[]->
   codeAny (model l.prog w) callerA (.call (.ref fa) ⟨[.ref a],[]⟩) (fun r s'=>r=.ok (.ret (.bool true))/\OldK θ.heap s'.heap/\s'.os=θ.os/\AllBare s'.gens) θ):
  WalkO q loose XP YP l.row.toRowW d [] (fun f vs=>PySem.call f vs):=by
 intro w s₀ θ mg mb G Y fa o pm cd doc dV kV ho hd hcd hD hmg hg args vals as hpre hlay hrd hwl hlo;obtain rfl:dV=.none:=Dflts.none hD hdf;obtain rfl:kV=.none:=Dflts.noKw hD;obtain⟨a,vs,ns,rfl,rfl,hobj,hints,hlen⟩:=IW hn hpre hwl;refine enter_call (codeAny_mono (call w s₀ θ mg mb fa o pm cd doc a vs ns G Y ho (fd_plain hd) hcd hmg hobj hints hlen hg) fun r s' hq=>?_);obtain⟨rfl,h2,h3,h4⟩:=hq;exact⟨.inl ⟨.bool true,.bool true,[],rfl,fun _=>rfl,.bool true,Jr l _,fun _=>⟨List.Pairwise.nil,fun _ hm=>(nomatch hm)⟩⟩,h2,h3,h4⟩
section
variable{prog:Program}{w:World}{A:Around}{E:QZq}{s:Shared}{K:Frag}
end
end Att
namespace L2
open PySem PySem.Spec PyProof.Rows
theorem uT:∀{vs:List Value}{ns:List Int},IntsAre vs ns->Vals (ns.map V.int) vs
 |_,_,.nil=>.nil
 |_,_,.cons n t h=>.cons ⟨t,rfl⟩ (uT h)
def Only(H:Hp):Prop:=∀b,H b=none\/∃o xs,H b=some (.frz o (.lst xs))
theorem Ot{w:World}{K:QQq}{CX:K1}{fa a:Addr}{x:Str}{θ:Shared}
  (KX:K.In θ.heap)(hns:θ.heap.Ns mainGlobals mg)(hb:θ.heap.Ns builtinsNs mb)(hbb:∀x:Str,x≠"__name__"->mb x=bootBuiltins x)(hlim:θ.heap.NoLimit)(hg:θ.gens= #[])
  (ha:θ.heap.get? a=some {cls:=.type "list",data:=.seq vs.toArray})(hi:IntsAre vs ns)(hl:ns.length<=sizeLine)(hr:dD k callerA)
  (F:∀base:Heap,K.In base->base.Ns mainGlobals mg->bH P w K mg base CX k fa fd [x] sp)(hbind:∀(s:Shared)(u:Value),BindsTo s fd ⟨[u],[]⟩ [(x,u)])
  (hsp:∀H:Hp,Only H->lC K H a (ns.map V.int)->sp [.ref a] H (fun v _=>v=.bl true) fun _ _ _=>False)
  (hCX:∀H e s',CX [] H θ (fun _ _ _=>False) e s'->False):
  codeAny (model P w) callerA (.call (.ref fa) ⟨[.ref a],[]⟩) (fun r s'=>r=.ok (.ret (.bool true))/\OldK θ.heap s'.heap/\s'.os=θ.os/\AllBare s'.gens) θ:=by
 have rv:=uT hi;have core:∀H:Hp,Only H->lC K H a (ns.map V.int)->mQ P w H θ.heap->(∀b,H b≠none->b=a)->(H a≠none->K.lookup a=none)->
   codeAny (model P w) callerA (.call (.ref fa) ⟨[.ref a],[]⟩) (fun r s'=>r=.ok (.ret (.bool true))/\OldK θ.heap s'.heap/\s'.os=θ.os/\AllBare s'.gens) θ:=by
  intro H hO hS hok hA hK;have oV:∀{b:Addr}{o:Obj},θ.heap.get? b=some o->H b=none->(J5 θ.heap H).get? b=some o:=fun e n=>O7 e n;have noA:∀{b:Addr}{o:Obj}{es:Array DictEntry}{ep:Nat},θ.heap.get? b=some o->o.data=.dict es ep->H b=none:=fun{b o es ep}e d=>by
   cases q:H b with
   |none=>rfl
   |some u=>have e':=hA b (by rw[q];simp);subst e';rw[ha]at e;cases e;cases d
  have nsK:∀{b:Addr}{m:QZz},θ.heap.Ns b m->(J5 θ.heap H).Ns b m:=fun{b m}⟨o,es,ep,e,d,r⟩=>⟨o,es,ep,oV e (noA e d),d,r⟩;have hKb:=fun b o e=>oV (KX b o e) (by
   cases q:H b with
   |none=>rfl
   |some u=>have e':=hA b (by rw[q];simp);subst e';rw[hK (by rw[q];simp)]at e;cases e)
  have hM:Mod K mg _:=⟨hKb,nsK hns,⟨mb,nsK hb,hbb⟩,let ⟨mc,h1,h2⟩:=hlim;⟨mc,nsK h1,h2⟩⟩;refine codeAny_mono ((F _ hKb (nsK hns)).run callerA [] θ H ⟨[.ref a],[]⟩ [.ref a] [.ref a] _ _ hr ⟨rfl,hM,fun b o e=>Tt e,Nat.le_of_eq (J4 _ _),trivial,fun b hb=>absurd (show b∈([])from hb) (by simp),hok,.of_eq hg⟩ (hbind θ _) (.cons rfl .nil) (hsp H hO hS)) fun r s' h=>?_;cases r with
  |error e=>exact(hCX H e s' h).elim
  |ok fl=>
   cases fl with
   |next=>exact False.elim h
   |brk=>exact False.elim h
   |cont=>exact False.elim h
   |ret u=>
    obtain⟨v,H',os,bare,un,hok',r',q⟩:=h;subst q;obtain rfl:u=Value.bool true:=r';refine⟨rfl,OldK.of_keep fun b o e=>?_,os,bare⟩;cases q:H b with
    |none=>exact un.keep b o e q (by intro z;exact absurd (show b∈([])from z) (by simp)) (by simp)
    |some u=>
     rcases hO b with z|⟨ob,xs,z⟩
     ·rw[q]at z;cases z
     ·obtain⟨e1,_⟩:=hok b _ z;obtain⟨e2,_⟩:=hok' b _ (un.frzs b ob _ z);rw[e]at e1;cases e1;exact e2
 cases hk:K.lookup a with
 |some o=>have e:=KX a o hk;rw[ha]at e;cases e;refine core _ (fun _=>.inl rfl) (.inr ⟨_,vs.toArray,_,hk,rfl,rfl,rfl,by rw[Qyq,hi.length];exact hl,by simpa using rv⟩) (fun b u z=>by have z':=z;cases z') (fun b z=>absurd rfl z) fun z=>absurd rfl z
 |none=>
  refine core (fun b=>if b=a then some _ else none) (fun b=>?_) (.inl (.inr ⟨{cls:=.type "list",data:=.seq vs.toArray},if_pos rfl⟩)) (fun b u z=>?_) (fun b z=>?_) fun _=>hk
  ·by_cases hb:b=a
   ·exact .inr ⟨_,_,if_pos hb⟩
   ·exact .inl (if_neg hb)
  ·by_cases hb:b=a
   ·cases ((if_pos hb).symm.trans z);subst hb;exact⟨ha,by rw[QAq];exact hl,vs,_,rv,ha⟩
   ·cases ((if_neg hb).symm.trans z)
  ·by_cases hb:b=a
   ·exact hb
   ·exact absurd (if_neg hb) z
def Q8{l:PySem.W.OpenLaw}{n k:Nat}{loose:List Str}{YP:World->Heap->Prop}{K:Params->QQq}{CX:World->K1}{sp:World->Sp}
  (hn:l.most=some n)(hn2:n<=sizeLine)(hdf:d.params.defaults=[])(hr:dD k callerA)
  (hY:∀(w:World)(h:Heap),YP w h->(K w.params).In h)
  (F:∀(w:World)(mg:QZz)(fa:Addr)(h:Heap),(K w.params).In h->h.Ns mainGlobals mg->mg d.name=some (.ref fa)->
   ∃fd:FuncData,(∀(s:Shared)(u:Value),BindsTo s fd ⟨[u],[]⟩ [(x,u)])/\
    ∀base:Heap,(K w.params).In base->base.Ns mainGlobals mg->bH l.prog w (K w.params) mg base (CX w) k fa fd [x] (sp w))
  (hsp:∀(w:World)(H:Hp)(a:Addr)(ns:List Int),ns.length<=n->Only H->lC (K w.params) H a (ns.map V.int)->sp w [.ref a] H (fun v _=>v=.bl true) fun _ _ _=>False)
  (hCX:∀(w:World)(H:Hp)(s:Shared)(e:Value)(s':Shared),CX w [] H s (fun _ _ _=>False) e s'->False):
  PySem.W.WalkO q loose XP YP l.row.toRowW d [] (fun f vs=>PySem.call f vs):=by
 refine Att.Bm hn hdf fun w s₀ θ mg mb fa o pm cd doc a vs ns G Y ho hd hcd hmg hobj hints hlen hg=>?_;have KX:=hY w _ Y;obtain⟨fd,hb,hF⟩:=F w mg fa _ KX G.T.g hmg;exact Ot KX G.T.g G.T.b G.T.builtins G.T.nolimit hg hobj hints (Nat.le_trans hlen hn2) hr hF hb (fun H hO hS=>hsp w H a ns hlen hO hS) fun H e s'=>hCX w H θ e s'
abbrev dU:K1:=fun _ _ _ _ _ _=>False
abbrev E0:XK:=fun _ _ _=>False
def gH:lD dU X E0:=fun _ _ _ _ _ _ _ h=>h.elim
structure yH(K:QQq)(x qual:Str)(st:Stmt)(f:Addr)(fd:FuncData):Prop where
 ex:∃(oc:Value)(od:Option Addr)(kV doc pm:Value)(an:Option Addr)(cdv ct:Value)(osl:Array (Option Value)),
  fd=PySem.W.fnOf x qual (dg st) (bY st) (aj st) .none kV doc pm an cdv ct/\K.lookup f=some ⟨oc,od,.func fd,osl⟩/\PySem.W.codeIn K cdv qual=true
 kp:PySem.W.keepIn K (.ref f)=true
section
variable{P:Program}{w:World}{K:QQq}{mg:QZz}{base:Heap}
def yH.ok{st:Stmt}{fd:FuncData}{k:Nat}(F:yH K x qual st f fd)(S:cX N ps (aj st))(len:∀vs H Q E,sp vs H Q E->vs.length=ps.length)
  (hbody:∀(cdv:Value)(A:Around)(outer:List Env)(s:Shared)(H:Hp)(vs:List V)(Q:VK)(E:XK),dD k (A.deeper (envOfC qual (aj st) s.heap.objs.size f cdv))->sp vs H Q E->
   ∃t,wF (eE dU P w K mg base N qual (aj st) f cdv A outer s H E).nQ (bY st) t/\t {nx:=fun _ H'=>Q .non H',rt:=Q} (start N vs) H):bH P w K mg base dU (k+1) f fd ps sp:=by
 obtain⟨oc,od,kV,doc,pm,an,cdv,ct,osl,rfl,lk,hcd⟩:=F.ex;refine acF lk hcd S len fun A outer s H vs Q E hr hsp=>?_;obtain⟨t,h,q⟩:=hbody cdv A outer s H vs Q E hr hsp;exact⟨t,h.nQ,q⟩
def yH.binds{st:Stmt}{f:Addr}{ps:List Str}(F:yH K x qual st f fd)
  (h:∀(kV doc pm:Value)(an:Option Addr)(cdv ct:Value)(us:List Value),us.length=ps.length->bindArgs (PySem.W.fnOf x qual (dg st) (bY st) (aj st) .none kV doc pm an cdv ct) ⟨us,[]⟩=pure (ps.zip us)):Binds K fd ps []:=by
 obtain⟨oc,od,kV,doc,pm,an,cdv,ct,osl,rfl,lk,hcd⟩:=F.ex;exact .all (h kV doc pm an cdv ct)
def Ei{st:Stmt}{f:Addr}{od an:Option Addr}{kV doc pm cdv ct:Value}(l:K.lookup f=some ⟨oc,od,.func (PySem.W.fnOf x qual (dg st) (bY st) (aj st) .none kV doc pm an cdv ct),osl⟩)
  (c:PySem.W.codeIn K cdv qual=true)(k:PySem.W.keepIn K (.ref f)=true):yH K x qual st f (PySem.W.fnOf x qual (dg st) (bY st) (aj st) .none kV doc pm an cdv ct):=⟨⟨oc,od,kV,doc,pm,an,cdv,ct,osl,rfl,l,c⟩,k⟩
end
def IK(h:n<=1000):n<sizeLine:=Nat.lt_of_le_of_lt h (by decide)
section
variable{X:Cx}
def pv(i:Nat){x:Str}{pos:Pos}(hN:X.N[i]? =some x:=by rfl)(hv:Fw X.env.scope x:=by first|exact Or.inl rfl|exact Or.inr (Or.inl rfl)|exact Or.inr (Or.inr rfl))(hd:(x==("__debug__":Str))=false:=by decide)
  (hcd:(x==("__classdict__":Str))=false:=by decide):PE X (.Name x pos) (aN i):=cA hN hv hd hcd
end
end L2
end
section
namespace Mini
open PySem L2 PySem.SeqAt
mutual
def cn:PyData->PyData
 |.bool b=>.int (if b then 1 else 0)
 |.tuple xs=>.tuple (cns xs)
 |d=>d
def cns:List PyData->List PyData
 |[]=>[]
 |x::xs=>cn x::cns xs
end
mutual
def hk:PyData->Bool
 |.int _=>true
 |.bool _=>true
 |.str x=>PyData.strOk x
 |.tuple xs=>hks xs
 |_=>false
def hks:List PyData->Bool
 |[]=>true
 |x::xs=>hk x&&hks xs
end
mutual
def dr:PyData->Nat
 |.tuple xs=>Eo xs+1
 |_=>1
def Eo:List PyData->Nat
 |[]=>0
 |x::xs=>dr x+Eo xs
end
mutual
theorem Wd:∀d,dr (cn d)=dr d
 |.tuple xs=>by simp only[cn,dr,Qh xs]
 |.bool _=>rfl
 |.none=>rfl
 |.int _=>rfl
 |.str _=>rfl
 |.list _=>rfl
 |.dict _=>rfl
theorem Qh:∀xs,Eo (cns xs)=Eo xs
 |[]=>rfl
 |x::xs=>by simp only[cns,Eo,Wd x,Qh xs]
end
mutual
theorem yt:∀d:PyData,hk d=true->d.canLay0=true
 |.int _=>fun _=>rfl
 |.bool _=>fun _=>rfl
 |.str x=>fun h=>h
 |.tuple xs=>fun h=>HS xs h
 |.none=>fun h=>by cases h
 |.list _=>fun h=>by cases h
 |.dict _=>fun h=>by cases h
theorem HS:∀xs:List PyData,hks xs=true->PyData.canLayAll0 xs=true
 |[]=>fun _=>rfl
 |x::xs=>fun h=>by simp only[hks,QUq]at h;simp only[PyData.canLayAll0,yt x h.1,HS xs h.2,Bool.and_self]
end
mutual
theorem Ej:∀a b:PyData,hk a=true->hk b=true->PyData.eqv a b=decide (cn a=cn b)
 |.int i,.int j=>fun _ _=>by rw[Bool.eq_iff_iff];simp[PyData.eqv,cn]
 |.int i,.bool b=>fun _ _=>by rw[Bool.eq_iff_iff];cases b<;>simp[PyData.eqv,cn]
 |.bool a,.int j=>fun _ _=>by rw[Bool.eq_iff_iff];cases a<;>simp[PyData.eqv,cn]
 |.bool a,.bool b=>fun _ _=>by cases a<;>cases b<;>simp[PyData.eqv,cn]
 |.str x,.str y=>fun _ _=>by rw[Bool.eq_iff_iff];simp[PyData.eqv,cn]
 |.tuple xs,.tuple ys=>fun h g=>by simp only[PyData.eqv,cn,PyData.tuple.injEq];exact Hq xs ys h g
 |.int _,.str _=>fun _ _=>by simp[PyData.eqv,cn]
 |.int _,.tuple _=>fun _ _=>by simp[PyData.eqv,cn]
 |.bool b,.str _=>fun _ _=>by simp[PyData.eqv,cn]
 |.bool b,.tuple _=>fun _ _=>by simp[PyData.eqv,cn]
 |.str _,.int _=>fun _ _=>by simp[PyData.eqv,cn]
 |.str _,.bool b=>fun _ _=>by simp[PyData.eqv,cn]
 |.str _,.tuple _=>fun _ _=>by simp[PyData.eqv,cn]
 |.tuple _,.int _=>fun _ _=>by simp[PyData.eqv,cn]
 |.tuple _,.bool b=>fun _ _=>by simp[PyData.eqv,cn]
 |.tuple _,.str _=>fun _ _=>by simp[PyData.eqv,cn]
 |.none,_=>fun h _=>by cases h
 |.list _,_=>fun h _=>by cases h
 |.dict _,_=>fun h _=>by cases h
 |.int _,.none=>fun _ h=>by cases h
 |.int _,.list _=>fun _ h=>by cases h
 |.int _,.dict _=>fun _ h=>by cases h
 |.bool _,.none=>fun _ h=>by cases h
 |.bool _,.list _=>fun _ h=>by cases h
 |.bool _,.dict _=>fun _ h=>by cases h
 |.str _,.none=>fun _ h=>by cases h
 |.str _,.list _=>fun _ h=>by cases h
 |.str _,.dict _=>fun _ h=>by cases h
 |.tuple _,.none=>fun _ h=>by cases h
 |.tuple _,.list _=>fun _ h=>by cases h
 |.tuple _,.dict _=>fun _ h=>by cases h
theorem Hq:∀xs ys:List PyData,hks xs=true->hks ys=true->PyData.eqvAll xs ys=decide (cns xs=cns ys)
 |[],[]=>fun _ _=>by simp[PyData.eqvAll,cns]
 |[],_::_=>fun _ _=>by simp[PyData.eqvAll,cns]
 |_::_,[]=>fun _ _=>by simp[PyData.eqvAll,cns]
 |x::xs,y::ys=>fun h g=>by simp only[hks,QUq]at h g;simp only[PyData.eqvAll,cns,List.cons.injEq,Ej x y h.1 g.1,Hq xs ys h.2 g.2];by_cases p:cn x=cn y<;>by_cases q:cns xs=cns ys<;>simp[p,q]
end
theorem ye:∀{xs:List PyData}{x:PyData},x∈xs->x.depth<=PyData.depthAll xs
 |y::ys,x,h=>by
  have e:PyData.depthAll (y::ys)=max y.depth (PyData.depthAll ys):=by simp[PyData.depthAll]
  rcases QCq.mp h with rfl|h
  ·omega
  ·have:=ye h;omega
theorem Eb:∀{xs:List PyData}{x:PyData},hks xs=true->x∈xs->hk x=true
 |y::ys,x,g,h=>by
  simp only[hks,QUq]at g;rcases QCq.mp h with rfl|h
  ·exact g.1
  ·exact Eb g.2 h
mutual
theorem rU{h h':Heap}{a:Addr}{o:Obj}{es:Array DictEntry}{ep:Nat}(ho:h.get? a=some o)(hd:o.data=.dict es ep)(hs:Heap.SameBut a h h'):∀(d:PyData){v:Value}{as:List Addr},hk d=true->Reads h v d as->Reads h' v d as
 |.int _,_,_,_,r=>by cases r;exact .int _ _
 |.bool _,_,_,_,r=>by cases r;exact .bool _
 |.str _,_,_,_,r=>by cases r;exact .str _ _
 |.tuple xs,_,_,g,r=>by
  cases r with
  | @tuple b o' vs n xs as h1 h2 h3 h4=>
   have ne:b≠a:=fun z=>by subst z;rw[ho]at h1;cases h1;rw[hd]at h3;cases h3
   exact .tuple ((hs.2 b ne).trans h1) h2 h3 (qd ho hd hs xs g h4)
 |.none,_,_,g,_=>by cases g
 |.list _,_,_,g,_=>by cases g
 |.dict _,_,_,g,_=>by cases g
theorem qd{h h':Heap}{a:Addr}{o:Obj}{es:Array DictEntry}{ep:Nat}(ho:h.get? a=some o)(hd:o.data=.dict es ep)(hs:Heap.SameBut a h h'):∀(xs:List PyData){vs:List Value}{as:List Addr},hks xs=true->ReadsAll h vs xs as->ReadsAll h' vs xs as
 |[],_,_,_,r=>by cases r;exact .nil
 |x::xs,_,_,g,r=>by
  simp only[hks,QUq]at g;cases r with
  |cons r1 r2=>exact .cons (rU ho hd hs x g.1 r1) (qd ho hd hs xs g.2 r2)
end
section
variable{prog:Program}{w:World}{E:QZq}
def vQ{A:Around}{s:Shared}{b:Bool}{Q:Int->Shared->Prop}(h:Q (hashInt (if b then 1 else 0)) {s with toks:=s.toks+1}):wpAny (model prog w) A (pyHash (.bool b)) Q E s:=by
 refine PySem.W.pyHash_slot (T:="bool") rfl F.slot_bool_hash entry_int_hash (args_int_hash _) (beq_builtin_none _) (.inl rfl) ?_;cases b
 ·exact(show wpAny _ _ (mkInt 0>>=fun x=>ret x) _ _ s from QKq (wpAny_mkInt (QKz ⟨_,_,rfl,h⟩)))
 ·exact(show wpAny _ _ (mkInt 1>>=fun x=>ret x) _ _ s from QKq (wpAny_mkInt (QKz ⟨_,_,rfl,h⟩)))
theorem Hm:∀xs ys:List PyData,hHs w (xs++ys)=hHs w xs++hHs w ys
 |[]=>fun _=>rfl
 |x::xs=>fun ys=>by simp only[QLq,hHs,Hm xs ys]
theorem HJ:∀xs ys:List PyData,cns (xs++ys)=cns xs++cns ys
 |[]=>fun _=>rfl
 |x::xs=>fun ys=>by simp only[QLq,cns,HJ xs ys]
theorem Ht:∀xs ys:List PyData,Eo (xs++ys)=Eo xs+Eo ys
 |[]=>fun _=>by simp[Eo]
 |x::xs=>fun ys=>by simp only[QLq,Eo,Ht xs ys];omega
def Ub:∀(n:Nat)(d:PyData){A:Around}{s:Shared}{v:Value}{as:List Addr}{Q:Int->Shared->Prop},d.depth<=n->hk d=true->Reads s.heap v d as->A.units+d.depth<cLine->Q (hH w (cn d)) {s with toks:=s.toks+dr d}->wpAny (model prog w) A (pyHash v) Q E s:=by
 intro n;induction n with
 |zero=>
  intro d A s v as Q hn g r hu h;cases d with
  |int i=>cases r;exact wpAny_pyHash_int h
  |bool b=>cases r;exact vQ h
  |str x=>cases r;exact wpAny_pyHash_str h
  |tuple xs=>simp[PyData.depth]at hn
  |_=>cases g
 |succ n ih=>
  intro d A s v as Q hn g r hu h;cases d with
  |int i=>cases r;exact wpAny_pyHash_int h
  |bool b=>cases r;exact vQ h
  |str x=>cases r;exact wpAny_pyHash_str h
  |tuple xs=>
   have de:(PyData.tuple xs).depth=PyData.depthAll xs+1:=by simp[PyData.depth,Nat.add_comm]
   cases r with
   | @tuple a o vs m xs as ho hc hd h4=>
    have hu0:A.units<cLine:=by omega
    refine PySem.W.pyHash_slot (T:="tuple") ⟨o,ho,hc⟩ F.slot_tuple_hash F.entry_tuple_hash (F.args_tuple_hash_1 _) (beq_builtin_none _) (.inr hu0) ?_;show wpAny _ A.in1 (Builtin.Tuple.tupleItemsOf (.ref a)>>=_) _ _ s;refine QKq (wpAny_tupleItemsOf (n:=m) ho hd (QKq ?_));rw[<-Array.forIn_toList];refine wpAny_forIn_list _ (fun rest(b:Array Int)s'=>∃done left bs,xs=done++left/\ReadsAll s.heap rest left bs/\b.toList=hHs w (cns done)/\s'={s with toks:=s.toks+Eo done}) _ ?_ ?_ _ _ ⟨[],xs,as,rfl,h4,rfl,rfl⟩
    ·rintro x rest b s' ⟨done,left,bs,rfl,hl,hb,rfl⟩;cases hl with
     | @cons _ _ k ks _ bs' h1 hl'=>
      have mk:k∈done++k::ks:=QVq _ QYz;have dk:=ye mk;have hu1:A.in1.units+k.depth<cLine:=by
       have:A.in1.units<=A.units+1:=by simp[Around.in1]
       omega
      refine QKq (ih k (s:={s with toks:=s.toks+Eo done}) (by omega) (Eb g mk) h1 hu1 ?_);have hb':(b.push (hH w (cn k))).toList=hHs w (cns (done++[k])):=by rw[HJ,Hm,Array.toList_push,hb];rfl
      have ht:(Eo done+dr k)=Eo (done++[k]):=by rw[Ht];simp[Eo]
      first
       |exact QKz ⟨done++[k],ks,bs',by simp,hl',hb',by rw[<-ht];simp[Nat.add_assoc]⟩
       |exact QKq (QKz (QKz ⟨done++[k],ks,bs',by simp,hl',hb',by rw[<-ht];simp[Nat.add_assoc]⟩))
    ·rintro b s' ⟨done,left,bs,rfl,hl,hb,rfl⟩;cases hl;rw[List.append_nil]at h;show wpAny _ A.in1 (retInt (Builtin.Tuple.tupleHashOf b.toList)) _ E _;rw[hb];refine(show wpAny _ A.in1 (mkInt (Builtin.Tuple.tupleHashOf (hHs w (cns done)))>>=fun x=>ret x) _ E _ from QKq (wpAny_mkInt (QKz ⟨_,_,rfl,?_⟩)));simpa[hH,cn,dr,Nat.add_assoc]using h
  |_=>cases g
def gP{A:Around}{s:Shared}{v:Value}(d:Nat)(hv:carriedByValue v=true){R:Bool->Shared->Prop}(r:R true s):wpAny (model prog w) A (eqIsQuiet d v) R E s:=by rw[eqIsQuiet_byValue d hv];exact QKz r
def Jp{A:Around}{s:Shared}{d:Nat}{a:Addr}{o:Obj}{its:Array Value}{n:Nat}{Q:Bool->Shared->Prop}(ho:s.heap.get? a=some o)(hc:o.cls=.type "tuple")(hd:o.data=.seq its n)(hq:∀v∈its.toList,∀R:Bool->Shared->Prop,R true s->wpAny (model prog w) A (eqIsQuiet d v) R E s)(q:Q true s):
  wpAny (model prog w) A (eqIsQuiet (d+1) (.ref a)) Q E s:=by
 have hT:s.TypeIs (.ref a) "tuple":=⟨o,ho,hc⟩;unfold eqIsQuiet;refine QKq (wpAny_specialOf hT F.slot_tuple_eq.lookup (show wpAny _ A (isInstance (.ref a) (.type "tuple")>>=_) _ E s from QKq (wpAny_isInstance hT isSubtype_tuple_tuple ?_)));rw[if_neg (by decide)];refine QKq (wpAny_seqItems (n:=n) ho hd (QKq ?_));show wpAny _ A (forIn its _ _) _ E s;rw[<-Array.forIn_toList];refine wpAny_forIn_list _ (fun rest r s'=>s'=s/\r=(none,())/\∀v∈rest,v∈its.toList) _ (fun v rest r s'=>?_) (fun r s'=>?_) _ _ ⟨rfl,rfl,fun v hv=>hv⟩
 ·rintro ⟨rfl,rfl,hm⟩;exact QKq (hq v (hm v QYz) _ (QKz ⟨rfl,rfl,fun u hu=>hm u (QYq _ hu)⟩))
 ·rintro ⟨rfl,rfl,_⟩;exact QKz q
theorem zy{h:Heap}:∀{xs:List PyData}{vs:List Value}{as:List Addr},ReadsAll h vs xs as->∀v∈vs,∃x∈xs,∃bs,Reads h v x bs
 |[],_,_,r,v,hv=>by cases r;cases hv
 |x::xs,_,_,r,v,hv=>by
  cases r with
  |cons r1 r2=>
   rcases QCq.mp hv with rfl|hv
   ·exact⟨x,QYz,_,r1⟩
   ·obtain⟨y,hy,q⟩:=zy r2 v hv;exact⟨y,QYq _ hy,q⟩
def M4{A:Around}{s:Shared}:∀(n:Nat)(d:PyData){v:Value}{as:List Addr}{Q:Bool->Shared->Prop},d.depth<=n->hk d=true->Reads s.heap v d as->Q true s->wpAny (model prog w) A (eqIsQuiet (n+1) v) Q E s:=by
 intro n;induction n with
 |zero=>
  intro d v as Q hn g r q;cases d with
  |int i=>cases r;exact gP _ rfl q
  |bool b=>cases r;exact gP _ rfl q
  |str x=>cases r;exact gP _ rfl q
  |tuple xs=>simp[PyData.depth]at hn
  |_=>cases g
 |succ n ih=>
  intro d v as Q hn g r q;cases d with
  |int i=>cases r;exact gP _ rfl q
  |bool b=>cases r;exact gP _ rfl q
  |str x=>cases r;exact gP _ rfl q
  |tuple xs=>
   have de:(PyData.tuple xs).depth=PyData.depthAll xs+1:=by simp[PyData.depth,Nat.add_comm]
   cases r with
   | @tuple a o vs m xs as ho hc hd h4=>refine Jp ho hc hd (fun v hv R r=>?_) q;obtain⟨x,hx,bs,rx⟩:=zy h4 v hv;have:=ye hx;exact ih x (by omega) (Eb g hx) rx r
  |_=>cases g
def KY(h:Heap)(k:SK)(a:Addr):Prop:=∃d as,hk d=true/\d.depth<=7/\cn d=k/\Reads h (.ref a) d as
def KY.inj{h:Heap}{a:Addr}{x y:SK}(g:KY h x a)(f:KY h y a):x=y:=by obtain⟨d,as,h1,_,rfl,r⟩:=g;obtain⟨e,bs,_,_,rfl,r'⟩:=f;rw[SeqAt.Reads.unique d e _ as bs (yt d h1) r r']
noncomputable def eY(prog:Program)(w:World):HeapKind prog w SK where
 is:=KY
 hash:=hH w
 draws:=dr
 room:=fun A=>A.units+8<cLine
 inj:=fun g f=>g.inj f
 keeps:=fun x ho hd hs=>let ⟨d,as,h1,h2,h3,r⟩:=x;⟨d,as,h1,h2,h3,rU ho hd hs d h1 r⟩
 pyHash:=fun hu x q=>by obtain⟨d,as,h1,h2,rfl,r⟩:=x;rw[Wd]at q;exact Ub 7 d h2 h1 r (by omega) q
 eqBool:=fun hu g f q=>by obtain⟨d,as,h1,h2,rfl,r⟩:=g;obtain⟨e,bs,h3,h4,rfl,r'⟩:=f;rw[<-Ej d e h1 h3]at q;exact SeqAt.eqAt_reads d e _ _ _ _ as bs r r' (yt d h1) (yt e h3) (by have:min d.depth e.depth<=d.depth:=Nat.min_le_left _ _;omega) _ _ _ _ q
 quiet:=fun x q=>by obtain⟨d,as,h1,h2,_,r⟩:=x;exact M4 7 d h2 h1 r q
end
end Mini
end
section
namespace Mini
open PySem L2
def pZ(h:Heap)(d:Addr)(es:Array DictEntry)(ep:Nat):Prop:=∃o,h.get? d=some o/\o.ExactDict/\o.data=.dict es ep
section
def wB(y:(d==sysModules)=false)(B:pZ s.heap d es ep)
  (q:Q (.ref s.heap.objs.size) {s with heap:=s.heap.push {cls:=.type "dict_keyiterator",data:=.fields #[.ref d,.int 0 0,.int es.size 0,.int ep 0]}}):wpAny (model prog w) A (pyIter (.ref d)) Q E s:=by
 obtain⟨o,h1,h2,h3⟩:=B;have t:s.TypeIs (.ref d) "dict":=⟨o,h1,h2.1⟩;refine wpAny_pyIter_slot t F.slot_dict_iter (Qzz F.slot_dict_iter t F.entry_dict_iter ?_ (F.args_dict_iter_1 _));refine QKq (QKq (wpAny_notOrdered_dict t (QKz ?_)));show wpAny _ _ (Builtin.Dict.showsAll d>>=_) _ _ s;unfold Builtin.Dict.showsAll;rw[if_neg (by rw[y];decide)];refine QKq (QKz (QKq (wpAny_dictEntries h1 h3 (QKq (wpAny_dictEpoch h1 h3 ?_)))));refine QKq (Qjq (QKz ⟨_,rfl,"dict_keyiterator",_,⟨_,Qzq _ rfl,rfl⟩,F.slot_dict_keyiterator_next.lookup,q⟩))
def wC{Q:Option Value->Shared->Prop}(st:s.heap.IsKeyIter it d i es.size ep)(B:pZ s.heap d es ep)(x:es[i]? =some e)
  (q:∀h',h'.IsKeyIter it d (i+1) es.size ep->Heap.SameBut it s.heap h'->Q (some e.key) {s with heap:=h'}):wpAny (model prog w) A (pyNext (.ref it)) Q E s:=by
 obtain⟨o,g1,g2,g3⟩:=id st;obtain⟨od,h1,h2,h3⟩:=B;refine QKq (wpAny_attempt (wpAny_callSpecial?_slot st.typeIs F.slot_dict_keyiterator_next (Qzz F.slot_dict_keyiterator_next st.typeIs F.entry_dict_keyiterator_next ?_ (F.args_dict_keyiterator_next_1 _))));refine QKq (QKz (QKq (QKq ?_)));first|refine QKq (wpAny_typeNameOfWhole_keyiter st.typeIs (QKz ?_))|refine QKq _
 refine QKq (wpAny_fieldsOf g1 g3 ?_);refine QKq (QKz (QKq (wpAny_dictEntries h1 h3 ?_)));rw[if_neg (by simp)];refine QKq (QKz (QKq (wpAny_dictEpoch h1 h3 ?_)));rw[if_neg (by simp)];refine QKz ?_;simp only[show¬(i<0) by omega,if_false,Int.toNat_natCast,x];refine QKq ?_;first|refine QKq (wpAny_typeNameOfWhole_keyiter st.typeIs (QKz ?_))|refine QKq _
 refine QKq (wpAny_isOneOf_keyiter st.typeIs ?_);show wpAny _ _ (setField _ 1 (rawInt (i+1))>>=_) _ _ s;refine QKq (wpAny_setField g1 g3 (by simp) ?_);have st':(s.heap.update it (Obj.mapFields (·.setIfInBounds 1 (rawInt (i+1))))).IsKeyIter it d (i+1) es.size ep:=⟨_,Heap.get?_update_self _ g1 (Obj.isFreed_of_fields (Obj.data_mapFields g3 _)),(Obj.cls_mapFields ..).trans g2,by rw[Obj.data_mapFields g3];simp[rawInt]⟩;exact QKq (Qqq (QKq (wpAny_isOneOf_keyiter (s:={s with heap:=s.heap.update it (Obj.mapFields (·.setIfInBounds 1 (rawInt (i+1))))}) st'.typeIs (QKz (QKz ⟨_,rfl,QKz (q _ st' (Heap.SameBut.update ..))⟩)))))
def Bk(hh:A.handled=none)(st:s.heap.IsKeyIter it d i es.size ep)(B:pZ s.heap d es ep)(x:es.size<=i)
  (q:∀h',Heap.ExtBut it s.heap h'->Q none {s with heap:=h'}):wpAny (model prog w) A (pyNext (.ref it)) Q E s:=by
 obtain⟨o,g1,g2,g3⟩:=id st;obtain⟨od,h1,h2,h3⟩:=B;refine QKq (wpAny_attempt (wpAny_callSpecial?_slot st.typeIs F.slot_dict_keyiterator_next (Qzz F.slot_dict_keyiterator_next st.typeIs F.entry_dict_keyiterator_next ?_ (F.args_dict_keyiterator_next_1 _))));refine QKq (QKz (QKq (QKq ?_)));first|refine QKq (wpAny_typeNameOfWhole_keyiter st.typeIs (QKz ?_))|refine QKq _
 refine QKq (wpAny_fieldsOf g1 g3 ?_);refine QKq (QKz (QKq (wpAny_dictEntries h1 h3 ?_)));rw[if_neg (by simp)];refine QKq (QKz (QKq (wpAny_dictEpoch h1 h3 ?_)));rw[if_neg (by simp)];refine QKz ?_;simp only[show¬(i<0) by omega,if_false,Int.toNat_natCast,Array.getElem?_eq_none x];refine QKq ?_;first|refine QKq (wpAny_typeNameOfWhole_keyiter st.typeIs (QKz ?_))|refine QKq _
 show wpAny _ _ (setField _ 0 .none>>=_) _ _ s;refine QKq (wpAny_setField g1 g3 (by simp) ?_);show wpAny _ _ _ _ _ _;refine QKq ?_;refine QKq (Qjq (QKq (wpAny_of_eq (by first|rfl|(simp only[firstArgMember];rfl)) ?_)) (by size_fits));refine Qjq ?_ (by size_fits);simp only[raiseNew];refine QKq (wpAny_handled ?_);rw[show A.in1.handled=none from hh];refine QKq (QKz (wpAny_throw ?_));refine QKq (wpAny_isInstance ⟨_,Qzq _ rfl,rfl⟩ isSubtype_stop ?_);exact QKz (q _ (((Heap.SameBut.update ..).extBut.push _).push _))
end
section
variable{s:Shared}
def pZ.stay(B:pZ h d es ep)(k:∀o,h.get? d=some o->h'.get? d=some o):pZ h' d es ep:=let ⟨o,e,r⟩:=B;⟨o,k _ e,r⟩
def pZ.lt(B:pZ h d es ep):d<h.objs.size:=let ⟨_,e,_⟩:=B;Qqz e
def pZ.type(B:pZ s.heap d es ep):s.TypeIs (.ref d) "dict":=let ⟨o,e,c,_⟩:=B;⟨o,e,c.1⟩
theorem Fj(hh:A.handled=none)(ne:d≠it):Walks prog w A it [it,d] [it] es.size (fun i v=>∃e,es[i]? =some e/\v=e.key) (fun i h=>h.IsKeyIter it d i es.size ep/\pZ h d es ep) where
 sub:=fun b hb=>QCq.mpr (.inl (QDz.mp hb))
 frame:=fun _ _ _ st k=>⟨st.1.at fun o e=>k it QYz o e,st.2.stay fun o e=>k d (QYq _ QYz) o e⟩
 item:=fun i s Q E hi st q=>wC st.1 st.2 (Array.getElem?_eq_getElem hi) fun h' st' sb=>q _ h' s.toks ⟨es[i],Array.getElem?_eq_getElem hi,rfl⟩ ⟨st',st.2.stay fun o e=>(sb.2 d ne).trans e⟩ fun b o hb e=>(sb.2 b fun z=>hb (QDz.mpr z)).trans e
 done:=fun s Q E st q=>Bk hh st.1 st.2 (QVz _) fun h' eb=>q h' s.toks fun b o hb e=>eb b o (fun z=>hb (QDz.mpr z)) e
 self:=fun _ _ _ _ st q=>wpAny_pyIter_keyiter st.1 q
theorem Bj(y:(d==sysModules)=false):PySem.W.KdlSrc prog w "dict" d d es.size (fun i v=>∃e,es[i]? =some e/\v=e.key) (fun h=>pZ h d es ep) where
 type:=fun _ B=>B.type
 there:=fun _ B=>⟨B.lt,B.lt⟩
 keep:=fun _ _ B k=>B.stay fun o e=>k d (.inl rfl) o e
 notList:=by decide
 notTuple:=by decide
 hint:=fun _ _ _ _ B q=>PySem.W.kdl_hint_dict B.type q
 iter:=fun _ _ hh B=>⟨_,_,(fun _ _ q=>wB y B q),Fj hh (Qvz B.lt),⟨⟨_,Qzq _ rfl,rfl,rfl⟩,B.stay fun o e=>QWq _ e⟩⟩
end
end Mini
end
section
namespace Mini
open PySem L2 PyProof.Rows
def uF(b:Bool)(h:Heap)(it l:Addr)(k:Nat):Prop:=match b with|true=>h.IsListIter it l k|false=>h.IsTupleIter it l k
def yF(b:Bool)(h:Heap)(l:Addr)(xs:Array Value):Prop:=match b with|true=>h.IsList l xs|false=>h.IsTuple l xs
def uF.at{h h':Heap}{k:Nat}(x:uF b h it l k)(e:∀o,h.get? it=some o->h'.get? it=some o):uF b h' it l k:=by cases b<;>exact Exists.elim x fun o⟨h1,h2⟩=>⟨o,e o h1,h2⟩
def yF.at{h h':Heap}{xs:Array Value}(x:yF b h l xs)(e:∀o,h.get? l=some o->h'.get? l=some o):yF b h' l xs:=by cases b<;>exact Exists.elim x fun o⟨h1,h2⟩=>⟨o,e o h1,h2⟩
def uF.obj{h:Heap}{k:Nat}(x:uF b h it l k):∃o,h.get? it=some o/\∀v,o.data≠ .cell v:=by cases b<;>exact Exists.elim x fun o⟨h1,_,h2⟩=>⟨o,h1,fun v z=>by rw[h2]at z;cases z⟩
def uF.lt{h:Heap}{k:Nat}(x:uF b h it l k):it<h.objs.size:=let ⟨_,e,_⟩:=x.obj;Qqz e
section
def oh{i:Nat}{items}{Q:QZq}(hit:s.heap.IsTupleIter it l i)
  (hl:s.heap.IsTuple l items)(hx:items[i]? =some x)
  (hQ:∀h',h'.IsTupleIter it l (i+1)->Heap.SameBut it s.heap h'->Q x {s with heap:=h'}):
  wpAny (model prog w) A (Builtin.SmallTypes.nextOf (.ref it)) Q E s:=by
 obtain⟨o,ho,hc,hd⟩:=id hit;obtain⟨ol,hol,_,nl,hdl⟩:=hl;refine QKq (wpAny_callSpecial?_slot hit.typeIs PySem.F.slot_tuple_iterator_next
  (Qzz PySem.F.slot_tuple_iterator_next hit.typeIs PySem.F.entry_tuple_iterator_next ?_ (PySem.F.args_tuple_iterator_next_1 _)))
 show wpAny _ _ (field _ 0>>=_) _ _ s;refine QKq (QGz ho hd rfl ?_);refine QKq (QGz ho hd rfl ?_);refine QKq (wpAny_seqItems hol hdl ?_);simp only[Int.toNat_natCast,hx];refine QKq (wpAny_setField ho hd (by simp) (QKz ⟨x,rfl,QKz (hQ _ ?_ (Heap.SameBut.update ..))⟩));exact⟨_,Heap.get?_update_self _ ho (Obj.isFreed_of_fields (Obj.data_mapFields hd _)),(Obj.cls_mapFields ..).trans hc,by rw[Obj.data_mapFields hd];simp[rawInt]⟩
def pC{i:Nat}{items}(hh:A.handled=none)
  (hit:s.heap.IsTupleIter it l i)(hl:s.heap.IsTuple l items)(hx:items[i]? =none)
  (hE:∀h' e,Heap.ExtBut it s.heap h'->(∃o,h'.get? e=some o/\o.cls=.type "StopIteration")->E (.ref e) {s with heap:=h'}):
  wpAny (model prog w) A (Builtin.SmallTypes.nextOf (.ref it)) Q E s:=by
 obtain⟨o,ho,hc,hd⟩:=id hit;obtain⟨ol,hol,_,nl,hdl⟩:=hl;refine QKq (wpAny_callSpecial?_slot hit.typeIs PySem.F.slot_tuple_iterator_next
  (Qzz PySem.F.slot_tuple_iterator_next hit.typeIs PySem.F.entry_tuple_iterator_next ?_ (PySem.F.args_tuple_iterator_next_1 _)))
 show wpAny _ _ (field _ 0>>=_) _ _ s;refine QKq (QGz ho hd rfl ?_);refine QKq (QGz ho hd rfl ?_);refine QKq (wpAny_seqItems hol hdl ?_);simp only[Int.toNat_natCast,hx];refine QKq (wpAny_rule (QKq (wpAny_setField ho hd (by simp) ?_)));refine QKq ?_;refine QKq (Qjq ?_ (by size_fits));refine QKq (wpAny_of_eq (by first|rfl|(simp only[firstArgMember];rfl)) ?_);refine Qjq ?_ (by size_fits);refine QKq (wpAny_handled ?_);first|rw[show A.in1.handled=none from hh]|rw[hh]
 refine QKq (QKz (wpAny_throw (hE _ _ (((Heap.SameBut.update ..).extBut.push _).push _) ⟨_,Qzq _ rfl,rfl⟩)))
theorem fM{it l:Addr}{items}{Q:QZq}(hit:uF b s.heap it l i)
  (hl:yF b s.heap l items)(hx:items[i]? =some x)(hQ:∀h',uF b h' it l (i+1)->Heap.SameBut it s.heap h'->Q x {s with heap:=h'}):
  wpAny (model prog w) A (Builtin.SmallTypes.nextOf (.ref it)) Q E s:=by
 cases b with
 |true=>exact wpAny_nextOf_list_item hit hl hx hQ
 |false=>exact oh hit hl hx hQ
theorem lM{it l:Addr}{items}(hh:A.handled=none)
  (hit:uF b s.heap it l i)(hl:yF b s.heap l items)(hx:items[i]? =none)
  (hE:∀h' e,Heap.ExtBut it s.heap h'->(∃o,h'.get? e=some o/\o.cls=.type "StopIteration")->E (.ref e) {s with heap:=h'}):
  wpAny (model prog w) A (Builtin.SmallTypes.nextOf (.ref it)) Q E s:=by
 cases b with
 |true=>exact wpAny_nextOf_list_end hh hit hl hx hE
 |false=>exact pC hh hit hl hx hE
end
def jL(h:Heap)(z TI TO:Addr)(f0 f1:Value):Prop:=
 h.get? z=some {cls:=.type "zip",dict:=none,data:=.fields #[f0,f1,.bool false,.ref TI,.ref TO],slots:= #[]}
def F0(f0:Value):Prop:=f0=.none\/∃T:Nat,f0=rawInt T
section
def nR{a:Addr}(h:Q (s.heap.get? a) s):wpAny M A (loadIfAlive a) Q E s:=fun Γ p hΓ=>by show Sem.wp M Γ _ _ _ p s;exact(QKz (M:=M) (E:=E) h) Γ p hΓ
theorem yI{z TI TO:Addr}{f0 f1:Value}(hz:jL s.heap z TI TO f0 f1)(h0:F0 f0)(hQ1:Q true s)
  (hQ2:∀h' g1,jL h' z TI TO f0 g1->Heap.SameBut z s.heap h'->Q false {s with heap:=h'}):wpAny (model prog w) A (Builtin.SmallTypes.ownedTupleIsFree (.ref z)) Q E s:=by
 rcases h0 with rfl|⟨T,rfl⟩
 ·exact QKq (QGz hz rfl rfl (QKz hQ1))
 ·refine QKq (QGz hz rfl rfl ?_);refine QKq (nR ?_);cases hT:s.heap.get? _ with
  |none=>exact QKz hQ1
  |some o=>
   refine QKq (QGz hz rfl (x:=f1) rfl ?_);by_cases hf:(f1 != .bool true)=true
   ·rw[if_pos hf];refine QKq (wpAny_setField_rec hz (by simp) fun h' hz' hs'=>QKz (hQ2 h' _ hz' hs'))
   ·rw[if_neg hf];exact QKz (hQ2 s.heap f1 hz (Heap.SameBut.refl ..))
structure QQ(z TI TO i1 i2:Addr)(b1 b2:Bool)(l1 l2:Addr)(k1 k2:Nat)(T:Addr)(x y:Value)(h h':Heap):Prop where
 zr:∃f0 f1,jL h' z TI TO f0 f1/\F0 f0
 ti:IsPair h' TI (.ref i1) (.ref i2)
 to:∃a b,IsPair h' TO a b
 it1:uF b1 h' i1 l1 k1
 it2:uF b2 h' i2 l2 k2
 new:IsPair h' T x y
 size:h'.objs.size=T+1
 keep:∀c o,c≠z->c≠TO->c≠i1->c≠i2->h.get? c=some o->h'.get? c=some o
def Ij{z TI TO i1 i2 l1 l2:Addr}{k1 k2:Nat}{xs ys:Array Value}{Q:QZq}(D:ZipApart z TI TO i1 i2 l1 l2)
  (hz:jL s.heap z TI TO f0 f1)(h0:F0 f0)(hTI:IsPair s.heap TI (.ref i1) (.ref i2))(hTO:IsPair s.heap TO a b)
  (h1:uF b1 s.heap i1 l1 k1)(h2:uF b2 s.heap i2 l2 k2)(hl1:yF b1 s.heap l1 xs)(hl2:yF b2 s.heap l2 ys)(hx:xs[k1]? =some x)(hy:ys[k2]? =some y)
  (hQ:∀h',QQ z TI TO i1 i2 b1 b2 l1 l2 (k1+1) (k2+1) s.heap.objs.size x y s.heap h'->Q (.ref s.heap.objs.size) {s with heap:=h'}):
  wpAny (model prog w) A (Builtin.«zip.__next__» ⟨[.ref z],[]⟩) (fun fin s'=>∃v,fin=.done (.ret v)/\Q v s') E s:=by
 show wpAny _ _ (field (.ref z) 2>>=_) _ _ _;refine QKq (QGz hz rfl rfl ?_);refine QKq (QGz hz rfl rfl ?_);refine QKq (wpAny_seqItems hTI rfl ?_);refine QKq (yI hz h0 ?_ ?_)
 ·refine QKq (wpAny_rule ?_);refine QKq (QGz hz rfl rfl ?_);refine QKq (wpAny_setField_rec hz (by simp) fun Δ Ξ μ=>?_);replace Ξ:jL Δ z TI TO .ellipsis f1:=Ξ;refine QKq ?_;refine QKq (QKq (wpAny_onRaise ?_));refine QKq (fM (h1.at fun o e=>μ.extBut _ _ D.i1z e) (hl1.at fun o e=>μ.extBut _ _ D.l1z e) hx fun h₂ h1₂ ν=>QKz ?_);have hTO₂:=ν.extBut _ _ D.TOi1 (μ.extBut _ _ D.TOz hTO);refine QKq (wpAny_seqItems hTO₂ rfl ?_);refine QKq (wpAny_updateSeq_pair hTO₂ fun h₃ hTO₃ χ=>?_);replace hTO₃:IsPair h₃ TO x b:=hTO₃;refine QKq (wpAny_letGo (QKz ?_));refine QKq (QKq (wpAny_onRaise ?_));refine QKq (fM (h2.at fun o e=>χ.extBut _ _ D.TOi2.symm (ν.extBut _ _ D.i12.symm (μ.extBut _ _ D.i2z e)))
   (hl2.at fun o e=>χ.extBut _ _ D.l2TO (ν.extBut _ _ D.l2i1 (μ.extBut _ _ D.l2z e))) hy fun h₄ h2₄ ρ=>QKz ?_)
  have hTO₄:=ρ.extBut _ _ D.TOi2 hTO₃;refine QKq (wpAny_seqItems hTO₄ rfl ?_);refine QKq (wpAny_updateSeq_pair hTO₄ fun h₅ hTO₅ hs₅=>?_);replace hTO₅:IsPair h₅ TO x y:=hTO₅;refine QKq (wpAny_letGo (QKz (QKz ?_)));refine QKq (wpAny_seqItems hTO₅ rfl ?_);refine QKq (wpAny_newTuple ?_);have hsz:h₅.objs.size=s.heap.objs.size:=by rw[hs₅.1,ρ.1,χ.1,ν.1,μ.1]
  have hz₅:=hs₅.extBut _ _ D.TOz.symm (ρ.extBut _ _ D.i2z.symm (χ.extBut _ _ D.TOz.symm (ν.extBut _ _ D.i1z.symm Ξ)));have hk₅:∀c o,c≠z->c≠TO->c≠i1->c≠i2->s.heap.get? c=some o->h₅.get? c=some o:=fun c o c1 c2 c3 c4 e=>hs₅.extBut _ _ c2 (ρ.extBut _ _ c4 (χ.extBut _ _ c2 (ν.extBut _ _ c3 (μ.extBut _ _ c1 e))))
  have hzlt:=Qqz hz₅;refine QKq ?_;refine QKq (wpAny_setField_rec (QWq _ hz₅) (by simp) fun h₇ hz₇ hs₇=>?_);replace hz₇:jL h₇ z TI TO (rawInt h₅.objs.size) f1:=hz₇;refine wpAny_setField_rec hz₇ (by simp) fun h₈ hz₈ hs₈=>?_;replace hz₈:jL h₈ z TI TO (rawInt h₅.objs.size) (.bool false):=hz₈;have up:∀c o,c≠z->h₅.get? c=some o->h₈.get? c=some o:=fun c o c1 e=>hs₈.extBut _ _ c1 (hs₇.extBut _ _ c1 (QWq _ e));have hT₈:=hs₈.extBut _ _ (Nat.ne_of_gt hzlt) (hs₇.extBut _ _ (Nat.ne_of_gt hzlt) (Qzq _ rfl));have hz8:h₈.objs.size=h₅.objs.size+1:=by rw[hs₈.1,hs₇.1,Heap.size_push]
  rw[hsz]at hz₈ hT₈ hz8;refine QKz ⟨_,rfl,?_⟩;rw[hsz];exact hQ h₈ ⟨⟨_,_,hz₈,.inr ⟨_,rfl⟩⟩,up _ _ D.TIz (hk₅ _ _ D.TIz D.TITO D.TIi1 D.TIi2 hTI),⟨_,_,up _ _ D.TOz hTO₅⟩,(h1₂.at fun o e=>hs₅.extBut _ _ D.TOi1.symm (ρ.extBut _ _ D.i12 (χ.extBut _ _ D.TOi1.symm e))).at fun o e=>up _ o D.i1z e,(h2₄.at fun o e=>hs₅.extBut _ _ D.TOi2.symm e).at fun o e=>up _ o D.i2z e,hT₈,hz8,fun c o c1 c2 c3 c4 e=>up c o c1 (hk₅ c o c1 c2 c3 c4 e)⟩
 ·intro Δ g1 Ξ μ;refine QKq ?_;refine QKq (QKq (Qqq ?_));refine QKq (fM (h1.at fun o e=>μ.extBut _ _ D.i1z e) (hl1.at fun o e=>μ.extBut _ _ D.l1z e) hx fun h₂ h1₂ ν=>QKz ?_);refine QKz ?_;refine QKq (QKq (Qqq ?_));refine QKq (fM (h2.at fun o e=>ν.extBut _ _ D.i12.symm (μ.extBut _ _ D.i2z e))
   (hl2.at fun o e=>ν.extBut _ _ D.l2i1 (μ.extBut _ _ D.l2z e)) hy fun h₄ h2₄ ρ=>QKz ?_)
  refine QKz (QKz ?_);have hsz:h₄.objs.size=s.heap.objs.size:=by rw[ρ.1,ν.1,μ.1]
  have hk:∀c o,c≠z->c≠i1->c≠i2->s.heap.get? c=some o->h₄.get? c=some o:=fun c o c1 c3 c4 e=>ρ.extBut _ _ c4 (ν.extBut _ _ c3 (μ.extBut _ _ c1 e));refine QKq (wpAny_newTuple (QKz ⟨_,rfl,?_⟩) (by show 2<=sizeLine;rw[sizeLine_eq];decide));have T:QQ z TI TO i1 i2 b1 b2 l1 l2 (k1+1) (k2+1) s.heap.objs.size x y s.heap (h₄.push {cls:=.type "tuple",data:=.seq #[x,y]}):=by
   refine⟨⟨f0,g1,QWq _ (ρ.extBut _ _ D.i2z.symm (ν.extBut _ _ D.i1z.symm Ξ)),h0⟩,QWq _ (hk _ _ D.TIz D.TIi1 D.TIi2 hTI),⟨a,b,QWq _ (hk _ _ D.TOz D.TOi1 D.TOi2 hTO)⟩,
    h1₂.at fun o e=>QWq _ (ρ.extBut _ _ D.i12 e),h2₄.at fun o e=>QWq _ e,?_,by rw[Heap.size_push,hsz],fun c o c1 c2 c3 c4 e=>QWq _ (hk c o c1 c3 c4 e)⟩
   rw[<-hsz];exact Qzq _ rfl
  rw[hsz];exact hQ _ T
theorem K5{z TI TO i1 i2 l1 l2:Addr}{k1 k2:Nat}{a b f0 f1:Value}(hh:A.handled=none)(D:ZipApart z TI TO i1 i2 l1 l2)
  (hz:jL s.heap z TI TO f0 f1)(h0:F0 f0)(hTI:IsPair s.heap TI (.ref i1) (.ref i2))(hTO:IsPair s.heap TO a b)
  (h1:uF b1 s.heap i1 l1 k1)(h2:uF b2 s.heap i2 l2 k2)(hl1:yF b1 s.heap l1 xs)(hl2:yF b2 s.heap l2 ys)(hend:xs[k1]? =none\/ys[k2]? =none)
  (hE:∀h' e,(∀c o,c≠z->c≠TO->c≠i1->c≠i2->s.heap.get? c=some o->h'.get? c=some o)->(∃o,h'.get? e=some o/\o.cls=.type "StopIteration")->E (.ref e) {s with heap:=h'}):
  wpAny (model prog w) A (Builtin.«zip.__next__» ⟨[.ref z],[]⟩) Q E s:=by
 show wpAny _ _ (field _ 2>>=_) _ _ _;refine QKq (QGz hz rfl rfl ?_);refine QKq (QGz hz rfl rfl ?_);refine QKq (wpAny_seqItems hTI rfl ?_);refine QKq (yI hz h0 ?_ ?_)
 ·simp only[if_true];refine QKq (wpAny_rule ?_);refine QKq (QGz hz rfl rfl ?_);refine QKq (wpAny_setField_rec hz (by simp) fun Δ Ξ μ=>?_);replace Ξ:jL Δ z TI TO .ellipsis f1:=Ξ;refine QKq ?_;refine QKq (QKq (wpAny_onRaise ?_));cases hx:xs[k1]? with
  |none=>refine QKq (lM hh (h1.at fun o e=>μ.extBut _ _ D.i1z e) (hl1.at fun o e=>μ.extBut _ _ D.l1z e) hx fun h₂ e ν he=>?_);obtain⟨oe,hoe,hce⟩:=he;have hz₂:jL h₂ z TI TO .ellipsis f1:=ν _ _ D.i1z.symm Ξ;refine wpAny_setField_rec hz₂ (by simp) fun h₃ _ χ=>hE h₃ e (fun c o c1 _ c3 _ x=>χ.extBut _ _ c1 (ν _ _ c3 (μ.extBut _ _ c1 x))) ⟨oe,χ.extBut _ _ (fun x=>by subst x;unfold jL at hz₂;rw[hz₂]at hoe;cases hoe;simp at hce) hoe,hce⟩
  |some x=>
   have hy:ys[k2]? =none:=by
    rcases hend with h|h
    ·rw[hx]at h;cases h
    ·exact h
   refine QKq (fM (h1.at fun o e=>μ.extBut _ _ D.i1z e) (hl1.at fun o e=>μ.extBut _ _ D.l1z e) hx fun h₂ h1₂ ν=>QKz ?_);have hTO₂:=ν.extBut _ _ D.TOi1 (μ.extBut _ _ D.TOz hTO);refine QKq (wpAny_seqItems hTO₂ rfl ?_);refine QKq (wpAny_updateSeq_pair hTO₂ fun h₃ hTO₃ χ=>?_);refine QKq (wpAny_letGo (QKz ?_));refine QKq (QKq (wpAny_onRaise ?_));refine QKq (lM hh (h2.at fun o e=>χ.extBut _ _ D.TOi2.symm (ν.extBut _ _ D.i12.symm (μ.extBut _ _ D.i2z e)))
    (hl2.at fun o e=>χ.extBut _ _ D.l2TO (ν.extBut _ _ D.l2i1 (μ.extBut _ _ D.l2z e))) hy fun h₄ e ρ he=>?_)
   obtain⟨oe,hoe,hce⟩:=he;have hz₄:jL h₄ z TI TO .ellipsis f1:=ρ _ _ D.i2z.symm (χ.extBut _ _ D.TOz.symm (ν.extBut _ _ D.i1z.symm Ξ));refine wpAny_setField_rec hz₄ (by simp) fun h₅ _ hs₅=>hE h₅ e (fun c o c1 c2 c3 c4 x=>hs₅.extBut _ _ c1 (ρ _ _ c4 (χ.extBut _ _ c2 (ν.extBut _ _ c3 (μ.extBut _ _ c1 x))))) ⟨oe,hs₅.extBut _ _ (fun x=>by subst x;unfold jL at hz₄;rw[hz₄]at hoe;cases hoe;simp at hce) hoe,hce⟩
 ·intro Δ g1 Ξ μ;refine QKq ?_;refine QKq (QKq (Qqq ?_));cases hx:xs[k1]? with
  |none=>exact QKq (lM hh (h1.at fun o e=>μ.extBut _ _ D.i1z e) (hl1.at fun o e=>μ.extBut _ _ D.l1z e) hx fun h₂ e ν he=>hE h₂ e (fun c o c1 _ c3 _ x=>ν _ _ c3 (μ.extBut _ _ c1 x)) he)
  |some x=>
   have hy:ys[k2]? =none:=by
    rcases hend with h|h
    ·rw[hx]at h;cases h
    ·exact h
   refine QKq (fM (h1.at fun o e=>μ.extBut _ _ D.i1z e) (hl1.at fun o e=>μ.extBut _ _ D.l1z e) hx fun h₂ h1₂ ν=>QKz ?_);refine QKz ?_;refine QKq (QKq (Qqq ?_));exact QKq (lM hh (h2.at fun o e=>ν.extBut _ _ D.i12.symm (μ.extBut _ _ D.i2z e))
    (hl2.at fun o e=>ν.extBut _ _ D.l2i1 (μ.extBut _ _ D.l2z e)) hy fun h₄ e ρ he=>hE h₄ e (fun c o c1 _ c3 c4 x=>ρ _ _ c4 (ν.extBut _ _ c3 (μ.extBut _ _ c1 x))) he)
def qD{z TI TO i1 i2 l1 l2:Addr}{k1 k2:Nat}{x y a b f0 f1:Value}(D:ZipApart z TI TO i1 i2 l1 l2)
  (hz:jL s.heap z TI TO f0 f1)(h0:F0 f0)(hTI:IsPair s.heap TI (.ref i1) (.ref i2))(hTO:IsPair s.heap TO a b)
  (h1:uF b1 s.heap i1 l1 k1)(h2:uF b2 s.heap i2 l2 k2)(hl1:yF b1 s.heap l1 xs)(hl2:yF b2 s.heap l2 ys)(hx:xs[k1]? =some x)(hy:ys[k2]? =some y)
  (hQ:∀h',QQ z TI TO i1 i2 b1 b2 l1 l2 (k1+1) (k2+1) s.heap.objs.size x y s.heap h'->Q (some (.ref s.heap.objs.size)) {s with heap:=h'}):
  wpAny (model prog w) A (pyNext (.ref z)) Q E s:=by
 have hT:s.TypeIs (.ref z) "zip":=⟨_,hz,rfl⟩;exact QKq (wpAny_attempt (wpAny_callSpecial?_slot hT PySem.F.slot_zip_next
  (Qzz PySem.F.slot_zip_next hT PySem.F.entry_zip_next
   (Ij D hz h0 hTI hTO h1 h2 hl1 hl2 hx hy fun h' T=>QKz (hQ h' T)) (PySem.F.args_zip_next_1 _))))
def sE{z TI TO i1 i2 l1 l2:Addr}{k1 k2:Nat}{a b f0 f1:Value}(hh:A.handled=none)(D:ZipApart z TI TO i1 i2 l1 l2)
  (hz:jL s.heap z TI TO f0 f1)(h0:F0 f0)(hTI:IsPair s.heap TI (.ref i1) (.ref i2))(hTO:IsPair s.heap TO a b)
  (h1:uF b1 s.heap i1 l1 k1)(h2:uF b2 s.heap i2 l2 k2)(hl1:yF b1 s.heap l1 xs)(hl2:yF b2 s.heap l2 ys)(hend:xs[k1]? =none\/ys[k2]? =none)
  (hQ:∀h',(∀c o,c≠z->c≠TO->c≠i1->c≠i2->s.heap.get? c=some o->h'.get? c=some o)->Q none {s with heap:=h'}):wpAny (model prog w) A (pyNext (.ref z)) Q E s:=by
 have hT:s.TypeIs (.ref z) "zip":=⟨_,hz,rfl⟩;refine QKq (wpAny_attempt (wpAny_callSpecial?_slot hT PySem.F.slot_zip_next
  (Qzz PySem.F.slot_zip_next hT PySem.F.entry_zip_next (K5 hh D hz h0 hTI hTO h1 h2 hl1 hl2 hend fun h' e hk he=>?_) (PySem.F.args_zip_next_1 _))))
 obtain⟨o,ho,hc⟩:=he;exact QKq (wpAny_isInstance ⟨o,ho,hc⟩ isSubtype_stop (QKz (hQ _ hk)))
end
section
theorem JS{z TI TO T:Addr}{f0 f1:Value}(hz:jL s.heap z TI TO f0 f1)(h0:F0 f0)
  (hQ:∀h' g0,jL h' z TI TO g0 f1->F0 g0->Heap.SameBut z s.heap h'->Q () {s with heap:=h'}):wpAny (model prog w) A (letOwnedTupleGo tg (.ref z) (.ref T)) Q E s:=by
 have same:=hQ s.heap f0 hz h0 (Heap.SameBut.refl ..);have go:wpAny (model prog w) A (do
   let o<-load z
   match o.cls,o.data with
   |.type n,.fields vs=>
    if ["enumerate","zip","dict_itemiterator","dict_reverseitemiterator","odict_iterator","itertools.zip_longest","itertools.pairwise"].contains n&&vs[0]? ==some (rawInt T)then
     rule "for.unpacks-the-owned-tuple"
     updateField z 0 .none
   |_,_=>pure ()) Q E s:=by
  refine QKq (wpAny_load hz ?_);show wpAny _ _ (if (["enumerate","zip","dict_itemiterator","dict_reverseitemiterator","odict_iterator","itertools.zip_longest","itertools.pairwise"].contains "zip"&&
   (#[f0,f1,.bool false,.ref TI,.ref TO])[0]? ==some _)=true then _ else _) Q E s
  split
  ·exact QKq (wpAny_rule (wpAny_setField_rec hz (by simp) fun h' hz' hs'=>hQ h' .none hz' (.inl rfl) hs'))
  ·exact QKz same
 cases tg<;>first
  |exact QKz same
  |exact go
def m9{z TI TO:Addr}{f0 f1:Value}(hz:jL s.heap z TI TO f0 f1)(h:Q (.ref z) s):wpAny (model prog w) A (pyIter (.ref z)) Q E s:=by have hT:s.TypeIs (.ref z) "zip":=⟨_,hz,rfl⟩;exact wpAny_pyIter_slot hT PySem.F.slot_zip_iter (Qzz PySem.F.slot_zip_iter hT PySem.F.entry_zip_iter (QKz ⟨_,rfl,"zip",_,hT,PySem.F.slot_zip_next.lookup,h⟩) (PySem.F.args_zip_iter_1 _))
end
def itN(b:Bool):String:=if b then "list_iterator" else "tuple_iterator"
abbrev zH1(b1:Bool)(h:Heap)(l1:Addr):Heap:=h.push {cls:=.type (itN b1),data:=.fields #[.ref l1,.int 0 0]}
abbrev zH2(b1 b2:Bool)(h:Heap)(l1 l2:Addr):Heap:=(zH1 b1 h l1).push {cls:=.type (itN b2),data:=.fields #[.ref l2,.int 0 0]}
abbrev zH3(b1 b2:Bool)(h:Heap)(l1 l2:Addr):Heap:=(zH2 b1 b2 h l1 l2).push {cls:=.type "tuple",data:=.seq #[.ref h.objs.size,.ref (zH1 b1 h l1).objs.size]}
abbrev zH4(b1 b2:Bool)(h:Heap)(l1 l2:Addr):Heap:=(zH3 b1 b2 h l1 l2).push {cls:=.type "tuple",data:=.seq #[.none,.none]}
abbrev Z3(b1 b2:Bool)(h:Heap)(l1 l2:Addr):Heap:=(zH4 b1 b2 h l1 l2).push {cls:=.type "zip",data:=.fields #[.none,.bool false,.bool false,.ref (zH2 b1 b2 h l1 l2).objs.size,.ref (zH3 b1 b2 h l1 l2).objs.size]}
def K3 b1 b2 l1 l2 xs ys:
  Meets (Builtin.«zip.__new__» ⟨[.type "zip",.ref l1,.ref l2],[]⟩) (fun _ R s=>yF b1 s.heap l1 xs/\yF b2 s.heap l2 ys/\
   R (.ok (.ret (.ref (zH4 b1 b2 s.heap l1 l2).objs.size))) {s with heap:=Z3 b1 b2 s.heap l1 l2}):=
 .of_wp fun prog w A R s h=>by
  obtain⟨hp,g,d,tk,os⟩:=s;obtain⟨hl1,hl2,h⟩:=h;have hsub:=sub_zip;cases b1<;>cases b2
  ·have hL1:Heap.IsTuple (Shared.heap ⟨hp,g,d,tk,os⟩) l1 xs:=hl1;have hL2:Heap.IsTuple (Shared.heap ⟨hp.push {cls:=.type "tuple_iterator",data:=.fields #[.ref l1,.int 0 0]},g,d,tk,os⟩) l2 ys:=hl2.at (b:=false) fun o e=>QWq _ e;wp_walk using wpAny_pyIter_tuple hL1,wpAny_pyIter_tuple hL2;exact⟨_,rfl,h⟩
  ·have hL1:Heap.IsTuple (Shared.heap ⟨hp,g,d,tk,os⟩) l1 xs:=hl1;have hL2:Heap.IsList (Shared.heap ⟨hp.push {cls:=.type "tuple_iterator",data:=.fields #[.ref l1,.int 0 0]},g,d,tk,os⟩) l2 ys:=hl2.at (b:=true) fun o e=>QWq _ e;wp_walk using wpAny_pyIter_tuple hL1,wpAny_pyIter_list hL2;exact⟨_,rfl,h⟩
  ·have hL1:Heap.IsList (Shared.heap ⟨hp,g,d,tk,os⟩) l1 xs:=hl1;have hL2:Heap.IsTuple (Shared.heap ⟨hp.push {cls:=.type "list_iterator",data:=.fields #[.ref l1,.int 0 0]},g,d,tk,os⟩) l2 ys:=hl2.at (b:=false) fun o e=>QWq _ e;wp_walk using wpAny_pyIter_list hL1,wpAny_pyIter_tuple hL2;exact⟨_,rfl,h⟩
  ·have hL1:Heap.IsList (Shared.heap ⟨hp,g,d,tk,os⟩) l1 xs:=hl1;have hL2:Heap.IsList (Shared.heap ⟨hp.push {cls:=.type "list_iterator",data:=.fields #[.ref l1,.int 0 0]},g,d,tk,os⟩) l2 ys:=hl2.at (b:=true) fun o e=>QWq _ e;wp_walk using wpAny_pyIter_list hL1,wpAny_pyIter_list hL2;exact⟨_,rfl,h⟩
end Mini
end
section
namespace Mini
open PySem
def sY{w:World}{E:QZq}{a:Addr}{k:Nat}
  (hx:s.heap.get? a=some {cls:=.type "list",dict:=none,data:=.seq xs k,slots:=sl})(hA:A.handled=none)
  (h:∀h' tk,(∀b o,s.heap.get? b=some o->h'.get? b=some o)->Q none {s with heap:=h',toks:=tk}):
  wpAny (model prog w) A (getAttr? (.ref a) "keys") Q E s:=by
 obtain⟨hp,g,d,tk,os⟩:=s;have hT:∀tk',(⟨hp,g,d,tk',os⟩:Shared).TypeIs (.ref a) "list":=fun _=>⟨_,hx,rfl⟩;have f1:=sub_AttributeError;have f3:=F.slot_list_getattribute.lookup;have f4:=F.slot_list_getattribute.bind (.ref a);have f5:=am_list_getattr_none;repeat (any_goals (first|assumption|exact hT _|((with_reducible show wpAny _ _ (call (Value.builtin "list.__getattribute__") _ _) _ _ _);refine call_meets F.slot_list_getattribute (hT _) am_entry_list_getattribute (F.args_list_getattribute_2 _ _) (meets_getattribute_miss_list a xs k sl "keys" _ (am_miss_of_fast (by kernel_rfl)) (by decide+kernel) (by size_fits)) ⟨hx,hA,fun h' tk' e hx'=>?_⟩)|wp_step))
 obtain⟨t',u',he⟩:=hx'.there;unfold getattributeRaised;repeat (any_goals (first|assumption|wp_step))
 all_goals exact h _ _ hx'.keeps
def qG{w:World}{E:QZq}{a:Addr}{k:Nat}
  (hx:s.heap.get? a=some {cls:=.type "tuple",dict:=none,data:=.seq xs k,slots:=sl})(hA:A.handled=none)
  (h:∀h' tk,(∀b o,s.heap.get? b=some o->h'.get? b=some o)->Q none {s with heap:=h',toks:=tk}):
  wpAny (model prog w) A (getAttr? (.ref a) "keys") Q E s:=by
 obtain⟨hp,g,d,tk,os⟩:=s;have hT:∀tk',(⟨hp,g,d,tk',os⟩:Shared).TypeIs (.ref a) "tuple":=fun _=>⟨_,hx,rfl⟩;have f1:=sub_AttributeError;have f3:=F.slot_tuple_getattribute.lookup;have f4:=F.slot_tuple_getattribute.bind (.ref a);have f5:=am_tuple_getattr_none;repeat (any_goals (first|assumption|exact hT _|((with_reducible show wpAny _ _ (call (Value.builtin "tuple.__getattribute__") _ _) _ _ _);refine call_meets F.slot_tuple_getattribute (hT _) am_entry_tuple_getattribute (F.args_tuple_getattribute_2 _ _) (meets_getattribute_miss_tuple a xs k sl "keys" _ (am_miss_of_fast (by kernel_rfl)) (by decide+kernel) (by size_fits)) ⟨hx,hA,fun h' tk' e hx'=>?_⟩)|wp_step))
 obtain⟨t',u',he⟩:=hx'.there;unfold getattributeRaised;repeat (any_goals (first|assumption|wp_step))
 all_goals exact h _ _ hx'.keeps
def mC:typeLookup (.type "zip") "__getattr__"=pure none:=by rw[typeLookup_type,builtinLookup_eq_fast];kernel_rfl
def cP:Slot "zip" "__getattribute__" "zip.__getattribute__":=
 .of (owner:="zip") (n:="__getattribute__") (by rw[typeLookup_type,builtinLookup_eq_fast];kernel_rfl) (by decide+kernel) (by decide+kernel) (by decide+kernel)
  (by first|exact .inl (by decide+kernel)|exact .inr (by decide+kernel)) (by rw[isSubtype_type];kernel_rfl)
def iz:entryFor table "zip.__getattribute__"=some Builtin.«object.__getattribute__»:=
 entryFor_alias (id':="object.__getattribute__") (by kernel_rfl) (by decide+kernel) (by decide+kernel) (by kernel_rfl)
def iV a b:argsOk "zip.__getattribute__" ⟨[a,b],[]⟩:=by unfold argsOk;kernel_rfl
def gM(a:Addr)(xs:Array Value)(sl:Array (Option Value))(name:Str)(u:Tok)(hmiss:typeLookup (.type "zip") name=pure none)(hname:(["__module__","__name__","__qualname__","__doc__","__annotations__"]:List Str).contains name=false)(hsz:name.length+100<=sizeLine:=by size_fits):
  Meets (Builtin.«object.__getattribute__» ⟨[.ref a,.str name u],[]⟩) (fun A R s=>s.heap.get? a=some {cls:=.type "zip",dict:=none,data:=.fields xs,slots:=sl}/\raisesAttr (.ref a) name A R s):=
 Meets.of_wp fun prog w A R s hs=>by
  obtain⟨hp,g,d,tk,os⟩:=s;obtain⟨hx,hs⟩:=hs;repeat (any_goals (first|assumption|wp_step))
  simp only[hname,Qxq,if_false];repeat (any_goals (first|assumption|wp_step))
  exact wpAny_raiseAttrError hs.1 hs.2 (attrMsg_fits (by decide+kernel) hsz)
def uM{w:World}{E:QZq}{a:Addr}{sl:Array (Option Value)}
  (hx:s.heap.get? a=some {cls:=.type "zip",dict:=none,data:=.fields xs,slots:=sl})(hA:A.handled=none)
  (h:∀h' tk,(∀b o,s.heap.get? b=some o->h'.get? b=some o)->Q none {s with heap:=h',toks:=tk}):
  wpAny (model prog w) A (getAttr? (.ref a) "keys") Q E s:=by
 obtain⟨hp,g,d,tk,os⟩:=s;have hT:∀tk',(⟨hp,g,d,tk',os⟩:Shared).TypeIs (.ref a) "zip":=fun _=>⟨_,hx,rfl⟩;have f1:=sub_AttributeError;have f3:=cP.lookup;have f4:=cP.bind (.ref a);have f5:=mC;repeat (any_goals (first|assumption|exact hT _|((with_reducible show wpAny _ _ (call (Value.builtin "zip.__getattribute__") _ _) _ _ _);refine call_meets cP (hT _) iz (iV _ _) (gM a xs sl "keys" _ (am_miss_of_fast (by kernel_rfl)) (by decide+kernel) (by size_fits)) ⟨hx,hA,fun h' tk' e hx'=>?_⟩)|wp_step))
 obtain⟨t',u',he⟩:=hx'.there;unfold getattributeRaised;repeat (any_goals (first|assumption|wp_step))
 all_goals exact h _ _ hx'.keeps
inductive D where
 |non|bl (b:Bool)|int (i:Int)|str (x:Str)
 |tup (xs:List D)|lst (xs:List D)|dG (ks:List D) (vs:List D)|iy (ks:List D) (vs:List D)
 deriving Inhabited
inductive Ob where
 |lst (xs:List D)|dct (ks vs:List D)|sdt (ks vs:List D)
 deriving Inhabited
noncomputable def Ob.d:Ob->D
 |.lst xs=>.lst xs
 |.dct ks vs=>.dG ks vs
 |.sdt ks vs=>.iy ks vs
inductive Sl where
 |un|val (d:D)|own (o:Ob)|bor (o:Ob)
 deriving Inhabited
abbrev Ev:=List Sl
inductive Rv where
 |val (d:D)|new (o:Ob)|ref (i:Nat)|tmp (o:Ob)
noncomputable def Rv.kO:Rv->Option D
 |.val d=>some d
 |.new o=>some o.d
 |_=>none
noncomputable def Rv.IV:Rv->Option Sl
 |.val d=>some (.val d)
 |.new o=>some (.own o)
 |_=>none
def cV:List Rv->Option (List D)
 |[]=>some []
 |r::rs=>r.kO.bind fun d=>(cV rs).map (d:: ·)
inductive Out(α:Type)where
 |ok (a:α) (σ:Ev)|exc (c:Nat) (σ:Ev)|bad
noncomputable def Out.bind{α β:Type}:Out α->(α->Ev->Out β)->Out β
 |.ok a σ,f=>f a σ
 |.exc c σ,_=>.exc c σ
 |.bad,_=>.bad
noncomputable def Out.au{β:Type}:Out Rv->(D->Ev->Out β)->Out β
 |.ok (.val d) σ,f=>f d σ
 |.ok (.new o) σ,f=>f o.d σ
 |.ok _ _,_=>.bad
 |.exc c σ,_=>.exc c σ
 |.bad,_=>.bad
noncomputable def Out.cT{β:Type}(tr:D->Option Bool)(r:Out Rv)(f:Bool->Ev->Out β):Out β:=
 r.au fun d σ=>match tr d with|some b=>f b σ|none=>.bad
noncomputable def Out.map{α β:Type}(g:α->β):Out α->Out β
 |.ok a σ=>.ok (g a) σ
 |.exc c σ=>.exc c σ
 |.bad=>.bad
def lift{α:Type}(σ:Ev):Option α->Out α
 |some a=>.ok a σ
 |none=>.bad
inductive Wn where
 |add|sub|mul|mod|fdiv|pow
 deriving DecidableEq
inductive Cm where
 |eq|ne|lt|le|gt|ge|isin|notin|lW|notN
 deriving DecidableEq
inductive Ty where
 |tup|lst|str|bool|int|dG
 deriving DecidableEq
inductive Bi where
 |all|any|tuple|list|sorted|int|dict|len|copy
 deriving DecidableEq
inductive Tg where
 |name (i:Nat)|tup (is:List Nat)
inductive E where
 |var (i:Nat)|con (d:D)|glob (k:Nat)
 |nil|cons (h t:E)
 |tup (es:E)|lis (es:E)
 |op (o:Wn) (a b:E)|neg (a:E)|cmp (o:Cm) (a b:E)|chain (υ ψ:Cm) (a b c:E)
 |and (es:E)|or (es:E)|not (a:E)|ite (c a b:E)
 |idx (a i:E)|slc (a lo hi:E)|noneE
 |call (f:Nat) (args:E)|ref (i:Nat)|tmp (e:E)|rd (e:E)
 |isi (a:E) (t:Ty)|bi (b:Bi) (a:E)
 |range1 (a:E)|zip (a b:E)
 |count (a b:E)|popAt (i:Nat) (a:E)
 |get2 (d k x:E)|dsp (es:E)|emp
 |comp (nl:Nat) (tg:Tg) (it:E) (cond:E) (elt:E)
inductive S where
 |nil|cons (h t:S)
 |set (i:Nat) (e:E)|setT (is:List Nat) (e:E)|setIx (i:Nat) (ix e:E)
 |expr (e:E)|append (i:Nat) (e:E)
 |ret (e:E)|ite (c:E) (a b:S)|callx (f:Nat) (args:E)
 |for_ (tg:Tg) (it:E) (b:S)|while_ (c:E) (b:S)
 |raise (c:Nat)|pass|brk|cont
abbrev AAG:E:=.con (.int 1)
abbrev AAH:E:=.con (.int 0)
abbrev AAL:E:=.con (.bl true)
abbrev AAP:S:=.cons (.ret (.con (.bl false))) .nil
abbrev AAQ:E:=.con (.int 2)
abbrev AAR:E:=.cons (.var 1) (.cons (.var 2) .nil)
abbrev AAS:E:=.cons (.var 0) .nil
abbrev AAT:S:=.set 2 (.slc (.lis (.cons (.con (.str "p")) (.cons (.con (.str "q")) (.cons (.con (.str "rr")) (.cons (.con (.str "go")) (.cons (.con (.str "abcdef")) .nil)))))) .noneE (.op .add (.con (.int 3)) (.call 38 (.cons (.var 0) (.cons (.ref 1) (.cons (.con (.int 3)) .nil))))))
abbrev AAV:E:=.cmp .ne (.call 15 (.cons (.var 1) (.cons (.idx (.var 4) (.var 0)) (.cons (.var 4) .nil)))) (.idx (.var 4) (.var 0))
abbrev AAX:S:=.set 6 (.call 41 (.cons (.var 1) (.cons (.var 2) (.cons (.var 4) .nil))))
abbrev AAZ:E:=.cons (.var 1) .nil
abbrev AAa:S:=.set 1 (.call 39 (.cons (.var 0) (.cons (.tmp (.lis (.cons (.con (.int 5)) .nil))) .nil)))
abbrev AAb:S:=.cons (.set 3 (.op .add (.slc (.var 3) AAG .noneE) (.call 27 (.cons (.var 0) (.cons (.var 1) (.cons (.idx (.var 3) AAH) (.cons (.ref 2) .nil))))))) .nil
abbrev AAc:E:=.idx (.var 0) AAG
abbrev AAd:E:=.cons (.cmp .eq (.call 20 (.cons (.var 1) (.cons (.var 2) (.cons (.tup (.cons (.idx (.var 1) AAQ) (.cons AAH .nil))) .nil)))) (.lis .nil)) .nil
abbrev AAe:S:=.ret (.and (.cons (.cmp .eq (.var 7) (.op .mul (.lis (.cons (.idx (.var 7) AAH) .nil)) (.var 3))) (.cons (.cmp .gt (.idx (.var 7) AAH) AAH) (.cons (.cmp .eq (.op .mod (.idx (.var 7) AAH) AAQ) AAH) .nil))))
abbrev AAf:S:=.cons (.append 3 (.tup (.cons (.idx (.var 2) (.var 4)) (.cons (.tup (.cons (.con (.str "held")) (.cons (.tup (.cons (.con (.str "same")) (.cons (.idx (.var 2) (.op .sub (.var 4) AAG)) .nil))) (.cons (.idx (.var 2) (.op .mod (.op .add (.var 4) AAG) (.bi .len (.var 2)))) (.cons (.con (.bl false)) .nil))))) .nil)))) .nil
abbrev AAg:E:=.idx (.var 0) AAH
abbrev AAh:E:=.or (.cons (.cmp .eq (.var 5) AAH) (.cons (.cmp .eq (.var 5) (.var 3)) .nil))
abbrev AAi:E:=.call 3 (.cons (.var 0) (.cons AAQ (.cons AAQ .nil)))
abbrev AAj:S:=.set 2 (.tup (.cons (.tup .nil) (.cons (.tup (.cons (.tup .nil) .nil)) .nil)))
abbrev AAk:S:=.set 6 (.call 31 (.cons (.var 0) (.cons (.var 1) (.cons (.var 2) (.cons (.var 5) (.cons (.op .add (.var 3) (.lis (.cons (.var 5) .nil))) .nil))))))
abbrev AAl:E:=.call 37 (.cons (.var 1) (.cons (.var 0) (.cons (.con (.int 6)) .nil)))
abbrev AAm:E:=.comp 1 (.name 0) (.idx (.var 1) AAG) AAL (.call 19 (.cons (.var 0) (.cons (.var 4) (.cons (.bi .len (.idx (.var 2) AAG)) .nil))))
abbrev AAn:E:=.idx (.var 0) AAQ
abbrev AAo:S:=.set 4 (.call 29 (.cons (.var 0) (.cons (.var 1) (.cons (.idx (.var 3) AAH) (.cons (.idx (.var 2) (.idx (.var 3) AAH)) .nil)))))
abbrev AAp:E:=.cons (.var 3) .nil
abbrev AAq:S:=.cons (.setIx 3 (.var 6) (.op .add (.idx (.var 3) (.var 2)) (.lis (.cons (.var 5) .nil)))) (.cons (.append 4 (.var 6)) .nil)
abbrev AAr:E:=.cons (.var 0) (.cons (.get2 (.var 2) (.var 0) (.var 3)) .nil)
abbrev AAs:S:=.cons (.ret (.or (.cons (.bi .all (.var 4)) (.cons (.and (.cons (.var 1) (.cons (.bi .any (.var 4)) .nil))) .nil)))) .nil
abbrev AAt:E:=.cons (.bi .len (.var 1)) .nil
abbrev AAu:E:=.call 17 (.cons (.var 0) AAZ)
abbrev AAv:E:=.comp 1 (.name 0) (.var 0) AAL (.call 4 (.cons AAc (.cons AAH (.cons (.op .sub (.var 3) AAG) .nil))))
abbrev AAw:E:=.idx (.var 1) AAH
abbrev AAx:E:=.idx (.var 1) AAG
abbrev AAy:E:=.cons (.var 0) (.cons AAG (.cons (.glob 9) .nil))
abbrev AAz:E:=.idx (.idx (.var 2) AAQ) (.op .sub (.var 0) AAG)
abbrev ABG:S:=.cons (.ret (.tup (.cons (.con (.str "taken")) (.cons (.var 4) (.cons (.var 6) .nil))))) .nil
abbrev ABH:E:=.comp 2 (.tup [0,1]) AAc AAL (.call 11 (.cons (.var 1) (.cons (.var 3) (.cons AAH .nil))))
abbrev ABI:E:=.call 20 (.cons (.var 2) (.cons (.var 3) AAS))
abbrev ABJ:S:=.set 6 (.call 25 (.cons (.var 0) (.cons (.var 1) (.cons (.var 2) (.cons (.var 5) .nil)))))
abbrev ABK:E:=.lis .nil
abbrev ABL:E:=.and (.cons (.cmp .ne (.var 6) (.var 3)) (.cons (.cmp .notin (.var 6) (.var 5)) .nil))
abbrev ABM:S:=.cons (.ret (.con .non)) .nil
abbrev ABN:E:=.zip (.call 13 AAS) (.var 1)
abbrev ABO:E:=.comp 1 (.name 0) (.var 0) AAL (.call 8 (.cons (.var 0) (.cons (.var 2) .nil)))
abbrev ABP:E:=.cmp .eq (.var 3) (.con (.str "table"))
abbrev ABQ:E:=.cmp .eq (.var 3) (.con (.str "held"))
abbrev ABR:E:=.cmp .eq (.call 38 (.cons (.var 1) (.cons (.ref 2) (.cons AAQ .nil)))) AAG
abbrev ABS:S:=.set 3 (.bi .len (.idx (.var 1) AAQ))
abbrev ABT:E:=.comp 1 (.name 0) (.var 0) AAL (.cmp .eq (.count (.var 1) (.var 0)) AAG)
abbrev ABU:E:=.con (.non)
abbrev ABV:E:=.cons (.var 1) (.cons (.var 2) AAp)
abbrev ABW:E:=.idx (.idx (.var 2) AAQ) (.var 0)
abbrev ABX:E:=.bi .len (.var 0)
abbrev ABY:S:=.set 3 (.op .sub (.call 35 (.cons (.var 1) AAt)) (.call 35 AAR))
abbrev ABZ:S:=.cons (.raise 0) .nil
abbrev ABa:E:=.call 14 (.cons (.var 0) (.cons (.idx (.var 2) AAH) .nil))
abbrev ABb:S:=.set 2 (.dsp (.cons (.call 22 AAS) (.cons ABK .nil)))
abbrev ABc:E:=.not (.call 3 (.cons (.var 2) (.cons (.var 3) AAp)))
abbrev ABd:E:=.cons (.var 0) AAR
abbrev ABe:E:=.comp 1 (.name 0) (.var 0) AAL (.isi (.var 0) .bool)
abbrev ABf:S:=.set 7 (.idx (.var 6) AAQ)
abbrev ABg:S:=.cons (.ret (.var 4)) .nil
abbrev ABh:E:=.cmp .eq (.var 0) (.var 4)
abbrev ABi:E:=.idx (.var 2) AAc
abbrev ABj:E:=.con .non
abbrev ABk:E:=.con (.int 3)
abbrev ABl:E:=.range1 (.var 3)
abbrev ABm:E:=.comp 1 (.name 0) (.var 1) AAL (.call 5 AAS)
abbrev ABn:S:=.cons (.ret (.cmp .isin (.var 4) AAn)) .nil
abbrev ABo:E:=.cons (.cmp .notin (.var 6) (.var 3)) .nil
abbrev ABp:E:=.cmp .eq (.var 4) AAQ
abbrev ABq:E:=.bi .dict (.idx AAx (.idx (.var 2) AAG))
abbrev ABr:E:=.cmp .eq (.var 3) (.con (.str "same"))
abbrev ABs:E:=.cons (.var 2) .nil
abbrev ABt:S:=.cons (.ret (.bi .any (.var 4))) .nil
abbrev ABu:S:=.cons (.ret (.bi .all (.var 4))) .nil
abbrev ABv:E:=.cmp .eq (.var 3) (.con (.str "not"))
abbrev ABw:E:=.cmp .eq (.var 3) (.con (.str "and"))
abbrev ABx:E:=.cmp .eq (.var 3) (.con (.str "or"))
abbrev ABy:E:=.bi .list (.var 2)
abbrev ABz:E:=.comp 1 (.name 0) (.var 0) AAL AAi
abbrev ACG:E:=.call 13 AAS
abbrev ACH:E:=.bi .len (.var 2)
abbrev ACI:S:=.cons (.ret (.call 16 ABd)) .nil
def small(i:Int):Bool:=decide (-18446744073709551616<i/\i<18446744073709551616)
def Ha(i:Int):Bool:=decide (-4611686018427387904<=i/\i<4611686018427387904)
def fits(n:Nat):Bool:=decide (n<=16777216)
def b2i(b:Bool):Int:=if b then 1 else 0
noncomputable def ix?(n:Nat)(i:Int):Option Nat:=
 let j:=if i<0 then i+n else i
 if 0<=j/\j<n then some j.toNat else none
def at?(xs:List D)(i:Int):Option D:=(ix? xs.length i).bind fun k=>xs[k]?
noncomputable def clip(n:Nat)(i:Int):Nat:=
 let j:=if i<0 then i+n else i
 if j<0 then 0 else if j>n then n else j.toNat
noncomputable def cut(xs:List D)(lo hi:Option Int):List D:=
 let a:=match lo with|some i=>clip xs.length i|none=>0
 let b:=match hi with|some i=>clip xs.length i|none=>xs.length
 (xs.take b).drop a
mutual
def dM:D->D->Bool
 |.non,.non=>true
 |.bl a,.bl b=>a==b
 |.bl a,.int j=>b2i a==j
 |.int i,.bl b=>i==b2i b
 |.int i,.int j=>i==j
 |.str x,.str y=>decide (x=y)
 |.tup xs,.tup ys=>qI xs ys
 |.lst xs,.lst ys=>qI xs ys
 |_,_=>false
def qI:List D->List D->Bool
 |[],[]=>true
 |x::xs,y::ys=>dM x y&&qI xs ys
 |_,_=>false
end
mutual
def dep:D->Nat
 |.tup xs=>gn xs+1
 |.lst xs=>gn xs+1
 |_=>0
def gn:List D->Nat
 |[]=>0
 |x::xs=>max (dep x) (gn xs)
end
def sOk(x:Str):Bool:=x.cps.all fun c=>decide (c<128)
mutual
def nd:D->Bool
 |.str x=>sOk x
 |.tup xs=>lO xs
 |.lst xs=>lO xs
 |.dG _ _=>false
 |.iy _ _=>false
 |_=>true
def lO:List D->Bool
 |[]=>true
 |x::xs=>nd x&&lO xs
end
noncomputable def flat:D->Bool
 |.non=>true
 |.bl _=>true
 |.int _=>true
 |.str _=>true
 |_=>false
def oK(a b:D):Bool:=(flat a&&flat b)||(nd a&&decide (dep a<=50)&&nd b)
def jT(a:D)(xs:List D):Bool:=(flat a&&xs.all flat)||(nd a&&decide (dep a<=50)&&lO xs)
def aP(x:D):List D->Bool
 |[]=>false
 |y::ys=>dM y x||aP x ys
def aQ(x:D):List D->Nat
 |[]=>0
 |y::ys=>(if dM y x then 1 else 0)+aQ x ys
noncomputable def pF:List Bool->List Bool->Bool
 |[],[]=>false
 |[],_::_=>true
 |_::_,[]=>false
 |x::xs,y::ys=>if x=y then pF xs ys else(!x&&y)
noncomputable def bools:List D->Option (List Bool)
 |[]=>some []
 |.bl b::r=>(bools r).map (b:: ·)
 |_=>none
mutual
def kA:D->Bool
 |.int _=>true
 |.bl _=>true
 |.str x=>sOk x
 |.tup xs=>J0 xs
 |_=>false
def J0:List D->Bool
 |[]=>true
 |x::xs=>kA x&&J0 xs
end
def cH:D->Bool
 |.tup xs=>J0 xs&&decide (gn xs<=6)
 |_=>false
noncomputable def ltD:D->D->Option Bool
 |.int i,.int j=>some (decide (i<j))
 |.tup xs,.tup ys=>(bools xs).bind fun a=>(bools ys).map fun b=>pF a b
 |_,_=>none
noncomputable def iY:D->Option Bool
 |.non=>some false
 |.bl b=>some b
 |.int i=>some (i !=0)
 |.tup xs=>some (!xs.isEmpty)
 |.lst xs=>some (!xs.isEmpty)
 |_=>none
noncomputable def tB:Ty->D->Bool
 |.tup,.tup _=>true
 |.lst,.lst _=>true
 |.str,.str _=>true
 |.bool,.bl _=>true
 |.int,.int _=>true
 |.int,.bl _=>true
 |.dG,.dG _ _=>true
 |.dG,.iy _ _=>true
 |_,_=>false
noncomputable def aY(k:D):List D->List D->Option D
 |k'::ks,v::vs=>if dM k' k then some v else aY k ks vs
 |_,_=>none
noncomputable def keyOk:D->Bool
 |.str _=>true
 |.int _=>true
 |_=>false
def signs(x:Str):List D:=x.cps.toList.map fun c=>D.str ⟨#[c]⟩
noncomputable def items:D->Option (List D)
 |.tup xs=>some xs
 |.lst xs=>some xs
 |.str x=>if fits x.length then some (signs x)else none
 |.dG ks _=>some ks
 |.iy ks _=>some ks
 |_=>none
noncomputable def binop:Wn->D->D->Option Rv
 |.add,.int i,.int j=>some (.val (.int (i+j)))
 |.sub,.int i,.int j=>some (.val (.int (i-j)))
 |.mul,.int i,.int j=>if small i||small j then some (.val (.int (i*j)))else none
 |.mod,.int i,.int j=>if 0<j then some (.val (.int (i%j)))else none
 |.fdiv,.int i,.int j=>if 0<j/\j<1073741824 then some (.val (.int (i/j)))else none
 |.pow,.int i,.int j=>if 0<=j/\j<=64/\small i=true then some (.val (.int (i ^j.toNat)))else none
 |.add,.tup xs,.tup ys=>if fits (xs.length+ys.length)then some (.val (.tup (xs++ys)))else none
 |.add,.lst xs,.lst ys=>if fits (xs.length+ys.length)then some (.new (.lst (xs++ys)))else none
 |.mul,.lst [x],.int n=>if 0<n/\n<=8 then some (.new (.lst (List.replicate n.toNat x)))else none
 |_,_,_=>none
def cR:D->Bool
 |.non=>true
 |_=>false
noncomputable def aK:Cm->D->D->Option Bool
 |.eq,a,b=>if oK a b then some (dM a b)else none
 |.ne,a,b=>if oK a b then some (!dM a b)else none
 |.lt,a,b=>ltD a b
 |.gt,.int i,.int j=>some (decide (j<i))
 |.le,.int i,.int j=>some (decide (i<=j))
 |.ge,.int i,.int j=>some (decide (j<=i))
 |.isin,a,.tup xs=>if jT a xs then some (aP a xs)else none
 |.isin,a,.lst xs=>if jT a xs then some (aP a xs)else none
 |.isin,a,.dG ks _=>if keyOk a then some (aP a ks)else if cH a&&ks.isEmpty then some false else none
 |.isin,a,.iy ks _=>if cH a then some (aP a ks)else none
 |.isin,.str x,.str y=>if x.length=1 then some (aP (.str x) (signs y))else none
 |.notin,a,.tup xs=>if jT a xs then some (!aP a xs)else none
 |.notin,a,.lst xs=>if jT a xs then some (!aP a xs)else none
 |.notin,a,.dG ks _=>if keyOk a then some (!aP a ks)else if cH a&&ks.isEmpty then some true else none
 |.notin,a,.iy ks _=>if cH a then some (!aP a ks)else none
 |.lW,a,.non=>some (cR a)
 |.notN,a,.non=>some (!cR a)
 |_,_,_=>none
noncomputable def Vo:List D->Option (List (List Bool))
 |[]=>some []
 |.tup ys::r=>match bools ys with
  |some (b::bs)=>(Vo r).map ((b::bs):: ·)
  |_=>none
 |_=>none
noncomputable def abm{α:Type}(f:Nat->Nat->Option Bool):PySem.W.KasT α->Option α
 |.ret a=>some a
 |.ask i j k=>match f i j with
  |some b=>abm f (k b)
  |none=>none
noncomputable def agC(rs:List (List Bool))(i j:Nat):Option Bool:=(rs[i]?).bind fun a=>(rs[j]?).map fun b=>pF a b
noncomputable def Pz(xs:List D):List Nat->Option (List D)
 |[]=>some []
 |i::is=>(xs[i]?).bind fun d=>(Pz xs is).map (d:: ·)
noncomputable def agB(xs:List D):Option (Nat->Nat->Option Bool):=match Vo xs with
 |some rs=>some (agC rs)
 |none=>none
noncomputable def agS(xs:List D):Option (List D):=
 if xs.length<2 then some xs
 else if xs.length<64 then(agB xs).bind fun f=>(abm f (PySem.W.kas_sort xs.length)).bind fun p=>if p.size=xs.length then Pz xs p.toList else none
 else none
noncomputable def rT(k v:D):List D->List D->List D
 |k'::ks,v'::vs=>(if dM k' k then v else v')::rT k v ks vs
 |_,_=>[]
noncomputable def putD(k v:D)(ks vs:List D):List D×List D:=if aP k ks then(ks,rT k v ks vs)else(ks++[k],vs++[v])
noncomputable def dictOf:List D->List D->List D->Option (List D×List D)
 |ks,vs,[]=>some (ks,vs)
 |ks,vs,.tup [k,v]::r=>if keyOk k then let p:=putD k v ks vs;dictOf p.1 p.2 r else none
 |_,_,_=>none
noncomputable def kJ:List D->List D->List D->Option (List D×List D)
 |ks,vs,[]=>some (ks,vs)
 |ks,vs,.tup [k,v]::r=>if cH k then let p:=putD k v ks vs;kJ p.1 p.2 r else none
 |_,_,_=>none
def cC:List D->List D->List D
 |x::xs,y::ys=>.tup [x,y]::cC xs ys
 |_,_=>[]
def cD(lo:Int):Nat->List D
 |0=>[]
 |n+1=>.int lo::cD (lo+1) n
noncomputable def ZD:Bi->List D->Option Rv
 |.all,xs=>(bools xs).map fun bs=>.val (.bl (bs.all id))
 |.any,xs=>(bools xs).map fun bs=>.val (.bl (bs.any id))
 |.tuple,xs=>some (.val (.tup xs))
 |.list,xs=>some (.new (.lst xs))
 |.sorted,_=>none
 |.dict,xs=>((dictOf [] [] xs).map fun p=>Rv.new (.dct p.1 p.2)).or ((kJ [] [] xs).map fun p=>.new (.sdt p.1 p.2))
 |.len,_=>none
 |.int,_=>none
 |.copy,_=>none
def E.aF:E->Option Nat
 |.var i=>some i
 |_=>none
noncomputable def rW(i:Nat)(σ:Ev):Out Rv:=
 match σ[i]? with
 |some (.val d)=>.ok (.val d) σ
 |some (.own o)=>.ok (.val o.d) (σ.set i (.val o.d))
 |_=>.bad
noncomputable def aX(i:Nat)(σ:Ev):Option D:=
 match σ[i]? with
 |some (.val d)=>some d
 |some (.own o)=>some o.d
 |some (.bor o)=>some o.d
 |_=>none
noncomputable def Aa:D->Option Nat
 |.tup xs=>some xs.length
 |.lst xs=>some xs.length
 |.str x=>if fits x.length then some x.length else none
 |.dG ks _=>some ks.length
 |.iy ks _=>some ks.length
 |_=>none
noncomputable def getD(d:D)(i:D):Option D:=
 match d,i with
 |.tup xs,.int i=>at? xs i
 |.lst xs,.int i=>at? xs i
 |.dG ks vs,k=>if keyOk k then aY k ks vs else none
 |.iy ks vs,k=>if cH k then aY k ks vs else none
 |_,_=>none
noncomputable def mU(d:D)(lo hi:Option Int):Option Rv:=
 match d with
 |.tup xs=>some (.val (.tup (cut xs lo hi)))
 |.lst xs=>some (.new (.lst (cut xs lo hi)))
 |_=>none
noncomputable def eZ(lW:Bool)(d:D):Option (Option Int):=
 match lW,d with
 |true,_=>some none
 |false,.int i=>some (some i)
 |_,_=>none
def E.lW:E->Bool
 |.noneE=>true
 |_=>false
noncomputable def f9(i:Nat)(s:Sl)(σ:Ev):Option Ev:=
 match σ[i]? with
 |some (.bor _)=>none
 |some _=>some (σ.set i s)
 |none=>none
noncomputable def wX:List Nat->List D->Ev->Option Ev
 |[],[],σ=>some σ
 |i::is,d::ds,σ=>(f9 i (.val d) σ).bind (wX is ds)
 |_,_,_=>none
noncomputable def fZ:Tg->D->Ev->Option Ev
 |.name i,d,σ=>f9 i (.val d) σ
 |.tup is,.tup ds,σ=>wX is ds σ
 |_,_,_=>none
noncomputable def fH(i:Nat)(f:Ob->Option Ob)(σ:Ev):Option Ev:=
 match σ[i]? with
 |some (.own o)=>(f o).map fun q=>σ.set i (.own q)
 |some (.bor o)=>(f o).map fun q=>σ.set i (.bor q)
 |_=>none
def VH(f:List D->Option (List D)):Ob->Option Ob
 |.lst xs=>(f xs).map .lst
 |_=>none
noncomputable def xu(i v:D):Ob->Option Ob
 |.lst xs=>match i with
  |.int i=>(ix? xs.length i).map fun j=>.lst (xs.set j v)
  |_=>none
 |.dct ks vs=>if keyOk i&&fits (ks.length+1)then let p:=putD i v ks vs;some (.dct p.1 p.2)else if cH i&&ks.isEmpty then some (.sdt [i] [v])else none
 |.sdt ks vs=>if cH i&&fits (ks.length+1)then let p:=putD i v ks vs;some (.sdt p.1 p.2)else none
inductive Res where
 |ok (r:Rv) (ps:List Sl)|exc (c:Nat) (ps:List Sl)|bad
structure Cf where
 fn:Nat->List Sl->Res
 gl:Nat->Option D
 turns:Nat
def jz(i:Nat):Rv->Bool
 |.ref j=>i==j
 |_=>false
def Ae:Rv->Bool
 |.tmp _=>true
 |_=>false
def argv:Rv->Rv
 |.new o=>.val o.d
 |x=>x
noncomputable def enter:List Rv->Ev->Option (List Sl)
 |[],_=>some []
 |.val d::as,σ=>(enter as σ).map (.val d:: ·)
 |.new _::_,_=>none
 |.tmp o::as,σ=>if as.any Ae then none else(enter as σ).map (.bor o:: ·)
 |.ref i::as,σ=>
  if as.any (jz i)then none else
  match σ[i]? with
  |some (.own o)=>(enter as σ).map (.bor o:: ·)
  |some (.bor o)=>(enter as σ).map (.bor o:: ·)
  |_=>none
noncomputable def giveBack:List Rv->List Sl->Ev->Option Ev
 |[],[],σ=>some σ
 |.ref i::as,.bor o::ps,σ=>(fH i (fun _=>some o) σ).bind (giveBack as ps)
 |.ref _::_,_::_,_=>none
 |_::as,_::ps,σ=>giveBack as ps σ
 |_,_,_=>none
noncomputable def uo(c:Cf)(f:Nat)(as:List Rv)(σ:Ev):Out Rv:=
 match enter as σ with
 |none=>.bad
 |some ps=>
  match c.fn f ps with
  |.ok r qs=>match giveBack as qs σ with|some ζ=>.ok r ζ|none=>.bad
  |_=>.bad
noncomputable def bx(tg:Tg)(cond elt:Ev->Out Rv):List D->List D->Ev->Out (List D)
 |[],acc,σ=>.ok acc σ
 |x::xs,acc,σ=>
  match fZ tg x σ with
  |none=>.bad
  |some σ₁=>(cond σ₁).cT iY fun b σ₂=>
   if b then(elt σ₂).au fun d σ₃=>bx tg cond elt xs (acc++[d]) σ₃
   else bx tg cond elt xs acc σ₂
def ql:Option D->Bool
 |some (.lst _)=>true
 |_=>false
def ab3:D->Option (List D)
 |.lst xs=>some xs
 |_=>none
noncomputable def Gw(k:Nat)(y:D)(σ:Ev):Out Rv:=
 match y,aX k σ with
 |.int i,some (.lst xs)=>if !fits xs.length then .bad else match ix? xs.length i with
  |some j=>match xs[j]?,fH k (VH fun xs=>some (xs.eraseIdx j)) σ with
   |some d,some ζ=>.ok (.val d) ζ
   |_,_=>.bad
  |none=>.bad
 |_,_=>.bad
def tH:Option D->Bool
 |some (.dG _ _)=>true
 |_=>false
noncomputable def yq(x y:D):Option Rv:=
 match x with
 |.tup xs=>if flat y&&xs.all flat then some (.val (.int (aQ y xs)))else none
 |.lst xs=>if flat y&&xs.all flat then some (.val (.int (aQ y xs)))else none
 |_=>none
noncomputable def qu(d k x:D):Option D:=
 match d with
 |.dG ks vs=>if keyOk k then some ((aY k ks vs).getD x)else none
 |_=>none
def Kq:List D->Option Rv
 |[k,v]=>if cH k then some (.new (.sdt [k] [v]))else none
 |_=>none
def Aw(ds:List D):Option Rv:=if ds.length<=30&& !ds.isEmpty then Kq ds else none
noncomputable def bF:D->Option (List D)
 |.tup xs=>some xs
 |.lst xs=>some xs
 |_=>none
def LK:D->Option (List D)
 |.iy ks _=>some ks
 |x=>bF x
noncomputable def b1(b:Bi)(x:D):Option Rv:=
 match b with
 |.list=>(LK x).bind (ZD .list)
 |.len=>(Aa x).map fun n=>.val (.int n)
 |.int=>none
 |.copy=>none
 |b=>(bF x).bind (ZD b)
mutual
noncomputable def ev(c:Cf):E->Ev->Out Rv
 |.var i,σ=>rW i σ
 |.con d,σ=>.ok (.val d) σ
 |.glob k,σ=>match c.gl k with|some d=>.ok (.val d) σ|none=>.bad
 |.tup es,σ=>(evs c es σ).bind fun rs σ=>lift σ ((cV rs).bind fun ds=>if fits ds.length then some (.val (.tup ds))else none)
 |.lis es,σ=>(evs c es σ).bind fun rs σ=>lift σ ((cV rs).bind fun ds=>if fits ds.length then some (.new (.lst ds))else none)
 |.op o a b,σ=>(ev c a σ).au fun x σ=>(ev c b σ).au fun y σ=>lift σ (binop o x y)
 |.neg a,σ=>(ev c a σ).au fun x σ=>lift σ (match x with|.int i=>some (.val (.int (-i)))|_=>none)
 |.cmp o a b,σ=>(ev c a σ).au fun x σ=>match b.aF with
  |some k=>lift σ ((aX k σ).bind fun d=>(aK o x d).map fun q=>.val (.bl q))
  |none=>(ev c b σ).au fun y σ=>lift σ ((aK o x y).map fun q=>.val (.bl q))
 |.chain υ ψ a b d,σ=>(ev c a σ).au fun x σ=>(ev c b σ).au fun y σ=>(lift σ (aK υ x y)).bind fun q σ=>if q then(ev c d σ).au fun z σ=>lift σ ((aK ψ y z).map fun q=>.val (.bl q))else .ok (.val (.bl false)) σ
 |.and es,σ=>iG c es σ
 |.or es,σ=>oJ c es σ
 |.not a,σ=>(ev c a σ).cT iY fun b σ=>.ok (.val (.bl (!b))) σ
 |.ite t a b,σ=>(ev c t σ).cT iY fun q σ=>if q then ev c a σ else ev c b σ
 |.idx a i,σ=>match a.aF with
  |some k=>if (aX k σ).isNone then .bad else(ev c i σ).au fun y σ=>lift σ ((aX k σ).bind fun d=>(getD d y).map Rv.val)
  |none=>(ev c a σ).au fun x σ=>(ev c i σ).au fun y σ=>lift σ ((getD x y).map Rv.val)
 |.slc a lo hi,σ=>(ev c a σ).au fun x σ=>(ev c lo σ).au fun l σ=>match eZ lo.lW l with
  |none=>.bad
  |some l=>(ev c hi σ).au fun h σ=>lift σ ((eZ hi.lW h).bind fun h=>mU x l h)
 |.noneE,σ=>.ok (.val .non) σ
 |.call f as,σ=>(evs c as σ).bind fun as σ=>uo c f as σ
 |.ref i,σ=>match σ[i]? with
  |some (.own _)=>.ok (.ref i) σ
  |some (.bor _)=>.ok (.ref i) σ
  |_=>.bad
 |.rd e,σ=>ev c e σ
 |.tmp e,σ=>(ev c e σ).bind fun x σ=>lift σ (match x with|.new o=>some (.tmp o)|_=>none)
 |.isi a t,σ=>(ev c a σ).au fun x σ=>.ok (.val (.bl (tB t x))) σ
 |.bi b a,σ=>match a.aF with
  |some k=>lift σ ((aX k σ).bind fun d=>b1 b d)
  |none=>(ev c a σ).au fun x σ=>lift σ (b1 b x)
 |.range1 a,σ=>(ev c a σ).au fun x σ=>lift σ (match x with|.int n=>if fits n.toNat&&Ha n then some (.val (.lst (cD 0 n.toNat)))else none|_=>none)
 |.zip a b,σ=>(ev c a σ).au fun x σ=>(ev c b σ).au fun y σ=>lift σ ((bF x).bind fun xs=>(bF y).map fun ys=>.val (.lst (cC xs ys)))
 |.count a b,σ=>(ev c a σ).au fun x σ=>if (bF x).isNone then .bad else(ev c b σ).au fun y σ=>lift σ (yq x y)
 |.popAt k a,σ=>if !ql (aX k σ)then .bad else(ev c a σ).au fun y σ=>Gw k y σ
 |.get2 d k x,σ=>match d.aF with
  |some i=>if !tH (aX i σ)then .bad else(ev c k σ).au fun k σ=>(ev c x σ).au fun x σ=>lift σ ((aX i σ).bind fun y=>(qu y k x).map Rv.val)
  |none=>.bad
 |.dsp es,σ=>(evs c es σ).bind fun rs σ=>lift σ ((cV rs).bind Aw)
 |.emp,σ=>.ok (.new (.dct [] [])) σ
 |.comp nl tg it cond elt,σ=>(ev c it σ).au fun x σ=>match items x with
  |some xs=>match bx tg (ev c cond) (ev c elt) xs [] (List.replicate nl .un++σ)with
   |.ok ys τ=>.ok (.new (.lst ys)) (τ.drop nl)
   |_=>.bad
  |none=>.bad
 |.nil,_=>.bad
 |.cons _ _,_=>.bad
noncomputable def iG(c:Cf):E->Ev->Out Rv
 |.cons h t,σ=>match t with
  |.nil=>ev c h σ
  |t=>(ev c h σ).au fun x σ=>match x with|.bl true=>iG c t σ|.bl false=>.ok (.val (.bl false)) σ|_=>.bad
 |_,_=>.bad
noncomputable def oJ(c:Cf):E->Ev->Out Rv
 |.cons h t,σ=>match t with
  |.nil=>ev c h σ
  |t=>(ev c h σ).au fun x σ=>match x with|.bl true=>.ok (.val (.bl true)) σ|.bl false=>oJ c t σ|_=>.bad
 |_,_=>.bad
noncomputable def evs(c:Cf):E->Ev->Out (List Rv)
 |.nil,σ=>.ok [] σ
 |.cons h t,σ=>(ev c h σ).bind fun x σ=>(evs c t σ).bind fun xs σ=>.ok (argv x::xs) σ
 |_,_=>.bad
end
inductive Fl where
 |next (σ:Ev)|ret (r:Rv) (σ:Ev)|brk (σ:Ev)|cont (σ:Ev)|exc (k:Nat) (σ:Ev)|bad
noncomputable def Out.fl{α:Type}:Out α->(α->Ev->Fl)->Fl
 |.ok a σ,f=>f a σ
 |.exc k σ,_=>.exc k σ
 |.bad,_=>.bad
noncomputable def Out.pN:Out Rv->(D->Ev->Fl)->Fl
 |.ok (.val d) σ,f=>f d σ
 |.ok (.new o) σ,f=>f o.d σ
 |.ok _ _,_=>.bad
 |.exc k σ,_=>.exc k σ
 |.bad,_=>.bad
noncomputable def Out.BR(r:Out Rv)(f:Bool->Ev->Fl):Fl:=r.pN fun d σ=>match iY d with|some b=>f b σ|none=>.bad
noncomputable def w6:Rv->Ev->Fl
 |.val d,σ=>.ret (.val d) σ
 |.new o,σ=>.ret (.new o) σ
 |_,_=>.bad
def Fl.seq:Fl->(Ev->Fl)->Fl
 |.next σ,f=>f σ
 |r,_=>r
noncomputable def Fl.turn:Fl->(Ev->Fl)->Fl
 |.next σ,f=>f σ
 |.cont σ,f=>f σ
 |.brk σ,_=>.next σ
 |r,_=>r
noncomputable def gk(tg:Tg)(b:Ev->Fl):List D->Ev->Fl
 |[],σ=>.next σ
 |x::xs,σ=>match fZ tg x σ with
  |none=>.bad
  |some σ₁=>(b σ₁).turn (gk tg b xs)
noncomputable def fW(t:Ev->Out Rv)(b:Ev->Fl):Nat->Ev->Fl
 |0,_=>.bad
 |n+1,σ=>(t σ).BR fun q σ=>if q then(b σ).turn (fW t b n)else .next σ
def JC:Option Ev->Fl
 |some σ=>.next σ
 |none=>.bad
noncomputable def acP(c:Cf)(f:Nat)(as:List Rv)(σ:Ev):Fl:=
 match enter as σ with
 |none=>.bad
 |some ps=>
  match c.fn f ps with
  |.ok _ qs=>JC (giveBack as qs σ)
  |.exc k qs=>match giveBack as qs σ with|some ζ=>.exc k ζ|none=>.bad
  |.bad=>.bad
noncomputable def ex(c:Cf):S->Ev->Fl
 |.nil,σ=>.next σ
 |.cons h t,σ=>(ex c h σ).seq (ex c t)
 |.pass,σ=>.next σ
 |.brk,σ=>.brk σ
 |.cont,σ=>.cont σ
 |.set i e,σ=>(ev c e σ).fl fun x σ=>JC (x.IV.bind fun s=>f9 i s σ)
 |.setT is e,σ=>(ev c e σ).pN fun x σ=>JC (fZ (.tup is) x σ)
 |.setIx k ix e,σ=>(ev c e σ).pN fun x σ=>if (aX k σ).isNone then .bad else(ev c ix σ).pN fun y σ=>JC (fH k (xu y x) σ)
 |.expr e,σ=>(ev c e σ).pN fun _ σ=>.next σ
 |.append k e,σ=>if !ql (aX k σ)then .bad else(ev c e σ).pN fun x σ=>JC (fH k (VH fun xs=>if fits (xs.length+1)then some (xs++[x])else none) σ)
 |.ret e,σ=>match e.aF with
  |some i=>match σ[i]? with
   |some (.own o)=>.ret (.new o) (σ.set i .un)
   |_=>(ev c e σ).fl w6
  |none=>(ev c e σ).fl w6
 |.ite t a b,σ=>(ev c t σ).BR fun q σ=>if q then ex c a σ else ex c b σ
 |.for_ tg it b,σ=>(ev c it σ).pN fun x σ=>match items x with
  |some xs=>gk tg (ex c b) xs σ
  |none=>.bad
 |.while_ t b,σ=>fW (ev c t) (ex c b) c.turns σ
 |.raise k,σ=>.exc k σ
 |.callx f as,σ=>(evs c as σ).fl fun as σ=>acP c f as σ
structure Fn where
 pars:Nat
 names:Nat
 body:S
noncomputable def gW(c:Cf)(f:Fn)(ps:List Sl):Res:=
 if ps.length=f.pars then
  match ex c f.body (ps++List.replicate (f.names-f.pars) .un)with
  |.next σ=>.ok (.val .non) (σ.take f.pars)
  |.ret r σ=>.ok r (σ.take f.pars)
  |.exc k σ=>.exc k (σ.take f.pars)
  |_=>.bad
 else .bad
structure Pg where
 fns:List Fn
 gl:Nat->Option D
 turns:Nat
 pf:Cf->Nat->List Sl->Res:=fun _ _ _=>.bad
noncomputable def Pg.fn(p:Pg):Nat->Nat->List Sl->Res
 |0,_,_=>.bad
 |n+1,f,ps=>match p.fns[f]? with
  |some g=>gW ⟨p.fn n,p.gl,p.turns⟩ g ps
  |none=>p.pf ⟨p.fn n,p.gl,p.turns⟩ f ps
def Pg.cf(p:Pg)(n:Nat):Cf:=⟨p.fn n,p.gl,p.turns⟩
def v_0 c(i σ):ev c (.var i) σ=rW i σ:=rfl
def v_2 c(k σ):ev c (.glob k) σ=match c.gl k with|some d=>.ok (.val d) σ|none=>.bad:=rfl
def v_6 c(a σ):ev c (.neg a) σ=(ev c a σ).au fun x σ=>lift σ (match x with|.int i=>some (.val (.int (-i)))|_=>none):=rfl
theorem v_7 c(o a b σ):ev c (.cmp o a b) σ=(ev c a σ).au fun x σ=>match b.aF with
  |some k=>lift σ ((aX k σ).bind fun d=>(aK o x d).map fun q=>.val (.bl q))
  |none=>(ev c b σ).au fun y σ=>lift σ ((aK o x y).map fun q=>.val (.bl q)):=rfl
def v_9 c(es σ):ev c (.and es) σ=iG c es σ:=rfl
def Rc c(es σ):ev c (.or es) σ=oJ c es σ:=rfl
def aaJ c(a σ):ev c (.not a) σ=(ev c a σ).cT iY fun b σ=>.ok (.val (.bl (!b))) σ:=rfl
theorem Wx c(a i σ):ev c (.idx a i) σ=match a.aF with
  |some k=>if (aX k σ).isNone then .bad else(ev c i σ).au fun y σ=>lift σ ((aX k σ).bind fun d=>(getD d y).map Rv.val)
  |none=>(ev c a σ).au fun x σ=>(ev c i σ).au fun y σ=>lift σ ((getD x y).map Rv.val):=rfl
def aen c(f as σ):ev c (.call f as) σ=(evs c as σ).bind fun as σ=>uo c f as σ:=rfl
theorem aaI c(i σ):ev c (.ref i) σ=match σ[i]? with
  |some (.own _)=>.ok (.ref i) σ
  |some (.bor _)=>.ok (.ref i) σ
  |_=>.bad:=rfl
def aaH c(e σ):ev c (.rd e) σ=ev c e σ:=rfl
def aem c(e σ):ev c (.tmp e) σ=(ev c e σ).bind fun x σ=>lift σ (match x with|.new o=>some (.tmp o)|_=>none):=rfl
theorem yK c(b a σ):ev c (.bi b a) σ=match a.aF with
  |some k=>lift σ ((aX k σ).bind fun d=>b1 b d)
  |none=>(ev c a σ).au fun x σ=>lift σ (b1 b x):=rfl
def ael c(a σ):ev c (.range1 a) σ=(ev c a σ).au fun x σ=>lift σ (match x with|.int n=>if fits n.toNat&&Ha n then some (.val (.lst (cD 0 n.toNat)))else none|_=>none):=rfl
def aek c(a b σ):ev c (.zip a b) σ=(ev c a σ).au fun x σ=>(ev c b σ).au fun y σ=>lift σ ((bF x).bind fun xs=>(bF y).map fun ys=>.val (.lst (cC xs ys))):=rfl
theorem BX c(nl tg it cond elt σ):ev c (.comp nl tg it cond elt) σ=(ev c it σ).au fun x σ=>match items x with
  |some xs=>match bx tg (ev c cond) (ev c elt) xs [] (List.replicate nl .un++σ)with
   |.ok ys τ=>.ok (.new (.lst ys)) (τ.drop nl)
   |_=>.bad
  |none=>.bad:=rfl
theorem Ww c(d k x σ):ev c (.get2 d k x) σ=match d.aF with
  |some i=>if !tH (aX i σ)then .bad else(ev c k σ).au fun k σ=>(ev c x σ).au fun x σ=>lift σ ((aX i σ).bind fun y=>(qu y k x).map Rv.val)
  |none=>.bad:=rfl
def aej c(es σ):ev c (.dsp es) σ=(evs c es σ).bind fun rs σ=>lift σ ((cV rs).bind Aw):=rfl
def x_1 c(h t σ):ex c (.cons h t) σ=(ex c h σ).seq (ex c t):=rfl
def x_7 c(k ix e σ):ex c (.setIx k ix e) σ=(ev c e σ).pN fun x σ=>if (aX k σ).isNone then .bad else(ev c ix σ).pN fun y σ=>JC (fH k (xu y x) σ):=rfl
def x_9 c(k e σ):ex c (.append k e) σ=if !ql (aX k σ)then .bad else(ev c e σ).pN fun x σ=>JC (fH k (VH fun xs=>if fits (xs.length+1)then some (xs++[x])else none) σ):=rfl
theorem Ik c(e σ):ex c (.ret e) σ=match e.aF with
  |some i=>match σ[i]? with
   |some (.own o)=>.ret (.new o) (σ.set i .un)
   |_=>(ev c e σ).fl w6
  |none=>(ev c e σ).fl w6:=rfl
theorem aeh c(tg it b σ):ex c (.for_ tg it b) σ=(ev c it σ).pN fun x σ=>match items x with
  |some xs=>gk tg (ex c b) xs σ
  |none=>.bad:=rfl
end Mini
end
section
namespace Mini
open PySem L2
def QX(K:QQq)(H:Hp)(a:Addr)(xs:List V):Prop:=
 (∃o,H a=some (.frz o (.lst xs)))\/
  ∃(o:Obj)(its:Array Value)(n:Nat),K.lookup a=some o/\o.cls=.type "list"/\o.dict=none/\o.data=.seq its n/\its.size<=sizeLine/\Vals xs its.toList
def QX.sq{H:Hp}{xs:List V}(h:QX K H a xs):lC K H a xs:=by
 rcases h with ⟨o,h⟩|h
 ·exact .inl (.inr ⟨o,h⟩)
 ·exact .inr h
def dm:Key->D
 |.inl i=>.int i
 |.inr x=>.str x
mutual
def py:D->PyData
 |.non=>.none
 |.bl b=>.bool b
 |.int i=>.int i
 |.str x=>.str x
 |.tup xs=>.tuple (yD xs)
 |.lst xs=>.list (yD xs)
 |.dG _ _=>.none
 |.iy _ _=>.none
def yD:List D->List PyData
 |[]=>[]
 |x::xs=>py x::yD xs
end
def kC(d:D):SK:=cn (py d)
mutual
def aL(K:QQq)(H:Hp):D->V->Prop
 |.non,v=>v=.non
 |.bl b,v=>v=.bl b
 |.int i,v=>v=.int i
 |.str x,v=>v=.str x
 |.tup ds,v=>∃a vs,v=.ref a/\jM K H a vs/\ao K H ds vs
 |.lst ds,v=>∃a vs,v=.ref a/\QX K H a vs/\ao K H ds vs
 |.dG ks ds,v=>∃a o kvs,v=.ref a/\H a=some (.frz o (.dK kvs))/\ks=kvs.map (fun p=>dm p.1)/\ao K H ds (kvs.map (·.2))
 |.iy ks ds,v=>∃a o xs,v=.ref a/\H a=some (.frz o (.dS xs))/\ks.map kC=xs.map (·.1)/\ks.all cH=true/\ao K H ks (xs.map fun x=>.ref x.2.1)/\ao K H ds (xs.map (·.2.2))
def ao(K:QQq)(H:Hp):List D->List V->Prop
 |[],vs=>vs=[]
 |d::ds,vs=>∃v r,vs=v::r/\aL K H d v/\ao K H ds r
end
structure bz(H H':Hp):Prop where
 tups:∀b xs,H b=some (.tup xs)->H' b=some (.tup xs)
 frzs:∀b o u,H b=some (.frz o u)->H' b=some (.frz o u)
def bz.refl H:bz H H:=⟨fun _ _ h=>h,fun _ _ _ h=>h⟩
def bz.trans(a:bz H H1)(b:bz H1 H2):bz H H2:=⟨fun c xs h=>b.tups c xs (a.tups c xs h),fun c o u h=>b.frzs c o u (a.frzs c o u h)⟩
section
def bz.Xb(p:bz H H')(h:jM K H a xs):jM K H' a xs:=by
 rcases h with (h|⟨o,h⟩)|h
 ·exact .inl (.inl (p.tups _ _ h))
 ·exact .inl (.inr ⟨o,p.frzs _ _ _ h⟩)
 ·exact .inr h
def bz.Zj(p:bz H H')(h:QX K H a xs):QX K H' a xs:=by
 rcases h with ⟨o,h⟩|h
 ·exact .inl ⟨o,p.frzs _ _ _ h⟩
 ·exact .inr h
mutual
theorem aL.mono(p:bz H H'):∀{d:D}{v:V},aL K H d v->aL K H' d v
 |.non,_,h=>h
 |.bl _,_,h=>h
 |.int _,_,h=>h
 |.str _,_,h=>h
 |.tup ds,v,h=>by unfold aL at h⊢;obtain⟨a,vs,e,s,l⟩:=h;exact⟨a,vs,e,p.Xb s,ao.mono p l⟩
 |.lst ds,v,h=>by unfold aL at h⊢;obtain⟨a,vs,e,s,l⟩:=h;exact⟨a,vs,e,p.Zj s,ao.mono p l⟩
 |.dG ks ds,v,h=>by unfold aL at h⊢;obtain⟨a,o,kvs,e,s,k,l⟩:=h;exact⟨a,o,kvs,e,p.frzs _ _ _ s,k,ao.mono p l⟩
 |.iy ks ds,v,h=>by unfold aL at h⊢;obtain⟨a,o,xs,e,s,k,ka,l1,l⟩:=h;exact⟨a,o,xs,e,p.frzs _ _ _ s,k,ka,ao.mono p l1,ao.mono p l⟩
theorem ao.mono(p:bz H H'):∀{ds:List D}{vs:List V},ao K H ds vs->ao K H' ds vs
 |[],_,h=>by unfold ao at h⊢;exact h
 |d::ds,vs,h=>by obtain⟨v,r,e,s,l⟩:=h;exact⟨v,r,e,aL.mono p s,ao.mono p l⟩
end
def ao.bV:ao K H [] vs↔vs=[]:=by unfold ao;exact Iff.rfl
def ao.aH{ds:List D}:ao K H (d::ds) vs↔ ∃v r,vs=v::r/\aL K H d v/\ao K H ds r:=by
 constructor
 ·intro h;unfold ao at h;exact h
 ·intro h;unfold ao;exact h
def ao.aZ{ds:List D}{vs:List V}(h:aL K H d v)(t:ao K H ds vs):ao K H (d::ds) (v::vs):=ao.aH.mpr ⟨v,vs,rfl,h,t⟩
def ao.dZ:ao K H [] []:=ao.bV.mpr rfl
theorem ao.length:∀{ds:List D}{vs:List V},ao K H ds vs->ds.length=vs.length
 |[],_,h=>by rw[ao.bV.mp h];rfl
 |d::ds,vs,h=>by obtain⟨v,r,rfl,_,t⟩:=ao.aH.mp h;simp[ao.length t]
theorem ao.get:∀{ds:List D}{vs:List V}{i:Nat}{d:D},ao K H ds vs->ds[i]? =some d->∃v,vs[i]? =some v/\aL K H d v
 |[],_,_,_,_,e=>by simp at e
 |d::ds,vs,i,d',h,e=>by
  obtain⟨v,r,rfl,hd,t⟩:=ao.aH.mp h;cases i with
  |zero=>simp at e;subst e;exact⟨v,rfl,hd⟩
  |succ i=>obtain⟨w,q,z⟩:=ao.get t (by simpa using e);exact⟨w,by simpa using q,z⟩
theorem ao.append:∀{ds es:List D}{vs ws:List V},ao K H ds vs->ao K H es ws->ao K H (ds++es) (vs++ws)
 |[],_,_,_,h,t=>by rw[ao.bV.mp h];exact t
 |d::ds,es,vs,ws,h,t=>by obtain⟨v,r,rfl,hd,q⟩:=ao.aH.mp h;exact ao.aZ hd (ao.append q t)
theorem ao.take:∀{ds:List D}{vs:List V}(n:Nat),ao K H ds vs->ao K H (ds.take n) (vs.take n)
 |_,_,0=>fun _=>ao.dZ
 |[],_,_+1=>fun h=>by rw[ao.bV.mp h];exact ao.dZ
 |d::ds,vs,n+1=>fun h=>by obtain⟨v,r,rfl,hd,q⟩:=ao.aH.mp h;exact ao.aZ hd (ao.take n q)
theorem ao.drop:∀{ds:List D}{vs:List V}(n:Nat),ao K H ds vs->ao K H (ds.drop n) (vs.drop n)
 |_,_,0=>fun h=>h
 |[],_,_+1=>fun h=>by rw[ao.bV.mp h];exact ao.dZ
 |d::ds,vs,n+1=>fun h=>by obtain⟨v,r,rfl,hd,q⟩:=ao.aH.mp h;exact ao.drop n q
theorem ao.set{v:V}(hd:aL K H d v):∀{ds:List D}{vs:List V}(n:Nat),ao K H ds vs->ao K H (ds.set n d) (vs.set n v)
 |[],_,_=>fun h=>by rw[ao.bV.mp h];exact ao.dZ
 |e::ds,vs,0=>fun h=>by obtain⟨w,r,rfl,he,q⟩:=ao.aH.mp h;exact ao.aZ hd q
 |e::ds,vs,n+1=>fun h=>by obtain⟨w,r,rfl,he,q⟩:=ao.aH.mp h;exact ao.aZ he (ao.set hd n q)
end
def isOwn:Sl->Option Ob
 |.own o=>some o
 |.bor o=>some o
 |_=>none
def gO(K:QQq)(H:Hp)(ks ds:List D)(xs:List SV):Prop:=ks.map kC=xs.map (·.1)/\ks.all cH=true/\ao K H ks (xs.map fun x=>.ref x.2.1)/\ao K H ds (xs.map (·.2.2))
theorem gO.mono{K:QQq}{H H':Hp}{ks ds:List D}{xs:List SV}(p:bz H H')(h:gO K H ks ds xs):gO K H' ks ds xs:=⟨h.1,h.2.1,h.2.2.1.mono p,h.2.2.2.mono p⟩
noncomputable def yG(K:QQq)(H:Hp):Ob->HO->Prop
 |.lst xs,u=>∃vs,u=.lst vs/\ao K H xs vs
 |.dct ks ds,u=>∃kvs,u=.dK kvs/\ks=kvs.map (fun p=>dm p.1)/\ao K H ds (kvs.map (·.2))
 |.sdt ks ds,u=>∃xs,u=.dS xs/\gO K H ks ds xs
theorem yG.mono{K:QQq}{H H':Hp}(p:bz H H'):∀{o:Ob}{u:HO},yG K H o u->yG K H' o u
 |.lst _,_,⟨vs,e,l⟩=>⟨vs,e,l.mono p⟩
 |.dct _ _,_,⟨kvs,e,k,l⟩=>⟨kvs,e,k,l.mono p⟩
 |.sdt _ _,_,⟨xs,e,l⟩=>⟨xs,e,l.mono p⟩
structure Fz(u:HO):Prop where
 tup:∀xs,u≠ .tup xs
 frz:∀q w,u≠ .frz q w
 tbl:∀ps,u≠ .tbl ps
 own:∀x,u≠ .own x
theorem yG.n8{H:Hp}:∀{o:Ob}{u:HO},yG K H o u->Fz u
 |.lst _,_,⟨vs,e,_⟩=>by subst e;constructor;all_goals (intros;intro z;cases z)
 |.dct _ _,_,⟨kvs,e,_⟩=>by subst e;constructor;all_goals (intros;intro z;cases z)
 |.sdt _ _,_,⟨xs,e,_⟩=>by subst e;constructor;all_goals (intros;intro z;cases z)
def jq(K:QQq)(H:Hp)(o:Ob)(a:Addr):Prop:=∃u,H a=some u/\yG K H o u
noncomputable def UV(K:QQq)(H:Hp):Sl->Option V->Prop
 |.un,_=>True
 |.val d,o=>∃v,o=some v/\aL K H d v
 |.own q,o=>∃a,o=some (.ref a)/\jq K H q a
 |.bor q,o=>∃a,o=some (.ref a)/\jq K H q a
def aJ(env:Ev)(σ:St)(i:Nat)(a:Addr):Prop:=(∃s xs,env[i]? =some s/\isOwn s=some xs)/\σ[i]? =some (some (.ref a))
structure Sat(K:QQq)(env:Ev)(σ:St)(H:Hp):Prop where
 len:env.length=σ.length
 sl:∀(i:Nat)s,env[i]? =some s->UV K H s (σ[i]?).join
 ne:∀(i j:Nat)a,aJ env σ i a->aJ env σ j a->i=j
structure Nx(K:QQq)(env:Ev)(σ:St)(H:Hp)(env':Ev)(H':Hp):Prop where
 gw:Sat K env' σ H'
 sub:∀(i:Nat)a,aJ env' σ i a->aJ env σ i a
 pers:bz H H'
 keep:∀b u,H b=some u->(∀i,¬aJ env σ i b)->H' b=some u
 dom:∀b,H' b=none->H b=none
 bors:∀(i:Nat)xs,env[i]? =some (.bor xs)->∃ys,env'[i]? =some (.bor ys)
section
theorem Nx.refl(h:Sat K env σ H):Nx K env σ H env H:=⟨h,fun _ _ z=>z,bz.refl H,fun _ _ z _=>z,fun _ z=>z,fun _ xs e=>⟨xs,e⟩⟩
theorem Nx.trans(a:Nx K env σ H δ H1)(b:Nx K δ σ H1 ε H2):Nx K env σ H ε H2:=
 ⟨b.gw,fun i c z=>a.sub i c (b.sub i c z),a.pers.trans b.pers,fun c vs z n=>b.keep c vs (a.keep c vs z n) fun i w=>n i (a.sub i c w),fun c z=>a.dom c (b.dom c z),fun i xs e=>let ⟨ys,e1⟩:=a.bors i xs e;b.bors i ys e1⟩
theorem Sat.own(h:Sat K env σ H){a:Addr}(o:aJ env σ i a):∃q,jq K H q a:=by
 obtain⟨⟨s,xs,e1,e2⟩,e3⟩:=o;have q:=h.sl i s e1;rw[e3]at q;cases s with
 |un=>simp[isOwn]at e2
 |val d=>simp[isOwn]at e2
 |own ys=>obtain⟨b,e,z⟩:=q;cases e;exact⟨ys,z⟩
 |bor ys=>obtain⟨b,e,z⟩:=q;cases e;exact⟨ys,z⟩
def Sat.nq(h:Sat K env σ H)(hn:H a=none)i:¬aJ env σ i a:=fun o=>by obtain⟨q,u,z,_⟩:=h.own o;rw[hn]at z;cases z
end
noncomputable def iB(K:QQq)(σ:St)(H₀ H:Hp):Rv->V->Prop
 |.val d,v=>aL K H d v
 |.new q,v=>∃a,v=.ref a/\jq K H q a/\H₀ a=none
 |.tmp q,v=>∃a,v=.ref a/\jq K H q a/\H₀ a=none
 |.ref i,v=>σ[i]? =some (some v)
abbrev Wi:=Nat->Ev->St->Hp->Prop
noncomputable def tM(K:QQq)(W:Wi)(env:Ev)(r:Out Rv):TE:=fun σ H Q=>Sat K env σ H/\match r with
 |.ok x env'=>∀v H',Nx K env σ H env' H'->iB K σ H H' x v->Q v H'
 |.exc c env'=>∀H',Nx K env σ H env' H'->W c env' σ H'
 |.bad=>False
noncomputable def tD(K:QQq)(W:Wi)(env:Ev)(r:Out Rv):TE:=fun σ H Q=>Sat K env σ H/\match r with
 |.ok (.val d) env'=>∀v H',Nx K env σ H env' H'->aL K H' d v->Q v H'
 |.ok (.new q) env'=>∀v H',Nx K env σ H env' H'->aL K H' q.d v->Q v H'
 |.ok _ _=>False
 |.exc c env'=>∀H',Nx K env σ H env' H'->W c env' σ H'
 |.bad=>False
noncomputable def tT(K:QQq)(W:Wi)(env:Ev)(r:Out Rv):TT:=fun σ H Q=>Sat K env σ H/\match r with
 |.ok x env'=>∃d b,x.kO=some d/\iY d=some b/\∀H',Nx K env σ H env' H'->Q b H'
 |.exc c env'=>∀H',Nx K env σ H env' H'->W c env' σ H'
 |.bad=>False
def PE.imp{e:Expr}(h:PE X e t)(i:∀σ H Q,t' σ H Q->t σ H Q):PE X e t':=fun γ s σ H Q I q=>h γ s σ H Q I (i σ H Q q)
def PT.imp{e:Expr}(h:PT X e t)(i:∀σ H Q,t' σ H Q->t σ H Q):PT X e t':=fun γ s σ H Q I q=>h γ s σ H Q I (i σ H Q q)
def _root_.L2.bZ.there{w:World}{h:Heap}{o:HO}(x:bZ P w H h a o):∃u,h.get? a=some u:=by
 cases o with
 |lst xs=>obtain⟨_,_,_,_,e⟩:=x;exact⟨_,e⟩
 |tup xs=>obtain⟨_,_,_,p⟩:=x;obtain⟨o,e,_⟩:=p;exact⟨_,e⟩
 |dK kvs=>obtain⟨_,_,_,_,o,_,_,e,_⟩:=x;exact⟨_,e⟩
 |dT kvs=>obtain⟨_,_,_,_,o,_,_,e,_⟩:=x;exact⟨_,e⟩
 |dS xs=>obtain⟨_,_,_,_,o,_,_,_,e,_⟩:=x;exact⟨_,e⟩
 |set S n=>obtain⟨o,_,_,_,e,_⟩:=x;exact⟨_,e⟩
 |ins C dx fs=>obtain⟨_,_,_,e,_⟩:=x;exact⟨_,e⟩
 |own y=>obtain⟨_,e⟩:=x;exact⟨_,e⟩
 |xd fs=>obtain⟨_,⟨_,_,_,e,_⟩,_⟩:=x;exact⟨_,e⟩
 |rng lo hi=>obtain⟨_,_,_,e⟩:=x;exact⟨_,e⟩
 |frz ob u=>obtain⟨e,_⟩:=x;exact⟨_,e⟩
 |tbl ps=>exact⟨_,show h.get? a=some _ from x⟩
 |met f y=>exact⟨_,show h.get? a=some _ from x⟩
 |ext φ=>obtain⟨_,⟨_,e⟩,_⟩:=x;exact⟨_,e⟩
def Inv.freeze{X:Cx}{σ:St}{H:Hp}{a:Addr}(I:Inv X γ σ H s)(h:H a=some u)(hu:Fz u):
  ∃o,Inv X γ σ (upd H a (.frz o u)) s:=by
 obtain⟨o,ho⟩:=(I.hok a _ h).there;refine⟨o,?_⟩;have ne:∀b w,H b=some w->w≠u->b≠a:=fun b w q n z=>by subst z;rw[h]at q;cases q;exact n rfl
 have stay:∀b w,b≠a->H b=some w->upd H a (.frz o u) b=some w:=fun b w n q=>by rw[ak n];exact q
 have hok:mQ X.prog X.w (upd H a (.frz o u)) s.heap:=fun b w q=>by
  have st:∀c v,bZ X.prog X.w H s.heap c v->bZ X.prog X.w _ s.heap c v:=fun c v z=>z.stay (fun c v _ q=>q) (fun e q=>stay e _ (ne e _ q (hu.own c).symm) q) fun e xs q=>stay e _ (ne e _ q (hu.tup xs).symm) q
  by_cases hb:b=a
  ·subst hb;rw[aq]at q;cases q;exact⟨ho,st _ _ (I.hok b _ h)⟩
  ·rw[ak hb]at q;exact st _ _ (I.hok b w q)
 have J:=I.step (t':=s.toks) (d':=s.drawn) (ch:=[]) (fun _ z=>nomatch z)
  (fun b o _ _ _ q _=>q) (fun b o _ _ _ q _=>⟨o.slots,q⟩) (fun b o _ q n=>by rw[ak (fun z=>by subst z;rw[h]at n;cases n)];exact n) (fun b o _ q=>⟨o,q⟩)
  (fun b xs q=>stay b _ (ne b _ q (hu.tup xs).symm) q) (fun b o w q=>stay b _ (ne b _ q (hu.frz o w).symm) q) (fun b ps q=>⟨#[],by rw[stay b _ (ne b _ q (hu.tbl ps).symm) q];simp⟩) (fun m q=>q) hok I.bare
 exact J
section
def dJ(h:H a=some u)(hu:Fz u):bz H (upd H a (.frz o u)):=by
 refine⟨fun b xs q=>?_,fun b o' w q=>?_⟩
 ·rw[ak (fun z=>by subst z;rw[h]at q;cases q;exact hu.tup xs rfl)];exact q
 ·rw[ak (fun z=>by subst z;rw[h]at q;cases q;exact hu.frz o' w rfl)];exact q
def yG.den{H':Hp}(h:yG K H' q u)(e:H' a=some (.frz o u)):aL K H' q.d (.ref a):=by
 cases q with
 |lst xs=>obtain⟨vs,rfl,l⟩:=h;show aL K H' (.lst xs) (.ref a);unfold aL;exact⟨a,vs,rfl,.inl ⟨o,e⟩,l⟩
 |dct ks ds=>obtain⟨kvs,rfl,k,l⟩:=h;show aL K H' (.dG ks ds) (.ref a);unfold aL;exact⟨a,o,kvs,rfl,e,k,l⟩
 |sdt ks ds=>obtain⟨xs,rfl,l⟩:=h;show aL K H' (.iy ks ds) (.ref a);unfold aL;exact⟨a,o,xs,rfl,e,l⟩
def UV.keep{sl:Sl}(p:bz H H')(h:UV K H sl v)(k:∀b u,isOwn sl≠none->v=some (.ref b)->H b=some u->H' b=some u):UV K H' sl v:=by
 cases sl with
 |un=>trivial
 |val d=>obtain⟨v,e1,e2⟩:=h;exact⟨v,e1,e2.mono p⟩
 |own q=>obtain⟨b,e1,w,e2,e3⟩:=h;exact⟨b,e1,w,k b w (by simp[isOwn]) e1 e2,e3.mono p⟩
 |bor q=>obtain⟨b,e1,w,e2,e3⟩:=h;exact⟨b,e1,w,k b w (by simp[isOwn]) e1 e2,e3.mono p⟩
def xH{sl:Sl}(e:env[i]? =some sl)(ho:isOwn sl≠none)(ev:(σ[i]?).join=some (.ref b)):aJ env σ i b:=by
 refine⟨?_,?_⟩
 ·cases q:isOwn sl with
  |none=>exact absurd q ho
  |some o=>exact⟨sl,o,e,q⟩
 ·cases w:σ[i]? with
  |none=>rw[w]at ev;cases ev
  |some y=>rw[w]at ev;simp at ev;rw[ev]
theorem Sat.keep(S:Sat K env σ H)(p:bz H H')(k:∀i b u,aJ env σ i b->H b=some u->H' b=some u):Sat K env σ H':=
 ⟨S.len,fun i sl e=>(S.sl i sl e).keep p fun b u ho ev hb=>k i b u (xH e ho ev) hb,S.ne⟩
def Sat.freeze(S:Sat K env σ H)(h:H a=some u)(hu:Fz u)(no:∀i,¬aJ env σ i a):Sat K env σ (upd H a (.frz o u)):=
 S.keep (dJ h hu) fun i b w ow hb=>by rw[ak (fun z=>by subst z;exact no i ow)];exact hb
end
def Ng{W:Wi}{env:Ev}(h:PE X e (tM X.K W env r)):PE X e (tD X.K W env r):=by
 intro γ s σ H Q I q;obtain⟨S,q⟩:=q;cases r with
 |bad=>exact q.elim
 |exc c env'=>exact h γ s σ H Q I ⟨S,q⟩
 |ok x env'=>
  cases x with
  |val d=>exact h γ s σ H Q I ⟨S,q⟩
  |ref i=>exact False.elim q
  |tmp xs=>exact False.elim q
  |new xs=>
   refine bJ (h γ s σ H (fun v H'=>Nx X.K env σ H env' H'/\iB X.K σ H H' _ v) I ⟨S,fun v H' n k=>⟨n,k⟩⟩) fun u s1⟨v,H1,I1,r1,N,k⟩=>?_;obtain⟨a,rfl,⟨u,ha,hl⟩,h0⟩:=k;have hu:=hl.n8;obtain⟨o,I2⟩:=Inv.freeze I1 ha hu;have p:=dJ (o:=o) ha hu;refine⟨.ref a,_,I2,r1,q _ _ ⟨N.gw.freeze ha hu (fun i z=>S.nq h0 i (N.sub i a z)),N.sub,N.pers.trans p,fun b ws z n=>?_,fun b z=>?_,N.bors⟩ ((hl.mono p).den aq)⟩
   ·rw[ak (fun w=>by subst w;rw[h0]at z;cases z)];exact N.keep b ws z n
   ·refine N.dom b ?_;by_cases hb:b=a
    ·subst hb;rw[aq]at z;cases z
    ·rw[ak hb]at z;exact z
def iB.weaken{σ:St}{x:Rv}(h:iB K σ H1 H x v)(d:∀b,H1 b=none->H0 b=none):iB K σ H0 H x v:=by
 cases x with
 |val d=>exact h
 |ref i=>exact h
 |new xs=>obtain⟨a,e,p,z⟩:=h;exact⟨a,e,p,d a z⟩
 |tmp xs=>obtain⟨a,e,p,z⟩:=h;exact⟨a,e,p,d a z⟩
section
def Vi{H1:Hp}(S:tM K W env r σ H Q)(N:Nx K env σ H δ H1):tM K W δ r σ H1 Q:=by
 obtain⟨_,h⟩:=S;refine⟨N.gw,?_⟩;cases r with
 |bad=>exact h
 |exc c ε=>exact fun H' N'=>h H' (N.trans N')
 |ok x ε=>exact fun v H' N' z=>h v H' (N.trans N') (z.weaken N.dom)
theorem aO{f:D->Ev->Out Rv}(h:tM K W env (r.au f) σ H Q)
  (k:∀d δ v H1,Nx K env σ H δ H1->aL K H1 d v->tM K W δ (f d δ) σ H1 Q->R v H1):tD K W env r σ H R:=by
 have step:∀d δ,r.au f=f d δ->∀v H1,Nx K env σ H δ H1->aL K H1 d v->R v H1:=fun d δ e v H1 N D=>by rw[e]at h;exact k d δ v H1 N D (Vi h N)
 obtain⟨S,h⟩:=h;refine⟨S,?_⟩;cases r with
 |bad=>exact h
 |exc c δ=>exact h
 |ok x δ=>
  cases x with
  |val d=>exact fun v H1 N D=>step d δ rfl v H1 N D
  |new xs=>exact fun v H1 N D=>step xs.d δ rfl v H1 N D
  |ref i=>exact h
  |tmp xs=>exact h
theorem yU{f:Bool->Ev->Out Rv}(h:tM K W env (r.cT iY f) σ H Q)
  (k:∀b δ H1,Nx K env σ H δ H1->tM K W δ (f b δ) σ H1 Q->R b H1):tT K W env r σ H R:=by
 have step:∀d δ x,x.kO=some d->r=.ok x δ->∃b,iY d=some b/\∀H1,Nx K env σ H δ H1->R b H1:=fun d δ x ex er=>by
  subst er;cases q:iY d with
  |none=>
   cases x with
   |val d'=>cases ex;simp only[Out.cT,Out.au,q]at h;exact h.2.elim
   |new xs=>cases ex;simp only[Out.cT,Out.au,q]at h;exact h.2.elim
   |ref i=>cases ex
   |tmp xs=>cases ex
  |some b=>
   refine⟨b,rfl,fun H1 N=>k b δ H1 N (Vi ?_ N)⟩;cases x with
   |val d'=>cases ex;simp only[Out.cT,Out.au,q]at h;exact h
   |new xs=>cases ex;simp only[Out.cT,Out.au,q]at h;exact h
   |ref i=>cases ex
   |tmp xs=>cases ex
 refine⟨h.1,?_⟩;cases r with
 |bad=>exact h.2
 |exc c δ=>exact h.2
 |ok x δ=>
  cases x with
  |val d=>obtain⟨b,e,q⟩:=step d δ _ rfl rfl;exact⟨d,b,rfl,e,q⟩
  |new xs=>obtain⟨b,e,q⟩:=step xs.d δ _ rfl rfl;exact⟨xs.d,b,rfl,e,q⟩
  |ref i=>exact h.2.elim
  |tmp xs=>exact h.2.elim
def dC(h:tM K W env (lift env o) σ H Q):∃z,o=some z/\Sat K env σ H/\∀v H',Nx K env σ H env H'->iB K σ H H' z v->Q v H':=by
 obtain⟨S,h⟩:=h;cases o with
 |none=>exact h.elim
 |some z=>exact⟨z,rfl,S,h⟩
def eX{v:V}(h:tM K W env (.ok (.val d) env) σ H Q)(e:aL K H d v):Q v H:=h.2 v H (Nx.refl h.1) e
def Nx.laid{o:HO}(S:Sat K env σ H)(hp:H p=none):Nx K env σ H env (upd H p o):=by
 have ne:∀b u,H b=some u->b≠p:=fun b u q z=>by subst z;rw[hp]at q;cases q
 have pe:bz H (upd H p o):=⟨fun b xs q=>by rw[ak (ne b _ q)];exact q,fun b o' u q=>by rw[ak (ne b _ q)];exact q⟩;refine⟨S.keep pe fun i b u _ q=>by rw[ak (ne b _ q)];exact q,fun _ _ z=>z,pe,fun b vs q _=>by rw[ak (ne b _ q)];exact q,fun b q=>?_,fun _ xs e=>⟨xs,e⟩⟩
 ·by_cases hb:b=p
  ·subst hb;exact hp
  ·rw[ak hb]at q;exact q
end
def GE(X:Cx)(W:Wi)(c:Cf)(m:E)(e:Expr):Prop:=∀env,PE X e (tM X.K W env (ev c m env))
def aD(X:Cx)(W:Wi)(c:Cf)(m:E):TE:=fun σ H Q=>∃env,tD X.K W env (ev c m env) σ H Q
def aT(X:Cx)(W:Wi)(c:Cf)(m:E):TT:=fun σ H Q=>∃env,tT X.K W env (ev c m env) σ H Q
def GT(X:Cx)(W:Wi)(c:Cf)(m:E)(e:Expr):Prop:=PT X e (aT X W c m)
section
def GE.d(h:GE X W c m e):PE X e (aD X W c m):=fun γ s σ H Q I⟨env,q⟩=>Ng (h env) γ s σ H Q I q
theorem aL.iY{H:Hp}{v:V}(h:aL K H x v)(e:iY x=some k):KJ K v H k:=by
 cases x with
 |non=>cases h;simp[Mini.iY]at e;subst e;rfl
 |bl b=>cases h;simp[Mini.iY]at e;subst e;rfl
 |int i=>cases h;simp[Mini.iY]at e;subst e;rfl
 |str y=>simp[Mini.iY]at e
 |tup xs=>obtain⟨p,vs,rfl,hq,l⟩:=h;have e':=QEq e;refine .inr (.inl ⟨vs,hq,?_⟩);have:=l.length;cases xs<;>cases vs<;>simp_all
 |lst xs=>obtain⟨p,vs,rfl,hq,l⟩:=h;have e':=QEq e;refine .inl ⟨vs,hq.sq,?_⟩;have:=l.length;cases xs<;>cases vs<;>simp_all
 |dG ks vs=>simp[Mini.iY]at e
 |iy ks vs=>simp[Mini.iY]at e
def yW{env:Ev}{σ:St}{Q:Bool->Hp->Prop}(h:tT K W env r σ H Q):tD K W env r σ H (fun v H'=>∃k,KJ K v H' k/\Q k H'):=by
 obtain⟨S,h⟩:=h;refine⟨S,?_⟩;cases r with
 |bad=>exact h
 |exc c δ=>exact h
 |ok x δ=>
  obtain⟨d,b,e1,e2,q⟩:=h;cases x with
  |val d'=>cases e1;exact fun v H' N D=>⟨b,D.iY e2,q H' N⟩
  |new xs=>cases e1;exact fun v H' N D=>⟨b,D.iY e2,q H' N⟩
  |ref i=>cases e1
  |tmp xs=>cases e1
def GE.t(h:GE X W c m e)(he:∀whole,isTrue e X.env whole=(do let v<-whole;standAt e.pos;holding [v] (truthy v))):GT X W c m e:=
 PT.imp (zH h.d he) fun σ H Q⟨env,q⟩=>⟨env,yW q⟩
noncomputable def GD:D->Const->Bool
 |.non,.none=>true
 |.bl b,.bool b'=>b==b'
 |.int i,.int j=>i==j
 |.str x,.str y=>decide (x=y)
 |_,_=>false
def Zf{k:Const}(h:GD x k=true):GE X W c (.con x) (.Constant k i pos):=by
 intro env;cases x with
 |non=>cases k<;>first|exact PE.imp Dh (fun σ H Q q=>eX q rfl)|simp[GD]at h
 |bl y=>cases k<;>first|(simp[GD]at h;subst h;exact PE.imp abN (fun σ H Q q=>eX q rfl))|simp[GD]at h
 |int y=>cases k<;>first|(simp[GD]at h;subst h;exact PE.imp Nk (fun σ H Q q=>eX q rfl))|simp[GD]at h
 |str y=>cases k<;>first|(simp[GD]at h;subst h;exact PE.imp XH (fun σ H Q q=>eX q rfl))|simp[GD]at h
 |tup _=>cases k<;>simp[GD]at h
 |lst _=>cases k<;>simp[GD]at h
 |dG _ _=>cases k<;>simp[GD]at h
 |iy _ _=>cases k<;>simp[GD]at h
def cB{σ:St}{i:Nat}(h:(σ[i]?).join=some v):σ[i]? =some (some v):=by
 cases w:σ[i]? with
 |none=>rw[w]at h;cases h
 |some y=>rw[w]at h;simp at h;rw[h]
def Nx.give{env:Ev}{H:Hp}{q:Ob}{a:Addr}{u:HO}(S:Sat K env σ H)(e:env[i]? =some (.own q))(es:σ[i]? =some (some (.ref a)))
  (ha:H a=some u)(l:yG K H q u):Nx K env σ H (env.set i (.val q.d)) (upd H a (.frz o u)):=by
 have p:=dJ (o:=o) ha l.n8;have oa:aJ env σ i a:=⟨⟨_,q,e,rfl⟩,es⟩;have hi:=(QCz.mp e).1;have sub:∀j b,aJ (env.set i (.val q.d)) σ j b->aJ env σ j b/\j≠i:=fun j b z=>by
  obtain⟨⟨s,ys,e1,e2⟩,e3⟩:=z;by_cases hj:i=j
  ·subst hj;rw[Qwq hi]at e1;cases e1;simp[isOwn]at e2
  ·rw[Qxz hj]at e1;exact⟨⟨⟨s,ys,e1,e2⟩,e3⟩,fun z=>hj z.symm⟩
 have ne:∀j b,aJ env σ j b->j≠i->b≠a:=fun j b z hj q=>hj (S.ne j i a (q▸z) oa);refine⟨⟨by simpa using S.len,fun j s ej=>?_,fun j k b z w=>S.ne j k b (sub j b z).1 (sub k b w).1⟩,fun j b z=>(sub j b z).1,p,fun b ws q n=>?_,fun b q=>?_,fun j ys ej=>?_⟩
 ·by_cases hj:i=j
  ·subst hj;rw[Qwq hi]at ej;cases ej;exact⟨.ref a,by rw[es];rfl,(l.mono p).den aq⟩
  ·rw[Qxz hj]at ej;refine(S.sl j s ej).keep p fun b w ho ev hb=>?_;rw[ak (ne j b (xH ej ho ev) fun z=>hj z.symm)];exact hb
 ·rw[ak (fun z=>by subst z;exact n i oa)];exact q
 ·by_cases hb:b=a
  ·subst hb;rw[aq]at q;cases q
  ·rw[ak hb]at q;exact q
 ·by_cases hj:i=j
  ·subst hj;rw[e]at ej;cases ej
  ·exact⟨ys,by rw[Qxz hj];exact ej⟩
def Y0{x:Str}(hN:X.N[i]? =some x)(hv:Fw X.env.scope x)(hd:(x==("__debug__":Str))=false)(hcd:(x==("__classdict__":Str))=false):GE X W c (.var i) (.Name x pos):=by
 intro env γ s σ H Q I q;have B:=cA (pos:=pos) hN hv hd hcd;simp only[v_0,rW]at q;cases e:env[i]? with
 |none=>rw[e]at q;exact q.2.elim
 |some sl=>
  rw[e]at q;cases sl with
  |un=>exact q.2.elim
  |bor xs=>exact q.2.elim
  |val d=>obtain⟨v,e1,e2⟩:=q.1.sl i _ e;exact B γ s σ H Q I ⟨v,cB e1,eX q e2⟩
  |own xs=>obtain⟨a,e1,w,e2,e3⟩:=q.1.sl i _ e;refine bJ (B γ s σ H (fun v H'=>v=.ref a/\H'=H) I ⟨.ref a,cB e1,rfl,rfl⟩) fun u s1⟨v,H1,I1,r1,k1,k2⟩=>?_;subst k1 k2;obtain⟨o,I2⟩:=Inv.freeze I1 e2 e3.n8;exact⟨.ref a,_,I2,r1,q.2 _ _ (Nx.give q.1 e (cB e1) e2 e3) ((e3.mono (dJ e2 e3.n8)).den aq)⟩
end
def uN(a:Int)(t:Tok)(l:Addr)(items:Array Value)(n:Nat)(d:Option Addr)(sl:Array (Option Value)):
  Meets (Builtin.«int.__rmul__» ⟨[.int a t,.ref l],[]⟩) (fun _ R s=>s.heap.get? l=some {cls:=.type "list",dict:=d,data:=.seq items n,slots:=sl}/\R (.ok (.ret Value.notImplemented)) s):=
 .of_wp fun prog w A R s h=>by obtain⟨hp,g,d,tk,os⟩:=s;obtain⟨hl,h⟩:=h;wp_walk;exact⟨_,rfl,h⟩
theorem Ak v:∀(n:Nat)(xs:Array Value),(List.replicate n #[v]).foldl (fun x1 x2=>x1++x2) xs=xs++(List.replicate n v).toArray
 |0=>fun xs=>by simp
 |n+1=>fun xs=>by rw[List.replicate_succ,List.foldl_cons,Ak v n,List.replicate_succ];refine Array.toList_inj.mp ?_;simp
def JQ(l:Addr)(v:Value)(n:Nat)(d:Option Addr)(sl:Array (Option Value))(x:Int)(u:Tok)(h2:0<x/\x<=8):
  Meets (Builtin.«list.__mul__» ⟨[.ref l,.int x u],[]⟩) (fun _ R s=>s.heap.get? l=some {cls:=.type "list",dict:=d,data:=.seq #[v] n,slots:=sl}/\R (.ok (.ret (Value.ref s.heap.objs.size))) {s with heap:=s.heap.push {cls:=Value.type "list",data:=Data.seq (List.replicate x.toNat v).toArray}}):=
 .of_wp fun prog w A R s h=>by
  obtain⟨hp,g,d,tk,os⟩:=s;obtain⟨hl,h⟩:=h;have h0:¬(!Builtin.List.listFitsIndex x)=true:=by simp[Builtin.List.listFitsIndex];omega
  have h1:¬#[v].size*x.toNat>(2 ^63-1)/8:=by simp;omega
  have h3:¬Builtin.List.listTooLong (#[v].size*x.toNat)=true:=by simp[Builtin.List.listTooLong];rw[sizeLine_eq];omega
  have e:=Ak v x.toNat #[];rw[Array.empty_append]at e;have hsz:(List.foldl (fun x1 x2=>x1++x2) #[] (List.replicate (if #[v].isEmpty=true then 0 else x.toNat) #[v])).size<=sizeLine:=by show(List.foldl (fun x1 x2=>x1++x2) #[] (List.replicate x.toNat #[v])).size<=sizeLine;rw[e,sizeLine_eq];simp;omega
  wp_walk;rw[if_neg h1];wp_walk;rw[if_neg h3];wp_walk;refine wpAny_ite_false (QEz (Nat.not_lt.mpr hsz)) ?_;wp_walk;refine⟨_,rfl,?_⟩;rw[<-e]at h;exact h
section
noncomputable def Vw(K:QQq):R2:=fun x y H Q=>∃a v n,x=.ref a/\y=.int n/\(0<n/\n<=8)/\lC K H a [v]/\∀p,H p=none->Q (.ref p) (upd H p (.lst (List.replicate n.toNat v)))
theorem uR{u:Value}(r:RelV v u):∀n,Vals (List.replicate n v) (List.replicate n u)
 |0=>.nil
 |n+1=>.cons r (uR r n)
def Tc:gq X (binaryOp .Mult) (Vw X.K):=by
 intro γ s σ H x y v u Q I rx ry h;obtain⟨a,w,n,rfl,rfl,hn,ha,q⟩:=h;cases rx;obtain⟨tk,rfl⟩:=ry;obtain⟨its,r1,pl,_⟩:=I.list ha;obtain⟨u0,rfl⟩:∃u0,its=[u0]:=List.length_eq_one_iff.mp r1.length.symm;obtain⟨⟨cls,dd,data,sl⟩,m,ho,hc,_,hd⟩:=id pl;simp only at hc hd;subst hc hd;cases r1 with
 |cons rw rr=>
  refine wpAny_binaryOp_repeat_ref (T:="list") (U:="int") (by decide) ⟨_,ho,rfl⟩ (fun s'=>typeIs_int s' n tk) noFill_list_mul F.fills_int_mul F.slot_int_rmul repeat_list F.slot_int_index.lookup
   (call_meets F.slot_int_rmul (typeIs_int s n tk) F.entry_int_rmul (F.args_int_rmul_2 _ _) (uN n tk a _ m dd sl) ⟨ho,rfl,⟨_,ho,rfl⟩,?_⟩)
  refine call_meets F.slot_list_mul ⟨_,ho,rfl⟩ F.entry_list_mul (F.args_list_mul_2 _ _) (JQ a u0 m dd sl n tk hn) ⟨ho,?_⟩;exact⟨.ref _,_,I.ab6 (t':=s.toks) (uR rw n.toNat) (by rw[List.length_replicate,sizeLine_eq];omega),rfl,q _ I.fresh⟩
end
noncomputable def jo(K:QQq)(σ:St)(H₀ H:Hp):List Rv->List V->Prop
 |[],vs=>vs=[]
 |x::xs,vs=>∃v r,vs=v::r/\iB K σ H₀ H x v/\jo K σ H₀ H xs r
noncomputable def Vg(K:QQq)(W:Wi)(env:Ev)(r:Out (List Rv)):TA:=fun σ H Q=>Sat K env σ H/\match r with
 |.ok xs env'=>∀vs H',Nx K env σ H env' H'->jo K σ H H' xs vs->Q vs H'
 |.exc c env'=>∀H',Nx K env σ H env' H'->W c env' σ H'
 |.bad=>False
noncomputable def tA(K:QQq)(W:Wi)(env:Ev)(r:Out Rv):TE:=fun σ H Q=>Sat K env σ H/\match r with
 |.ok x env'=>∀v H',Nx K env σ H env' H'->iB K σ H H' (argv x) v->Q v H'
 |.exc c env'=>∀H',Nx K env σ H env' H'->W c env' σ H'
 |.bad=>False
def GA(X:Cx)(W:Wi)(c:Cf)(m:E)(es:List Expr):Prop:=∀env,PA X es (Vg X.K W env (evs c m env))
def iB.on{env δ ε:Ev}{H H1 H2:Hp}{v:V}(S:Sat K env σ H)(N:Nx K env σ H δ H1)(N2:Nx K δ σ H1 ε H2)(h:iB K σ H H1 x v):iB K σ H H2 x v:=by
 have no:=fun a h0 i z=>S.nq h0 i (N.sub i a z);cases x with
 |val d=>exact aL.mono N2.pers h
 |ref i=>exact h
 |new xs=>obtain⟨a,e,⟨u,p,l⟩,z⟩:=h;exact⟨a,e,⟨u,N2.keep a u p (no a z),l.mono N2.pers⟩,z⟩
 |tmp xs=>obtain⟨a,e,⟨u,p,l⟩,z⟩:=h;exact⟨a,e,⟨u,N2.keep a u p (no a z),l.mono N2.pers⟩,z⟩
def lN{env:Ev}{H:Hp}{xs:List D}(S:Sat K env σ H)(l:ao K H xs vs)(hp:H p=none):iB K σ H (upd H p (.lst vs)) (.new (.lst xs)) (.ref p):=
 ⟨p,rfl,⟨_,aq,vs,rfl,l.mono (Nx.laid S hp).pers⟩,hp⟩
theorem jo.weaken{K:QQq}{σ:St}{H0 H1 H:Hp}:∀{xs:List Rv}{vs:List V},jo K σ H1 H xs vs->(∀b,H1 b=none->H0 b=none)->jo K σ H0 H xs vs
 |[],_,h,_=>h
 |x::xs,vs,h,d=>by obtain⟨v,r,e,h1,h2⟩:=h;exact⟨v,r,e,h1.weaken d,jo.weaken h2 d⟩
section
def PA.imp(h:PA X es t)(i:∀σ H Q,t' σ H Q->t σ H Q):PA X es t':=fun p γ s σ H Q I q=>h p γ s σ H Q I (i σ H Q q)
def GE.ag(h:GE X W c m e)env:PE X e (tA X.K W env (ev c m env)):=by
 intro γ s σ H Q I q;obtain⟨S,q⟩:=q;cases r:ev c m env with
 |bad=>rw[r]at q;exact q.elim
 |exc k env'=>rw[r]at q;exact h env γ s σ H Q I ⟨S,by rw[r];exact q⟩
 |ok x env'=>
  rw[r]at q;cases x with
  |new xs=>exact Ng (h env) γ s σ H Q I ⟨S,by rw[r];exact q⟩
  |val d=>exact h env γ s σ H Q I ⟨S,by rw[r];exact q⟩
  |ref i=>exact h env γ s σ H Q I ⟨S,by rw[r];exact q⟩
  |tmp xs=>exact h env γ s σ H Q I ⟨S,by rw[r];exact q⟩
def PX:GA X W c .nil []:=fun env=>PA.imp aU fun σ H Q q=>by obtain⟨S,q⟩:=q;exact q [] H (Nx.refl S) rfl
def Hn(h:GE X W c m1 e)(t:GA X W c m2 es)(hs:starEach (e::es) X.env=(false,eval e X.env)::starEach es X.env):GA X W c (.cons m1 m2) (e::es):=by
 intro env;have B:PA X _ (aG (fun σ H Q=>∃env,tA X.K W env _ σ H Q) (fun σ H Q=>∃env,Vg X.K W env _ σ H Q)):=
  aC (fun γ s σ H Q I⟨env,q⟩=>h.ag env γ s σ H Q I q) (fun p γ s σ H Q I⟨env,q⟩=>t env p γ s σ H Q I q) hs
 refine PA.imp B fun σ H Q q=>?_;obtain⟨S,q⟩:=q;refine⟨env,S,?_⟩;simp only[evs]at q;cases r:ev c m1 env with
 |bad=>rw[r]at q;exact q.elim
 |exc k δ=>rw[r]at q;exact q
 |ok x δ=>
  rw[r]at q;intro v H1 N1 k1;refine⟨δ,N1.gw,?_⟩;simp only[Out.bind]at q;cases r2:evs c m2 δ with
  |bad=>rw[r2]at q;exact q.elim
  |exc k ε=>rw[r2]at q;exact fun H2 N2=>q H2 (N1.trans N2)
  |ok xs ε=>rw[r2]at q;intro vs H2 N2 k2;exact q _ H2 (N1.trans N2) ⟨v,vs,rfl,k1.on S N1 N2,k2.weaken N1.dom⟩
theorem jo.ds{K:QQq}{σ:St}{H₀ H:Hp}:∀{xs:List Rv}{vs:List V}{ds:List D},jo K σ H₀ H (xs.map argv) vs->cV xs=some ds->ao K H ds vs
 |[],vs,ds,h,e=>by simp[cV]at e;subst e;cases h;exact ao.dZ
 |x::xs,vs,ds,h,e=>by
  obtain⟨v,r,rfl,h1,h2⟩:=h;cases x with
  |ref i=>simp[cV,Rv.kO]at e
  |tmp ys=>simp[cV,Rv.kO]at e
  |val d=>simp[cV,Rv.kO]at e;obtain⟨ds',e1,e2⟩:=e;subst e2;exact ao.aZ h1 (jo.ds h2 e1)
  |new ys=>simp[cV,Rv.kO]at e;obtain⟨ds',e1,e2⟩:=e;subst e2;exact ao.aZ h1 (jo.ds h2 e1)
def Ao:∀(m:E)(env:Ev){xs:List Rv}{env':Ev},evs c m env=.ok xs env'->xs.map argv=xs:=by
 have aa:∀x:Rv,argv (argv x)=argv x:=fun x=>by cases x<;>rfl
 intro m;induction m with
 |nil=>intro env xs env' h;simp only[evs]at h;cases h;rfl
 |cons h t _ ih=>
  intro env xs env' q;simp only[evs]at q;cases r:ev c h env with
  |bad=>rw[r]at q;cases q
  |exc k e1=>rw[r]at q;cases q
  |ok x e1=>
   rw[r]at q;simp only[Out.bind]at q;cases r2:evs c t e1 with
   |bad=>rw[r2]at q;cases q
   |exc k e2=>rw[r2]at q;cases q
   |ok ys e2=>rw[r2]at q;cases q;rw[Qyz,aa,ih e1 r2]
 |_=>intro env xs env' h;simp only[evs]at h;cases h
def fD(h:fits n=true):n<=sizeLine:=by rw[sizeLine_eq];simpa[fits]using h
theorem yR{env:Ev}{H:Hp}{f:List D->Option Rv}
  (h:tM K W env ((evs c m env).bind fun rs σ=>lift σ ((cV rs).bind f)) σ H Q)
  (k:∀δ H1 ds vs z,Nx K env σ H δ H1->ao K H1 ds vs->f ds=some z->(∀v H',Nx K δ σ H1 δ H'->iB K σ H1 H' z v->Q v H')->R vs H1):Vg K W env (evs c m env) σ H R:=by
 obtain⟨S,q⟩:=h;refine⟨S,?_⟩;cases r:evs c m env with
 |bad=>rw[r]at q;exact q.elim
 |exc k δ=>rw[r]at q;exact q
 |ok xs δ=>
  rw[r]at q;simp only[Out.bind]at q;intro vs H1 N1 k1;cases e:cV xs with
  |none=>rw[e]at q;exact q.elim
  |some ds=>
   rw[e]at q;simp only[Option.bind]at q;cases e2:f ds with
   |none=>rw[e2]at q;exact q.elim
   |some z=>rw[e2]at q;have k2:=k1;rw[<-Ao m env r]at k2;exact k δ H1 ds vs z N1 (jo.ds k2 e) e2 fun v H' N' w=>q v H' (N1.trans N') (w.weaken N1.dom)
def Y4(h:GA X W c m es):GE X W c (.tup m) (.Tuple es k pos):=by
 intro env;refine PE.imp (Dg (h env)) fun σ H Q q=>?_;refine yR q fun δ H1 ds vs z N1 l e q=>?_;split at e
 ·rename_i hf;cases e;refine⟨by rw[<-l.length];exact fD hf,fun p hp=>q _ _ (Nx.laid N1.gw hp) ?_⟩;show aL _ _ _ _;exact⟨p,vs,rfl,.inl (.inl aq),l.mono (Nx.laid N1.gw hp).pers⟩
 ·cases e
def Za(h:GA X W c m es):GE X W c (.lis m) (.List es pos):=by
 intro env;refine PE.imp (Di (h env)) fun σ H Q q=>?_;refine yR q fun δ H1 ds vs z N1 l e q=>?_;split at e
 ·rename_i hf;cases e;exact⟨by rw[<-l.length];exact fD hf,fun p hp=>q _ _ (Nx.laid N1.gw hp) (lN N1.gw l hp)⟩
 ·cases e
def Wm(X:Cx)(r:R2)(f:D->D->Option Rv):Prop:=
 ∀(env:Ev)(σ:St)(H:Hp)(x y:D)(z:Rv)(v u:V)(Q:VK),Sat X.K env σ H->aL X.K H x v->aL X.K H y u->f x y=some z->(∀w H',Nx X.K env σ H env H'->iB X.K σ H H' z w->Q w H')->r v u H Q
def Wm.bin{f:D->D->Option Rv}(R:Wm X r f)(h:PE X e (Ve r (aD X W c m1) (aD X W c m2))):
  ∀env,PE X e (tM X.K W env ((ev c m1 env).au fun x σ=>(ev c m2 σ).au fun y σ=>lift σ (f x y))):=fun env=>
 PE.imp h fun σ H Q q=>⟨env,aO q fun d δ v H1 N1 D1 q1=>⟨δ,aO q1 fun d2 ε v2 H2 N2 D2 q2=>by obtain⟨z,ez,S,q3⟩:=dC q2;exact R ε σ H2 d d2 z v v2 Q S (D1.mono N2.pers) D2 ez q3⟩⟩
noncomputable def abU:Wn->Operator
 |.add=>.Add
 |.sub=>.Sub
 |.mul=>.Mult
 |.mod=>.Mod
 |.fdiv=>.FloorDiv
 |.pow=>.Pow
def aL.int_inv{H:Hp}{v:V}(h:aL K H (.int i) v):v=.int i:=h
noncomputable def VB(K:QQq):R2:=fun x y H Q=>∃a b xs ys,x=.ref a/\y=.ref b/\jM K H a xs/\jM K H b ys/\xs.length+ys.length<=sizeLine/\
 (xs=[]->Q (.ref b) H)/\(xs≠[]->ys=[]->Q (.ref a) H)/\(xs≠[]->ys≠[]->∀p,H p=none->Q (.ref p) (upd H p (.tup (xs++ys))))
def Tp:gq X (binaryOp .Add) (VB X.K):=by
 intro γ s σ H x y v u Q I rx ry h;obtain⟨a,b,xs,ys,rfl,rfl,ha,hb,hz,q0,q1,q2⟩:=h;by_cases hx:xs=[]
 ·cases rx;cases ry;obtain⟨its,r1,p1,_⟩:=I.tuple ha;obtain⟨its2,r2,p2,_⟩:=I.tuple hb;obtain⟨⟨cls,dd,data,sl⟩,ho,hc,n,hd⟩:=id p1;obtain⟨⟨cls2,dd2,data2,sl2⟩,ho2,hc2,n2,hd2⟩:=id p2;subst hc hd hc2 hd2;have e0:its.toArray.isEmpty=true:=by
   have:=r1.bV.mpr hx;rw[this];rfl
  exact concat_meets ⟨_,ho,rfl⟩ ⟨_,ho2,rfl⟩ noFill_tuple_add seq_tuple_add PySem.F.slot_tuple_add PySem.F.entry_tuple_add (PySem.F.args_tuple_add_2 _ _)
   (PyProof.Rows.tuple_addW0 a b its.toArray its2.toArray n n2 dd dd2 sl sl2 e0) ⟨ho,ho2,⟨.ref b,H,I,rfl,q0 hx⟩⟩
 ·exact Ti γ s σ H _ _ v u Q I rx ry ⟨a,b,xs,ys,rfl,rfl,ha,hb,hx,hz,q1 hx,q2 hx⟩
noncomputable def Vz(K:QQq):R2:=fun x y H Q=>∃l b xs zs,x=.ref l/\y=.ref b/\lC K H l xs/\lC K H b zs/\xs.length+zs.length<=sizeLine/\∀p,H p=none->Q (.ref p) (upd H p (.lst (xs++zs)))
def Tj:gq X (binaryOp .Add) (Vz X.K):=by
 intro γ s σ H x y v u Q I rx ry h;obtain⟨l,b,xs,zs,rfl,rfl,hH,hB,hz,q⟩:=h;cases rx;cases ry;obtain⟨its,r1,pl,_⟩:=I.list hH;obtain⟨its2,r2,pl2,_⟩:=I.list hB;obtain⟨⟨cls,dd,data,sl⟩,n,ho,hc,_,hd⟩:=id pl;obtain⟨⟨cls2,dd2,data2,sl2⟩,n2,ho2,hc2,_,hd2⟩:=id pl2;subst hc hd hc2 hd2;have hl:=r1.length;have hl2:=r2.length;have ea:its.toArray++its2.toArray=(its++its2).toArray:=by simp
 refine concat_meets ⟨_,ho,rfl⟩ ⟨_,ho2,rfl⟩ noFill_list_add seq_list_add F.slot_list_add F.entry_list_add (F.args_list_add_2 _ _) (PyProof.Rows.list_addW l b its.toArray its2.toArray n n2 dd dd2 sl sl2 (by rw[Qyq,Qyq];omega)) ⟨ho,ho2,?_⟩;rw[ea];exact⟨.ref _,_,I.ab6 (r1.append r2) (by rw[QTq];omega),rfl,q _ I.fresh⟩
def VD(K:QQq):R2:=fun x y H Q=>M3 (fun i j=>.int (i+j)) x y H Q\/VB K x y H Q\/Vz K x y H Q
def Tq:gq X (binaryOp .Add) (VD X.K):=Yh.or (Tp.or Tj)
def cM{H:Hp}{v:V}(h:aL K H (.tup ds) v):∃a vs,v=.ref a/\jM K H a vs/\ao K H ds vs:=by unfold aL at h;exact h
def eN{H:Hp}{v:V}(h:aL K H (.lst ds) v):∃a vs,v=.ref a/\QX K H a vs/\ao K H ds vs:=by unfold aL at h;exact h
def dN{H:Hp}{a:Addr}(h:jM K H a vs)(l:ao K H ds vs):aL K H (.tup ds) (.ref a):=by unfold aL;exact⟨a,vs,rfl,h,l⟩
def rM(h:small i=true): -(2 ^64)<i/\i<2 ^64:=by simp only[small,QUz]at h;exact⟨by omega,by omega⟩
def RW:Wm X (VD X.K) (binop .add):=by
 intro env σ H x y z v u Q S Dx Dy e q;cases x with
 |int i=>
  cases y with
  |int j=>cases e;exact .inl ⟨i,j,Dx,Dy,q _ H (Nx.refl S) rfl⟩
  |_=>cases e
 |tup xs=>
  cases y with
  |tup ys=>
   unfold binop at e;dsimp only at e;split at e
   ·rename_i hf;cases e;obtain⟨a,vs,rfl,ha,la⟩:=cM Dx;obtain⟨b,ws,rfl,hb,lb⟩:=cM Dy;refine .inr (.inl ⟨a,b,vs,ws,rfl,rfl,ha,hb,by rw[<-la.length,<-lb.length];exact fD hf,fun e0=>?_,fun _ e0=>?_,fun _ _ p hp=>?_⟩)
    ·subst e0;have:xs=[]:=by have:=la.length;cases xs<;>simp_all
     subst this;exact q _ H (Nx.refl S) (dN hb lb)
    ·subst e0;have:ys=[]:=by have:=lb.length;cases ys<;>simp_all
     subst this;exact q _ H (Nx.refl S) (by rw[List.append_nil];exact dN ha la)
    ·have N:=Nx.laid (o:=.tup (vs++ws)) S hp;exact q _ _ N (dN (.inl (.inl aq)) ((la.append lb).mono N.pers))
   ·cases e
  |_=>cases e
 |lst xs=>
  cases y with
  |lst ys=>
   unfold binop at e;dsimp only at e;split at e
   ·rename_i hf;cases e;obtain⟨a,vs,rfl,ha,la⟩:=eN Dx;obtain⟨b,ws,rfl,hb,lb⟩:=eN Dy;exact .inr (.inr ⟨a,b,vs,ws,rfl,rfl,ha.sq,hb.sq,by rw[<-la.length,<-lb.length];exact fD hf,fun p hp=>q _ _ (Nx.laid (o:=.lst (vs++ws)) S hp) (lN S (la.append lb) hp)⟩)
   ·cases e
  |_=>cases e
 |_=>cases y<;>cases e
def oR{o:Wn}(ho:o≠ .add)(hm:o≠ .mul){x y:D}{z:Rv}(e:binop o x y=some z):(∃i,x=.int i)/\∃j,y=.int j:=by
 cases x with
 |int i=>exact⟨⟨i,rfl⟩,by cases y with
  |int j=>exact⟨j,rfl⟩
  |_=>cases o<;>cases e⟩
 |tup _=>cases o<;>first|exact absurd rfl ho|exact absurd rfl hm|cases e
 |lst _=>cases o<;>first|exact absurd rfl ho|exact absurd rfl hm|cases e
 |_=>cases o<;>cases e
def RL:Wm X (M3 fun i j=>.int (i-j)) (binop .sub):=by intro env σ H x y z v u Q S Dx Dy e q;obtain⟨⟨i,rfl⟩,j,rfl⟩:=oR (by intro h;cases h) (by intro h;cases h) e;cases e;exact⟨_,_,Dx,Dy,q _ H (Nx.refl S) rfl⟩
def Vx(K:QQq):R2:=fun x y H Q=>rI U4 (fun i j=>.int (i*j)) x y H Q\/Vw K x y H Q
def Tf:gq X (binaryOp .Mult) (Vx X.K):=X7.or Tc
theorem Hx{K:QQq}{H:Hp}{d:D}{v:V}(h:aL K H d v):∀n,ao K H (List.replicate n d) (List.replicate n v)
 |0=>by unfold ao;rfl
 |n+1=>by unfold ao;exact⟨_,_,rfl,h,Hx h n⟩
def RN:Wm X (Vx X.K) (binop .mul):=by
 intro env σ H x y z v u Q S Dx Dy e q;cases x with
 |int i=>
  cases y with
  |int j=>
   unfold binop at e;dsimp only at e;split at e
   ·rename_i hs;cases e;simp only[Bool.or_eq_true]at hs;exact .inl ⟨i,j,Dx,Dy,hs.imp rM rM,q _ H (Nx.refl S) rfl⟩
   ·cases e
  |_=>cases e
 |lst xs=>
  cases xs with
  |nil=>cases y<;>cases e
  |cons x xs=>
   cases xs with
   |nil=>
    cases y with
    |int n=>
     unfold binop at e;dsimp only at e;split at e
     ·rename_i hn;cases e;obtain⟨a,vs,rfl,ha,la⟩:=eN Dx;obtain⟨v0,rfl⟩:=List.length_eq_one_iff.mp la.length.symm;refine .inr ⟨a,v0,n,rfl,aL.int_inv Dy,hn,ha.sq,fun p hp=>?_⟩;have N:=Nx.laid (o:=.lst (List.replicate n.toNat v0)) S hp;have d0:aL X.K H x v0:=by unfold ao at la;obtain⟨_,_,z,h,_⟩:=la;cases z;exact h
      exact q _ _ N (lN S (Hx d0 _) hp)
     ·cases e
    |_=>cases e
   |cons=>cases y<;>cases e
 |_=>cases y<;>cases e
def RP:Wm X (rI (fun _ j=>0<j) fun i j=>.int (i%j)) (binop .mod):=by
 intro env σ H x y z v u Q S Dx Dy e q;obtain⟨⟨i,rfl⟩,j,rfl⟩:=oR (by intro h;cases h) (by intro h;cases h) e;unfold binop at e;dsimp only at e;split at e
 ·rename_i hs;cases e;exact⟨i,j,Dx,Dy,hs,q _ H (Nx.refl S) rfl⟩
 ·cases e
def Ml:Wm X (rI adi fun i j=>.int (i/j)) (binop .fdiv):=by
 intro env σ H x y z v u Q S Dx Dy e q;obtain⟨⟨i,rfl⟩,j,rfl⟩:=oR (by intro h;cases h) (by intro h;cases h) e;unfold binop at e;dsimp only at e;split at e
 ·rename_i hs;cases e;exact⟨i,j,Dx,Dy,hs,q _ H (Nx.refl S) rfl⟩
 ·cases e
def RM:Wm X (rI adh fun i j=>.int (i ^j.toNat)) (binop .pow):=by
 intro env σ H x y z v u Q S Dx Dy e q;obtain⟨⟨i,rfl⟩,j,rfl⟩:=oR (by intro h;cases h) (by intro h;cases h) e;unfold binop at e;dsimp only at e;split at e
 ·rename_i hs;cases e;have h1:=rM hs.2.2;exact⟨i,j,Dx,Dy,⟨hs.1,by omega,by omega⟩,q _ H (Nx.refl S) rfl⟩
 ·cases e
def acC(ha:GE X W c m1 a)(hb:GE X W c m2 b):GE X W c (.op o m1 m2) (.BinOp a (abU o) b pos):=by
 intro env;cases o with
 |add=>exact RW.bin (vz Tq ha.d hb.d) env
 |sub=>exact RL.bin (vz X4 ha.d hb.d) env
 |mul=>exact RN.bin (vz Tf ha.d hb.d) env
 |mod=>exact RP.bin (vz X8 ha.d hb.d) env
 |fdiv=>exact Ml.bin (vz Th ha.d hb.d) env
 |pow=>exact RM.bin (vz X5 ha.d hb.d) env
end
mutual
theorem tV:∀a b:D,nd a=true->nd b=true->PyData.eqv (py a) (py b)=dM a b
 |.dG _ _,_=>fun h _=>by simp[nd]at h
 |.iy _ _,_=>fun h _=>by simp[nd]at h
 |.non,.dG _ _=>fun _ h=>by simp[nd]at h
 |.non,.iy _ _=>fun _ h=>by simp[nd]at h
 |.bl _,.dG _ _=>fun _ h=>by simp[nd]at h
 |.bl _,.iy _ _=>fun _ h=>by simp[nd]at h
 |.int _,.dG _ _=>fun _ h=>by simp[nd]at h
 |.int _,.iy _ _=>fun _ h=>by simp[nd]at h
 |.str _,.dG _ _=>fun _ h=>by simp[nd]at h
 |.str _,.iy _ _=>fun _ h=>by simp[nd]at h
 |.tup _,.dG _ _=>fun _ h=>by simp[nd]at h
 |.tup _,.iy _ _=>fun _ h=>by simp[nd]at h
 |.lst _,.dG _ _=>fun _ h=>by simp[nd]at h
 |.lst _,.iy _ _=>fun _ h=>by simp[nd]at h
 |.tup xs,.tup ys=>fun h h'=>by simp only[py,PyData.eqv,dM];exact xZ xs ys (by simpa[nd]using h) (by simpa[nd]using h')
 |.lst xs,.lst ys=>fun h h'=>by simp only[py,PyData.eqv,dM];exact xZ xs ys (by simpa[nd]using h) (by simpa[nd]using h')
 |.non,.non=>fun _ _=>rfl
 |.non,.bl _=>fun _ _=>rfl
 |.non,.int _=>fun _ _=>rfl
 |.non,.str _=>fun _ _=>rfl
 |.non,.tup _=>fun _ _=>rfl
 |.non,.lst _=>fun _ _=>rfl
 |.bl _,.non=>fun _ _=>rfl
 |.bl _,.bl _=>fun _ _=>rfl
 |.bl a,.int j=>fun _ _=>rfl
 |.bl _,.str _=>fun _ _=>rfl
 |.bl _,.tup _=>fun _ _=>rfl
 |.bl _,.lst _=>fun _ _=>rfl
 |.int _,.non=>fun _ _=>rfl
 |.int i,.bl b=>fun _ _=>rfl
 |.int _,.int _=>fun _ _=>rfl
 |.int _,.str _=>fun _ _=>rfl
 |.int _,.tup _=>fun _ _=>rfl
 |.int _,.lst _=>fun _ _=>rfl
 |.str _,.non=>fun _ _=>rfl
 |.str _,.bl _=>fun _ _=>rfl
 |.str _,.int _=>fun _ _=>rfl
 |.str x,.str y=>fun _ _=>by simp only[py,PyData.eqv,dM];rw[Bool.beq_eq_decide_eq]
 |.str _,.tup _=>fun _ _=>rfl
 |.str _,.lst _=>fun _ _=>rfl
 |.tup _,.non=>fun _ _=>rfl
 |.tup _,.bl _=>fun _ _=>rfl
 |.tup _,.int _=>fun _ _=>rfl
 |.tup _,.str _=>fun _ _=>rfl
 |.tup _,.lst _=>fun _ _=>rfl
 |.lst _,.non=>fun _ _=>rfl
 |.lst _,.bl _=>fun _ _=>rfl
 |.lst _,.int _=>fun _ _=>rfl
 |.lst _,.str _=>fun _ _=>rfl
 |.lst _,.tup _=>fun _ _=>rfl
theorem xZ:∀xs ys:List D,lO xs=true->lO ys=true->PyData.eqvAll (yD xs) (yD ys)=qI xs ys
 |[],[]=>fun _ _=>rfl
 |[],_::_=>fun _ _=>rfl
 |_::_,[]=>fun _ _=>rfl
 |x::xs,y::ys=>fun h h'=>by simp only[lO,QUq]at h h';simp only[yD,PyData.eqvAll,qI];rw[tV x y h.1 h'.1,xZ xs ys h.2 h'.2]
end
def yZ(h:sOk x=true):PyData.strOk x=true:=by unfold sOk at h;unfold PyData.strOk;rw[Array.all_eq_true]at h⊢;intro i hi;have:=h i hi;simp only[QUz]at this⊢;omega
mutual
theorem jD:∀a:D,nd a=true->(py a).canLay0=true
 |.non=>fun _=>rfl
 |.bl _=>fun _=>rfl
 |.int _=>fun _=>rfl
 |.str x=>fun h=>yZ h
 |.tup xs=>fun h=>by simp only[py,PyData.canLay0];exact jC xs (by simpa[nd]using h)
 |.lst xs=>fun h=>by simp only[py,PyData.canLay0];exact jC xs (by simpa[nd]using h)
 |.dG _ _=>fun h=>by simp[nd]at h
 |.iy _ _=>fun h=>by simp[nd]at h
theorem jC:∀xs:List D,lO xs=true->PyData.canLayAll0 (yD xs)=true
 |[]=>fun _=>rfl
 |x::xs=>fun h=>by simp only[lO,QUq]at h;simp only[yD,PyData.canLayAll0,QUq];exact⟨jD x h.1,jC xs h.2⟩
end
mutual
theorem ud:∀a:D,nd a=true->(py a).depth=dep a
 |.non=>fun _=>rfl
 |.bl _=>fun _=>rfl
 |.int _=>fun _=>rfl
 |.str _=>fun _=>rfl
 |.tup xs=>fun h=>by simp only[py,PyData.depth,dep];rw[yc xs (by simpa[nd]using h)]
 |.lst xs=>fun h=>by simp only[py,PyData.depth,dep];rw[yc xs (by simpa[nd]using h)]
 |.dG _ _=>fun h=>by simp[nd]at h
 |.iy _ _=>fun h=>by simp[nd]at h
theorem yc:∀xs:List D,lO xs=true->PyData.depthAll (yD xs)=gn xs
 |[]=>fun _=>rfl
 |x::xs=>fun h=>by simp only[lO,QUq]at h;simp only[yD,PyData.depthAll,gn];rw[ud x h.1,yc xs h.2]
end
def dF(K:QQq)(H:Hp)(d:D)(v:V):Prop:=aL K H d v\/∃q a,d=Ob.d q/\v=.ref a/\jq K H q a
section
mutual
theorem aL.reads(I:Inv X γ σ H s):∀{d:D}{v:V}{u:Value},nd d=true->aL X.K H d v->RelV v u->∃as,Reads s.heap u (py d) as
 |.non,v,u,_,h,r=>by cases h;cases r;exact⟨_,.none⟩
 |.bl b,v,u,_,h,r=>by cases h;cases r;exact⟨_,.bool b⟩
 |.int i,v,u,_,h,r=>by cases h;obtain⟨t,rfl⟩:=r;exact⟨_,.int i t⟩
 |.str x,v,u,_,h,r=>by cases h;obtain⟨t,rfl⟩:=r;exact⟨_,.str x t⟩
 |.tup ds,v,u,hn,h,r=>by obtain⟨a,vs,rfl,hq,l⟩:=cM h;cases r;obtain⟨its,rv,⟨o,e,c,n,dt⟩,_⟩:=I.tuple hq;obtain⟨as,q⟩:=ao.reads I (by simpa[nd]using hn) l rv;exact⟨as,by rw[py];exact .tuple e c dt (by simpa using q)⟩
 |.lst ds,v,u,hn,h,r=>by obtain⟨a,vs,rfl,hq,l⟩:=eN h;cases r;obtain⟨its,rv,⟨o,n,e,c,_,dt⟩,_⟩:=I.list hq.sq;obtain⟨as,q⟩:=ao.reads I (by simpa[nd]using hn) l rv;exact⟨a::as,by rw[py];exact .list e c dt (by simpa using q)⟩
 |.dG _ _,_,_,h,_,_=>by simp[nd]at h
theorem ao.reads(I:Inv X γ σ H s):∀{ds:List D}{vs:List V}{us:List Value},lO ds=true->ao X.K H ds vs->Vals vs us->∃as,ReadsAll s.heap us (yD ds) as
 |[],vs,us,_,h,r=>by rw[ao.bV.mp h]at r;cases r;exact⟨_,.nil⟩
 |d::ds,vs,us,hn,h,r=>by
  obtain⟨v,rs,rfl,h1,h2⟩:=ao.aH.mp h;simp only[lO,QUq]at hn;cases r with
  |cons r1 r2=>obtain⟨as,q1⟩:=aL.reads I hn.1 h1 r1;obtain⟨bs,q2⟩:=ao.reads I hn.2 h2 r2;exact⟨as++bs,.cons q1 q2⟩
end
theorem dF.reads(I:Inv X γ σ H s){v:V}(hn:nd d=true)(h:dF X.K H d v)(r:RelV v u):∃as,Reads s.heap u (py d) as:=by
 rcases h with h|⟨q,a,rfl,rfl,u',ha,hq⟩
 ·exact aL.reads I hn h r
 ·cases r;cases q with
  |dct ks ds=>simp[Ob.d,nd]at hn
  |sdt ks ds=>simp[Ob.d,nd]at hn
  |lst ds=>
  obtain⟨vs,rfl,l⟩:=hq;obtain⟨its,rv,⟨o,n,e,c,_,dt⟩,_⟩:=I.list (.inl (.inl ha));obtain⟨as,q⟩:=ao.reads I (by simpa[Ob.d,nd]using hn) l rv;exact⟨a::as,by rw[Ob.d,py];exact .list e c dt (by simpa using q)⟩
end
abbrev sD(xs:List SV):HO:=.dS xs
mutual
theorem ab1:∀d:D,kA d=true->nd d=true
 |.int _=>fun _=>rfl
 |.bl _=>fun _=>rfl
 |.str _=>fun h=>h
 |.tup xs=>fun h=>Dm xs h
 |.non=>fun h=>by cases h
 |.lst _=>fun h=>by cases h
 |.dG _ _=>fun h=>by cases h
 |.iy _ _=>fun h=>by cases h
theorem Dm:∀xs:List D,J0 xs=true->lO xs=true
 |[]=>fun _=>rfl
 |x::xs=>fun h=>by simp only[J0,QUq]at h;simp only[lO,ab1 x h.1,Dm xs h.2,Bool.and_self]
end
mutual
theorem acs:∀d:D,kA d=true->hk (py d)=true
 |.int _=>fun _=>rfl
 |.bl _=>fun _=>rfl
 |.str _=>fun h=>yZ h
 |.tup xs=>fun h=>Ea xs h
 |.non=>fun h=>by cases h
 |.lst _=>fun h=>by cases h
 |.dG _ _=>fun h=>by cases h
 |.iy _ _=>fun h=>by cases h
theorem Ea:∀xs:List D,J0 xs=true->hks (yD xs)=true
 |[]=>fun _=>rfl
 |x::xs=>fun h=>by simp only[J0,QUq]at h;simp only[yD,hks,acs x h.1,Ea xs h.2,Bool.and_self]
end
def jl{d:D}(h:cH d=true):∃xs,d=.tup xs/\nd d=true/\hk (py d)=true/\(py d).depth<=7:=by
 unfold cH at h;split at h
 ·rename_i xs;simp only[QUq,QUz]at h;have n:nd (.tup xs)=true:=Dm xs h.1;exact⟨xs,rfl,n,Ea xs h.1,by rw[ud _ n];show gn xs+1<=7;omega⟩
 ·cases h
def Ek{d e:D}(h:cH d=true)(g:cH e=true):dM d e=decide (kC d=kC e):=by obtain⟨_,_,n1,k1,_⟩:=jl h;obtain⟨_,_,n2,k2,_⟩:=jl g;rw[<-tV d e n1 n2];exact Ej _ _ k1 k2
def Xk{A:Around}(hu:A.units+9<cLine):A.in1.units+8<cLine:=by
 have:A.in1.units<=A.units+1:=by simp[Around.in1]
 omega
def cY(K:QQq)(H:Hp)(k:SK)(a:Addr):Prop:=∃d,cH d=true/\kC d=k/\aL K H d (.ref a)
noncomputable def xP(k:SK):List SV->Option V
 |[]=>none
 |x::xs=>if x.1=k then some x.2.2 else xP k xs
noncomputable def pA(k:SK)(a:Addr)(v:V)(xs:List SV):List SV:=if (xP k xs).isSome then xs.map (fun x=>if x.1=k then(x.1,x.2.1,v)else x)else xs++[(k,a,v)]
theorem lV:∀{xs:List SV}{ys:List (SK×Addr×Value)},Paired QV xs ys->ys.map (·.1)=xs.map (·.1)
 |_,_,.nil=>rfl
 |_,_,.cons h t=>by simp[lV t,h.1]
theorem z8:∀{xs:List SV}{ys:List (SK×Addr×Value)},Paired QV xs ys->iC (xP k xs) ((atKey ys k).map (·.2))
 |_,_,.nil=>trivial
 |x::xs,y::ys,.cons h t=>by
  simp only[xP,atKey,List.find?_cons];rw[h.1];by_cases c:y.1=k
  ·simp only[c,if_true,decide_true,Option.map_some];exact h.2.2
  ·simp only[c,if_false,decide_false];exact z8 (k:=k) t
section
def iR(I:L2.Inv X γ σ H s)(h:cY X.K H k a):KY s.heap k a:=by obtain⟨d,h1,rfl,h2⟩:=h;obtain⟨_,_,n,k,l⟩:=jl h1;obtain⟨as,r⟩:=aL.reads I n h2 (show RelV (.ref a) (.ref a)from rfl);exact⟨py d,as,k,l,rfl,r⟩
def lX(I:L2.Inv X γ σ H s)(hd:Rd H d (sD xs))(hk:∀x∈xs,cY X.K H x.1 x.2.1):∃ys,Paired QV xs ys/\s.heap.DictOfH (eY X.prog X.w) d ys/\(d==sysModules)=false/\xs.length<=sizeLine:=by
 obtain⟨z,y,nd,ys,o,es,ep,pr,h1,h2,h3,h4⟩:=(show bZ X.prog X.w H s.heap d (.dS xs)from zz I.hok hd);refine⟨ys,pr,⟨o,es,ep,h1,h2,h3,h4,?_,by rw[lV pr];exact nd⟩,y,z⟩;have go:∀{xs:List SV}{ys:List (SK×Addr×Value)},Paired QV xs ys->(∀x∈xs,cY X.K H x.1 x.2.1)->∀y∈ys,KY s.heap y.1 y.2.1:=by
  intro xs ys pr;induction pr with
  |nil=>intro _ y hy;cases hy
  | @cons x y xs ys h t ih=>
   intro hk q hq;rcases QCq.mp hq with rfl|hq
   ·rw[<-h.1,<-h.2.1];exact iR I (hk x QYz)
   ·exact ih (fun z hz=>hk z (QYq _ hz)) q hq
 exact go pr hk
def aeJ{Q:QZq}(hu:A.units+9<cLine)(I:L2.Inv X γ σ H s)(hd:Rd H d (sD xs))(hk:∀x∈xs,cY X.K H x.1 x.2.1)(ha:cY X.K H k a)(h:∀s',L2.Inv X γ σ H s'->Q (.bool (xP k xs).isSome) s'):
  wpAny (model X.prog X.w) A (compareOp .In (.ref a) (.ref d)) Q E1 s:=by
 obtain⟨ys,pr,dd,y,z⟩:=lX I hd hk;refine wpAny_in_heap (knd:=eY X.prog X.w) (Xk hu) (iR I ha) y dd ?_;have e:(atKey ys k).isSome=(xP k xs).isSome:=by rw[(z8 (k:=k) pr).eQ];simp
 rw[e];exact h _ (I.tok _)
def RJ{Q:QZq}(hu:A.units+9<cLine)(I:L2.Inv X γ σ H s)(hd:Rd H d (sD xs))(hk:∀x∈xs,cY X.K H x.1 x.2.1)(ha:cY X.K H k a)(h:∀s',L2.Inv X γ σ H s'->Q (.bool (!(xP k xs).isSome)) s'):
  wpAny (model X.prog X.w) A (compareOp .NotIn (.ref a) (.ref d)) Q E1 s:=by
 obtain⟨ys,pr,dd,y,z⟩:=lX I hd hk;refine PyProof.Rows.wpAny_notIn_heap (knd:=eY X.prog X.w) (Xk hu) (iR I ha) y dd ?_;have e:(atKey ys k).isSome=(xP k xs).isSome:=by rw[(z8 (k:=k) pr).eQ];simp
 rw[e];exact h _ (I.tok _)
def Jb{v:V}{Q:QZq}(hu:A.units+9<cLine)(I:L2.Inv X γ σ H s)(hd:Rd H d (sD xs))(hk:∀x∈xs,cY X.K H x.1 x.2.1)(ha:cY X.K H k a)(hv:xP k xs=some v)(h:∀u s',L2.Inv X γ σ H s'->RelV v u->Q u s'):
  wpAny (model X.prog X.w) A (getItem (.ref d) (.ref a)) Q E1 s:=by
 obtain⟨ys,pr,dd,y,z⟩:=lX I hd hk;obtain⟨u,hw,ru⟩:=iC.some_of (v:=v) (o:=(atKey ys k).map (·.2)) (by rw[<-hv];exact z8 pr);obtain⟨p,hp,rfl⟩:=QJz.mp hw;exact wpAny_getItem_heap (knd:=eY X.prog X.w) (Xk hu) (iR I ha) dd hp (h _ _ (I.tok _) ru)
def nZ{r:Value}(rv:RelV v r)(pr:Paired QV xs ys):Paired QV (pA k a v xs) (storedH ys k a r):=by
 have e:(atKey ys k).isSome=(xP k xs).isSome:=by rw[(z8 pr).eQ];simp
 unfold pA storedH;rw[e];split
 ·rename_i z;clear e z;induction pr with
  |nil=>exact .nil
  | @cons x y xs ys h t ih=>
   refine .cons ?_ ih;show QV (if x.1=k then(x.1,x.2.1,v)else x) _;unfold putAt;by_cases c:y.1=k
   ·rw[if_pos c,if_pos (h.1.trans c)];exact⟨h.1,h.2.1,rv⟩
   ·rw[if_neg c,if_neg fun q=>c (h.1.symm.trans q)];exact h
 ·exact Paired.snoc pr ⟨rfl,rfl,rv⟩
def Gr v:(pA k a v xs).length<=xs.length+1:=by unfold pA;split<;>simp
def Gm{w:World}{h':Heap}(z:xs.length<=sizeLine)(y:(d==sysModules)=false)(pr:Paired QV xs ys)(dd:h'.DictOfH (eY P w) d ys):bZ P w H' h' d (sD xs):=by obtain⟨o,es,ep,h1,h2,h3,h4,h5,h6⟩:=dd;exact⟨z,y,by rw[<-lV pr];exact h6,ys,o,es,ep,pr,h1,h2,h3,h4⟩
def Ja{v:V}{r:Value}{Q:Unit->Shared->Prop}(hu:A.units+9<cLine)(I:L2.Inv X γ σ H s)(hd:H d=some (sD xs))(hk:∀x∈xs,cY X.K H x.1 x.2.1)(ha:cY X.K H k a)(hl:xs.length<sizeLine)(rv:RelV v r)
  (h:∀s',L2.Inv X γ σ (upd H d (sD (pA k a v xs))) s'->Q () s'):wpAny (model X.prog X.w) A (setItem (.ref d) (.ref a) r) Q E1 s:=by
 obtain⟨ys,pr,dd,y,z⟩:=lX I (.inl hd) hk;have hz:ys.length<=sizeLine:=by have:=congrArg List.length (lV pr);simp at this;omega
 refine wpAny_setItem_heap (knd:=eY X.prog X.w) (hsz:=hz) (Xk hu) (iR I ha) dd fun h' dd' hs=>h _ ?_;have he:∃q,h'.get? d=some q:=let ⟨q,_,_,hq,_⟩:=dd';⟨q,hq⟩
 have pl:=Gr (k:=k) (a:=a) (xs:=xs) v;exact iH I (by rw[hd];exact True.intro) hs he (Gm (by omega) y (nZ rv pr) dd')
end
section
variable{K:QQq}{H:Hp}{ks ds:List D}{xs:List SV}{d z:D}{a:Addr}{v:V}
def iK(h:cH d=true)(Dd:aL K H d v):∃a,v=.ref a/\cY K H (kC d) a:=by obtain⟨ys,rfl,_⟩:=jl h;obtain⟨a,vs,rfl,_⟩:=cM Dd;exact⟨a,rfl,_,h,rfl,Dd⟩
def gO.nil:gO K H [] [] []:=⟨rfl,rfl,ao.dZ,ao.dZ⟩
theorem gO.aH{k:D}:gO K H (k::ks) (z::ds) xs↔ ∃x r,xs=x::r/\kC k=x.1/\cH k=true/\aL K H k (.ref x.2.1)/\aL K H z x.2.2/\gO K H ks ds r:=by
 constructor
 ·rintro ⟨h1,h2,h3,h4⟩;cases xs with
  |nil=>simp at h1
  |cons x r=>rw[Qyz,Qyz,List.cons.injEq]at h1;rw[List.all_cons,QUq]at h2;obtain⟨_,_,e,d1,l1⟩:=ao.aH.mp h3;cases e;obtain⟨_,_,e,d2,l2⟩:=ao.aH.mp h4;cases e;exact⟨x,r,rfl,h1.1,h2.1,d1,d2,h1.2,h2.2,l1,l2⟩
 ·rintro ⟨x,r,rfl,e,h,d1,d2,h1,h2,h3,h4⟩;exact⟨by simp[e,h1],by simp[h,h2],ao.aZ d1 h3,ao.aZ d2 h4⟩
def gO.len(h:gO K H ks ds xs):ks.length=xs.length/\ds.length=xs.length:=by have a:=h.2.2.1.length;have b:=h.2.2.2.length;rw[QAq]at a b;exact⟨a,b⟩
theorem gO.ind{P:List D->List D->List SV->Prop}(p0:P [] [] [])(p1:∀k ks z ds x r,kC k=x.1->cH k=true->aL K H k (.ref x.2.1)->aL K H z x.2.2->gO K H ks ds r->P ks ds r->P (k::ks) (z::ds) (x::r)):∀{ks ds:List D}{xs:List SV},gO K H ks ds xs->P ks ds xs
 |[],ds,xs,h=>by
  have:=h.len;cases xs with
  |nil=>cases ds with
   |nil=>exact p0
   |cons=>simp at this
  |cons=>simp at this
 |k::ks,[],xs,h=>by have:=h.len;simp at this;omega
 |k::ks,z::ds,xs,h=>by obtain⟨x,r,rfl,e,h1,d1,d2,t⟩:=gO.aH.mp h;exact p1 k ks z ds x r e h1 d1 d2 t (gO.ind p0 p1 t)
def gO.vN(h:gO K H ks ds xs):∀x∈xs,cY K H x.1 x.2.1:=h.ind (P:=fun _ _ xs=>∀x∈xs,cY K H x.1 x.2.1) (fun _ h=>nomatch h) fun k ks z ds x r e h1 d1 _ _ ih y hy=>by
 rcases QCq.mp hy with rfl|hy
 ·exact⟨k,h1,e,d1⟩
 ·exact ih y hy
def gO.inD(g:cH d=true)(h:gO K H ks ds xs):aP d ks=(xP (kC d) xs).isSome:=h.ind (P:=fun ks _ xs=>aP d ks=(xP (kC d) xs).isSome) rfl fun k ks z ds x r e h1 _ _ _ ih=>by rw[aP,Ek h1 g,ih,e,xP];by_cases c:x.1=kC d<;>simp[c]
def gO.look(g:cH d=true)(h:gO K H ks ds xs):aY d ks ds=some z->∃w,xP (kC d) xs=some w/\aL K H z w:=h.ind (P:=fun ks ds xs=>aY d ks ds=some z->∃w,xP (kC d) xs=some w/\aL K H z w) (fun e=>by cases e) fun k ks y ds x r e h1 _ d2 _ ih q=>by
 rw[aY,Ek h1 g,e]at q;rw[xP];by_cases c:x.1=kC d
 ·rw[if_pos (QFq c)]at q;cases q;exact⟨_,if_pos c,d2⟩
 ·rw[if_neg (by simp[c])]at q;rw[if_neg c];exact ih q
def gO.repl(g:cH d=true)(dz:aL K H z v)(h:gO K H ks ds xs):gO K H ks (rT d z ks ds) (xs.map fun x=>if x.1=kC d then(x.1,x.2.1,v)else x):=h.ind (P:=fun ks ds xs=>gO K H ks (rT d z ks ds) (xs.map fun x=>if x.1=kC d then(x.1,x.2.1,v)else x)) gO.nil fun k ks y ds x r e h1 d1 d2 _ ih=>by
 rw[rT,Qyz];refine gO.aH.mpr ⟨_,_,rfl,?_,h1,?_,?_,ih⟩
 ·split<;>exact e
 ·split<;>exact d1
 ·rw[Ek h1 g,e];by_cases c:x.1=kC d
  ·rw[if_pos (QFq c),if_pos c];exact dz
  ·rw[if_neg (by simp[c]),if_neg c];exact d2
def gO.snoc(g:cH d=true)(dd:aL K H d (.ref a))(dz:aL K H z v)(h:gO K H ks ds xs):gO K H (ks++[d]) (ds++[z]) (xs++[(kC d,a,v)]):=h.ind (P:=fun ks ds xs=>gO K H (ks++[d]) (ds++[z]) (xs++[(kC d,a,v)])) (gO.aH.mpr ⟨_,_,rfl,rfl,g,dd,dz,gO.nil⟩) fun k ks y ds x r e h1 d1 d2 _ ih=>gO.aH.mpr ⟨_,_,rfl,e,h1,d1,d2,ih⟩
def gO.put(g:cH d=true)(dd:aL K H d (.ref a))(dz:aL K H z v)(h:gO K H ks ds xs):gO K H (putD d z ks ds).1 (putD d z ks ds).2 (pA (kC d) a v xs):=by
 unfold putD pA;rw[h.inD g];split
 ·exact h.repl g dz
 ·exact h.snoc g dd dz
end
section
variable{X:Cx}{γ:QQz}{σ:L2.St}{H:Hp}{s:Shared}{A:Around}{E1:QZq}{d:Addr}{xs:List SV}
def abh{Q:QZq}(I:L2.Inv X γ σ H s)(e:Rd H d (sD xs))(h:∀t s',L2.Inv X γ σ H s'->Q (.int xs.length t) s'):wpAny (model X.prog X.w) A (call (.builtin "len") [.ref d]) Q E1 s:=by
 obtain⟨z,y,_,ys,o,es,ep,pr,h1,h2,h3,h4⟩:=(show bZ X.prog X.w H s.heap d (.dS xs)from zz I.hok e);have hn:es.size=xs.length:=by have q1:=congrArg List.length h4;have q2:=congrArg List.length (lV pr);simp at q1 q2;omega
 have hl:sizeLine=16777216:=sizeLine_eq;have t:s.TypeIs (.ref d) "dict":=⟨o,h1,h2.1⟩;refine Calls.call_function_entry kind_len plain_len entry_len (args_len1 _) ?_;unfold Builtin.«len»;refine QKq (m:=oneArg "len" _) (QKz ?_);refine QKq (m:=callSpecial? (.ref d) (Str.ofString "__len__")) (wpAny_callSpecial?_slot (name:=Str.ofString "__len__") t F.slot_dict_len (Qzz F.slot_dict_len t F.entry_dict_len ?_ (F.args_dict_len_1 _)));show wpAny _ _ (dictSize d>>=_) _ _ s;unfold dictSize;refine QKq (QKq (wpAny_dictEntries h1 h3 (QKz ?_)));show wpAny _ _ (Builtin.Dict.pendingCount d>>=_) _ _ s;refine QKq (wpAny_pendingCount_other y ?_);refine wpAny_ret_mkInt ?_;rw[hn];show wpAny _ _ (holding [Value.int ((xs.length:Int)+((0:Nat):Int)) s.toks] (asIndex (Value.int ((xs.length:Int)+((0:Nat):Int)) s.toks))>>=_) _ _ _;rw[show((xs.length:Int)+((0:Nat):Int))=(xs.length:Int) by simp];refine QKq (Qqq (QKz ?_));refine QKq (wpAny_letGo ?_);show wpAny _ _ (if ((xs.length:Nat):Int)<0 then _ else _) _ _ _;rw[if_neg (by omega)];show wpAny _ _ (if ((xs.length:Nat):Int)>=2 ^63 then _ else _) _ _ _;rw[if_neg (by omega)];exact QKq (wpAny_mkInt (QKz ⟨_,rfl,h _ _ (I.tok _)⟩))
def yh(I:L2.Inv X γ σ H s)(e:Rd H d (.dK [])):s.heap.DictOfH (eY X.prog X.w) d []/\(d==sysModules)=false:=by
 obtain⟨z,hd,vs,rel,o,es,ep,q1,q2,q3,q4,q5,q6⟩:=oM I.hok e;cases rel;have e0:es.toList=[]:=by cases hq:es.toList with
  |nil=>rfl
  |cons=>rw[hq]at q5;cases q5
 exact⟨⟨o,es,ep,q1,q2,q3,by rw[e0];rfl,fun x hx=>(nomatch hx),List.nodup_nil⟩,hd⟩
def abi{k:SK}{a:Addr}{Q:QZq}(hu:A.units+9<cLine)(I:L2.Inv X γ σ H s)(e:Rd H d (.dK []))(ha:cY X.K H k a)(h:∀s',L2.Inv X γ σ H s'->Q (.bool false) s'):
  wpAny (model X.prog X.w) A (compareOp .In (.ref a) (.ref d)) Q E1 s:=by
 obtain⟨dd,hd⟩:=yh I e;exact wpAny_in_heap (knd:=eY X.prog X.w) (Xk hu) (iR I ha) hd dd (h _ (I.tok _))
def Mf{k:SK}{a:Addr}{Q:QZq}(hu:A.units+9<cLine)(I:L2.Inv X γ σ H s)(e:Rd H d (.dK []))(ha:cY X.K H k a)(h:∀s',L2.Inv X γ σ H s'->Q (.bool true) s'):
  wpAny (model X.prog X.w) A (compareOp .NotIn (.ref a) (.ref d)) Q E1 s:=by
 obtain⟨dd,hd⟩:=yh I e;exact PyProof.Rows.wpAny_notIn_heap (knd:=eY X.prog X.w) (Xk hu) (iR I ha) hd dd (h _ (I.tok _))
def Cv{k:SK}{a:Addr}{v:V}{r:Value}{Q:Unit->Shared->Prop}(hu:A.units+9<cLine)(I:L2.Inv X γ σ H s)(hd:H d=some (.dK []))(ha:cY X.K H k a)(rv:RelV v r)
  (h:∀s',L2.Inv X γ σ (upd H d (sD [(k,a,v)])) s'->Q () s'):wpAny (model X.prog X.w) A (setItem (.ref d) (.ref a) r) Q E1 s:=by
 obtain⟨dd,y⟩:=yh I (.inl hd);refine wpAny_setItem_heap (knd:=eY X.prog X.w) (hsz:=QIq _) (Xk hu) (iR I ha) dd fun h' dd' hs=>h _ ?_;have he:∃q,h'.get? d=some q:=let ⟨q,_,_,hq,_⟩:=dd';⟨q,hq⟩
 exact iH I (by rw[hd];exact True.intro) hs he (Gm (by rw[sizeLine_eq];show 1<=16777216;decide) y (nZ rv .nil) dd')
end
def Iv{x y:Value}{W:World}{E:QZq}{Q:PUnit->Shared->Prop}(h:wpAny (model P W) A (dictSet d x y) (fun _ s'=>Q PUnit.unit s') E s):wpAny (model P W) A (storeAll d [(x,y)]) Q E s:=by unfold storeAll;rw[List.forIn_cons];refine QKq (QKq (bJ h fun _ s' q=>QKz ?_));show wpAny _ _ (forIn ([]) PUnit.unit _) _ _ _;exact QKz q
noncomputable def aa3(K:QQq)(mF:List (TE×TE)):TE:=fun σ H Q=>∀p,H p=none->wN mF σ (upd H p (.dK [])) fun ps H2=>H2 p=some (.dK [])/\∃k a v,ps=[(.ref a,v)]/\cY K H2 k a/\Q (.ref p) (upd H2 p (sD [(k,a,v)]))
def bare{w:World}{h:Heap}(d:h.DictOf (bQ P w) a []):h.DictOfH (eY P w) a []:=by
 obtain⟨o,es,ep,h1,h2,h3,h4,h5,h6⟩:=d;have e:es.toList=[]:=by
  cases q:es.toList with
  |nil=>rfl
  |cons x y=>rw[q]at h5;cases h5
 exact⟨o,es,ep,h1,h2,h3,by simp[e],fun x hx=>(nomatch hx),List.nodup_nil⟩
theorem SQ{pos:Pos}{values:List Expr}(hu:X.A.units+9<cLine)(h:PPs X pos keys values mF)(hall:keys.all (·.isSome)=true)(hl:keys.length=values.length)(h0:keys≠[])
  (h15:keys.length<=15):PE X (.Dict keys values pos) (aa3 X.K mF):=by
 intro γ s σ H Q I q;refine wpAny_Dict_any hall hl h0 h15 (bJ (h γ _ σ _ _ (I.laid (t':=s.toks) (fun _ _ q=>QWq _ q) (QVz _) (tZ s.heap I.big)) (q _ (I.hok.fresh (QVz s.heap.objs.size)))) fun ws s2⟨ps,H2,I2,rel,e,z⟩=>?_);obtain⟨_,hd,vs0,r0,dd⟩:=Hv I2.hok e;cases r0;obtain⟨k,a,v,ep,ka,q2⟩:=z
 ·subst ep;cases rel with
  | @cons _ b _ bs rv t=>cases t;obtain⟨b1,b2⟩:=b;obtain⟨r1,r2⟩:=rv;cases r1;refine Iv (wpAny_dictSet_heap (show X.A.units+8<cLine by omega) (iR I2 ka) (bare dd) fun h' dd' hs=>?_);refine⟨.ref s.heap.objs.size,_,iH I2 (by rw[e];exact True.intro) hs (let ⟨q,_,_,hq,_⟩:=dd';⟨q,hq⟩) (Gm (by rw[sizeLine_eq];show 1<=_;decide) hd (nZ r2 .nil) dd'),rfl,q2⟩
section
def R3{P:Program}{w:World}:∀{xs:List SV}{ys:List (SK×Addr×Value)}{vs:List Value},Paired QV xs ys->vs=ys.map (fun y=>Value.ref y.2.1)->Vals (xs.map fun x=>V.ref x.2.1) vs:=by
 intro xs ys vs pr e;subst e;induction pr with
 |nil=>exact .nil
 |cons h t ih=>exact .cons (by show Value.ref _=Value.ref _;rw[h.2.1]) ih
def Fb(hc:X.calm=true):iw X (.type "list") (fun xs H Q=>(∃p ys,xs=[.ref p]/\(lC X.K H p ys\/jM X.K H p ys)/\∀l,H l=none->Q (.ref l) (upd H l (.lst ys)))\/
  ∃a ks,xs=[.ref a]/\Rd H a (sD ks)/\∀l,H l=none->Q (.ref l) (upd H l (.lst (ks.map fun x=>.ref x.2.1)))):=by
 intro γ s σ H xs us Q I r h;rcases h with h|⟨a,ks,rfl,e,q⟩
 ·exact yu γ s σ H xs us Q I r h
 obtain⟨u,rfl,rx⟩:=vals1 r;cases rx;obtain⟨z,y,nd,ys,o,es,ep,pr,h1,h2,h3,h4⟩:=(zz I.hok e);have le:es.size=ys.length:=by rw[<-Array.length_toList,h4,QAq]
 have lk:=Paired.length pr;refine PySem.W.kdl_call (Bj y) (I.ok.hd hc) ⟨o,h1,h2,h3⟩ (by omega) fun h' tk acc c' kp g it=>?_;have ev:acc.toList=ys.map fun y=>Value.ref y.2.1:=by
  refine List.ext_getElem? fun i=>?_;rw[Array.getElem?_toList,QFz];by_cases hi:i<acc.size
  ·obtain⟨e,e1,e2⟩:=it.2 i acc[i] (Array.getElem?_eq_getElem hi);rw[<-Array.getElem?_toList,h4,QFz]at e1;obtain⟨p,p1,p2⟩:=QJz.mp e1;rw[Array.getElem?_eq_getElem hi,p1,e2,<-p2];rfl
  ·have:acc.size=ys.length:=by rw[it.1,le]
   rw[Array.getElem?_eq_none (by omega),List.getElem?_eq_none (by omega)];rfl
 refine⟨.ref s.heap.objs.size,_,I.laid kp (QVz _) (show bZ X.prog X.w _ h' _ (.lst _)from⟨by rw[QAq];omega,acc.toList,c',R3 (P:=X.prog) (w:=X.w) pr ev,by simpa using g⟩),rfl,q _ (I.hok.fresh (QVz _))⟩
end
section
theorem dF.flat{H:Hp}{v:V}(h:dF K H x v)(f:flat x=true):aL K H x v:=by
 rcases h with h|⟨q,a,rfl,_⟩
 ·exact h
 ·cases q<;>simp[Ob.d,Mini.flat]at f
def Ho(f:flat x=true)(hs:∀y,x≠ .str y):nd x=true/\dep x=0:=by cases x<;>simp_all[flat,nd,dep]
noncomputable def afo(K:QQq):R2:=fun x y H Q=>∃p q,dF K H p x/\dF K H q y/\oK p q=true/\Q (.bl (dM p q)) H
noncomputable def afl(K:QQq):R2:=fun x y H Q=>∃p q,dF K H p x/\dF K H q y/\oK p q=true/\Q (.bl (!dM p q)) H
def Hs{H:Hp}{x y:V}(Dp:aL K H p x)(Dq:aL K H q y)(fp:flat p=true)(fq:flat q=true)(hs:(∃z,p=.str z)\/∃z,q=.str z):RG x y=true/\decide (x=y)=dM p q:=by cases p<;>cases q<;>simp_all[flat]<;>(cases Dp;cases Dq;unfold RG dM;simp)
def Hr{p q:D}(hu:u+60<cLine)(hp:nd p=true)(hq:nd q=true)(hd:dep p<=50):u+min (py p).depth (py q).depth<cLine:=by rw[ud p hp,ud q hq];omega
def tX(h:oK p q=true):(nd p=true/\nd q=true/\dep p<=50)\/(flat p=true/\flat q=true/\((∃z,p=.str z)\/∃z,q=.str z)):=by
 simp only[oK,Bool.or_eq_true,QUq,QUz]at h;rcases h with ⟨h1,h2⟩|⟨⟨h1,h2⟩,h3⟩
 ·by_cases hs:(∃z,p=.str z)\/∃z,q=.str z
  ·exact .inr ⟨h1,h2,hs⟩
  ·have k1:=Ho h1 (fun y e=>hs (.inl ⟨y,e⟩));exact .inl ⟨k1.1,(Ho h2 (fun y e=>hs (.inr ⟨y,e⟩))).1,by omega⟩
 ·exact .inl ⟨h1,h3,h2⟩
def Yg(hu:X.A.units+60<cLine):gq X (compareOp .Eq) (afo X.K):=by
 intro γ s σ H x y v u Q I rx ry h;obtain⟨p,q,Dp,Dq,ok,k⟩:=h;rcases tX ok with ⟨h1,h2,h3⟩|⟨h1,h2,h3⟩
 ·obtain⟨as,ra⟩:=Dp.reads I h1 rx;obtain⟨bs,rb⟩:=Dq.reads I h2 ry;exact SeqAt.compareEq_reads ra rb (jD p h1) (jD q h2) (Hr hu h1 h2 h3) (by rw[tV p q h1 h2];exact⟨.bl _,H,I,rfl,k⟩)
 ·obtain⟨e1,e2⟩:=Hs (Dp.flat h1) (Dq.flat h2) h1 h2 h3;exact abT γ s σ H x y v u Q I rx ry ⟨e1,by rw[e2];exact k⟩
def X6(hu:X.A.units+60<cLine):gq X (compareOp .NotEq) (afl X.K):=by
 intro γ s σ H x y v u Q I rx ry h;obtain⟨p,q,Dp,Dq,ok,k⟩:=h;rcases tX ok with ⟨h1,h2,h3⟩|⟨h1,h2,h3⟩
 ·obtain⟨as,ra⟩:=Dp.reads I h1 rx;obtain⟨bs,rb⟩:=Dq.reads I h2 ry;exact SeqAt.compareNe_reads ra rb (jD p h1) (jD q h2) (Hr hu h1 h2 h3) (by rw[tV p q h1 h2];exact⟨.bl _,H,I,rfl,k⟩)
 ·obtain⟨e1,e2⟩:=Hs (Dp.flat h1) (Dq.flat h2) h1 h2 h3;exact abO γ s σ H x y v u Q I rx ry ⟨e1,by rw[e2];exact k⟩
theorem xV{K:QQq}{H:Hp}{p:D}{x:V}(Dp:aL K H p x)(fp:flat p=true):∀{ds:List D}{vs:List V},ao K H ds vs->ds.all flat=true->vs.all jP=true/\inV x vs=aP p ds
 |[],vs,h,_=>by rw[ao.bV.mp h];exact⟨rfl,rfl⟩
 |d::ds,vs,h,f=>by
  obtain⟨v,r,rfl,h1,h2⟩:=ao.aH.mp h;rw[List.all_cons,QUq]at f;obtain⟨k1,k2⟩:=xV Dp fp h2 f.2;have fv:jP v=true/\Qe v x=dM d p:=by obtain⟨f1,_⟩:=f;cases d<;>cases p<;>simp_all[flat]<;>(cases h1;cases Dp;first|exact⟨rfl,rfl⟩|(refine⟨rfl,?_⟩;simp[Qe,dM];try (rw[Bool.beq_eq_decide_eq])))
  refine⟨by rw[List.all_cons,fv.1,k1];rfl,?_⟩;unfold inV at k2⊢;rw[List.any_cons,fv.2,k2];rfl
theorem uB(hp:nd p=true):∀{ds:List D},lO ds=true->((yD ds).any fun y=>PyData.eqv y (py p))=aP p ds
 |[]=>fun _=>rfl
 |d::ds=>fun h=>by simp only[lO,QUq]at h;rw[yD,List.any_cons,tV d p h.1 hp,uB hp h.2];rfl
def QS(K:QQq)(H:Hp)(xs:List D)(y:V):Prop:=∃a vs,y=.ref a/\(lC K H a vs\/jM K H a vs)/\ao K H xs vs
noncomputable def abG(K:QQq)(neg:Bool):R2:=fun x y H Q=>∃p xs,aL K H p x/\QS K H xs y/\jT p xs=true/\Q (.bl (if neg then !aP p xs else aP p xs)) H
def qN{p:D}(hu:u+60<cLine)(hp:nd p=true)(hd:dep p<=50):u+1+min (PyData.depthAll (yD xs)) (py p).depth<cLine:=by rw[ud p hp];omega
theorem QS.reads{s:Shared}{σ:St}{H:Hp}{y:V}(I:Inv X γ σ H s)(h:QS X.K H xs y)(hn:lO xs=true)(r:RelV y u):
  ∃as,Reads s.heap u (.list (yD xs)) as\/Reads s.heap u (.tuple (yD xs)) as:=by
 obtain⟨a,vs,rfl,hq,l⟩:=h;cases r;rcases hq with hq|hq
 ·obtain⟨its,rv,⟨o,n,e,c,_,dt⟩,_⟩:=I.list hq;obtain⟨as,q⟩:=ao.reads I hn l rv;exact⟨a::as,.inl (.list e c dt (by simpa using q))⟩
 ·obtain⟨its,rv,⟨o,e,c,n,dt⟩,_⟩:=I.tuple hq;obtain⟨as,q⟩:=ao.reads I hn l rv;exact⟨as,.inr (.tuple e c dt (by simpa using q))⟩
def Yd(hu:X.A.units+60<cLine):gq X (compareOp .In) (abG X.K false):=by
 intro γ s σ H x y v u Q I rx ry h;obtain⟨p,xs,Dp,hS,ok,k⟩:=h;simp only[jT,Bool.or_eq_true,QUq,QUz]at ok;rcases ok with ⟨h1,h2⟩|⟨⟨h1,h2⟩,h3⟩
 ·obtain⟨a,vs,rfl,hq,l⟩:=hS;obtain⟨k1,k2⟩:=xV Dp h1 l h2;exact Jz γ s σ H x _ v u Q I rx ry ⟨a,vs,rfl,hq,(by cases p<;>simp_all[flat]<;>(cases Dp;rfl)),k1,by simpa[k2]using k⟩
 ·obtain⟨bs,rb⟩:=aL.reads I h1 Dp rx;obtain⟨as,ra|ra⟩:=hS.reads I h3 ry
  ·exact SeqAt.in_list_reads ra rb (jC xs h3) (jD p h1) (qN hu h1 h2) (by rw[uB h1 h3];exact⟨.bl _,H,I,rfl,k⟩)
  ·exact SeqAt.in_tuple_reads ra rb (jC xs h3) (jD p h1) (qN hu h1 h2) (by rw[uB h1 h3];exact⟨.bl _,H,I,rfl,k⟩)
def Jx(hu:X.A.units+60<cLine):gq X (compareOp .NotIn) (abG X.K true):=by
 intro γ s σ H x y v u Q I rx ry h;obtain⟨p,xs,Dp,hS,ok,k⟩:=h;simp only[jT,Bool.or_eq_true,QUq,QUz]at ok;rcases ok with ⟨h1,h2⟩|⟨⟨h1,h2⟩,h3⟩
 ·obtain⟨a,vs,rfl,hq,l⟩:=hS;obtain⟨k1,k2⟩:=xV Dp h1 l h2;exact xJ γ s σ H x _ v u Q I rx ry ⟨a,vs,rfl,hq,(by cases p<;>simp_all[flat]<;>(cases Dp;rfl)),k1,by simpa[k2]using k⟩
 ·obtain⟨bs,rb⟩:=aL.reads I h1 Dp rx;obtain⟨as,ra|ra⟩:=hS.reads I h3 ry
  ·exact SeqAt.notIn_list_reads ra rb (jC xs h3) (jD p h1) (qN hu h1 h2) (by rw[uB h1 h3];exact⟨.bl _,H,I,rfl,k⟩)
  ·exact SeqAt.notIn_tuple_reads ra rb (jC xs h3) (jD p h1) (qN hu h1 h2) (by rw[uB h1 h3];exact⟨.bl _,H,I,rfl,k⟩)
end
structure Gives(K:QQq)(J:It)(xs:List D)(H:Hp):Prop where
 go:∀H1,bz H H1->∀(i:Nat)d,xs[i]? =some d->J.go i H1
 yld:∀H1,bz H H1->∀(i:Nat)d,xs[i]? =some d->∀x H2,J.yld i H1 x H2->aL K H2 d x/\(H2=H1\/∃p vs,H1 p=none/\H2=upd H1 p (.tup vs))
 stop:∀H1,bz H H1->∀(i:Nat),xs.length<=i->J.stop i H1
 len:xs.length<=sizeLine
noncomputable def tI(K:QQq)(W:Wi)(env:Ev)(r:Out Rv):TI:=fun σ H R=>Sat K env σ H/\match r with
 |.ok x env'=>∃d xs,x.kO=some d/\items d=some xs/\∀J H',Nx K env σ H env' H'->Gives K J xs H'->R J H'
 |.exc c env'=>∀H',Nx K env σ H env' H'->W c env' σ H'
 |.bad=>False
def GI(X:Cx)(W:Wi)(c:Cf)(m:E)(tg e:Expr):Prop:=∀env,PI X tg e (tI X.K W env (ev c m env))
section
theorem oO{ifs:List Expr}{pos:Pos}{env:Env}(I:Nat->Shared->Prop)
  (turn:∀n s,I n s->wpAny (model prog w) A (pyNext it) (fun r θ=>match r with
   |none=>R (.ok .next) θ
   |some v=>wpAny (model prog w) A (letOwnedTupleGo target it v) (fun _ s₁'=>wpAny (model prog w) A (assign target env v) (fun _ Φ=>
     wpAny (model prog w) A (forIn ifs true fun c r=>if r=true then do let ok<-isTrue c env (eval c env);pure (ForInStep.yield ok)else pure (ForInStep.yield r)) (fun ok s₃=>
      if ok=true then wpAny (model prog w) A (eval elt env) (fun x s₄=>wpAny (model prog w) A (call (.builtin "list.append") [acc,x]) (fun _ s₅=>∃m,m<n/\I m s₅) (fun _ _=>False) s₄) (fun _ _=>False) s₃
      else∃m,m<n/\I m s₃) (fun _ _=>False) Φ) (fun _ _=>False) s₁') (fun _ _=>False) θ) (fun _ _=>False) s)
  n(h:I n s):
  codeAny (model prog w) A (.compLoop (.ListComp elt [⟨target,iter,ifs,0⟩] scope pos) 0 it acc env) R s:=by
 refine codeAny_loop rfl I (fun n s hI=>?_) n h;refine wpAny_noted ?_;refine QKq (wpAny_standAt (QKq (QGq (turn n s hI) (fun r θ Δ=>?_) fun _ _ h'=>h'.elim)));cases r with
 |none=>exact QKz Δ
 |some v=>
  refine QKq (QGq Δ (fun _ s₁' h₁'=>?_) fun _ _ h'=>h'.elim);refine QKq (QGq h₁' (fun _ Φ h₂=>QKq (QGq h₂ (fun ok s₃ h₃=>?_) fun _ _ h'=>h'.elim)) fun _ _ h'=>h'.elim);cases ok with
  |false=>exact QKz ⟨rfl,h₃⟩
  |true=>exact QKq (QKq (QGq h₃ (fun x s₄ h₄=>QKq (QGq h₄ (fun _ s₅ h₅=>QKz (QKz ⟨rfl,h₅⟩)) fun _ _ h'=>h'.elim)) fun _ _ h'=>h'.elim))
end
noncomputable def blk(X:Cx)(scope:Scope)(cl:List (Str×Addr))(N:List Str)(fp:List Addr)(s₀:Shared)(H₀:Hp):Cx where
 prog:=X.prog
 w:=X.w
 K:=X.K
 mg:=X.mg
 base:=X.base
 A:=X.A
 N:=N
 s₀:=s₀
 H₀:=H₀
 env:=compEnvC scope cl s₀.heap.objs.size X.env
 outer:=X.stack
 stack:=X.stack
 ex:=fp
 fn:=fun _=>false
 calm:=X.calm
 pn:=[]
 xe:=fun _ _=>False
def aR(η N:List Str):List Str:=η++N.map fun x=>if η.contains x then(".":Str)++x else x
structure Bt(sc inner:Scope)(η N:List Str):Prop where
 kind:inner.kind=.function
 nd:(aR η N).Nodup
 loc:∀x,inner.names.lookup x=some .local->x∈η\/x=(".0":Str)
 locs:∀x∈inner.names,x.2=.local->inner.names.lookup x.1=some .local
 tg:∀x∈η,inner.names.lookup x=some .local
 nocell:∀x∈inner.names,x.2≠ .cell
 fre:∀x∈inner.names,x.2=.free->sc.names.lookup x.1=some .cell\/sc.names.lookup x.1=some .free
 dot:∀x∈N,η.contains x=true->inner.names.lookup ((".":Str)++x)=none
 dot0:(".0":Str)∉N
structure KZ(scope:Scope)(env:Env)(cl:List (Str×Addr)):Prop where
 eq:closureFor scope env=pure cl
 to:∀x c,cl.lookup x=some c->env.cells.lookup x=some c
 has:∀x,scope.names.lookup x=some .free->∃c,cl.lookup x=some c
theorem bM{env:Env}:∀{names:List (Str×NameKind)}{x:Str}{k:NameKind},
  (names.map fun(n,k)=>if (k==NameKind.free&&env.scope.kind== .function&&env.kindOf n==some .cell)then(n,NameKind.cell)else(n,k)).lookup x=some k->
   names.lookup x=some k\/(k=.cell/\names.lookup x=some .free)
 |[],_,_,h=>by simp at h
 |(n,k')::r,x,k,h=>by
  rw[Qyz]at h;cases hx:x==n with
  |true=>
   by_cases hc:(k'==NameKind.free&&env.scope.kind== .function&&env.kindOf n==some .cell)=true
   ·simp only[hc,if_true,QHz,hx]at h;cases h;simp only[QUq,beq_iff_eq]at hc;exact .inr ⟨rfl,by simp[QHz,hx,hc.1.1]⟩
   ·simp only[eq_false_of_ne_true hc,Qxq,if_false,QHz,hx]at h;exact .inl (by simpa[QHz,hx]using h)
  |false=>
   have h':(r.map fun(n,k)=>if (k==NameKind.free&&env.scope.kind== .function&&env.kindOf n==some .cell)then(n,NameKind.cell)else(n,k)).lookup x=some k:=by
    by_cases hc:(k'==NameKind.free&&env.scope.kind== .function&&env.kindOf n==some .cell)=true
    ·simpa only[hc,if_true,QHz,hx]using h
    ·simpa only[eq_false_of_ne_true hc,Qxq,if_false,QHz,hx]using h
   rcases (@bM env r x k) h' with q|⟨q1,q2⟩
   ·exact .inl (by simpa[QHz,hx]using q)
   ·exact .inr ⟨q1,by simpa[QHz,hx]using q2⟩
theorem Ff{scope:Scope}{η:List Str}{fp:List Addr}{σ:St}
  (I:Inv X γ σ H s)(sc:Bt X.env.scope scope η X.N)(co:KZ scope X.env cl)(hf:∀b∈fp,dB X γ H b)(hlt:∀b∈fp,b<s.heap.objs.size):
  (blk X scope cl (aR η X.N) fp s H).Ok where
 mod:=I.ok.mod
 kind:=sc.kind
 glob:=I.ok.glob
 blt:=I.ok.blt
 above:=QVz _
 inj:=fun x y c h1 h2=>I.ok.inj x y c (co.to x c h1) (co.to y c h2)
 has:=fun x h=>by
  have z:scope.names.lookup x=some .free:=by
   rcases h with h|h
   ·rcases bM h with q|⟨_,q⟩
    ·exact absurd rfl (sc.nocell _ (PySem.mem_of_lookup q))
    ·exact q
   ·rcases bM h with q|⟨q,_⟩
    ·exact q
    ·cases q
  exact co.has x z
 cab:=fun x c h=>by cases h
 hd:=I.ok.hd
 frames:=I.ok.frames
 stk:=.inl rfl
 exf:=fun b hb=>⟨Qvz (hlt b hb),fun x c h=>(hf b hb).2.2.2.2.1 x c (co.to x c h)⟩
 bs:=I.bs
 bsz:=Nat.le_trans I.ok.bsz I.sz
 noex:=fun b o e hb=>by
  rcases (hf b hb).2.2.2.1 with z|z
  ·exact I.ok.noex b o e z
  ·exact absurd (Qvq (Qqz e) (Nat.le_trans I.ok.bsz z)) (Nat.lt_irrefl _)
 exfs:=fun b hb hs=>by
  obtain⟨_,h1,h2,_⟩:=hf b hb;rcases QCq.mp (I.Ck b hs)with z|z
  ·exact h1 z
  ·exact h2 z
 my:=I.stack
 frf:=I.Gg
theorem HW{scope:Scope}{η:List Str}{fp:List Addr}{σ:St}{H:Hp}{h':Heap}
  (I:Inv X γ σ H s)(sc:Bt X.env.scope scope η X.N)(co:KZ scope X.env cl)(hf:∀b∈fp,dB X γ H b)(hlt:∀b∈fp,b<s.heap.objs.size)
  (hn:h'.Ns s.heap.objs.size fun _=>none)(hk:∀b o,s.heap.get? b=some o->h'.get? b=some o):
  Inv (blk X scope cl (aR η X.N) fp s H) [] (List.replicate η.length none++σ) H {s with heap:=h',toks:=t}:=by
 have cellK:∀c v,s.heap.IsCell c v->h'.IsCell c v:=fun c v⟨o,e,d⟩=>⟨o,hk c o e,d⟩;refine⟨Ff I sc co hf hlt,rfl,I.bare,Un.kept hk,⟨_,hn,fun i x v e1 e2 e3=>?_⟩,fun x c e=>?_,I.hok.fresh (QVz _),fun x c e=>I.freeC x c (co.to x c e),fun p hp=>absurd (show p∈([])from hp) (by simp),I.hok.kept hk,?_⟩
 ·have hi:η.length<=i:=by
   refine Nat.le_of_not_lt fun q=>?_;rw[Qwz (by simpa using q),List.getElem?_replicate]at e2;split at e2<;>cases e2
  rw[QIz (by simpa using hi)]at e2
  simp only[List.length_replicate]at e2
  have e1':(aR η X.N)[i]? =some x:=e1
  unfold aR at e1'
  rw[QIz hi,QFz]at e1'
  cases ey:X.N[i-η.length]? with
  |none=>rw[ey]at e1';cases e1'
  |some y=>
   rw[ey]at e1'
   have e1'':(if η.contains y=true then(".")++y else y)=x:=QEq e1'
   have e3':=e3
   by_cases hy:η.contains y=true
   ·rw[if_pos hy]at e1''
    subst e1''
    have no:=sc.dot y (QBz ey) hy
    rcases e3' with q|q|q
    ·rcases bM q with z|⟨z,_⟩
     ·rw[no]at z;cases z
     ·cases z
    ·rcases bM q with z|⟨_,z⟩
     ·rw[no]at z;cases z
     ·rw[no]at z;cases z
    ·rcases bM q with z|⟨z,_⟩
     ·rw[no]at z;cases z
     ·cases z
   ·rw[if_neg hy]at e1''
    subst e1''
    have fr:scope.names.lookup y=some .free:=by
     rcases e3' with q|q|q
     ·rcases bM q with z|⟨z,_⟩
      ·rcases sc.loc y z with w|w
       ·exact absurd (by simpa using w) hy
       ·exact absurd (w▸QBz ey) sc.dot0
      ·cases z
     ·rcases bM q with z|⟨_,z⟩
      ·exact absurd rfl (sc.nocell _ (PySem.mem_of_lookup z))
      ·exact z
     ·rcases bM q with z|⟨z,_⟩
      ·exact z
      ·cases z
    have ou:=sc.fre _ (PySem.mem_of_lookup fr) rfl
    obtain⟨m,hm,hl⟩:=I.loc
    obtain⟨u,r,l⟩:=hl _ y v ey e2 (.inr ou)
    obtain⟨c,hc⟩:=co.has y fr
    refine⟨u,r,.inr ⟨?_,c,hc,?_⟩⟩
    ·have z:=e3'
     rcases z with z|z|z
     ·rcases bM z with w|⟨w,_⟩
      ·rw[fr]at w;cases w
      ·cases w
     ·exact .inl z
     ·exact .inr z
    ·rcases l with ⟨k,_⟩|⟨_,c',hc',z⟩
     ·have k':X.env.scope.names.lookup y=some .local:=k
      rcases ou with w|w
      ·rw[k']at w;cases w
      ·rw[k']at w;cases w
     ·rw[co.to y c hc]at hc'
      cases hc'
      exact cellK c _ z
 ·obtain⟨v,z⟩:=I.cell x c (co.to x c e);exact⟨v,cellK c v z⟩
 ·show(List.replicate η.length none++σ).length=(aR η X.N).length;unfold aR;simp only[QTq,List.length_replicate,QAq,I.len]
def slots:Tg->List Nat
 |.name i=>[i]
 |.tup is=>is
structure jQ(K:QQq)(tg:Tg)(env:Ev)(σ:St)(env':Ev)(ζ:St)(H:Hp):Prop where
 gw:Sat K env' ζ H
 same:∀(i:Nat),i∉slots tg->env'[i]? =env[i]? /\ζ[i]? =σ[i]?
 vals:∀(i:Nat),i∈slots tg->∃d,env'[i]? =some (.val d)
 bors:∀(i:Nat)xs,env[i]? =some (.bor xs)->i∉slots tg
 len:ζ.length=σ.length
noncomputable def tG(K:QQq)(tg:Tg):TG:=fun v σ H Q=>∃env d env',Sat K env σ H/\aL K H d v/\fZ tg d env=some env'/\∀ζ,jQ K tg env σ env' ζ H->Q ζ H
def GG(X:Cx)(tg:Tg)(e:Expr):Prop:=PG X e (tG X.K tg)
section
def jQ.sub(h:jQ K tg env σ env' ζ H){a:Addr}(o:aJ env' ζ i a):aJ env σ i a:=by
 obtain⟨⟨s,xs,e1,e2⟩,e3⟩:=o;by_cases hi:i∈slots tg
 ·obtain⟨d,e⟩:=h.vals i hi;rw[e]at e1;cases e1;cases e2
 ·obtain⟨q1,q2⟩:=h.same i hi;exact⟨⟨s,xs,by rw[<-q1];exact e1,e2⟩,by rw[<-q2];exact e3⟩
def rR{s:Sl}(h:f9 i s env=some env'):env'=env.set i s/\i<env.length/\∀xs,env[i]? ≠some (.bor xs):=by
 unfold f9 at h;cases e:env[i]? with
 |none=>rw[e]at h;cases h
 |some t=>
  rw[e]at h;have hi:=(QCz.mp e).1;cases t with
  |bor xs=>cases h
  |un=>cases h;exact⟨rfl,hi,fun xs q=>by cases q⟩
  |val d=>cases h;exact⟨rfl,hi,fun xs q=>by cases q⟩
  |own ys=>cases h;exact⟨rfl,hi,fun xs q=>by cases q⟩
def Sat.put{d:D}(S:Sat K env σ H)(hi:i<env.length)(hd:aL K H d v):Sat K (env.set i (.val d)) (σ.set i (some v)) H:=by
 have own:∀j a,aJ (env.set i (.val d)) (σ.set i (some v)) j a->aJ env σ j a:=fun j a⟨⟨s,xs,e1,e2⟩,e3⟩=>by
  by_cases hj:i=j
  ·subst hj;rw[Qwq hi]at e1;cases e1;cases e2
  ·rw[Qxz hj]at e1 e3;exact⟨⟨s,xs,e1,e2⟩,e3⟩
 refine⟨by simpa using S.len,fun j s e=>?_,fun j k a h1 h2=>S.ne j k a (own j a h1) (own k a h2)⟩;by_cases hj:i=j
 ·subst hj;rw[Qwq hi]at e;cases e;rw[Qwq (by rw[<-S.len];exact hi)];exact⟨v,rfl,hd⟩
 ·rw[Qxz hj]at e⊢;exact S.sl j s e
def Rz{d:D}(S:Sat K env σ H)(hd:aL K H d v)(h:f9 i (.val d) env=some env'):jQ K (.name i) env σ env' (σ.set i (some v)) H:=by
 obtain⟨rfl,hi,hb⟩:=rR h;refine⟨S.put hi hd,fun j hj=>?_,fun j hj=>?_,fun j xs e hj=>?_,by simp⟩
 ·have:i≠j:=fun z=>hj (by simp[slots,z]);exact⟨Qxz this,Qxz this⟩
 ·have e:j=i:=by simpa[slots]using hj
  subst e;exact⟨d,Qwq hi⟩
 ·have e':j=i:=by simpa[slots]using hj
  subst e';exact hb xs e
end
section
def xX{x:Str}(hN:X.N.Nodup)(hi:X.N[i]? =some x)(hx:Loc X.env.scope x)(hf:X.fn x=true\/X.env.scope.names.lookup x=some .local):GG X (.name i) (.Name x pos):=by intro γ s σ H v u Q I r q;obtain⟨env,d,env',S,hd,e,k⟩:=q;exact Gx hN hi hx hf γ s σ H v u Q I r (k _ (Rz S hd e))
noncomputable def iD(sc:Scope)(N:List Str):List Nat->List Expr->Bool
 |[],[]=>true
 |i::is,.Name x _::es=>(N[i]? ==some x)&&(sc.names.lookup x==some .local)&&iD sc N is es
 |_,_=>false
inductive uE(X:Cx):List Nat->List Expr->Prop
 |nil:uE X [] []
 |cons {i:Nat} {is:List Nat} {x:Str} {p:Pos} {es:List Expr}:X.N[i]? =some x->Loc X.env.scope x->(X.fn x=true\/X.env.scope.names.lookup x=some .local)->uE X is es->uE X (i::is) (.Name x p::es)
theorem N8:∀{is:List Nat}{es:List Expr},iD X.env.scope X.N is es=true->uE X is es
 |[],[]=>fun _=>.nil
 |[],_::_=>fun h=>by simp[iD]at h
 |_::_,[]=>fun h=>by simp[iD]at h
 |i::is,e::es=>fun h=>by
  cases e with
  |Name x p=>simp only[iD,QUq,beq_iff_eq]at h;exact .cons h.1.1 (.inl h.1.2) (.inr h.1.2) (N8 h.2)
  |_=>simp[iD]at h
theorem Ag(hN:X.N.Nodup):∀(is:List Nat)(es:List Expr),uE X is es->
  PGs X es (fun vs σ H Q=>∃env ds env',Sat X.K env σ H/\ao X.K H ds vs/\wX is ds env=some env'/\∀ζ,jQ X.K (.tup is) env σ env' ζ H->Q ζ H)
 |[],[],_=>fun γ s σ H vs us Q I r⟨env,ds,env',S,l,e,k⟩=>by
  cases ds with
  |nil=>
   cases e;refine Sx γ s σ H vs us Q I r ⟨ao.bV.mp l,k σ ⟨S,fun i _=>⟨rfl,rfl⟩,fun i hi=>?_,fun i xs _=>?_,rfl⟩⟩
   ·simp[slots]at hi
   ·simp[slots]
  |cons d ds=>cases e
 |i::is,_,.cons (x:=x) (p:=p) (es:=es) h1 h2 h3 h4=>by
   intro γ s σ H vs us Q I r q;refine Nb (xX hN h1 h2 h3) (Ag hN is es h4) (by rfl) γ s σ H vs us Q I r ?_;obtain⟨env,ds,env',S,l,e,k⟩:=q;cases ds with
   |nil=>cases e
   |cons d ds=>
    obtain⟨v,vr,rfl,hd,l'⟩:=ao.aH.mp l;have e':(f9 i _ env).bind _=some env':=e;cases e1:f9 i _ env with
    |none=>rw[e1]at e';cases e'
    |some δ=>
     rw[e1]at e';refine⟨v,vr,rfl,env,d,δ,S,hd,e1,fun ο s1=>⟨δ,ds,env',s1.gw,l',e',fun π s2=>k π ⟨s2.gw,fun j hj=>?_,fun j hj=>?_,fun j xs q hj=>?_,s2.len.trans s1.len⟩⟩⟩
     ·have h1:j∉slots (.name i):=fun z=>hj (by simp[slots]at z⊢;exact .inl z);have h2:=fun z=>hj (by simp[slots]at z⊢;exact .inr z);exact⟨(s2.same j h2).1.trans (s1.same j h1).1,(s2.same j h2).2.trans (s1.same j h1).2⟩
     ·by_cases h2:j∈slots (.tup is)
      ·exact s2.vals j h2
      ·obtain⟨d',q⟩:=s1.vals j (by simp[slots]at hj h2⊢;exact hj.resolve_right h2);exact⟨d',(s2.same j h2).1.trans q⟩
     ·by_cases h1:j∈slots (.name i)
      ·exact s1.bors j xs q h1
      ·exact s2.bors j xs ((s1.same j h1).1.trans q) (by simp[slots]at hj h1⊢;exact hj.resolve_left h1)
def Pu{is:List Nat}{k:Nat}(hN:X.N.Nodup)(hc:X.calm=true)(h:uE X is es)(hl:(assignEach es X.env).length=is.length)(hst:(assignEach es X.env).findIdx? (·.1)=none):GG X (.tup is) (.Tuple es k pos):=by
 intro γ s σ H v u Q I r q;obtain⟨env,d,env',S,hd,e,k⟩:=q;cases d with
 |tup ds=>
  obtain⟨a,vs,rfl,hq,l⟩:=cM hd;refine XD hc (Ag hN is es h) hl hst γ s σ H _ u Q I r ⟨a,vs,rfl,hq,?_,env,ds,env',S,l,e,k⟩;have lens:∀is ds env env',wX is ds env=some env'->ds.length=is.length:=by
   intro is;induction is with
   |nil=>intro ds env env' e;cases ds with|nil=>rfl|cons _ _=>cases e
   |cons i is ih=>
    intro ds env env' e;cases ds with
    |nil=>cases e
    |cons d ds=>
     have e':(f9 i _ env).bind _=some env':=e;cases e1:f9 i _ env with
     |none=>rw[e1]at e';cases e'
     |some δ=>rw[e1]at e';simp[ih ds δ env' e']
  rw[<-l.length];exact lens is ds env env' e
 |_=>cases e
end
def W0:Wi:=fun _ _ _ _=>False
def Sat.lay{env:Ev}{H H2:Hp}(S:Sat K env σ H)(h:H2=H\/∃p vs,H p=none/\H2=upd H p (.tup vs)):Nx K env σ H env H2:=by
 rcases h with rfl|⟨p,vs,hp,rfl⟩
 ·exact Nx.refl S
 ·exact Nx.laid S hp
def sJ{σ:St}{a:Addr}:aJ (env.drop nl) (σ.drop nl) i a↔aJ env σ (nl+i) a:=by unfold aJ;rw[List.getElem?_drop,List.getElem?_drop]
theorem Sat.drop{env:Ev}{H:Hp}(S:Sat K env σ H):Sat K (env.drop nl) (σ.drop nl) H:=by
 refine⟨by rw[List.length_drop,List.length_drop,S.len],fun i s e=>?_,fun i j a h1 h2=>?_⟩
 ·rw[List.getElem?_drop]at e⊢;exact S.sl _ s e
 ·have:=S.ne _ _ a (sJ.mp h1) (sJ.mp h2);omega
def jj{σ:St}{i:Nat}(h:aJ (List.replicate nl .un++env) (List.replicate nl none++σ) i a):∃j,i=nl+j/\aJ env σ j a:=by
 obtain⟨⟨s,xs,e1,e2⟩,e3⟩:=h;by_cases hi:i<nl
 ·rw[Qwz (by simpa using hi),List.getElem?_replicate,if_pos hi]at e1;cases e1;cases e2
 ·refine⟨i-nl,by omega,?_⟩;rw[QIz (by simp;omega)]at e1 e3;simp only[List.length_replicate]at e1 e3;exact⟨⟨s,xs,e1,e2⟩,e3⟩
def Sat.front{env:Ev}{H:Hp}(S:Sat K env σ H)nl:Sat K (List.replicate nl .un++env) (List.replicate nl none++σ) H:=by
 refine⟨by simp[S.len],fun i s e=>?_,fun i j a h1 h2=>?_⟩
 ·by_cases hi:i<nl
  ·rw[Qwz (by simpa using hi),List.getElem?_replicate,if_pos hi]at e;cases e;trivial
  ·rw[QIz (by simp;omega)]at e⊢;simp only[List.length_replicate]at e⊢;exact S.sl _ s e
 ·obtain⟨i',rfl,o1⟩:=jj h1;obtain⟨j',rfl,o2⟩:=jj h2;rw[S.ne i' j' a o1 o2]
structure Bx(X:Cx)(c:Cf)(scope:Scope)(η:List Str)(tg:Tg)(cond elt:E)(tgE ω:Expr)(ifs:List Expr):Prop where
 sc:Bt X.env.scope scope η X.N
 small:∀i∈slots tg,i<η.length
 tgt:∀cl fp s₀ H₀,(blk X scope cl (aR η X.N) fp s₀ H₀).Ok->GG (blk X scope cl (aR η X.N) fp s₀ H₀) tg tgE
 tests:(ifs=[]/\cond=.con (.bl true))\/∃ce,ifs=[ce]/\∀cl fp s₀ H₀,(blk X scope cl (aR η X.N) fp s₀ H₀).Ok->GT (blk X scope cl (aR η X.N) fp s₀ H₀) W0 c cond ce
 elts:∀cl fp s₀ H₀,(blk X scope cl (aR η X.N) fp s₀ H₀).Ok->GE (blk X scope cl (aR η X.N) fp s₀ H₀) W0 c elt ω
structure LI(X:Cx)(c:Cf)(tg:Tg)(cond elt:E)(xs ys:List D)(τ env0:Ev)(σ σ0:St)(H3:Hp)(D:Addr)(nl i:Nat)(acc:List Mini.D)(vs:List V)(τ1:Ev)(ο:St)(H1:Hp):Prop where
 le:i<=xs.length
 go:bx tg (ev c cond) (ev c elt) (xs.drop i) acc τ1=.ok ys τ
 gw:Sat X.K τ1 ο H1
 out:ο.drop nl=σ
 acl:acc.length<=i
 cur:H1 D=some (.lst vs)
 den:ao X.K H1 acc vs
 sub:∀k a,aJ τ1 ο k a->aJ env0 σ0 k a
 pers:bz H3 H1
 keep:∀b u,H3 b=some u->b≠D->(∀k,¬aJ env0 σ0 k b)->H1 b=some u
 dom:∀b,H1 b=none->H3 b=none
 bors:∀(k:Nat)ws,env0[k]? =some (.bor ws)->∃ws',τ1[k]? =some (.bor ws')
section
variable{cond elt:E}{D:Addr}
def LI.no(L:LI X c tg cond elt xs ys τ env0 σ σ0 H3 D nl i acc vs τ1 ο H1)(hD:∀k,¬aJ env0 σ0 k D):∀k,¬aJ τ1 ο k D:=fun k z=>hD k (L.sub k D z)
end
structure Ch(K:QQq)(env:Ev)(σ:St)(H:Hp)(env':Ev)(ζ:St)(H':Hp):Prop where
 gw:Sat K env' ζ H'
 sub:∀(i:Nat)a,aJ env' ζ i a->aJ env σ i a
 pers:bz H H'
 keep:∀b u,H b=some u->(∀i,¬aJ env σ i b)->H' b=some u
 dom:∀b,H' b=none->H b=none
 bors:∀(i:Nat)xs,env[i]? =some (.bor xs)->∃ys,env'[i]? =some (.bor ys)
section
def Nx.ch(N:Nx K env σ H δ H1):Ch K env σ H δ σ H1:=⟨N.gw,N.sub,N.pers,N.keep,N.dom,N.bors⟩
def jQ.ch(h:jQ K tg env σ δ ο H):Ch K env σ H δ ο H:=⟨h.gw,fun _ _ z=>h.sub z,bz.refl H,fun _ _ z _=>z,fun _ z=>z,fun i xs e=>⟨xs,(h.same i (h.bors i xs e)).1.trans e⟩⟩
theorem Ch.trans(a:Ch K env σ H δ ο H1)(b:Ch K δ ο H1 ε π H2):Ch K env σ H ε π H2:=
 ⟨b.gw,fun i c z=>a.sub i c (b.sub i c z),a.pers.trans b.pers,fun c vs z n=>b.keep c vs (a.keep c vs z n) fun i w=>n i (a.sub i c w),fun c z=>a.dom c (b.dom c z),fun i xs e=>let ⟨ys,e1⟩:=a.bors i xs e;b.bors i ys e1⟩
end
def jQ.out{tg:Tg}{σ ο:St}{nl:Nat}(h:jQ K tg env σ δ ο H)(hs:∀i∈slots tg,i<nl):ο.drop nl=σ.drop nl:=by apply List.ext_getElem?;intro i;rw[List.getElem?_drop,List.getElem?_drop];exact(h.same _ fun z=>by have:=hs _ z;omega).2
section
variable{cond elt:E}{D:Addr}
theorem LI.skip(L:LI X c tg cond elt xs ys τ env0 σ σ0 H3 D nl i acc vs τ1 ο H1)(hD:∀k,¬aJ env0 σ0 k D)(C:Ch X.K τ1 ο H1 τ2 π H2)(hi:i<xs.length)(ho:π.drop nl=σ)
  (go:bx tg (ev c cond) (ev c elt) (xs.drop (i+1)) acc τ2=.ok ys τ):LI X c tg cond elt xs ys τ env0 σ σ0 H3 D nl (i+1) acc vs τ2 π H2 where
 le:=hi
 go:=go
 gw:=C.gw
 out:=ho
 acl:=Nat.le_succ_of_le L.acl
 cur:=C.keep D _ L.cur (L.no hD)
 den:=L.den.mono C.pers
 sub:=fun k a z=>L.sub k a (C.sub k a z)
 pers:=L.pers.trans C.pers
 keep:=fun b ws z n1 n2=>C.keep b ws (L.keep b ws z n1 n2) fun k o=>n2 k (L.sub k b o)
 dom:=fun b z=>L.dom b (C.dom b z)
 bors:=fun k ws e=>let ⟨w1,e1⟩:=L.bors k ws e;C.bors k w1 e1
def LI.push{v:V}(L:LI X c tg cond elt xs ys τ env0 σ σ0 H3 D nl i acc vs τ1 ο H1)(hD:∀k,¬aJ env0 σ0 k D)(C:Ch X.K τ1 ο H1 τ2 π H2)(hi:i<xs.length)(ho:π.drop nl=σ)
  (go:bx tg (ev c cond) (ev c elt) (xs.drop (i+1)) (acc++[d]) τ2=.ok ys τ)(hd:aL X.K H2 d v):LI X c tg cond elt xs ys τ env0 σ σ0 H3 D nl (i+1) (acc++[d]) (vs++[v]) τ2 π (upd H2 D (.lst (vs++[v]))):=by
 have cur:=C.keep D _ L.cur (L.no hD);have ne:∀b u,H2 b=some u->(∀ws,u≠ .lst ws)->b≠D:=fun b u q n z=>by subst z;rw[cur]at q;cases q;exact n vs rfl
 have p:bz H2 (upd H2 D (.lst (vs++[v]))):=⟨fun b ws q=>by rw[ak (ne b _ q (by intro ws z;cases z))];exact q,fun b o u q=>by rw[ak (ne b _ q (by intro ws z;cases z))];exact q⟩;have no2:=fun k z=>L.no hD k (C.sub k D z);refine⟨hi,go,C.gw.keep p fun k b u ow hb=>?_,ho,by rw[QTq];exact Nat.succ_le_succ L.acl,aq,((L.den.mono C.pers).append (ao.aZ hd ao.dZ)).mono p,fun k a z=>L.sub k a (C.sub k a z),
  (L.pers.trans C.pers).trans p,fun b ws z n1 n2=>?_,fun b z=>L.dom b (C.dom b ?_),fun k ws e=>let ⟨w1,e1⟩:=L.bors k ws e;C.bors k w1 e1⟩
 ·rw[ak (fun z=>by subst z;exact no2 k ow)];exact hb
 ·rw[ak n1];exact C.keep b ws (L.keep b ws z n1 n2) fun k o=>n2 k (L.sub k b o)
 ·by_cases hb:b=D
  ·subst hb;rw[aq]at z;cases z
  ·rw[ak hb]at z;exact z
end
def vW{α:Type}{xs:List α}{d:α}(h:xs[i]? =some d):xs.drop i=d::xs.drop (i+1):=by obtain⟨hi,e⟩:=QCz.mp h;rw[List.drop_eq_getElem_cons hi,e]
def wg{c:Cf}{scope:Scope}{tg:Tg}{cond elt:E}{ifs:List Expr}
{σ:St} {s:Shared} {J:It} {it:Addr} {xs ys:List D} {RR:Value->Addr->Result->Shared->Prop} {E:QZq}
  (B:Bx X c scope η tg cond elt tgE ω ifs) (hc:X.calm=true) (co:KZ scope X.env cl)
  (I:Inv X γ σ H s) (S:Sat X.K env σ H) (T:Turn X.prog X.w X.K tgE J fp it tn) (t0:tn 0 s.heap) (hf:∀b∈fp,dB X γ H b) (G:Gives X.K J xs H)
  (hgo:bx tg (ev c cond) (ev c elt) xs [] (List.replicate η.length .un++env)=.ok ys τ)
  (hRR:∀(D C:Addr)(s':Shared)(H':Hp)(vs:List V)(m:QZz),Inv X γ σ H' s'->Nx X.K env σ H (τ.drop η.length) H'->H' D=some (.lst vs)->ao X.K H' ys vs->H D=none->
   s'.heap.Ns C m->dB X γ H' C->RR (.ref D) C (.ok .next) s'):
  wpAny (model X.prog X.w) X.A (newList []) (fun acc s₃=>wpAny (model X.prog X.w) X.A (newFunctionEnv scope X.env.globals cl [] X.env.qual none .none (some X.env)) (fun cenv s₄=>codeAny (model X.prog X.w) X.A (.compStart (.ListComp ω [⟨tgE,ξ,ifs,0⟩] scope pos) 0 (.ref it) acc {cenv with scope:=relabel scope X.env}) (RR acc cenv.locals) s₄) E s₃) E s:=by
 have hlt:∀b∈fp,b<s.heap.objs.size:=fun b hb=>by obtain⟨o,e,_⟩:=T.obj 0 _ t0 b hb;exact Qqz e
 refine Qjq (wpAny_newFunctionEnv B.sc.nocell (by intro y hy;simp at hy) (fun Δ Ω Ψ=>?_) B.sc.kind);dsimp only at Ω Ψ⊢;generalize hDd:s.heap.objs.size=D at*;have hDn:H D=none:=by rw[<-hDd];exact I.hok.fresh (QVz _)
 have I3:Inv X γ σ (upd H D (.lst [])) {s with heap:=s.heap.push {cls:=.type "list",dict:=none,data:=.seq ([]:List Value).toArray}}:=by have:=I.laid (a:=s.heap.objs.size) (o:=.lst []) (t':=s.toks) (h':=s.heap.push {cls:=.type "list",dict:=none,data:=.seq ([]:List Value).toArray}) (fun b o e=>QWq _ e) (QVz _) ⟨QIq _,[],0,.nil,Qzq _ rfl⟩;rw[hDd]at this;exact this
 obtain⟨s3,hs3⟩:∃s3:Shared,s3={s with heap:=s.heap.push {cls:=.type "list",dict:=none,data:=.seq ([]:List Value).toArray}}:=⟨_,rfl⟩;rw[<-hs3]at I3;have hs3h:s.heap.push {cls:=.type "list",dict:=none,data:=.seq ([]:List Value).toArray}=s3.heap:=by rw[hs3]
 rw[hs3h]at Ω Ψ⊢;have hsz:s3.heap.objs.size=D+1:=by rw[<-hs3h,Heap.size_push,hDd]
 have hk3:=fun b o e=>Ψ.extBut b o (Qvz (Qqz e)) (QWq _ e);have hk:∀b o,s.heap.get? b=some o->s3.heap.get? b=some o:=fun b o e=>by rw[<-hs3h];exact QWq _ e
 have hf3:∀b∈fp,dB X γ (upd H D (.lst [])) b:=fun b hb=>⟨by rw[ak (Qvz (hlt b hb))];exact(hf b hb).1,(hf b hb).2⟩
 have hlt3:∀b∈fp,b<s3.heap.objs.size:=fun b hb=>Qvq (hlt b hb) (by rw[hsz];exact Nat.le_succ _);have N3:Nx X.K env σ H env (upd H D (.lst [])):=Nx.laid S hDn;generalize hH3:upd H D (.lst [])=H3 at I3 hf3 N3;have hD3:H3 D=some (.lst []):=by rw[<-hH3];exact aq
 have noD:∀k,¬aJ (List.replicate η.length .un++env) (List.replicate η.length none++σ) k D:=fun k z=>by obtain⟨j,_,o⟩:=jj z;obtain⟨_,_,q,_⟩:=S.own o;rw[hDn]at q;cases q
 have ok':=Ff I3 B.sc co hf3 hlt3;have hns':Δ.Ns s3.heap.objs.size fun _=>none:=by simpa using Ω
 have fpk:∀{H1:Hp},(∀b∈fp,H1 b=none)->∀b∈fp,dB (blk X scope cl (aR η X.N) fp s3 H3) [] H1 b:=fun{H1}hn b hb=>⟨hn b hb,(ok'.exf b hb).1,ok'.exfs b hb,.inl hb,fun x q e=>(ok'.exf b hb).2 x q e,fun p hp=>absurd (show p∈([]:QQz)from hp) (by simp)⟩
 have loop:∀s4:Shared,s4={s with heap:=Δ,toks:=s.toks+([]:List (Str×Value)).length}->
   codeAny (model X.prog X.w) X.A (.compLoop (.ListComp ω [⟨tgE,ξ,ifs,0⟩] scope pos) 0 (.ref it) (.ref D) (compEnvC scope cl s3.heap.objs.size X.env)) (RR (.ref D) s3.heap.objs.size) s4:=by
  rintro s4 rfl;have I4:Inv (blk X scope cl (aR η X.N) fp s3 H3) [] (List.replicate η.length none++σ) H3 {s with heap:=Δ,toks:=s.toks+([]:List (Str×Value)).length}:=by have:=HW (t:=s.toks+([]:List (Str×Value)).length) I3 B.sc co hf3 hlt3 hns' hk3;rw[hs3]at this⊢;exact this
  refine oO (fun n s'=>∃i acc vs τ1 ο H1,n=xs.length-i/\Inv (blk X scope cl (aR η X.N) fp s3 H3) [] ο H1 s'/\tn i s'.heap/\(∀b∈fp,H1 b=none)/\
   LI X c tg cond elt xs ys τ (List.replicate η.length .un++env) σ (List.replicate η.length none++σ) H3 D η.length i acc vs τ1 ο H1) ?_ xs.length ?_
  ·rintro n s1 ⟨i,acc,vs,τ1,ο,H1,rfl,I1,t1,f1,L⟩;by_cases hi:i<xs.length
   ·obtain⟨d,hd⟩:∃d,xs[i]? =some d:=⟨xs[i],by simp[hi]⟩;have q0:=L.go;rw[vW hd,bx]at q0;cases hset:fZ tg d τ1 with
    |none=>rw[hset]at q0;cases q0
    |some τ2=>
     rw[hset]at q0;simp only at q0;have p1:=N3.pers.trans L.pers;refine bJ (T.item (blk X scope cl (aR η X.N) fp s3 H3) rfl rfl rfl hc i [] s1 ο H1 _ I1 (fpk f1) t1 (G.go H1 p1 i d hd)) fun r s2⟨u,hr,h2⟩=>?_;subst hr;refine bJ h2 fun _ s3'⟨x,H2,I2,r2,y2,t2,f2⟩=>?_;obtain⟨Dx,lay⟩:=G.yld H1 p1 i d hd x H2 y2;have N2:=L.gw.lay lay;have D2:=N2.keep D _ L.cur (L.no noD);have I2':=I2.pinned (fpk f2) (T.obj _ _ t2);refine bJ (B.tgt cl fp s3 H3 ok' _ s3' ο H2 x u (fun π H'=>H'=H2/\jQ X.K tg τ1 ο τ2 π H2) I2' r2 ⟨τ1,d,τ2,N2.gw,Dx,hset,fun π st=>⟨rfl,st⟩⟩) fun _ s4'⟨π,H2',I3',hH,st⟩=>?_;subst hH;have ho:=(st.out B.small).trans L.out;have C2:=N2.ch.trans st.ch;have again:∀{s7:Shared}{H7:Hp}{acc':List Mini.D}{vs':List V}{τ7:Ev},Inv (blk X scope cl (aR η X.N) fp s3 H3) ([]++sG fp s3'.heap) π H7 s7->
       LI X c tg cond elt xs ys τ (List.replicate η.length .un++env) σ (List.replicate η.length none++σ) H3 D η.length (i+1) acc' vs' τ7 π H7->
       ∃k,k<xs.length-i/\∃i acc vs τ1 ο H1,k=xs.length-i/\Inv (blk X scope cl (aR η X.N) fp s3 H3) [] ο H1 s7/\tn i s7.heap/\(∀b∈fp,H1 b=none)/\
        LI X c tg cond elt xs ys τ (List.replicate η.length .un++env) σ (List.replicate η.length none++σ) H3 D η.length i acc vs τ1 ο H1:=fun{s7 H7 acc' vs' τ7}I7 L7=>by
      refine⟨xs.length- (i+1),by omega,i+1,acc',vs',τ7,π,H7,rfl,I7.dj,T.keep _ _ _ t2 fun b hb o e=>(I7.pin (b,o) (QVq _ (QVq _ (ig hb e)))).1,fun b hb=>?_,L7⟩;obtain⟨o,e,_⟩:=T.obj _ _ t2 b hb;exact(I7.pin (b,o) (QVq _ (QVq _ (ig hb e)))).2.1
     obtain⟨xc,dc,bc,τ3,e1,e2,e3,q1⟩:∃xc dc bc τ3,ev c cond τ2=.ok xc τ3/\xc.kO=some dc/\iY dc=some bc/\
       (if bc then(ev c elt τ3).au fun d σ₃=>bx tg (ev c cond) (ev c elt) (xs.drop (i+1)) (acc++[d]) σ₃ else bx tg (ev c cond) (ev c elt) (xs.drop (i+1)) acc τ3)=.ok ys τ:=by
      cases r:ev c cond τ2 with
      |bad=>rw[r]at q0;cases q0
      |exc k τ3=>rw[r]at q0;cases q0
      |ok xc τ3=>
       rw[r]at q0;cases xc with
       |ref k=>cases q0
       |tmp zs=>cases q0
       |val dc=>
        simp only[Out.cT,Out.au]at q0;cases q:iY dc with
        |none=>rw[q]at q0;cases q0
        |some bc=>rw[q]at q0;exact⟨_,dc,bc,τ3,rfl,rfl,q,q0⟩
       |new zs=>
        simp only[Out.cT,Out.au]at q0;cases q:iY zs.d with
        |none=>rw[q]at q0;cases q0
        |some bc=>rw[q]at q0;exact⟨_,zs.d,bc,τ3,rfl,rfl,q,q0⟩
     have after:∀(s5:Shared)(H5:Hp),Inv (blk X scope cl (aR η X.N) fp s3 H3) ([]++sG fp s3'.heap) π H5 s5->Nx X.K τ2 π H2' τ3 H5->
       (if bc=true then wpAny (model X.prog X.w) X.A (eval ω (compEnvC scope cl s3.heap.objs.size X.env)) (fun x s₄=>
        wpAny (model X.prog X.w) X.A (call (.builtin "list.append") [.ref D,x]) (fun _ s₅=>∃m,m<xs.length-i/\∃i acc vs τ1 ο H1,m=xs.length-i/\Inv (blk X scope cl (aR η X.N) fp s3 H3) [] ο H1 s₅/\tn i s₅.heap/\(∀b∈fp,H1 b=none)/\
        LI X c tg cond elt xs ys τ (List.replicate η.length .un++env) σ (List.replicate η.length none++σ) H3 D η.length i acc vs τ1 ο H1) (fun _ _=>False) s₄) (fun _ _=>False) s5
       else∃m,m<xs.length-i/\∃i acc vs τ1 ο H1,m=xs.length-i/\Inv (blk X scope cl (aR η X.N) fp s3 H3) [] ο H1 s5/\tn i s5.heap/\(∀b∈fp,H1 b=none)/\
        LI X c tg cond elt xs ys τ (List.replicate η.length .un++env) σ (List.replicate η.length none++σ) H3 D η.length i acc vs τ1 ο H1):=fun s5 H5 I5 N5=>by
      have C5:=C2.trans N5.ch;cases bc with
      |false=>exact again I5 (L.skip noD C5 hi ho q1)
      |true=>
       obtain⟨xe,de,τ4,e4,e5,q2⟩:∃xe de τ4,ev c elt τ3=.ok xe τ4/\xe.kO=some de/\bx tg (ev c cond) (ev c elt) (xs.drop (i+1)) (acc++[de]) τ4=.ok ys τ:=by
        cases r:ev c elt τ3 with
        |bad=>rw[r]at q1;cases q1
        |exc k τ3=>rw[r]at q1;cases q1
        |ok xe τ4=>
         rw[r]at q1;cases xe with
         |ref k=>cases q1
         |tmp zs=>cases q1
         |val de=>exact⟨_,de,τ4,rfl,rfl,q1⟩
         |new zs=>exact⟨_,zs.d,τ4,rfl,rfl,q1⟩
       refine bJ ((B.elts cl fp s3 H3 ok').d _ s5 π H5 (fun v H6=>Nx X.K τ3 π H5 τ4 H6/\aL X.K H6 de v) I5 ⟨τ3,N5.gw,?_⟩) fun u s6⟨v,H6,I6,r6,N6,D6⟩=>?_
       ·rw[e4];cases xe with
        |ref k=>cases e5
        |tmp zs=>cases e5
        |val d'=>cases e5;exact fun v H' N Dv=>⟨N,Dv⟩
        |new zs=>cases e5;exact fun v H' N Dv=>⟨N,Dv⟩
       ·have C6:=C5.trans N6.ch;have cur:=C6.keep D _ L.cur (L.no noD);have lenv:vs.length<sizeLine:=by
         have h1:=L.den.length;have h2:=L.acl;have h3:=G.len;omega
        refine bJ (lQ (X:=blk X scope cl (aR η X.N) fp s3 H3) _ s6 π H6 (.ref D) [v] (.ref D) [u] (fun _ H7=>H7=upd H6 D (.lst (vs++[v]))) I6 rfl (.cons r6 .nil) ⟨D,vs,v,rfl,rfl,cur,lenv,rfl⟩) fun _ s7⟨_,H7,I7,_,e7⟩=>?_;subst e7;exact again I7 (L.push noD C6 hi ho q2 D6)
     rcases B.tests with ⟨ei,ec⟩|⟨ce,ei,hC⟩
     ·subst ei ec;cases e1;cases e2;cases e3;exact QKz (after s4' H2' I3' (Nx.refl st.gw))
     ·subst ei;refine wpAny_tests_one (bJ (hC cl fp s3 H3 ok' _ s4' π H2' (fun k H'=>k=bc/\Nx X.K τ2 π H2' τ3 H') I3' ⟨τ2,st.gw,by rw[e1];exact⟨dc,bc,e2,e3,fun H' N=>⟨rfl,N⟩⟩⟩) fun k s5⟨H5,I5,hk',N5⟩=>?_);subst hk';exact after s5 H5 I5 N5
   ·have e:=Nat.le_antisymm L.le (Nat.le_of_not_lt hi);have q0:=L.go;rw[e,List.drop_length,bx]at q0;cases q0;refine bJ (T.done (blk X scope cl (aR η X.N) fp s3 H3) rfl rfl rfl hc i [] s1 ο H1 _ I1 (fpk f1) t1 (G.stop H1 (N3.pers.trans L.pers) i (by omega))) fun r s2⟨hr,I2⟩=>?_;subst hr;obtain⟨m,hm,_⟩:=I2.loc;have IX:=Inv.call' I3 I2.os I2.base I2.hok I2.bare fun b hb=>⟨(hf3 b hb).2.2.2.1,(hf3 b hb).2.1,(hf3 b hb).2.2.2.2.1,(hf3 b hb).2.2.2.2.2⟩;refine hRR D s3.heap.objs.size s2 H1 vs m IX ⟨?_,fun k a z=>?_,N3.pers.trans L.pers,fun b ws z w=>?_,fun b z=>N3.dom b (L.dom b z),fun k ws z=>?_⟩ L.cur L.den hDn hm (I3.pM (QVz _) I2.free)
    ·have:=L.gw.drop (nl:=η.length);rw[L.out]at this;exact this
    ·have z':aJ (τ.drop η.length) (ο.drop η.length) k a:=by rw[L.out];exact z
     obtain⟨j,ej,o⟩:=jj (L.sub _ a (sJ.mp z'));have:k=j:=by omega
     subst this;exact o
    ·refine L.keep b ws (N3.keep b ws z w) (fun q=>?_) fun k o=>?_
     ·subst q;rw[hDn]at z;cases z
     ·obtain⟨j,_,o'⟩:=jj o;exact w j o'
    ·obtain⟨ws',q⟩:=L.bors (η.length+k) ws (by rw[QIz (by simp)];simpa using z);exact⟨ws',by rw[List.getElem?_drop];exact q⟩
  ·refine⟨0,[],[],_,_,H3,rfl,I4,T.keep _ _ _ t0 fun b _ o e=>hk3 b o (hk b o e),fun b hb=>(hf3 b hb).1,⟨QIq _,hgo,N3.gw.front _,by simp,QVz _,hD3,ao.dZ,fun _ _ z=>z,bz.refl _,fun _ _ z _ _=>z,fun _ z=>z,fun _ ws z=>⟨ws,z⟩⟩⟩
 exact codeAny_compStart_list (loop _ rfl) (T.self _ 0 _ _ _ (T.keep _ _ _ t0 fun b _ o e=>hk3 b o (hk b o e)) (loop _ rfl))
section
noncomputable def fG:Cm->CmpOp
 |.eq=>.Eq
 |.ne=>.NotEq
 |.lt=>.Lt
 |.le=>.LtE
 |.gt=>.Gt
 |.ge=>.GtE
 |.isin=>.In
 |.notin=>.NotIn
 |.lW=>.Is
 |.notN=>.IsNot
def iW(X:Cx)(op:CmpOp)(f:D->D->Option Bool):Prop:=
 ∃r,gq X (compareOp op) r/\∀(H:Hp)(x y:D)(k:Bool)(v u:V)(Q:VK),aL X.K H x v->dF X.K H y u->f x y=some k->Q (.bl k) H->r v u H Q
theorem dF.int{H:Hp}{v:V}(h:dF K H (.int i) v):v=.int i:=by
 rcases h with h|⟨o,a,q,_⟩
 ·exact h
 ·cases o<;>cases q
def CN{g:Int->Int->Bool}(ho:gq X (compareOp op) (M3 fun i j=>.bl (g i j)))(hf:∀x y k,f x y=some k->∃i j,x=.int i/\y=.int j/\k=g i j):iW X op f:=
 ⟨_,ho,fun H x y k v u Q Dx Dy e q=>by obtain⟨i,j,rfl,rfl,rfl⟩:=hf x y k e;exact⟨i,j,Dx,Dy.int,q⟩⟩
def abw(hu:X.A.units+60<cLine):iW X .Eq (aK .eq):=⟨_,Yg hu,fun H x y k v u Q Dx Dy e q=>by
 unfold aK at e;dsimp only at e;split at e
 ·rename_i h;cases e;exact⟨x,y,.inl Dx,Dy,h,q⟩
 ·cases e⟩
def abq(hu:X.A.units+60<cLine):iW X .NotEq (aK .ne):=⟨_,X6 hu,fun H x y k v u Q Dx Dy e q=>by
 unfold aK at e;dsimp only at e;split at e
 ·rename_i h;cases e;exact⟨x,y,.inl Dx,Dy,h,q⟩
 ·cases e⟩
def abt:iW X .LtE (aK .le):=CN abQ fun x y k e=>by cases x<;>cases y<;>(unfold aK at e;simp at e);exact⟨_,_,rfl,rfl,e.symm⟩
def abv:iW X .GtE (aK .ge):=CN abS fun x y k e=>by cases x<;>cases y<;>(unfold aK at e;simp at e);exact⟨_,_,rfl,rfl,e.symm⟩
def dF.RD{H:Hp}{v:V}(h:dF K H (.tup xs) v):QS K H xs v:=by
 rcases h with h|⟨o,a,q,_⟩
 ·obtain⟨a,vs,rfl,hq,l⟩:=cM h;exact⟨a,vs,rfl,.inr hq,l⟩
 ·cases o<;>cases q
def dF.LQ{H:Hp}{v:V}(h:dF K H (.lst xs) v):QS K H xs v:=by
 rcases h with h|⟨o,a,q,rfl,u,ha,hq⟩
 ·obtain⟨a,vs,rfl,hq,l⟩:=eN h;exact⟨a,vs,rfl,.inl hq.sq,l⟩
 ·cases o<;>cases q;obtain⟨vs,rfl,l⟩:=hq;exact⟨a,vs,rfl,.inl (.inl (.inl ha)),l⟩
theorem dF.str{H:Hp}{v:V}(h:dF K H (.str x) v):v=.str x:=by
 rcases h with h|⟨o,a,q,_⟩
 ·exact h
 ·cases o<;>cases q
def O5(x y:Str)(h:x.length=1):(!(Builtin.Str.occurrences y x 0 y.length 1).isEmpty)=aP (.str x) (signs y):=by
 obtain⟨cps⟩:=x;obtain⟨l⟩:=cps;have hl:=h;match l,hl with
 |[k],_=>
  have:=PySem.StrLaws.found_one y k;rw[this];unfold signs;generalize y.cps.toList=cs;induction cs with
  |nil=>rfl
  |cons z zs ih=>
   show decide _=(dM _ _||aP _ _);rw[<-ih];have e:dM (.str ⟨#[z]⟩) (.str ⟨#[k]⟩)=decide (k=z):=by
    simp only[dM];by_cases q:k=z
    ·subst q;simp
    ·have q':¬z=k:=fun e=>q e.symm;simp[q,q']
   rw[e];by_cases q:k=z
   ·simp[q]
   ·simp[q]
def lF{kvs:List (Key×V)}(k:Key):(eO kvs k).isSome=aP (dm k) (kvs.map fun p=>dm p.1):=by
 induction kvs with
 |nil=>rfl
 |cons p r ih=>
  obtain⟨k',v⟩:=p;show _=(dM _ _||aP _ _);rw[<-ih];have e:dM (dm k') (dm k)=decide (k'=k):=by cases k'<;>cases k<;>simp[dm,dM,Bool.beq_eq_decide_eq]
  rw[e];by_cases q:k'=k
  ·subst q;simp[jb]
  ·simp[q,jc]
def gQ(h:keyOk x=true):∃k:Key,x=dm k:=by
 cases x<;>simp[keyOk]at h
 ·exact⟨.inl _,rfl⟩
 ·exact⟨.inr _,rfl⟩
def lY{H:Hp}{v:V}(h:aL K H (dm k) v):v=kV k:=by cases k<;>exact h
noncomputable def MT(neg:Bool):R2:=fun x y H Q=>∃a k kvs,y=.ref a/\x=kV k/\Rd H a (.dK kvs)/\Q (.bl (if neg then !(eO kvs k).isSome else(eO kvs k).isSome)) H
def Ny(hu:X.A.units+1<cLine):gq X (compareOp .In) (MT false):=by intro γ s σ H x y v u Q I rx ry h;obtain⟨a,k,kvs,rfl,rfl,hd,q⟩:=h;cases ry;exact agm hu I (.inl ⟨kvs,k,hd,rfl,rfl⟩) rx fun s3 I3=>⟨.bl _,H,I3,rfl,q⟩
def zQ(hu:X.A.units+1<cLine):gq X (compareOp .NotIn) (MT true):=by intro γ s σ H x y v u Q I rx ry h;obtain⟨a,k,kvs,rfl,rfl,hd,q⟩:=h;cases ry;exact Us hu I (.inl ⟨kvs,k,hd,rfl,rfl⟩) rx fun s3 I3=>⟨.bl _,H,I3,rfl,q⟩
def jB{H:Hp}{v:V}(h:dF K H (.dG ks ds) v):∃a kvs,v=.ref a/\Rd H a (.dK kvs)/\ks=kvs.map (fun p=>dm p.1)/\ao K H ds (kvs.map (·.2)):=by
 rcases h with h|⟨o,a,q,rfl,u,ha,hq⟩
 ·unfold aL at h;obtain⟨a,o,kvs,e,r,k⟩:=h;exact⟨a,kvs,e,.inr ⟨o,r⟩,k⟩
 ·cases o<;>cases q;obtain⟨kvs,rfl,k,l⟩:=hq;exact⟨a,kvs,rfl,.inl ha,k,l⟩
noncomputable def abF(K:QQq)(neg:Bool):R2:=fun x y H Q=>∃a d k xs,x=.ref a/\y=.ref d/\Rd H d (.dS xs)/\(∀x∈xs,cY K H x.1 x.2.1)/\cY K H k a/\Q (.bl (if neg then !(xP k xs).isSome else(xP k xs).isSome)) H
def Yc(hu:X.A.units+9<cLine):gq X (compareOp .In) (abF X.K false):=by intro γ s σ H x y v u Q I rx ry h;obtain⟨a,d,k,xs,rfl,rfl,hd,hk,ha,q⟩:=h;cases rx;cases ry;exact aeJ hu I hd hk ha fun s3 I3=>⟨.bl _,H,I3,rfl,q⟩
def Jw(hu:X.A.units+9<cLine):gq X (compareOp .NotIn) (abF X.K true):=by intro γ s σ H x y v u Q I rx ry h;obtain⟨a,d,k,xs,rfl,rfl,hd,hk,ha,q⟩:=h;cases rx;cases ry;exact RJ hu I hd hk ha fun s3 I3=>⟨.bl _,H,I3,rfl,q⟩
def yf{K:QQq}{H:Hp}{ks ds:List D}{v:V}(h:dF K H (.iy ks ds) v):∃a xs,v=.ref a/\Rd H a (.dS xs)/\gO K H ks ds xs:=by
 rcases h with h|⟨o,a,q,rfl,u,ha,hq⟩
 ·unfold aL at h;obtain⟨a,o,xs,e,r,k⟩:=h;exact⟨a,xs,e,.inr ⟨o,r⟩,k⟩
 ·cases o<;>cases q;obtain⟨xs,rfl,k⟩:=hq;exact⟨a,xs,rfl,.inl ha,k⟩
noncomputable def abH(K:QQq)(b:Bool):R2:=fun x y H Q=>∃a d k,x=.ref a/\y=.ref d/\Rd H d (.dK [])/\cY K H k a/\Q (.bl b) H
def Ye(hu:X.A.units+9<cLine):gq X (compareOp .In) (abH X.K false):=by intro γ s σ H x y v u Q I rx ry h;obtain⟨a,d,k,rfl,rfl,hd,ha,q⟩:=h;cases rx;cases ry;exact abi hu I hd ha fun s3 I3=>⟨.bl _,H,I3,rfl,q⟩
def Te(hu:X.A.units+9<cLine):gq X (compareOp .NotIn) (abH X.K true):=by intro γ s σ H x y v u Q I rx ry h;obtain⟨a,d,k,rfl,rfl,hd,ha,q⟩:=h;cases rx;cases ry;exact Mf hu I hd ha fun s3 I3=>⟨.bl _,H,I3,rfl,q⟩
def Vq(hu:X.A.units+60<cLine):iW X .In (aK .isin):=
 ⟨_,(Yd hu).or ((Ny (by omega)).or (Jy.or ((Yc (by omega)).or (Ye (by omega))))),fun H x y k v u Q Dx Dy e q=>by
  cases y with
  |tup xs=>
   unfold aK at e;dsimp only at e;split at e
   ·rename_i h;cases e;exact .inl ⟨x,xs,Dx,Dy.RD,h,q⟩
   ·cases e
  |lst xs=>
   unfold aK at e;dsimp only at e;split at e
   ·rename_i h;cases e;exact .inl ⟨x,xs,Dx,Dy.LQ,h,q⟩
   ·cases e
  |dG ks vs=>
   unfold aK at e;dsimp only at e;split at e
   ·rename_i h;cases e;obtain⟨k,rfl⟩:=gQ h;obtain⟨a,kvs,rfl,ha,rfl,l⟩:=jB Dy;exact .inr (.inl ⟨a,k,kvs,rfl,lY Dx,ha,by simpa[lF]using q⟩)
   ·split at e
    ·rename_i h;rw[QUq,List.isEmpty_iff]at h;cases e;obtain⟨a,rfl,ka⟩:=iK h.1 Dx;obtain⟨d,kvs,rfl,ha,hk,l⟩:=jB Dy;rw[h.2]at hk;cases kvs with
     |nil=>exact .inr (.inr (.inr (.inr ⟨a,d,_,rfl,rfl,ha,ka,q⟩)))
     |cons=>cases hk
    ·cases e
  |iy ks vs=>
   unfold aK at e;dsimp only at e;split at e
   ·rename_i h;cases e;obtain⟨a,rfl,ka⟩:=iK h Dx;obtain⟨d,xs,rfl,hd,l⟩:=yf Dy;exact .inr (.inr (.inr (.inl ⟨a,d,kC x,xs,rfl,rfl,hd,l.vN,ka,by rw[l.inD h]at q;simpa using q⟩)))
   ·cases e
  |str y=>
   cases x with
   |str x=>
    unfold aK at e;dsimp only at e;split at e
    ·rename_i h;cases e;exact .inr (.inr (.inl ⟨x,y,Dx,Dy.str,by rw[O5 x y h];exact q⟩))
    ·cases e
   |_=>unfold aK at e;simp at e
  |_=>unfold aK at e;simp at e⟩
def Mv(hu:X.A.units+60<cLine):iW X .NotIn (aK .notin):=
 ⟨_,(Jx hu).or ((zQ (by omega)).or ((Jw (by omega)).or (Te (by omega)))),fun H x y k v u Q Dx Dy e q=>by
  cases y with
  |tup xs=>
   unfold aK at e;dsimp only at e;split at e
   ·rename_i h;cases e;exact .inl ⟨x,xs,Dx,Dy.RD,h,q⟩
   ·cases e
  |lst xs=>
   unfold aK at e;dsimp only at e;split at e
   ·rename_i h;cases e;exact .inl ⟨x,xs,Dx,Dy.LQ,h,q⟩
   ·cases e
  |dG ks vs=>
   unfold aK at e;dsimp only at e;split at e
   ·rename_i h;cases e;obtain⟨k,rfl⟩:=gQ h;obtain⟨a,kvs,rfl,ha,rfl,l⟩:=jB Dy;exact .inr (.inl ⟨a,k,kvs,rfl,lY Dx,ha,by simpa[lF]using q⟩)
   ·split at e
    ·rename_i h;rw[QUq,List.isEmpty_iff]at h;cases e;obtain⟨a,rfl,ka⟩:=iK h.1 Dx;obtain⟨d,kvs,rfl,ha,hk,l⟩:=jB Dy;rw[h.2]at hk;cases kvs with
     |nil=>exact .inr (.inr (.inr ⟨a,d,_,rfl,rfl,ha,ka,q⟩))
     |cons=>cases hk
    ·cases e
  |iy ks vs=>
   unfold aK at e;dsimp only at e;split at e
   ·rename_i h;cases e;obtain⟨a,rfl,ka⟩:=iK h Dx;obtain⟨d,xs,rfl,hd,l⟩:=yf Dy;exact .inr (.inr (.inl ⟨a,d,kC x,xs,rfl,rfl,hd,l.vN,ka,by rw[l.inD h]at q;simpa using q⟩))
   ·cases e
  |_=>unfold aK at e;simp at e⟩
end
section
open PySem.SeqAt
open PySem.AutoSeq1 (wpAny_loadPart')
open PySem.MeetsSeq PySem.MeetsSeq2 PySem.MeetsSeq3
inductive BoolsAre:List Value->List Bool->Prop
 |nil:BoolsAre [] []
 |cons (b:Bool) {vs:List Value} {bs:List Bool}:BoolsAre vs bs->BoolsAre (.bool b::vs) (b::bs)
theorem BoolsAre.length{bs:List Bool}(h:BoolsAre vs bs):vs.length=bs.length:=by
 induction h with
 |nil=>rfl
 |cons b _ ih=>simp[ih]
def JR x y xs ys:pF (x::xs) (y::ys)=if x=y then pF xs ys else(!x&&y):=rfl
def TX:pF [] []=false:=rfl
def TY y ys:pF [] (y::ys)=true:=rfl
def T3 x xs:pF (x::xs) []=false:=rfl
def Jh(A:Around)(s:Shared)(a c:Bool)(prog:Program)(w:World)(E:QZq)(Q:QZq)(h:Q (.bool (!a&&c)) s):
  wpAny (model prog w) A (richCompare .Lt (.bool a) (.bool c)) Q E s:=
 (PyProof.Rows.lt_bool (by cases a<;>cases c<;>exact h))
def rA l b items items2 n n2 dd dd2 sl sl2 ns ms(hi:BoolsAre items.toList ns)(hj:BoolsAre items2.toList ms):
  Meets (Builtin.«tuple.__lt__» ⟨[.ref l,.ref b],[]⟩)
   (fun _ R s=>s.heap.get? l=some {cls:=.type "tuple",dict:=dd,data:=.seq items n,slots:=sl}/\s.heap.get? b=some {cls:=.type "tuple",dict:=dd2,data:=.seq items2 n2,slots:=sl2}/\
    R (.ok (.ret (.bool (pF ns ms)))) s):=
 .of_wp fun prog w A R s h=>by
  obtain⟨hp,g,d,tk,os⟩:=s;obtain⟨hl,hb,h⟩:=h;have f2:=AutoSeq1.sub_tuple_tuple;have z1:items.size=ns.length:=by rw[<-hi.length];simp
  have z2:items2.size=ms.length:=by rw[<-hj.length];simp
  wp_walk using wpAny_loadPart' hl,wpAny_loadPart' hb,wpAny_forIn_list _ (fun rest b s'=>b.1=none/\s'=⟨hp,g,d,tk,os⟩/\∃(vs ws:List Value)(ns' ms':List Bool),rest=vs.zip ws/\
   BoolsAre vs ns'/\BoolsAre ws ms'/\ns'.length+items2.size=ms'.length+items.size/\R (.ok (.ret (.bool (pF ns' ms')))) ⟨hp,g,d,tk,os⟩) _
  case turn=>
   rintro ⟨y,x⟩ rest b s' ⟨hb',rfl,vs,ws,ns',ms',hz,hvi,hwi,hlen,hR⟩;cases hvi with
   |nil=>rw[List.zip_nil_left]at hz;cases hz
   |cons a hvi'=>
    cases hwi with
    |nil=>rw[List.zip_nil_right]at hz;cases hz
    |cons c hwi'=>
     rw[List.zip_cons_cons]at hz;injection hz with hyx hrest;injection hyx with hy hx;subst hy hx;rw[JR]at hR;simp only[QBq]at hlen;refine QKq ((SeqAt.EqAt.bool_bool (A:=A.in1) (s:=⟨hp,g,d,tk,os⟩) a c) prog w _ _ ?_);by_cases hac:a=c
     ·subst hac;rw[if_pos rfl]at hR;rw[beq_self_eq_true];wp_walk;exact⟨rfl,rfl,_,_,_,_,hrest,hvi',hwi',by omega,hR⟩
     ·rw[if_neg hac]at hR;wp_walk using (Jh A.in1 ⟨hp,g,d,tk,os⟩ a c prog w);exact⟨_,rfl,by simpa using hR⟩
  case fin=>
   rintro ⟨b1,b2⟩ s' ⟨hb',rfl,vs,ws,ns',ms',hz,hvi,hwi,hlen,hR⟩;simp only at hb';subst hb';have hv:pF ns' ms'=decide (items.size<items2.size):=by
    cases hvi with
    |nil=>
     cases hwi with
     |nil=>rw[TX];exact(QEz (by omega)).symm
     |cons c hw=>simp only[List.length_nil,QBq]at hlen;rw[TY];exact(QFq (by omega)).symm
    |cons a hv=>
     cases hwi with
     |nil=>simp only[List.length_nil,QBq]at hlen;rw[T3];exact(QEz (by omega)).symm
     |cons c hw=>rw[List.zip_cons_cons]at hz;cases hz
   rw[hv]at hR;wp_walk;exact⟨_,rfl,by simpa[Builtin.Tuple.tupleCompareSizes]using hR⟩
  case h=>exact⟨rfl,rfl,items.toList,items2.toList,ns,ms,rfl,hi,hj,by omega,h⟩
end
theorem gR{K:QQq}{H:Hp}:∀{ds:List D}{vs:List V}{us:List Value}{bs:List Bool},bools ds=some bs->ao K H ds vs->Vals vs us->BoolsAre us bs
 |[],vs,us,bs,e,l,r=>by cases e;rw[ao.bV.mp l]at r;cases r;exact .nil
 |d::ds,vs,us,bs,e,l,r=>by
  obtain⟨v,w,rfl,h1,h2⟩:=ao.aH.mp l;cases d with
  |bl b=>
   simp only[bools,QJz]at e;obtain⟨bs',e1,rfl⟩:=e;cases h1;cases r with
   |cons r1 r2=>cases r1;exact .cons b (gR e1 h2 r2)
  |_=>cases e
section
variable{m m1 m2 m3:E}
noncomputable def afm(K:QQq):R2:=fun x y H Q=>∃xs ys bs cs,aL K H (.tup xs) x/\aL K H (.tup ys) y/\bools xs=some bs/\bools ys=some cs/\Q (.bl (pF bs cs)) H
def Yb(hu:X.A.units<cLine):gq X (compareOp .Lt) (afm X.K):=by
 intro γ s σ H x y v u Q I rx ry h;obtain⟨xs,ys,bs,cs,Dx,Dy,e1,e2,q⟩:=h;obtain⟨a,vs,rfl,ha,la⟩:=cM Dx;obtain⟨b,ws,rfl,hb,lb⟩:=cM Dy;cases rx;cases ry;obtain⟨its,r1,p1,_⟩:=I.tuple ha;obtain⟨its2,r2,p2,_⟩:=I.tuple hb;obtain⟨⟨cls,dd,data,sl⟩,ho,hc,n,hd⟩:=id p1;obtain⟨⟨cls2,dd2,data2,sl2⟩,ho2,hc2,n2,hd2⟩:=id p2;subst hc hd hc2 hd2;exact richCompare_meets_room (op:=.Lt) ⟨_,ho,rfl⟩ ⟨_,ho2,rfl⟩ PySem.F.slot_tuple_lt PySem.F.entry_tuple_lt (PySem.F.args_tuple_lt_2 _ _)
  (rA a b its.toArray its2.toArray n n2 dd dd2 sl sl2 bs cs (by simpa using gR e1 la r1) (by simpa using gR e2 lb r2))
  ⟨ho,ho2,show Value.bool _≠Value.notImplemented/\EP X γ σ Q _ s from⟨(fun x=>nomatch x),⟨.bl _,H,I,rfl,q⟩⟩⟩ hu
theorem dF.tup{K:QQq}{H:Hp}{xs:List D}{v:V}(h:dF K H (.tup xs) v):aL K H (.tup xs) v:=by
 rcases h with h|⟨o,a,q,_⟩
 ·exact h
 ·cases o<;>cases q
def abr(hu:X.A.units+60<cLine):iW X .Lt (aK .lt):=
 ⟨_,abP.or (Yb (by omega)),fun H x y k v u Q Dx Dy e q=>by
  cases x with
  |int i=>
   cases y with
   |int j=>cases e;exact .inl ⟨i,j,Dx,Dy.int,q⟩
   |_=>cases e
  |tup xs=>
   cases y with
   |tup ys=>
    unfold aK at e;dsimp only[ltD]at e;cases e1:bools xs with
    |none=>rw[e1]at e;cases e
    |some bs=>
     cases e2:bools ys with
     |none=>rw[e1,e2]at e;cases e
     |some cs=>rw[e1,e2]at e;cases e;exact .inr ⟨xs,ys,bs,cs,Dx,Dy.tup,e1,e2,q⟩
   |_=>cases e
  |_=>cases y<;>cases e⟩
def abu:iW X .Gt (aK .gt):=CN abR fun x y k e=>by cases x<;>cases y<;>(unfold aK at e;simp at e);exact⟨_,_,rfl,rfl,e.symm⟩
def yg{H:Hp}{v:V}(h:aL K H d v):decide (v=.non)=cR d:=by
 cases d<;>unfold aL at h<;>first
  |(obtain⟨a,_,rfl,_⟩:=h;rfl)
  |(obtain⟨a,_,_,rfl,_⟩:=h;rfl)
  |(subst h;rfl)
def Xm:iW X .Is (aK .lW):=⟨_,Nv,fun H x y k v u Q Dx Dy e q=>by
 cases y<;>(unfold aK at e;dsimp only at e;cases e);rcases Dy with h|⟨o,a,z,_⟩
 ·exact⟨h,by rw[yg Dx];exact q⟩
 ·cases o<;>cases z⟩
def R4:iW X .IsNot (aK .notN):=⟨_,Td,fun H x y k v u Q Dx Dy e q=>by
 cases y<;>(unfold aK at e;dsimp only at e;cases e);rcases Dy with h|⟨o,a,z,_⟩
 ·exact⟨h,by rw[yg Dx];exact q⟩
 ·cases o<;>cases z⟩
def pq(hu:X.A.units+60<cLine)o:iW X (fG o) (aK o):=by
 cases o with
 |eq=>exact abw hu
 |ne=>exact abq hu
 |lt=>exact abr hu
 |le=>exact abt
 |gt=>exact abu
 |ge=>exact abv
 |isin=>exact Vq hu
 |notin=>exact Mv hu
 |lW=>exact Xm
 |notN=>exact R4
def gj{env:Ev}{H:Hp}{d:D}(S:Sat K env σ H)(h:aX k env=some d):∃v,σ[k]? =some (some v)/\dF K H d v:=by
 unfold aX at h;cases e:env[k]? with
 |none=>rw[e]at h;cases h
 |some s=>
  rw[e]at h;have q:=S.sl k s e;cases s with
  |un=>cases h
  |val d'=>cases h;obtain⟨v,e1,e2⟩:=q;exact⟨v,cB e1,.inl e2⟩
  |own xs=>cases h;obtain⟨a,e1,e2⟩:=q;exact⟨.ref a,cB e1,.inr ⟨xs,a,rfl,rfl,e2⟩⟩
  |bor xs=>cases h;obtain⟨a,e1,e2⟩:=q;exact⟨.ref a,cB e1,.inr ⟨xs,a,rfl,rfl,e2⟩⟩
structure jV(X:Cx)(i:Nat)(x:Str):Prop where
 at_:X.N[i]? =some x
 vis:Fw X.env.scope x
 nd:(x==("__debug__":Str))=false
 nc:(x==("__classdict__":Str))=false
def jV.pe{x:Str}(h:jV X i x):PE X (.Name x pos) (aN i):=cA h.at_ h.vis h.nd h.nc
def jV.ge{x:Str}(h:jV X i x):GE X W c (.var i) (.Name x pos):=Y0 h.at_ h.vis h.nd h.nc
theorem HN(R:iW X (fG o) (aK o))(hb:GE X W c m2 b)(hv:∀k,m2.aF=some k->∃x p,b=.Name x p/\jV X k x):
  ∃r tb,gq X (compareOp (fG o)) r/\PE X b tb/\∀env σ H Q,tM X.K W env (ev c (.cmp o m1 m2) env) σ H Q->Ve r (aD X W c m1) tb σ H Q:=by
 obtain⟨r,ho,rule⟩:=R;cases q:m2.aF with
 |some k=>
  obtain⟨x,p,rfl,nm⟩:=hv k q;refine⟨r,aN k,ho,nm.pe,fun env σ H Q h=>?_⟩;simp only[v_7,q]at h;refine⟨env,aO h fun d δ v H1 N1 D1 h1=>?_⟩;obtain⟨z,ez,S,q3⟩:=dC h1;cases e1:aX k δ with
  |none=>rw[e1]at ez;cases ez
  |some d2=>
   rw[e1]at ez;simp only[Option.bind]at ez;obtain⟨u,eu,D2⟩:=gj S e1;cases e2:aK o d d2 with
   |none=>rw[e2]at ez;cases ez
   |some k2=>rw[e2]at ez;cases ez;exact⟨u,eu,rule H1 d d2 k2 v u Q D1 D2 e2 (q3 _ H1 (Nx.refl S) rfl)⟩
 |none=>
  refine⟨r,aD X W c m2,ho,hb.d,fun env σ H Q h=>?_⟩;simp only[v_7,q]at h;refine⟨env,aO h fun d δ v H1 N1 D1 h1=>⟨δ,aO h1 fun d2 ε u H2 N2 D2 h2=>?_⟩⟩;obtain⟨z,ez,S,q3⟩:=dC h2;cases e2:aK o d d2 with
  |none=>rw[e2]at ez;cases ez
  |some k2=>rw[e2]at ez;cases ez;exact rule H2 d d2 k2 v u Q (D1.mono N2.pers) (.inl D2) e2 (q3 _ H2 (Nx.refl S) rfl)
def Zg(R:iW X (fG o) (aK o))(ha:GE X W c m1 a)(hb:GE X W c m2 b)(hv:∀k,m2.aF=some k->∃x p,b=.Name x p/\jV X k x)
  (hm:behindInMarks (fG o) b=false):GE X W c (.cmp o m1 m2) (.Compare a [fG o] [b] pos):=by
 intro env;obtain⟨r,tb,ho,pb,imp⟩:=HN R hb hv;exact PE.imp (SX ho ha.d pb hm) fun σ H Q h=>imp env σ H Q h
theorem yP{env:Ev}{σ:St}{Q:Bool->Hp->Prop}(h:tT K W env r σ H Q)(hb:∀x env',r=.ok x env'->∃b,x=.val (.bl b)):
  tM K W env r σ H (fun v H'=>∃k,v=.bl k/\Q k H'):=by
 obtain⟨S,h⟩:=h;refine⟨S,?_⟩;cases r with
 |bad=>exact h
 |exc c δ=>exact h
 |ok x δ=>obtain⟨b,rfl⟩:=hb x δ rfl;obtain⟨d,k,e1,e2,q⟩:=h;cases e1;cases e2;exact fun v H' N z=>⟨b,z,q H' N⟩
def lU{o:Option Bool}(h:lift env (o.map fun q=>Rv.val (.bl q))=.ok x env'):∃b,x=.val (.bl b):=by
 cases o with
 |none=>cases h
 |some b=>cases h;exact⟨b,rfl⟩
def Aq{env env':Ev}(h:ev c (.cmp o m1 m2) env=.ok x env'):∃b,x=.val (.bl b):=by
 simp only[v_7]at h;cases r:ev c m1 env with
 |bad=>rw[r]at h;cases h
 |exc k δ=>rw[r]at h;cases h
 |ok x1 δ=>
  rw[r]at h;have go:∀d,(match m2.aF with
    |some k=>lift δ ((aX k δ).bind fun d'=>(aK o d d').map fun q=>Rv.val (.bl q))
    |none=>(ev c m2 δ).au fun y σ=>lift σ ((aK o d y).map fun q=>Rv.val (.bl q)))=.ok x env'->∃b,x=.val _:=fun d h=>by
   cases q:m2.aF with
   |some k=>
    simp only[q]at h;cases e:aX k δ with
    |none=>simp only[e,Option.bind]at h;cases h
    |some d'=>simp only[e,Option.bind]at h;exact lU h
   |none=>
    simp only[q]at h;cases r2:ev c m2 δ with
    |bad=>rw[r2]at h;cases h
    |exc k ε=>rw[r2]at h;cases h
    |ok x2 ε=>
     rw[r2]at h;cases x2 with
     |val d2=>exact lU h
     |new xs=>exact lU h
     |ref i=>cases h
     |tmp xs=>cases h
  cases x1 with
  |val d=>exact go d h
  |new xs=>exact go xs.d h
  |ref i=>cases h
  |tmp xs=>cases h
def YM(R:iW X (fG o) (aK o))(ha:GE X W c m1 a)(hb:GE X W c m2 b)(hv:∀k,m2.aF=some k->∃x p,b=.Name x p/\jV X k x)
  (hm:behindInMarks (fG o) b=false):GT X W c (.cmp o m1 m2) (.Compare a [fG o] [b] pos):=by
 obtain⟨r,tb,ho,pb,imp⟩:=HN R hb hv;exact PT.imp (xx ho ha.d pb hm) fun σ H Q⟨env,h⟩=>imp env σ H _ (yP h fun x env' e=>Aq e)
theorem wj(R1:iW X (fG υ) (aK υ))(R2:iW X (fG ψ) (aK ψ)):
  ∃r r',gq X (compareOp (fG υ)) r/\gq X (compareOp (fG ψ)) r'/\∀env σ H Q,tM X.K W env (ev c (.chain υ ψ m1 m2 m3) env) σ H Q->Cj r r' (aD X W c m1) (aD X W c m2) (aD X W c m3) σ H Q:=by
 obtain⟨r,ho,rule⟩:=R1;obtain⟨r',ho',rule'⟩:=R2;refine⟨r,r',ho,ho',fun env σ H Q h=>?_⟩;refine⟨env,aO h fun d δ v H1 N1 D1 h1=>⟨δ,aO h1 fun d2 ε u H2 N2 D2 h2=>?_⟩⟩;cases e2:aK υ d d2 with
 |none=>rw[e2]at h2;exact h2.2.elim
 |some k=>
  rw[e2]at h2;simp only[lift,Out.bind]at h2;refine rule H2 d d2 k v u _ (D1.mono N2.pers) (.inl D2) e2 ⟨k,rfl,?_⟩;cases k with
  |false=>exact eX h2 rfl
  |true=>
   refine⟨ε,aO h2 fun d3 env3 w H3 N3 D3 h3=>?_⟩;obtain⟨z,ez,S,q3⟩:=dC h3;cases e3:aK ψ d2 d3 with
   |none=>rw[e3]at ez;cases ez
   |some k2=>rw[e3]at ez;cases ez;exact rule' H3 d2 d3 k2 u w Q (D2.mono N3.pers) (.inl D3) e3 (q3 _ H3 (Nx.refl S) rfl)
def uO{env env':Ev}(h:ev c (.chain υ ψ m1 m2 m3) env=.ok x env'):∃b,x=.val (.bl b):=by
 have val:∀{r:Out Rv}{f:D->Ev->Out Rv},r.au f=.ok x env'->∃d σ,f d σ=.ok x env':=fun{r f}q=>by
  cases r with
  |bad=>cases q
  |exc k e1=>cases q
  |ok y e1=>
   cases y with
   |val d=>exact⟨d,e1,q⟩
   |new xs=>exact⟨_,e1,q⟩
   |ref i=>cases q
   |tmp xs=>cases q
 obtain⟨d1,ο,h⟩:=val h;obtain⟨d2,π,h⟩:=val h;cases e:aK υ d1 d2 with
 |none=>rw[e]at h;cases h
 |some k=>
  rw[e]at h;simp only[lift,Out.bind]at h;cases k with
  |false=>cases h;exact⟨false,rfl⟩
  |true=>obtain⟨d3,σ3,h⟩:=val h;exact lU h
def PL{d:Expr}(R1:iW X (fG υ) (aK υ))(R2:iW X (fG ψ) (aK ψ))(ha:GE X W c m1 a)(hb:GE X W c m2 b)(hd:GE X W c m3 d)(hm:lastMarks [fG υ,fG ψ] [b,d]=false):
  GE X W c (.chain υ ψ m1 m2 m3) (.Compare a [fG υ,fG ψ] [b,d] pos):=by
 obtain⟨r,r',ho,ho',imp⟩:=wj R1 R2;exact fun env=>PE.imp (Nt ho ho' ha.d hb.d hd.d hm) fun σ H Q h=>imp env σ H Q h
def Pa{d:Expr}(R1:iW X (fG υ) (aK υ))(R2:iW X (fG ψ) (aK ψ))(ha:GE X W c m1 a)(hb:GE X W c m2 b)(hd:GE X W c m3 d)(hm:lastMarks [fG υ,fG ψ] [b,d]=false):
  GT X W c (.chain υ ψ m1 m2 m3) (.Compare a [fG υ,fG ψ] [b,d] pos):=by
 obtain⟨r,r',ho,ho',imp⟩:=wj R1 R2;exact PT.imp (M5 ho ho' ha.d hb.d hd.d hm) fun σ H Q⟨env,h⟩=>imp env σ H _ (yP h fun x env' e=>uO e)
def aaY(K:QQq)(ta:TE):TE:=fun σ H Q=>ta σ H fun x H1=>∃k,KJ K x H1 k/\Q (.bl (!k)) H1
def Sy(ha:PE X a ta):PE X (.UnaryOp .Not a pos) (aaY X.K ta):=by intro γ s σ H Q I h;exact PyProof.Rows.UnaryOp_ (bJ (ha γ s σ H _ I h) fun v s1⟨x,H1,I1,r1,k,t,q1⟩=>PyProof.Rows.not_of (bJ (Lg γ s1 σ H1 x v _ I1 r1 ⟨k,t,q1⟩) fun b s2⟨H2,I2,q2⟩=>⟨.bl (!b),H2,I2,rfl,q2⟩))
def Y9(ha:GE X W c m1 a):GE X W c (.not m1) (.UnaryOp .Not a pos):=fun env=>PE.imp (Sy ha.d) fun σ H Q q=>⟨env,yW (yU (by simpa only[aaJ]using q) fun k δ H1 N q1=>eX (d:=.bl (!k)) q1 rfl)⟩
def YK(ha:GT X W c m1 a):GT X W c (.not m1) (.UnaryOp .Not a pos):=by
 refine PT.imp (Xw ha) fun σ H Q⟨env,q⟩=>⟨env,q.1,?_⟩;have q2:=q.2;simp only[aaJ]at q2;cases r:ev c m1 env with
 |bad=>rw[r]at q2;exact q2
 |exc k δ=>rw[r]at q2;exact q2
 |ok x δ=>
  rw[r]at q2;have go:∀d,x.kO=some d->(match (match iY d with|some b=>Out.ok (Rv.val (.bl (!b))) δ|none=>.bad)with
    |.ok x env'=>∃d b,x.kO=some d/\iY d=some b/\∀H',Nx X.K env σ H env' H'->Q b H'
    |.exc c env'=>∀H',Nx X.K env σ H env' H'->W c env' σ H'
    |.bad=>False)->∃d b,x.kO=some d/\iY d=some b/\∀H',Nx X.K env σ H δ H'->Q (!b) H':=fun d ed z=>by
   cases t:iY d with
   |none=>rw[t]at z;exact z.elim
   |some b=>rw[t]at z;obtain⟨d',b',e1,e2,z⟩:=z;cases e1;cases e2;exact⟨d,b,ed,t,z⟩
  cases x with
  |val d=>exact go d rfl q2
  |new o=>exact go o.d rfl q2
  |ref i=>exact q2.elim
  |tmp xs=>exact q2.elim
def Uo(ha:GE X W c m1 a):GE X W c (.and (.cons m1 .nil)) (.BoolOp .And [a] pos):=fun env=>by have:=Ni (op:=.And) (pos:=pos) (ha env);simpa only[v_9,iG]using this
def Y8(ha:GE X W c m1 a):GE X W c (.or (.cons m1 .nil)) (.BoolOp .Or [a] pos):=fun env=>by have:=Ni (op:=.Or) (pos:=pos) (ha env);simpa only[Rc,oJ]using this
end
def aM(X:Cx)(W:Wi)(c:Cf)(m:E):TE:=fun σ H Q=>∃env,tM X.K W env (ev c m env) σ H Q
def Vc{W:Wi}{σ:St}{r:Out Rv}(h:tT K W env r σ H Q)(N:Nx K env σ H δ H1):tT K W δ r σ H1 Q:=by
 obtain⟨_,h⟩:=h;refine⟨N.gw,?_⟩;cases r with
 |bad=>exact h
 |exc c ε=>exact fun H' N'=>h H' (N.trans N')
 |ok x ε=>obtain⟨d,b,e1,e2,q⟩:=h;exact⟨d,b,e1,e2,fun H' N'=>q H' (N.trans N')⟩
section
variable{es rest:List Expr}
def GE.am(h:GE X W c m e):PE X e (aM X W c m):=fun γ s σ H Q I⟨env,q⟩=>h env γ s σ H Q I q
def Zh(ha:GE X W c m1 a)(hb:GE X W c (.and (.cons m2 m3)) (.BoolOp .And (b::rest) pos)):GE X W c (.and (.cons m1 (.cons m2 m3))) (.BoolOp .And (a::b::rest) pos):=by
 intro env;refine PE.imp (XQ ha.d hb.am) fun σ H Q q=>?_;refine⟨env,aO q fun d δ v H1 N1 D1 q1=>?_⟩;cases d with
 |bl k=>
  refine⟨k,D1,?_⟩;cases k with
  |true=>rw[if_pos rfl];exact⟨δ,by simpa only[v_9,iG]using q1⟩
  |false=>rw[if_neg Qjz];exact eX q1 rfl
 |_=>exact q1.2.elim
def acB(ha:GE X W c m1 a)(hb:GE X W c (.or (.cons m2 m3)) (.BoolOp .Or (b::rest) pos)):GE X W c (.or (.cons m1 (.cons m2 m3))) (.BoolOp .Or (a::b::rest) pos):=by
 intro env;refine PE.imp (abL ha.d hb.am) fun σ H Q q=>?_;refine⟨env,aO q fun d δ v H1 N1 D1 q1=>?_⟩;cases d with
 |bl k=>
  refine⟨k,D1,?_⟩;cases k with
  |true=>rw[if_pos rfl];exact eX q1 rfl
  |false=>rw[if_neg Qjz];exact⟨δ,by simpa only[Rc,oJ]using q1⟩
 |_=>exact q1.2.elim
def GW(X:Cx)(W:Wi)(c:Cf)(m:E)(e:Expr):Prop:=PW X e (aT X W c m)
def PW.imp(h:PW X e t)(i:∀σ H Q,t' σ H Q->t σ H Q):PW X e t':=fun wh γ s σ H Q I q=>h wh γ s σ H Q I (i σ H Q q)
def GW.t(h:GW X W c m e):GT X W c m e:=PW.pt h
theorem yQ{env:Ev}{σ:St}{Q R:Bool->Hp->Prop}(h:tT K W env (r.au f) σ H Q)
  (hf:∀d δ,(∀k,d≠ .bl k)->f d δ=.bad)
  (k:∀b δ H1,Nx K env σ H δ H1->tT K W δ (f (.bl b) δ) σ H1 Q->R b H1):tT K W env r σ H R:=by
 have step:∀d δ x,x.kO=some d->r=.ok x δ->∃b,iY d=some b/\∀H1,Nx K env σ H δ H1->R b H1:=fun d δ x ex er=>by
  subst er;have h':tT K W env (f d δ) σ H Q:=by
   cases x with
   |val d'=>cases ex;exact h
   |new xs=>cases ex;exact h
   |ref i=>cases ex
   |tmp xs=>cases ex
  by_cases hb:∃b,d=.bl b
  ·obtain⟨b,rfl⟩:=hb;exact⟨b,rfl,fun H1 N=>k b δ H1 N (Vc h' N)⟩
  ·rw[hf d δ fun b e=>hb ⟨b,e⟩]at h';exact h'.2.elim
 refine⟨h.1,?_⟩;cases r with
 |bad=>exact h.2
 |exc c δ=>exact h.2
 |ok x δ=>
  cases x with
  |val d=>obtain⟨b,e,q⟩:=step d δ _ rfl rfl;exact⟨d,b,rfl,e,q⟩
  |new xs=>obtain⟨b,e,q⟩:=step (xs.d) δ _ rfl rfl;exact⟨xs.d,b,rfl,e,q⟩
  |ref i=>exact h.2.elim
  |tmp xs=>exact h.2.elim
def Uc(ha:GT X W c m1 a):GW X W c (.and (.cons m1 .nil)) (.BoolOp .And [a] pos):=PW.imp (Sg ha) fun σ H Q⟨env,q⟩=>⟨env,by simpa only[v_9,iG]using q⟩
def YJ(ha:GT X W c m1 a):GW X W c (.or (.cons m1 .nil)) (.BoolOp .Or [a] pos):=PW.imp (Xq ha) fun σ H Q⟨env,q⟩=>⟨env,by simpa only[Rc,oJ]using q⟩
def YQ(ha:GT X W c m1 a)(hb:GW X W c (.and (.cons m2 m3)) (.BoolOp .And (b::rest) pos)):GW X W c (.and (.cons m1 (.cons m2 m3))) (.BoolOp .And (a::b::rest) pos):=by
 refine PW.imp (Xr ha hb) fun σ H Q⟨env,q⟩=>⟨env,?_⟩;refine yQ q (fun d δ hd=>?_) fun k δ H1 N q1=>?_
 ·cases d with
  |bl k=>exact absurd rfl (hd k)
  |_=>rfl
 ·cases k with
  |true=>rw[if_pos rfl];exact⟨δ,by simpa only[v_9,iG]using q1⟩
  |false=>obtain⟨d,k',e1,e2,q3⟩:=q1.2;cases e1;cases e2;exact q3 H1 (Nx.refl q1.1)
def acw(ha:GT X W c m1 a)(hb:GW X W c (.or (.cons m2 m3)) (.BoolOp .Or (b::rest) pos)):GW X W c (.or (.cons m1 (.cons m2 m3))) (.BoolOp .Or (a::b::rest) pos):=by
 refine PW.imp (abJ ha hb) fun σ H Q⟨env,q⟩=>⟨env,?_⟩;refine yQ q (fun d δ hd=>?_) fun k δ H1 N q1=>?_
 ·cases d with
  |bl k=>exact absurd rfl (hd k)
  |_=>rfl
 ·cases k with
  |false=>rw[if_neg Qjz];exact⟨δ,by simpa only[Rc,oJ]using q1⟩
  |true=>obtain⟨d,k',e1,e2,q3⟩:=q1.2;cases e1;cases e2;exact q3 H1 (Nx.refl q1.1)
def Zb(ht:GT X W c m1 t)(ha:GE X W c m2 a)(hb:GE X W c m3 b):GE X W c (.ite m1 m2 m3) (.IfExp t a b pos):=by
 intro env;refine PE.imp (zL ht ha.am hb.am) fun σ H Q q=>?_;refine⟨env,yU q fun k δ H1 N q1=>?_⟩;cases k with
 |true=>rw[if_pos rfl]at q1⊢;exact⟨δ,q1⟩
 |false=>rw[if_neg Qjz]at q1⊢;exact⟨δ,q1⟩
def Fp{i:Int}{K:QQq}{vs:List V}(h:at? xs i=some d)(l:ao K H xs vs):∃v,ZP vs i=some v/\aL K H d v:=by
 unfold at? at h;cases e:ix? xs.length i with
 |none=>rw[e]at h;cases h
 |some j=>
  rw[e]at h;obtain⟨v,q1,q2⟩:=l.get (h);refine⟨v,?_,q2⟩;unfold ZP;have:T8 vs.length i=some j:=by
   unfold ix? at e;unfold T8;rw[<-l.length];by_cases h0:i<0
   ·simp only[h0,if_true]at e;split at e
    ·rename_i hc;cases e;rw[if_neg (by omega),if_pos (by omega)]
    ·cases e
   ·simp only[h0,if_false]at e;split at e
    ·rename_i hc;cases e;rw[if_pos (by omega),if_pos (by omega)]
    ·cases e
  rw[this];exact q1
theorem pD{K:QQq}{H:Hp}(k:Key):∀{kvs:List (Key×V)}{ds:List D}{d:D},aY (dm k) (kvs.map fun p=>dm p.1) ds=some d->ao K H ds (kvs.map (·.2))->∃v,eO kvs k=some v/\aL K H d v
 |[],ds,d,h,_=>by cases h
 |(k',v)::r,ds,d,h,l=>by
  rw[Qyz]at h l;cases ds with
  |nil=>obtain⟨⟩:=ao.bV.mp l
  |cons d' ds=>
   obtain⟨w,ws,e,h1,h2⟩:=ao.aH.mp l;cases e;have e:dM (dm k') (dm k)=decide (k'=k):=by cases k'<;>cases k<;>simp[dm,dM,Bool.beq_eq_decide_eq]
   simp only[aY,e]at h;by_cases q:k'=k
   ·simp only[q,decide_true,if_true]at h;cases h;exact⟨v,jb q,h1⟩
   ·simp only[q,decide_false,Qxq,if_false]at h;obtain⟨u,q1,q2⟩:=pD k h h2;exact⟨u,by rw[jc q];exact q1,q2⟩
noncomputable def abD:R2:=fun x y H Q=>∃a k kvs v,x=.ref a/\y=kV k/\Rd H a (.dK kvs)/\eO kvs k=some v/\Q v H
def Yy(hu:X.A.units+1<cLine):QW X abD:=by intro value slice γ s σ H x y v u Q I rx ry h hs;obtain⟨a,k,kvs,w,rfl,rfl,hd,hv,q⟩:=h;cases rx;have g:lE H a (kV k) _:=.inl ⟨kvs,k,hd,rfl,hv.symm⟩;exact PyProof.Rows.tail_any (qx I g) PySem.F.slot_dict_getitem.lookup (vY hu I g ry fun w' s3 I3 rw'=>⟨w,H,I3,rw',q⟩) hs
noncomputable def R8(K:QQq):R2:=fun x y H Q=>∃d a k xs v,x=.ref d/\y=.ref a/\Rd H d (.dS xs)/\(∀x∈xs,cY K H x.1 x.2.1)/\cY K H k a/\xP k xs=some v/\Q v H
def acp(hu:X.A.units+9<cLine):QW X (R8 X.K):=by intro value slice γ s σ H x y v u Q I rx ry h hs;obtain⟨d,a,k,xs,w,rfl,rfl,hd,hk,ka,hv,q⟩:=h;cases rx;cases ry;obtain⟨ys,_,dd,_⟩:=lX I hd hk;exact PyProof.Rows.tail_any dd.typeIs PySem.F.slot_dict_getitem.lookup (Jb hu I hd hk ka hv fun u s3 I3 ru=>⟨w,H,I3,ru,q⟩) hs
def abE(K:QQq):R2:=fun x y H Q=>abC K x y H Q\/abB K x y H Q\/abD x y H Q\/R8 K x y H Q
def DN(hu:X.A.units+9<cLine):QW X (abE X.K):=T7.or (Yw.or ((Yy (by omega)).or (acp hu)))
def pL{K:QQq}{H:Hp}{d y z:D}{v u:V}{Q:VK}(D1:dF K H d v)(D2:aL K H y u)(e:getD d y=some z)(q:∀w,aL K H z w->Q w H):abE K v u H Q:=by
 cases d with
 |tup xs=>
  cases y with
  |int i=>obtain⟨a,vs,rfl,hq,l⟩:=cM D1.tup;obtain⟨w,e1,e2⟩:=Fp e l;exact .inr (.inl ⟨a,vs,i,w,rfl,D2,hq,e1,q w e2⟩)
  |_=>cases e
 |lst xs=>
  cases y with
  |int i=>
   obtain⟨a,vs,rfl,hq,l⟩:=D1.LQ;rcases hq with hq|hq
   ·obtain⟨w,e1,e2⟩:=Fp e l;exact .inl ⟨a,vs,i,w,rfl,D2,hq,e1,q w e2⟩
   ·obtain⟨w,e1,e2⟩:=Fp e l;exact .inr (.inl ⟨a,vs,i,w,rfl,D2,hq,e1,q w e2⟩)
  |_=>cases e
 |dG ks ds=>
  have e':(if keyOk y=true then aY y ks ds else none)=some z:=by cases y<;>exact e
  split at e'
  ·rename_i hk;obtain⟨k,rfl⟩:=gQ hk;obtain⟨a,kvs,rfl,ha,rfl,l⟩:=jB D1;obtain⟨w,e1,e2⟩:=pD k e' l;exact .inr (.inr (.inl ⟨a,k,kvs,w,rfl,lY D2,ha,e1,q w e2⟩))
  ·cases e'
 |iy ks ds=>
  have e':(if cH y=true then aY y ks ds else none)=some z:=by cases y<;>exact e
  split at e'
  ·rename_i hk;obtain⟨a,rfl,ka⟩:=iK hk D2;obtain⟨d,xs,rfl,hd,l⟩:=yf D1;obtain⟨w,e1,e2⟩:=l.look hk e';exact .inr (.inr (.inr ⟨d,a,kC y,xs,w,rfl,rfl,hd,l.vN,ka,e1,q w e2⟩))
  ·cases e'
 |_=>cases y<;>cases e
def Zd(hu:X.A.units+9<cLine)(ha:GE X W c m1 a)(hb:GE X W c m2 b)(hv:∀k,m1.aF=some k->∃x p,a=.Name x p/\jV X k x)(hs:qR b):GE X W c (.idx m1 m2) (.Subscript a b pos):=by
 intro env;cases q:m1.aF with
 |some k=>
  obtain⟨x,p,rfl,nm⟩:=hv k q;refine PE.imp (Nj (DN hu) nm.pe hb.d hs) fun σ H Q h=>?_;simp only[Wx,q]at h;cases e0:aX k env with
  |none=>rw[e0]at h;exact h.2.elim
  |some d0=>
   rw[e0]at h;obtain⟨u,eu,_⟩:=gj h.1 e0;refine⟨u,eu,env,aO h fun d δ v H1 N1 D1 h1=>?_⟩;obtain⟨z,ez,S,q3⟩:=dC h1;cases e1:aX k δ with
   |none=>rw[e1]at ez;cases ez
   |some d2=>
    rw[e1]at ez;simp only[Option.bind]at ez;obtain⟨u',eu',D2⟩:=gj S e1;rw[eu]at eu';cases eu';cases e2:getD d2 d with
    |none=>rw[e2]at ez;cases ez
    |some w=>rw[e2]at ez;cases ez;exact pL D2 D1 e2 fun w' hw=>q3 w' H1 (Nx.refl S) hw
 |none=>
  refine PE.imp (Nj (DN hu) ha.d hb.d hs) fun σ H Q h=>?_;simp only[Wx,q]at h;refine⟨env,aO h fun d δ v H1 N1 D1 h1=>⟨δ,aO h1 fun d2 ε u H2 N2 D2 h2=>?_⟩⟩;obtain⟨z,ez,S,q3⟩:=dC h2;cases e2:getD d d2 with
  |none=>rw[e2]at ez;cases ez
  |some w=>rw[e2]at ez;cases ez;exact pL (.inl (D1.mono N2.pers)) D2 e2 fun w' hw=>q3 w' H2 (Nx.refl S) hw
end
structure Nz(K:QQq)(env:Ev)(σ:St)(H:Hp)(env':Ev)(ζ:St)(H':Hp):Prop where
 gw:Sat K env' ζ H'
 sub:∀(i:Nat)a,aJ env' ζ i a->aJ env σ i a\/H a=none
 pers:bz H H'
 keep:∀b u,H b=some u->(∀i,¬aJ env σ i b)->H' b=some u
 dom:∀b,H' b=none->H b=none
 bors:∀(i:Nat)xs,env[i]? =some (.bor xs)->(∃ys,env'[i]? =some (.bor ys))/\ζ[i]? =σ[i]?
section
theorem Nx.z(N:Nx K env σ H δ H1):Nz K env σ H δ σ H1:=⟨N.gw,fun i a z=>.inl (N.sub i a z),N.pers,N.keep,N.dom,fun i xs e=>⟨N.bors i xs e,rfl⟩⟩
theorem Nz.refl(S:Sat K env σ H):Nz K env σ H env σ H:=(Nx.refl S).z
theorem Nz.trans(a:Nz K env σ H δ ο H1)(b:Nz K δ ο H1 ε π H2):Nz K env σ H ε π H2 where
 gw:=b.gw
 sub:=fun i c z=>by
  rcases b.sub i c z with q|q
  ·exact a.sub i c q
  ·exact .inr (a.dom c q)
 pers:=a.pers.trans b.pers
 keep:=fun c vs z n=>b.keep c vs (a.keep c vs z n) fun i w=>by
  rcases a.sub i c w with q|q
  ·exact n i q
  ·rw[q]at z;cases z
 dom:=fun c z=>a.dom c (b.dom c z)
 bors:=fun i xs e=>by obtain⟨⟨ys,e1⟩,s1⟩:=a.bors i xs e;obtain⟨q,s2⟩:=b.bors i ys e1;exact⟨q,s2.trans s1⟩
noncomputable def QT(K:QQq)(env:Ev)(σ:St)(H H':Hp):Rv->V->Prop
 |.val d,v=>aL K H' d v
 |.new q,v=>∃a,v=.ref a/\jq K H' q a/\(H a=none\/∃(i:Nat)(ys:Ob),env[i]? =some (.own ys)/\σ[i]? =some (some (.ref a)))
 |_,_=>False
def QT.back{v:V}(N:Nz K env σ H δ ο H1)(h:QT K δ ο H1 H2 r v):QT K env σ H H2 r v:=by
 cases r with
 |val d=>exact h
 |new xs=>
  obtain⟨a,e,p,z⟩:=h;refine⟨a,e,p,?_⟩;rcases z with z|⟨i,ys,z1,z2⟩
  ·exact .inl (N.dom a z)
  ·rcases N.sub i a ⟨⟨_,ys,z1,rfl⟩,z2⟩with ⟨⟨s,xs',q1,q2⟩,q3⟩|q
   ·cases s with
    |own w=>exact .inr ⟨i,w,q1,q3⟩
    |bor w=>obtain⟨⟨w',q⟩,_⟩:=N.bors i w q1;rw[z1]at q;cases q
    |un=>cases q2
    |val d=>cases q2
   ·exact .inl q
 |ref i=>exact h.elim
 |tmp xs=>exact h.elim
end
noncomputable def tS(K:QQq)(W:Wi)(env:Ev)(f:Fl):TS:=fun D σ H=>Sat K env σ H/\match f with
 |.next env'=>∀ζ H',Nz K env σ H env' ζ H'->D.nx ζ H'
 |.ret r env'=>∀v ζ H',Nz K env σ H env' ζ H'->QT K env σ H H' r v->D.rt v H'
 |.brk env'=>∀ζ H',Nz K env σ H env' ζ H'->D.bk ζ H'
 |.cont env'=>∀ζ H',Nz K env σ H env' ζ H'->D.ct ζ H'
 |.exc c env'=>∀ζ H',Nz K env σ H env' ζ H'->W c env' ζ H'
 |.bad=>False
def GS(X:Cx)(W:Wi)(c:Cf)(m:S)(st:Stmt):Prop:=∀env,PS X st (tS X.K W env (ex c m env))
def Q6(X:Cx)(W:Wi)(c:Cf)(m:S)(st:List Stmt):Prop:=∀env,wF X st (tS X.K W env (ex c m env))
section
def PS.imp(h:PS X st t)(i:∀D σ H,t' D σ H->t D σ H):PS X st t':=fun γ s σ H D I q=>h γ s σ H D I (i D σ H q)
def wF.imp(h:wF X sts t)(i:∀D σ H,t' D σ H->t D σ H):wF X sts t':=fun γ s σ H D I q=>h γ s σ H D I (i D σ H q)
def rC{env δ:Ev}{H H1:Hp}{D:Ends}(h:tS K W env f D σ H)(N:Nz K env σ H δ ο H1):tS K W δ f D ο H1:=by
 obtain⟨_,h⟩:=h;refine⟨N.gw,?_⟩;cases f with
 |next ε=>exact fun ζ H' N'=>h ζ H' (N.trans N')
 |ret r ε=>exact fun v ζ H' N' k=>h v ζ H' (N.trans N') (k.back N)
 |brk ε=>exact fun ζ H' N'=>h ζ H' (N.trans N')
 |cont ε=>exact fun ζ H' N'=>h ζ H' (N.trans N')
 |exc k ε=>exact fun ζ H' N'=>h ζ H' (N.trans N')
 |bad=>exact h
def Ud:Q6 X W c .nil []:=fun env=>wF.imp Gv fun D σ H q=>by exact q.2 σ H (Nz.refl q.1)
def Pb(h:GS X W c m1 st)(t:Q6 X W c m2 sts):Q6 X W c (.cons m1 m2) (st::sts):=by
 intro env;have B:wF X _ (iJ (fun D σ H=>∃env,tS X.K W env _ D σ H) (fun D σ H=>∃env,tS X.K W env _ D σ H)):=
  bj (fun γ s σ H D I⟨env,q⟩=>h env γ s σ H D I q) (fun γ s σ H D I⟨env,q⟩=>t env γ s σ H D I q)
 refine wF.imp B fun D σ H q=>?_;simp only[x_1]at q;refine⟨env,q.1,?_⟩;cases r:ex c m1 env with
 |next δ=>rw[r]at q;exact fun ο H1 N1=>⟨δ,rC q N1⟩
 |_=>rw[r]at q;exact q.2
theorem wM{env:Ev}{H:Hp}{D:Ends}{r:Out Rv}{R:VK}(h:tS K W env (r.pN f) D σ H)
  (k:∀d δ v H1,Nx K env σ H δ H1->aL K H1 d v->tS K W δ (f d δ) D σ H1->R v H1):tD K W env r σ H R:=by
 have step:∀d δ,r.pN f=f d δ->∀v H1,Nx K env σ H δ H1->aL K H1 d v->R v H1:=fun d δ e v H1 N Dv=>by rw[e]at h;exact k d δ v H1 N Dv (rC h N.z)
 obtain⟨S,h⟩:=h;refine⟨S,?_⟩;cases r with
 |bad=>exact h
 |exc c δ=>exact fun H' N=>h σ H' N.z
 |ok x δ=>
  cases x with
  |val d=>exact fun v H1 N Dv=>step d δ rfl v H1 N Dv
  |new xs=>exact fun v H1 N Dv=>step xs.d δ rfl v H1 N Dv
  |ref i=>exact h
  |tmp xs=>exact h
theorem Lq{env:Ev}{H:Hp}{D:Ends}{f:Bool->Ev->Fl}(h:tS K W env (r.BR f) D σ H)
  (k:∀b δ H1,Nx K env σ H δ H1->tS K W δ (f b δ) D σ H1->R b H1):tT K W env r σ H R:=by
 have step:∀d δ x,x.kO=some d->r=.ok x δ->∃b,iY d=some b/\∀H1,Nx K env σ H δ H1->R b H1:=fun d δ x ex er=>by
  subst er;cases q:iY d with
  |none=>
   cases x with
   |val d'=>cases ex;simp only[Out.BR,Out.pN,q]at h;exact h.2.elim
   |new xs=>cases ex;simp only[Out.BR,Out.pN,q]at h;exact h.2.elim
   |ref i=>cases ex
   |tmp xs=>cases ex
  |some b=>
   refine⟨b,rfl,fun H1 N=>k b δ H1 N (rC ?_ N.z)⟩;cases x with
   |val d'=>cases ex;simp only[Out.BR,Out.pN,q]at h;exact h
   |new xs=>cases ex;simp only[Out.BR,Out.pN,q]at h;exact h
   |ref i=>cases ex
   |tmp xs=>cases ex
 refine⟨h.1,?_⟩;cases r with
 |bad=>exact h.2
 |exc c δ=>exact fun H' N=>h.2 σ H' N.z
 |ok x δ=>
  cases x with
  |val d=>obtain⟨b,e,q⟩:=step d δ _ rfl rfl;exact⟨d,b,rfl,e,q⟩
  |new xs=>obtain⟨b,e,q⟩:=step xs.d δ _ rfl rfl;exact⟨xs.d,b,rfl,e,q⟩
  |ref i=>exact h.2.elim
  |tmp xs=>exact h.2.elim
def acx{te:Expr}(ht:GT X W c t te)(h1:Q6 X W c m1 s1)(h2:Q6 X W c m2 s2):GS X W c (.ite t m1 m2) (.If te s1 s2 pos):=by
 intro env;refine PS.imp (VF ht (t:=fun D σ H=>∃env,tS X.K W env _ D σ H) (u:=fun D σ H=>∃env,tS X.K W env _ D σ H)
  (fun γ s σ H D I⟨env,q⟩=>h1 env γ s σ H D I q) (fun γ s σ H D I⟨env,q⟩=>h2 env γ s σ H D I q)) fun D σ H q=>?_
 refine⟨env,Lq q fun b δ H1 N q1=>?_⟩;cases b with
 |true=>rw[if_pos rfl]at q1⊢;exact⟨δ,q1⟩
 |false=>rw[if_neg Qjz]at q1⊢;exact⟨δ,q1⟩
def Ug{m:E}(h:GE X W c m e)(hs:swapsWith e none pos.line X.env=pure false):GS X W c (.expr m) (.Expr e pos):=by intro env;exact PS.imp (lK h.d hs) fun D σ H q=>⟨env,wM q fun d δ v H1 N Dv q1=>q1.2 σ H1 (Nz.refl q1.1)⟩
def Pq:GS X W0 c (.raise k) st:=fun env γ s σ H D I q=>by exact(q.2 σ H (Nz.refl q.1)).elim
end
section
variable{env δ ε:Ev}{σ ο π:St}
def lL{s:Sl}{a:Addr}(h:aJ (env.set i s) (σ.set i (some v)) j a)(hj:i≠j):aJ env σ j a:=by obtain⟨⟨t,xs,e1,e2⟩,e3⟩:=h;rw[Qxz hj]at e1 e3;exact⟨⟨t,xs,e1,e2⟩,e3⟩
def n6{s:Sl}{a:Addr}(hi:i<env.length)(hs:i<σ.length)(h:aJ (env.set i s) (σ.set i (some v)) i a):isOwn s≠none/\v=.ref a:=by obtain⟨⟨t,xs,e1,e2⟩,e3⟩:=h;rw[Qwq hi]at e1;rw[Qwq hs]at e3;cases e1;cases e3;exact⟨by rw[e2];simp,rfl⟩
def Sat.CZ{q:Ob}(S:Sat K env σ H)(hi:i<env.length)(ha:jq K H q a)(no:∀k,¬aJ env σ k a):Sat K (env.set i (.own q)) (σ.set i (some (.ref a))) H:=by
 have hs:i<σ.length:=by rw[<-S.len];exact hi
 refine⟨by simpa using S.len,fun j s e=>?_,fun j k b h1 h2=>?_⟩
 ·by_cases hj:i=j
  ·subst hj;rw[Qwq hi]at e;cases e;exact⟨a,by rw[Qwq hs];rfl,ha⟩
  ·rw[Qxz hj]at e⊢;exact S.sl j s e
 ·by_cases hj:i=j
  ·subst hj;by_cases hk:i=k
   ·exact hk
   ·obtain⟨_,z⟩:=n6 hi hs h1;cases z;exact absurd (lL h2 hk) (no k)
  ·by_cases hk:i=k
   ·subst hk;obtain⟨_,z⟩:=n6 hi hs h2;cases z;exact absurd (lL h1 hj) (no j)
   ·exact S.ne j k b (lL h1 hj) (lL h2 hk)
theorem Nz.put{x:Rv}{v:V}(S:Sat K env σ H)(N:Nx K env σ H δ H1)(hx:iB K σ H H1 x v)(hs:x.IV=some s)(h:f9 i s δ=some ε):Nz K env σ H ε (σ.set i (some v)) H1:=by
 obtain⟨rfl,hi,nb⟩:=rR h;have hsl:i<σ.length:=by rw[<-N.gw.len];exact hi
 have bors:∀(j:Nat)xs,env[j]? =some _->(∃ys,(δ.set i s)[j]? =some _)/\(σ.set i (some v))[j]? =σ[j]? :=fun j xs e=>by
  obtain⟨ys,e1⟩:=N.bors j xs e;have hj:i≠j:=fun z=>by subst z;exact nb ys e1
  exact⟨⟨ys,by rw[Qxz hj];exact e1⟩,by rw[Qxz hj]⟩
 cases x with
 |val d=>
  cases hs;refine⟨N.gw.put hi hx,fun j a z=>.inl ?_,N.pers,N.keep,N.dom,bors⟩;by_cases hj:i=j
  ·subst hj;exact absurd rfl (n6 hi hsl z).1
  ·exact N.sub j a (lL z hj)
 |new q=>
  cases hs;obtain⟨a,rfl,oa,h0⟩:=hx;refine⟨N.gw.CZ hi oa fun k z=>S.nq h0 k (N.sub k a z),fun j b z=>?_,N.pers,N.keep,N.dom,bors⟩;by_cases hj:i=j
  ·subst hj;obtain⟨_,z⟩:=n6 hi hsl z;cases z;exact .inr h0
  ·exact .inl (N.sub j b (lL z hj))
 |ref j=>cases hs
 |tmp q=>cases hs
end
section
theorem Vd{env:Ev}{H:Hp}{D:Ends}{r:Out Rv}{R:VK}(h:tS K W env (r.fl f) D σ H)
  (k:∀x δ v H1,Nx K env σ H δ H1->iB K σ H H1 x v->tS K W env (f x δ) D σ H->R v H1):tM K W env r σ H R:=by
 obtain⟨S,h⟩:=h;refine⟨S,?_⟩;cases r with
 |bad=>exact h
 |exc c δ=>exact fun H' N=>h σ H' N.z
 |ok x δ=>exact fun v H1 N z=>k x δ v H1 N z ⟨S,h⟩
def Gh{i:Nat}{D:Ends}{H:Hp}(q:tS K W env (ex c (.set i m) env) D σ H):tM K W env (ev c m env) σ H fun v H1=>D.nx (σ.set i (some v)) H1:=by
 refine Vd q fun x δ v H1 N z q1=>?_;cases e1:x.IV with
 |none=>rw[e1]at q1;exact q1.2.elim
 |some s=>
  rw[e1]at q1;simp only[Option.bind]at q1;cases e2:f9 i s δ with
  |none=>rw[e2]at q1;exact q1.2.elim
  |some ε=>rw[e2]at q1;exact q1.2 _ _ (Nz.put q1.1 N z e1 e2)
def Pn{x:Str}(h:GE X W c m e)(hN:X.N.Nodup)(hi:X.N[i]? =some x)(hx:Loc X.env.scope x)(hf:X.fn x=true\/X.env.scope.names.lookup x=some .local)
  (hs:swapsWith e (some (.Name x pos')) pos.line X.env=pure false):GS X W c (.set i m) (.Assign [.Name x pos'] e pos):=fun env=>
 PS.imp (jX hN hi hx h.am hs hf) fun D σ H q=>⟨env,Gh q⟩
end
theorem Ex(env:Env):∀(names:List (Str×NameKind))(cs:List (Str×Addr)),(∀x∈names,x.2=.free->∃c,env.cells.lookup x.1=some c)->(∀x c,cs.lookup x=some c->env.cells.lookup x=some c)->
  ∃cl,(do
   let s<-forIn names cs (fun(x:Str×NameKind)cs=>match x with
    |(name,kind)=>if (kind==NameKind.free)=true then do
      let a<-cellOf env name
      pure (ForInStep.yield ((name,a)::cs))
     else pure (ForInStep.yield cs))
   pure s:Sem (List (Str×Addr)))=(pure cl:Sem _)/\
   (∀x c,cl.lookup x=some c->env.cells.lookup x=some c)/\(∀x,(x,NameKind.free)∈names->∃c,cl.lookup x=some c)/\∀x c,cs.lookup x=some c->∃c,cl.lookup x=some c:=by
 intro names;induction names with
 |nil=>intro cs h1 h2;exact⟨cs,rfl,h2,by simp,fun x c e=>⟨c,e⟩⟩
 |cons p r ih=>
  intro cs h1 h2;obtain⟨n,k⟩:=p;by_cases hk:k=.free
  ·subst hk;obtain⟨c,hc⟩:=h1 _ QYz rfl;have q2:∀x d,((n,c)::cs).lookup x=some d->env.cells.lookup x=some d:=fun x d e=>by
    rw[QHz]at e;cases hx:x==n with
    |true=>rw[hx]at e;cases e;rw[eq_of_beq hx];exact hc
    |false=>rw[hx]at e;exact h2 x d e
   obtain⟨cl,e1,e2,e3,e4⟩:=ih _ (fun x hx=>h1 x (QYq _ hx)) q2;have own:=e4 n c (by simp[QHz]);refine⟨cl,?_,e2,fun x hx=>?_,fun x d e=>?_⟩
   ·rw[<-e1];have:cellOf env n=pure c:=by unfold cellOf;rw[hc]
    simp only[List.forIn_cons];rw[if_pos (show(NameKind.free==NameKind.free)=true from rfl),this];rfl
   ·rcases QCq.mp hx with z|z
    ·cases z;exact own
    ·exact e3 x z
   ·cases hx:x==n with
    |true=>rw[eq_of_beq hx];exact own
    |false=>exact e4 x d (by rw[QHz,hx];exact e)
  ·obtain⟨cl,e1,e2,e3,e4⟩:=ih cs (fun x hx=>h1 x (QYq _ hx)) h2;refine⟨cl,?_,e2,fun x hx=>?_,e4⟩
   ·rw[<-e1];simp only[List.forIn_cons];rw[if_neg (fun z=>hk (eq_of_beq z))];rfl
   ·rcases QCq.mp hx with z|z
    ·cases z;exact absurd rfl hk
    ·exact e3 x z
def agq{env:Env}(h:∀x∈scope.names,x.2=.free->∃c,env.cells.lookup x.1=some c):∃cl,KZ scope env cl:=by
 obtain⟨cl,e1,e2,e3,_⟩:=Ex env scope.names [] h (by simp);refine⟨cl,?_,e2,fun x hx=>e3 x (PySem.mem_of_lookup hx)⟩;have q:closureFor scope env=(forIn scope.names [] (fun(x:Str×NameKind)cs=>match x with
    |(name,kind)=>if (kind==NameKind.free)=true then do
      let a<-cellOf env name
      pure (ForInStep.yield ((name,a)::cs))
     else pure (ForInStep.yield cs)))>>=pure:=rfl
 rw[q,e1];rfl
section
variable{it cond elt:E}{pos spos py:Pos}
theorem HF{env:Ev}{H:Hp}{Q:VK}
  (q:tM K W env (ev c (.comp nl tg it cond elt) env) σ H Q)
  (k:∀J H1 δ xs ys τ,Nx K env σ H δ H1->Gives K J xs H1->bx tg (ev c cond) (ev c elt) xs [] (List.replicate nl Sl.un++δ)=.ok ys τ->
   (∀v H2,Nx K env σ H (τ.drop nl) H2->iB K σ H H2 (.new (.lst ys)) v->Q v H2)->R J H1):tI K W env (ev c it env) σ H R:=by
 simp only[BX]at q;obtain⟨S,q⟩:=q;refine⟨S,?_⟩;cases r:ev c it env with
 |bad=>rw[r]at q;exact q
 |exc k δ=>rw[r]at q;exact q
 |ok x δ=>
  rw[r]at q;have go:∀d,x.kO=some d->(match (match items d with
    |some xs=>match bx tg (ev c cond) (ev c elt) xs [] (List.replicate nl Sl.un++δ)with
     |.ok ys τ=>Out.ok (Rv.new (.lst ys)) (τ.drop nl)
     |_=>.bad
    |none=>.bad)with
   |.ok x env'=>∀v H',Nx K env σ H env' H'->iB K σ H H' x v->Q v H'
   |.exc c env'=>∀H',Nx K env σ H env' H'->W c env' σ H'
   |.bad=>False)->∃d xs,x.kO=some d/\items d=some xs/\∀J H',Nx K env σ H δ H'->Gives K J xs H'->R J H':=fun d ed z=>by
   cases e1:items d with
   |none=>rw[e1]at z;exact z.elim
   |some xs=>
    rw[e1]at z
    simp only at z
    cases e2:bx tg _ _ xs [] _ with
    |bad=>rw[e2]at z;exact z.elim
    |exc k τ=>rw[e2]at z;exact z.elim
    |ok ys τ=>
     rw[e2]at z
     exact⟨d,xs,ed,e1,fun J H1 N G=>k J H1 δ xs ys τ N G e2 z⟩
  cases x with
  |val d=>exact go d rfl q
  |new o=>exact go o.d rfl q
  |ref i=>exact q.elim
  |tmp o=>exact q.elim
def Inv.letGo{σ:St}{H:Hp}{C:Addr}(I:Inv X γ σ H s)(f:dB X γ H C)(hs:Heap.SameBut C s.heap h'):Inv X γ σ H {s with heap:=h'}:=by exact I.turned (fun b o hb e=>(hs.2 b hb).trans e) f.1 f.2.1 f.2.2.2.1 f.2.2.2.2.1 f.2.2.2.2.2
theorem Bt.cl{σ:St}{H:Hp}(sc:Bt X.env.scope scope η X.N)(I:Inv X γ σ H s):∃cl,KZ scope X.env cl:=
 agq fun x hx hf=>I.ok.has x.1 (sc.fre x hx hf)
def Ul(B:Bx X c scope η tg cond elt tgE ω ifs)(hi:GI X W c it tgE ξ)(hc:X.calm=true)(hs:∀x,foldedSetIterable ξ X.env x=pure x):
  GE X W c (.comp η.length tg it cond elt) (.ListComp ω [⟨tgE,ξ,ifs,0⟩] scope pos):=by
 intro env γ s σ H Q I q;obtain⟨cl,co⟩:=B.sc.cl I;refine wpAny_comprehension_free rfl hs co.eq B.sc.kind B.sc.locs (bJ (hi env γ s σ H _ I (HF q (R:=fun J H1=>∃δ xs ys τ,Nx X.K env σ H δ H1/\Gives X.K J xs H1/\bx tg _ _ xs [] _=.ok ys τ/\
  (∀v H2,Nx X.K env σ H _ H2->iB X.K σ H H2 _ v->Q v H2)) fun J H1 δ xs ys τ N G e z=>⟨δ,xs,ys,τ,N,G,e,z⟩)) fun v s1 h1=>bJ h1 fun itv s2 h2=>?_)
 obtain⟨ita,fp,tn,J,H1,rfl,I1,T,t0,hf,δ,xs,ys,τ,N,G,e,z⟩:=h2;refine wg B hc co I1 N.gw T t0 hf G e fun D C s' H' vs m I' N' hD hl hn hC fC=>?_;refine⟨m,hC,fun h' hs'=>⟨.ref D,H',Inv.letGo I' fC hs',rfl,z _ _ (N.trans N') ⟨D,rfl,⟨_,hD,vs,rfl,hl⟩,N.dom D hn⟩⟩⟩
def Ed{x:Str}(B:Bx X c scope η tg cond elt tgE ω ifs)(hi:GI X W c it tgE ξ)(hc:X.calm=true)(hs:∀x,foldedSetIterable ξ X.env x=pure x)
  (hN:X.N.Nodup)(hx:X.N[i]? =some x)(hl:Loc X.env.scope x)(hf:X.fn x=true\/X.env.scope.names.lookup x=some .local)
  (hsw:swapsWith (.ListComp ω [⟨tgE,ξ,ifs,0⟩] scope pos) (some (.Name x py)) spos.line X.env=pure true):
  GS X W c (.set i (.comp η.length tg it cond elt)) (.Assign [.Name x py] (.ListComp ω [⟨tgE,ξ,ifs,0⟩] scope pos) spos):=by
 intro env γ s σ H D I q;obtain⟨cl,co⟩:=B.sc.cl I;rw[exec_Assign_Name_used _ _ _ _ hsw];refine QKq (wpAny_standAt (QKq ?_));refine QKq (QGq (wpAny_comprehension_free rfl hs co.eq B.sc.kind B.sc.locs
  (bJ (hi env γ s σ H _ I (HF (Gh q) (R:=fun J H1=>∃δ xs ys τ,Nx X.K env σ H δ H1/\Gives X.K J xs H1/\bx tg _ _ xs [] _=.ok ys τ/\
  (∀v H2,Nx X.K env σ H _ H2->iB X.K σ H H2 _ v->D.nx _ H2)) fun J H1 δ xs ys τ N G e z=>⟨δ,xs,ys,τ,N,G,e,z⟩)) fun v s1 h1=>bJ h1 fun itv s2 h2=>?_))
  (fun _ s' hq=>QKz (QKz hq)) fun _ _ e=>e)
 obtain⟨ita,fp,tn,J,H1,rfl,I1,T,t0,hf',δ,xs,ys,τ,N,G,e,z⟩:=h2;refine wg B hc co I1 N.gw T t0 hf' G e fun A C s' H' vs m I' N' hD hl' hn hC fC=>?_;refine wpAny_assign_Name (uW (v:=.ref A) I' hN hx hl rfl (fun s'' I''⟨a,ha,hor⟩=>?_) hf);have hCa:C≠a:=by
  rcases hor with rfl|hor
  ·exact fC.2.1
  ·exact fun z=>fC.2.2.2.2.1 x a hor z.symm
 refine⟨m,hC.sameBut ha hCa,fun h' hs'=>⟨_,H',Inv.letGo I'' fC hs',z _ _ (N.trans N') ⟨A,rfl,⟨_,hD,vs,rfl,hl'⟩,N.dom A hn⟩⟩⟩
end
section
theorem J9(hq:jM K H a vs)(l:ao K H xs vs)(hz:vs.length<=sizeLine):Gives K (Itt K a) xs H where
 go:=fun H1 p i d e=>by obtain⟨v,ev,_⟩:=l.get e;exact⟨vs,v,p.Xb hq,ev⟩
 yld:=fun H1 p i d e x H2 y=>by obtain⟨rfl,y⟩:=y;obtain⟨v,ev,dv⟩:=l.get e;have:=y vs (p.Xb hq);rw[ev]at this;cases this;exact⟨dv.mono p,.inl rfl⟩
 stop:=fun H1 p i hi=>⟨vs,p.Xb hq,by rw[<-l.length];exact hi⟩
 len:=by rw[l.length];exact hz
theorem Kd(hq:QX K H a vs)(l:ao K H xs vs)(hz:vs.length<=sizeLine):Gives K (Itl K a) xs H where
 go:=fun H1 p i d e=>by obtain⟨v,ev,_⟩:=l.get e;exact⟨vs,v,(p.Zj hq).sq,ev⟩
 yld:=fun H1 p i d e x H2 y=>by obtain⟨rfl,y⟩:=y;obtain⟨v,ev,dv⟩:=l.get e;have:=y vs (p.Zj hq).sq;rw[ev]at this;cases this;exact⟨dv.mono p,.inl rfl⟩
 stop:=fun H1 p i hi=>⟨vs,(p.Zj hq).sq,by rw[<-l.length];exact hi⟩
 len:=by rw[l.length];exact hz
noncomputable def Its(x:Str):It:=⟨fun i _=>i<x.cps.size,fun i H v H'=>H'=H/\∃c,x.cps[i]? =some c/\v=.str ⟨#[c]⟩,fun i _=>x.cps.size<=i⟩
def signs_get{i:Nat}(h:(signs x)[i]? =some d):∃c,x.cps[i]? =some c/\d=.str ⟨#[c]⟩:=by
 unfold signs at h;rw[QFz]at h;cases e:x.cps.toList[i]? with
 |none=>rw[e]at h;cases h
 |some c=>rw[e]at h;cases h;exact⟨c,by simpa using e,rfl⟩
def ph x:(signs x).length=x.cps.size:=by simp[signs]
theorem vV{x:Str}(hz:x.cps.size<=sizeLine):Gives K (Its x) (signs x) H where
 go:=fun H1 p i d e=>by have:=(QCz.mp e).1;rw[ph]at this;exact this
 yld:=fun H1 p i d e v H2 y=>by obtain⟨rfl,c,e1,rfl⟩:=y;obtain⟨c',e2,rfl⟩:=signs_get e;rw[e1]at e2;cases e2;exact⟨rfl,.inl rfl⟩
 stop:=fun H1 p i hi=>by rw[ph]at hi;exact hi
 len:=by rw[ph];exact hz
noncomputable def Itk(a:Addr)(o:Obj)(kvs:List (Key×V)):It:=⟨fun i H=>H a=some (.frz o (.dK kvs))/\i<kvs.length,fun i H v H'=>H'=H/\∃k x,kvs[i]? =some (k,x)/\v=kV k,fun i H=>H a=some (.frz o (.dK kvs))/\kvs.length<=i⟩
def T6(k:Key):aL K H (dm k) (kV k):=by cases k<;>rfl
theorem Kg{o:Obj}{kvs:List (Key×V)}(ha:H a=some (.frz o (.dK kvs)))(hz:kvs.length<=sizeLine):Gives K (Itk a o kvs) (kvs.map fun p=>dm p.1) H where
 go:=fun H1 p i d e=>by have:=(QCz.mp e).1;rw[QAq]at this;exact⟨p.frzs _ _ _ ha,this⟩
 yld:=fun H1 p i d e v H2 y=>by obtain⟨rfl,k,x,e1,rfl⟩:=y;rw[QFz,e1]at e;cases e;exact⟨T6 k,.inl rfl⟩
 stop:=fun H1 p i hi=>by rw[QAq]at hi;exact⟨p.frzs _ _ _ ha,hi⟩
 len:=by rw[QAq];exact hz
end
section
theorem yL it x t ty(W:∀A':Around,A'.handled=none->Walks P w A' it [it] [it] x.cps.size (SignAt x) (fun i h=>h.IsStrIter it ty x t i))
  (hn:["enumerate","zip","dict_itemiterator","dict_reverseitemiterator","odict_iterator","itertools.zip_longest","itertools.pairwise"].contains ty=false)
  (hself:∀(A:Around)(i:Nat)(s:Shared)(Q:QZq)(E:QZq),s.heap.IsStrIter it ty x t i->Q (.ref it) s->wpAny (model P w) A (pyIter (.ref it)) Q E s):
  Turn P w K tg (Its x) [it] it (fun i h=>h.IsStrIter it ty x t i/\i<=x.cps.size) where
 mem:=by simp
 obj:=fun i h st b hb=>by
  have e:b=it:=by simpa using hb
  subst e;obtain⟨⟨o,e,_,d⟩,_⟩:=st;exact⟨o,e,fun v z=>by rw[d]at z;cases z⟩
 keep:=fun i h h' st k=>⟨let ⟨o,e,r⟩:=st.1;⟨o,k it (by simp) o e,r⟩,st.2⟩
 item:=by intro X hP hw hK hc i γ s σ H E I hf st hg;obtain⟨f0,f1,f2,f3,f4,f5⟩:=hf it (by simp);refine(W X.A (I.ok.hd hc)).item i s _ _ hg st.1 fun v h' tk hv st' kk=>?_;obtain⟨c,t,hx,rfl⟩:=hv;obtain⟨o,e,cl,d⟩:=id st';exact⟨_,rfl,vR e cl d hn ⟨.str ⟨#[c]⟩,H,(I.turned (fun b o hb e=>kk b o (by simpa using hb) e) f0 f1 f3 f4 f5),⟨t,rfl⟩,⟨rfl,c,hx,rfl⟩,⟨st',hg⟩,fun b hb=>(hf b hb).1⟩⟩
 done:=by intro X hP hw hK hc i γ s σ H E I hf st hg;obtain⟨f0,f1,f2,f3,f4,f5⟩:=hf it (by simp);have e:=Nat.le_antisymm st.2 hg;subst e;exact(W X.A (I.ok.hd hc)).done s _ _ st.1 fun h' tk kk=>⟨rfl,I.turned (fun b o hb e=>kk b o (by simpa using hb) e) f0 f1 f3 f4 f5⟩
 self:=fun A i s Q E st h=>hself A i s Q E st.1 h
def KV.at_{kvs:List (Key×V)}{vs:List (Key×Value)}(r:KV kvs vs):∀{i:Nat}{k:Key}{x:V},kvs[i]? =some (k,x)->∃u,vs[i]? =some (k,u):=by
 intro i k x e;induction r generalizing i with
 |nil=>simp at e
 | @cons p q ps qs h t ih=>
  cases i with
  |zero=>simp at e;subst e;exact⟨q.2,by simp;rw[Prod.ext_iff];exact⟨h.1.symm,rfl⟩⟩
  |succ i=>exact ih (by simpa using e)
def vX{P:Program}{w:World}{h:Heap}{a:Addr}{o:Obj}{es:Array DictEntry}{ep:Nat}{vs:List (Key×Value)}(ho:h.get? a=some o)(hd:o.data=.dict es ep)(D:h.DictOf (bQ P w) a vs):h.DictAt (bQ P w) a vs ep:=by obtain⟨o',es',ep',e,x,d,r⟩:=D;rw[ho]at e;cases e;rw[hd]at d;cases d;exact⟨o,es,ho,x,hd,r⟩
def T5{P:Program}{w:World}{k:Key}{v:Value}(h:(bQ P w).is k v=true):RelV (kV k) v:=by
 rcases bR (k:=k) (v:=v) h with ⟨i,t,rfl,rfl⟩|⟨x,t,rfl,rfl⟩
 ·exact⟨t,rfl⟩
 ·exact⟨t,rfl⟩
theorem yM(it a:Addr)(o:Obj)(es:Array DictEntry)(kvs:List (Key×V))(ep:Nat)(hep:o.data=.dict es ep):
  Turn P w K tg (Itk a o kvs) [it] it (fun i h=>h.IsKeyIter it a i kvs.length ep) where
 mem:=by simp
 obj:=fun i h st b hb=>by
  have e:b=it:=by simpa using hb
  subst e;obtain⟨o,e,_,d⟩:=st;exact⟨o,e,fun v z=>by rw[d]at z;cases z⟩
 keep:=fun i h h' st k=>st.at fun o e=>k it (by simp) o e
 item:=by intro X hP hw hK hc i γ s σ H E I hf st hg;subst hP hw hK;obtain⟨f0,f1,f2,f3,f4,f5⟩:=hf it (by simp);obtain⟨ha,hi⟩:=hg;obtain⟨ho,hz,_,vs,r,D⟩:=I.hok a _ ha;have hl:kvs.length=vs.length:=Paired.length r;obtain⟨⟨k,x⟩,hx⟩:∃p,kvs[i]? =some p:=⟨kvs[i],by simp[hi]⟩;obtain⟨u,hu⟩:=KV.at_ r hx;rw[hl]at st;refine wpAny_pyNext_dict_item st (vX ho hep D) hu fun key h' hk st' sb=>?_;have I1:Inv X γ σ H {s with heap:=h'}:=I.turned (t':=s.toks) (fun b o hb e=>(sb.2 b hb).trans e) f0 f1 f3 f4 f5;rw[<-hl]at st';obtain⟨oi,e,c,d⟩:=id st';exact⟨key,rfl,vR (s:={s with heap:=h'}) e c d (by decide) ⟨kV k,H,I1,T5 hk,⟨rfl,k,x,hx,rfl⟩,st',fun b hb=>(hf b hb).1⟩⟩
 done:=by intro X hP hw hK hc i γ s σ H E I hf st hg;subst hP hw hK;obtain⟨f0,f1,f2,f3,f4,f5⟩:=hf it (by simp);obtain⟨ha,hi⟩:=hg;obtain⟨ho,hz,_,vs,r,D⟩:=I.hok a _ ha;have hl:kvs.length=vs.length:=Paired.length r;rw[hl]at st;exact wpAny_pyNext_dict_end (I.ok.hd hc) st (vX ho hep D) (by simp;omega) fun h' eb=>⟨rfl,I.turned (t':=s.toks) (fun b o hb e=>eb b o hb e) f0 f1 f3 f4 f5⟩
 self:=fun A i s Q E st h=>wpAny_pyIter_keyiter st h
end
section
noncomputable def Itq(a:Addr)(o:Obj)(xs:List SV):It:=⟨fun i H=>H a=some (.frz o (.dS xs))/\i<xs.length,fun i H v H'=>H'=H/\∃x,xs[i]? =some x/\v=.ref x.2.1,fun i H=>H a=some (.frz o (.dS xs))/\xs.length<=i⟩
theorem Kc{o:Obj}{xs:List SV}(ha:H a=some (.frz o (.dS xs))){ks ds:List D}(hk:gO K H ks ds xs)(hz:xs.length<=sizeLine):Gives K (Itq a o xs) ks H where
 go:=fun H1 p i d e=>by have:=(QCz.mp e).1;rw[hk.len.1]at this;exact⟨p.frzs _ _ _ ha,this⟩
 yld:=fun H1 p i d e v H2 y=>by obtain⟨rfl,x,e1,rfl⟩:=y;obtain⟨w,w1,w2⟩:=hk.2.2.1.get e;rw[QFz,e1]at w1;cases w1;exact⟨w2.mono p,.inl rfl⟩
 stop:=fun H1 p i hi=>by rw[hk.len.1]at hi;exact⟨p.frzs _ _ _ ha,hi⟩
 len:=by rw[hk.len.1];exact hz
end
section
def Xy{xs:List SV}{ys:List (SK×Addr×Value)}{x:SV}(pr:Paired QV xs ys):∀{i:Nat},xs[i]? =some x->∃y,ys[i]? =some y/\y.2.1=x.2.1:=by
 induction pr with
 |nil=>intro i e;simp at e
 |cons h t ih=>
  intro i e;cases i with
  |zero=>simp at e;subst e;exact⟨_,rfl,h.2.1.symm⟩
  |succ i=>exact ih (by simpa using e)
def wU{H:Hp}{h:Heap}{a:Addr}{o:Obj}{es:Array DictEntry}{ep:Nat}{xs:List SV}(ok:mQ P w H h)(ha:H a=some (.frz o (.dS xs)))(hep:o.data=.dict es ep):
  h.get? a=some o/\xs.length<=sizeLine/\(a==sysModules)=false/\es.size=xs.length/\pZ h a es ep/\∀(i:Nat)(x:SV),xs[i]? =some x->∃e:DictEntry,es[i]? =some e/\e.key=Value.ref x.2.1:=by
 obtain⟨ho,z,y,nd,ys,o',es',ep',pr,h1,h2,h3,h4⟩:=ok a _ ha;rw[ho]at h1;cases h1;rw[hep]at h3;cases h3;have l:es.size=ys.length:=by rw[<-Array.length_toList,h4,QAq]
 refine⟨ho,z,y,l.trans (Paired.length pr).symm,⟨o,ho,h2,hep⟩,fun i x e=>?_⟩;obtain⟨q,e1,e2⟩:=Xy pr e;refine⟨entryOfKey (eY P w) q,?_,by rw[<-e2];rfl⟩;rw[<-Array.getElem?_toList,h4,QFz,e1];rfl
theorem Ld(it a:Addr)(o:Obj)(es:Array DictEntry)(xs:List SV)(ep:Nat)(hep:o.data=.dict es ep):
  Turn P w K tg (Itq a o xs) [it] it (fun i h=>h.IsKeyIter it a i es.size ep) where
 mem:=by simp
 obj:=fun i h st b hb=>by
  have e:b=it:=by simpa using hb
  subst e;obtain⟨o,e,_,d⟩:=st;exact⟨o,e,fun v z=>by rw[d]at z;cases z⟩
 keep:=fun i h h' st k=>st.at fun o e=>k it (by simp) o e
 item:=by intro X hP hw hK hc i γ s σ H E I hf st hg;subst hP hw hK;obtain⟨f0,f1,f2,f3,f4,f5⟩:=hf it (by simp);obtain⟨ha,hi⟩:=hg;obtain⟨ho,hz,_,sz,B,g⟩:=wU I.hok ha hep;obtain⟨x,hx⟩:∃p,xs[i]? =some p:=⟨xs[i],by simp[hi]⟩;obtain⟨e,e1,e2⟩:=g i x hx;refine wC st B e1 fun h' st' sb=>?_;have I1:Inv X γ σ H {s with heap:=h'}:=I.turned (t':=s.toks) (fun b o hb e=>(sb.2 b hb).trans e) f0 f1 f3 f4 f5;obtain⟨oi,e,c,d⟩:=id st';exact⟨_,rfl,vR (s:={s with heap:=h'}) e c d (by decide) ⟨.ref x.2.1,H,I1,e2,⟨rfl,x,hx,rfl⟩,st',fun b hb=>(hf b hb).1⟩⟩
 done:=by intro X hP hw hK hc i γ s σ H E I hf st hg;subst hP hw hK;obtain⟨f0,f1,f2,f3,f4,f5⟩:=hf it (by simp);obtain⟨ha,hi⟩:=hg;obtain⟨ho,hz,_,sz,B,g⟩:=wU I.hok ha hep;exact Bk (I.ok.hd hc) st B (by omega) fun h' eb=>⟨rfl,I.turned (t':=s.toks) (fun b o hb e=>eb b o hb e) f0 f1 f3 f4 f5⟩
 self:=fun A i s Q E st h=>wpAny_pyIter_keyiter st h
end
section
theorem Ox{γ:QQz}{σ:St}{H:Hp}{s:Shared}{R:It->Hp->Prop}{d:D}{xs:List D}{v:V}{u:Value}(I:Inv X γ σ H s)(rv:RelV v u)(hd:aL X.K H d v)(hi:items d=some xs)(q:∀J,Gives X.K J xs H->R J H):
  wpAny (model X.prog X.w) X.A (pyIter u) (PIE X γ σ tg R) X.xe s:=by
 have fp:∀(s':Shared),s.heap.objs.size<=s'.heap.objs.size->True:=fun _ _=>trivial;cases d with
 |tup ds=>
  cases hi;obtain⟨a,vs,rfl,hq,l⟩:=cM hd;cases rv;obtain⟨its,r,p,hz⟩:=I.tuple hq;refine wpAny_pyIter_tuple (show s.heap.IsTuple a its.toArray from p) ?_;refine⟨s.heap.objs.size,[s.heap.objs.size],_,_,H,rfl,I.kept (t':=s.toks) fun b o e=>QWq _ e,BZ a _,⟨_,Qzq _ rfl,rfl,rfl⟩,fun b hb=>?_,q _ (J9 hq l hz)⟩;have e:b=s.heap.objs.size:=by simpa using hb
  subst e;exact I.pM (QVz _) (I.hok.fresh (QVz _))
 |lst ds=>
  cases hi;obtain⟨a,vs,rfl,hq,l⟩:=eN hd;cases rv;obtain⟨its,r,p,hz⟩:=I.list hq.sq;refine wpAny_pyIter_list p.isList ?_;refine⟨s.heap.objs.size,[s.heap.objs.size],_,_,H,rfl,I.kept (t':=s.toks) fun b o e=>QWq _ e,o5 a _,⟨_,Qzq _ rfl,rfl,rfl⟩,fun b hb=>?_,q _ (Kd hq l hz)⟩;have e:b=s.heap.objs.size:=by simpa using hb
  subst e;exact I.pM (QVz _) (I.hok.fresh (QVz _))
 |str x=>
  simp only[items]at hi;split at hi
  ·rename_i hf;cases hi;cases hd;obtain⟨t,rfl⟩:=rv;have hz:x.cps.size<=sizeLine:=fD hf;have fin:∀b∈[s.heap.objs.size],dB X γ H b:=fun b hb=>by
    have e:b=s.heap.objs.size:=by simpa using hb
    subst e;exact I.pM (QVz _) (I.hok.fresh (QVz _))
   cases ha:x.cps.all (· <128)
   ·refine wpAny_pyIter_wide ha ?_;exact⟨s.heap.objs.size,[s.heap.objs.size],_,_,H,rfl,I.kept (t':=s.toks) fun b o e=>QWq _ e,yL _ x t "str_iterator" (fun A' hA=>Walks.strWide hA _ x t) (by decide) (fun A i s Q E st h=>wpAny_pyIter_striter_wide st h),⟨⟨_,Qzq _ rfl,rfl,rfl⟩,QIq _⟩,fin,q _ (vV hz)⟩
   ·refine wpAny_pyIter_ascii ha ?_;exact⟨s.heap.objs.size,[s.heap.objs.size],_,_,H,rfl,I.kept (t':=s.toks) fun b o e=>QWq _ e,yL _ x t "str_ascii_iterator" (fun A' hA=>Walks.strAscii hA _ x t) (by decide) (fun A i s Q E st h=>wpAny_pyIter_striter_ascii st h),⟨⟨_,Qzq _ rfl,rfl,rfl⟩,QIq _⟩,fin,q _ (vV hz)⟩
  ·cases hi
 |dG ks ds=>
  cases hi;unfold aL at hd;obtain⟨a,o,kvs,rfl,ha,rfl,l⟩:=hd;cases rv;obtain⟨ho,hz,hS,vs,r,D⟩:=I.hok a _ ha;have hl:kvs.length=vs.length:=Paired.length r;obtain⟨ep,o',es,e1,e2,e3,e4⟩:=D.dictAt;rw[ho]at e1;cases e1;refine wpAny_pyIter_dict hS ⟨o,es,ho,e2,e3,e4⟩ ?_;rw[<-hl];refine⟨s.heap.objs.size,[s.heap.objs.size],_,_,H,rfl,I.kept (t':=s.toks) fun b o e=>QWq _ e,yM _ a o es kvs ep e3,⟨_,Qzq _ rfl,rfl,rfl⟩,fun b hb=>?_,q _ (Kg ha hz)⟩;have e:b=s.heap.objs.size:=by simpa using hb
  subst e;exact I.pM (QVz _) (I.hok.fresh (QVz _))
 |iy ks ds=>
  cases hi;unfold aL at hd;obtain⟨a,o,kvs,rfl,ha,hk⟩:=hd;cases rv;obtain⟨es,ep,e3⟩:∃es ep,o.data=.dict es ep:=by obtain⟨ho,z,y,nd,ys,o',es',ep',pr,h1,h2,h3,h4⟩:=I.hok a _ ha;rw[ho]at h1;cases h1;exact⟨_,_,h3⟩
  obtain⟨ho,hz,hS,sz,B,g⟩:=wU I.hok ha e3;refine wB hS B ?_;refine⟨s.heap.objs.size,[s.heap.objs.size],_,_,H,rfl,I.kept (t':=s.toks) fun b o e=>QWq _ e,Ld _ a o es kvs ep e3,⟨_,Qzq _ rfl,rfl,rfl⟩,fun b hb=>?_,q _ (Kc ha hk hz)⟩;have e:b=s.heap.objs.size:=by simpa using hb
  subst e;exact I.pM (QVz _) (I.hok.fresh (QVz _))
 |_=>cases hi
def acz(h:GE X W c m e):GI X W c m tg e:=by
 intro env γ s σ H R I q;refine bJ (h.d γ s σ H (fun v H'=>∃d xs,aL X.K H' d v/\items d=some xs/\∀J,Gives X.K J xs H'->R J H') I ⟨env,q.1,?_⟩) fun u s1⟨v,H1,I1,r1,d,xs,hd,hi,q1⟩=>Ox I1 r1 hd hi q1;have q2:=q.2;cases r:ev c m env with
 |bad=>rw[r]at q2;exact q2
 |exc k δ=>rw[r]at q2;exact q2
 |ok x δ=>
  rw[r]at q2;obtain⟨d,xs,ed,ei,q3⟩:=q2;cases x with
  |val d'=>cases ed;exact fun v H' N Dv=>⟨d,xs,Dv,ei,fun J G=>q3 J H' N G⟩
  |new o=>cases ed;exact fun v H' N Dv=>⟨o.d,xs,Dv,ei,fun J G=>q3 J H' N G⟩
  |ref i=>cases ed
  |tmp o=>cases ed
end
noncomputable def tyN:Ty->String
 |.tup=>"tuple"
 |.lst=>"list"
 |.str=>"str"
 |.bool=>"bool"
 |.int=>"int"
 |.dG=>"dict"
section
noncomputable def afn(K:QQq):List V->Hp->VK->Prop:=fun xs H Q=>∃d v t,xs=[v,.ty (tyN t)]/\aL K H d v/\Q (.bl (tB t d)) H
def Qu:iw X (.builtin "isinstance") (afn X.K):=by
 intro γ s σ H xs us Q I r h;obtain⟨d,v,t,rfl,hd,q⟩:=h;obtain⟨u,u',rfl,ru,rt⟩:=Vals.two r;cases rt;have fin:∀k,Q _ H->EP X γ σ Q _ {s with toks:=s.toks+1}:=fun k z=>⟨.bl k,H,I.tok _,rfl,z⟩;have fin0:∀k,Q _ H->EP X γ σ Q _ s:=fun k z=>⟨.bl k,H,I,rfl,z⟩;cases d with
 |non=>
  cases hd;cases ru;cases t with
  |tup=>exact IsiPair.NoneType_tuple (fin _ q)
  |lst=>exact IsiPair.NoneType_list (fin _ q)
  |str=>exact IsiPair.NoneType_str (fin _ q)
  |bool=>exact IsiPair.NoneType_bool (fin _ q)
  |int=>exact IsiPair.NoneType_int (fin _ q)
  |dG=>exact IsiPair.NoneType_dict (fin _ q)
 |bl k=>
  cases hd;cases ru;cases t with
  |tup=>exact IsiPair.bool_tuple (fin _ q)
  |lst=>exact IsiPair.bool_list (fin _ q)
  |str=>exact IsiPair.bool_str (fin _ q)
  |bool=>exact IsiPair.bool_bool (fin0 _ q)
  |int=>exact IsiPair.bool_int (fin0 _ q)
  |dG=>exact IsiPair.bool_dict (fin _ q)
 |int k=>
  cases hd;obtain⟨tk,rfl⟩:=ru;cases t with
  |tup=>exact IsiPair.int_tuple (fin _ q)
  |lst=>exact IsiPair.int_list (fin _ q)
  |str=>exact IsiPair.int_str (fin _ q)
  |bool=>exact IsiPair.int_bool (fin _ q)
  |int=>exact IsiPair.int_int (fin0 _ q)
  |dG=>exact IsiPair.int_dict (fin _ q)
 |str k=>
  cases hd;obtain⟨tk,rfl⟩:=ru;cases t with
  |tup=>exact IsiPair.str_tuple (fin _ q)
  |lst=>exact IsiPair.str_list (fin _ q)
  |str=>exact IsiPair.str_str (fin0 _ q)
  |bool=>exact IsiPair.str_bool (fin _ q)
  |int=>exact IsiPair.str_int (fin _ q)
  |dG=>exact IsiPair.str_dict (fin _ q)
 |tup ds=>
  obtain⟨a,vs,rfl,hq,_⟩:=cM hd;cases ru;obtain⟨its,_,⟨o,e,cl,_⟩,_⟩:=I.tuple hq;cases t with
  |tup=>exact IsiPair.tuple_tuple e cl (fin0 _ q)
  |lst=>exact IsiPair.tuple_list e cl (fin _ q)
  |str=>exact IsiPair.tuple_str e cl (fin _ q)
  |bool=>exact IsiPair.tuple_bool e cl (fin _ q)
  |int=>exact IsiPair.tuple_int e cl (fin _ q)
  |dG=>exact IsiPair.tuple_dict e cl (fin _ q)
 |lst ds=>
  obtain⟨a,vs,rfl,hq,_⟩:=eN hd;cases ru;obtain⟨its,_,⟨o,n,e,cl,_⟩,_⟩:=I.list hq.sq;cases t with
  |tup=>exact IsiPair.list_tuple e cl (fin _ q)
  |lst=>exact IsiPair.list_list e cl (fin0 _ q)
  |str=>exact IsiPair.list_str e cl (fin _ q)
  |bool=>exact IsiPair.list_bool e cl (fin _ q)
  |int=>exact IsiPair.list_int e cl (fin _ q)
  |dG=>exact IsiPair.list_dict e cl (fin _ q)
 |dG ks ds=>
  obtain⟨a,o,kvs,rfl,ha,_⟩:=hd;cases ru;obtain⟨e,_,_,_,_,o',_,_,e',ex,_⟩:=I.hok a _ ha;rw[e]at e';cases e';have cl:=ex.1;cases t with
  |tup=>exact IsiPair.dict_tuple e cl (fin _ q)
  |lst=>exact IsiPair.dict_list e cl (fin _ q)
  |str=>exact IsiPair.dict_str e cl (fin _ q)
  |bool=>exact IsiPair.dict_bool e cl (fin _ q)
  |int=>exact IsiPair.dict_int e cl (fin _ q)
  |dG=>exact IsiPair.dict_dict e cl (fin0 _ q)
 |iy ks ds=>
  obtain⟨a,o,kvs,rfl,ha,_⟩:=hd;cases ru;obtain⟨e,_,_,_,_,o',_,_,_,e',ex,_⟩:=I.hok a _ ha;rw[e]at e';cases e';have cl:=ex.1;cases t with
  |tup=>exact IsiPair.dict_tuple e cl (fin _ q)
  |lst=>exact IsiPair.dict_list e cl (fin _ q)
  |str=>exact IsiPair.dict_str e cl (fin _ q)
  |bool=>exact IsiPair.dict_bool e cl (fin _ q)
  |int=>exact IsiPair.dict_int e cl (fin _ q)
  |dG=>exact IsiPair.dict_dict e cl (fin0 _ q)
def Zc{x:Str}(ha:GE X W c m a)(hx:x=Str.ofString (tyN t))(hg:Gl X x)(hm:X.mg x=none)(hi:Gl X "isinstance")(hmi:X.mg "isinstance"=none)
  (hs:starEach [a,.Name x p'] X.env=(false,eval a X.env)::starEach [.Name x p'] X.env):
  GE X W c (.isi m t) (.Call (.Name "isinstance" p) [a,.Name x p'] [] pos):=by
 intro env;have hv:bootBuiltins x=some (.type (tyN t)):=by subst hx;cases t<;>kernel_rfl
 have N:PE X (.Name x p') (tC (.ty _)):=S5 hg hm hv rfl (by subst hx;cases t<;>decide+kernel) (by subst hx;cases t<;>decide+kernel);exact PE.imp (j0 Qu hi hmi (by kernel_rfl) (aC ha.d (aC N aU rfl) hs) (by decide+kernel) (by decide+kernel) hs rfl) fun σ H Q q=>⟨env,aO q fun d δ v H1 N1 D1 q1=>⟨d,v,t,rfl,D1,eX q1 rfl⟩⟩
end
def uP(X:Cx)(r:List V->Hp->VK->Prop)(f:D->Option Rv):Prop:=
 ∀(env:Ev)(σ:St)(H:Hp)(x:D)(z:Rv)(v:V)(Q:VK),Sat X.K env σ H->dF X.K H x v->f x=some z->(∀w H',Nx X.K env σ H env H'->iB X.K σ H H' z w->Q w H')->r [v] H Q
section
def Qv{r:List V->Hp->VK->Prop}(R:uP X r (b1 bb)){σ:St}{Q:VK}(hv:m.aF=none)(q:tM X.K W env (ev c (.bi bb m) env) σ H Q):aD X W c m σ H fun v H1=>r [v] H1 Q:=by simp only[yK,hv]at q;refine⟨env,aO q fun d δ v H1 N1 D1 q1=>?_⟩;obtain⟨z,ez,S,q3⟩:=dC q1;exact R δ σ H1 d z v Q S (.inl D1) ez q3
def HX{r:List V->Hp->VK->Prop}(R:uP X r (b1 bb)){σ:St}{Q:VK}(hv:m.aF=some k)(q:tM X.K W env (ev c (.bi bb m) env) σ H Q):aN k σ H fun v H1=>r [v] H1 Q:=by
 simp only[yK,hv]at q;obtain⟨z,ez,S,q3⟩:=dC q;cases e0:aX k env with
 |none=>rw[e0]at ez;cases ez
 |some d0=>rw[e0]at ez;obtain⟨u,eu,Du⟩:=gj S e0;exact⟨u,eu,R env σ H d0 z u Q S Du ez q3⟩
theorem Eh{id:String}{x:Str}(C:iw X (.builtin id) r)(R:uP X r (b1 bb))(ha:GE X W c m a)(hv:∀k,m.aF=some k->∃x p,a=.Name x p/\jV X k x)
  (hg:Gl X x)(hm:X.mg x=none)(hb:bootBuiltins x=some (.builtin id))(hn:x≠"__name__")(hd:(x==("__debug__":Str))=false)(hs:starEach [a] X.env=[(false,eval a X.env)]):
  GE X W c (.bi bb m) (.Call (.Name x p) [a] [] pos):=by
 intro env;cases q:m.aF with
 |none=>exact PE.imp (j0 C hg hm hb (aC ha.d aU hs) hn hd hs rfl) fun σ H Q h=>Qv R q h
 |some k=>obtain⟨y,p',rfl,nm⟩:=hv k q;exact PE.imp (j0 C hg hm hb (aC nm.pe aU hs) hn hd hs rfl) fun σ H Q h=>HX R q h
theorem PN{id:String}{x:Str}(C:iw X (.type id) r)(R:uP X r (b1 bb))(ha:GE X W c m a)(hv:∀k,m.aF=some k->∃x p,a=.Name x p/\jV X k x)
  (hg:Gl X x)(hm:X.mg x=none)(hb:bootBuiltins x=some (.type id))(hn:x≠"__name__")(hd:(x==("__debug__":Str))=false)(hs:starEach [a] X.env=[(false,eval a X.env)]):
  GE X W c (.bi bb m) (.Call (.Name x p) [a] [] pos):=by
 intro env;cases q:m.aF with
 |none=>exact PE.imp (ji C hg hm hb (aC ha.d aU hs) hn hd hs rfl) fun σ H Q h=>Qv R q h
 |some k=>obtain⟨y,p',rfl,nm⟩:=hv k q;exact PE.imp (ji C hg hm hb (aC nm.pe aU hs) hn hd hs rfl) fun σ H Q h=>HX R q h
def dF.seq{H:Hp}{xs:List D}(h:dF K H d v)(e:bF d=some xs):∃a vs,v=.ref a/\(lC K H a vs\/jM K H a vs)/\ao K H xs vs:=by
 cases d with
 |tup ys=>cases e;exact h.RD
 |lst ys=>cases e;exact h.LQ
 |_=>cases e
theorem dF.dG{H:Hp}{v:V}(h:dF K H (.dG ks ds) v):∃a kvs,v=.ref a/\Rd H a (.dK kvs)/\ks=kvs.map (fun p=>dm p.1)/\ao K H ds (kvs.map (·.2)):=by
 rcases h with h|⟨o,a,q,rfl,u,ha,hq⟩
 ·unfold aL at h;obtain⟨a,o,kvs,rfl,ha,k,l⟩:=h;exact⟨a,kvs,rfl,.inr ⟨o,ha⟩,k,l⟩
 ·cases o<;>cases q;obtain⟨kvs,rfl,k,l⟩:=hq;exact⟨a,kvs,rfl,.inl ha,k,l⟩
theorem dF.iy{K:QQq}{H:Hp}{ks ds:List D}{v:V}(h:dF K H (.iy ks ds) v):∃a xs,v=.ref a/\Rd H a (sD xs)/\gO K H ks ds xs:=by
 rcases h with h|⟨o,a,q,rfl,u,ha,hq⟩
 ·unfold aL at h;obtain⟨a,o,xs,rfl,ha,l⟩:=h;exact⟨a,xs,rfl,.inr ⟨o,ha⟩,l⟩
 ·cases o<;>cases q;obtain⟨xs,rfl,l⟩:=hq;exact⟨a,xs,rfl,.inl ha,l⟩
noncomputable def Xp(K:QQq):List V->Hp->VK->Prop:=fun xs H Q=>(∃x n,xs=[x]/\U0 K x H n/\Q (.int n) H)\/(∃a kvs,xs=[.ref a]/\Rd H a (.dK kvs)/\Q (.int kvs.length) H)\/∃a ys,xs=[.ref a]/\Rd H a (sD ys)/\Q (.int ys.length) H
def Kz:iw X (.builtin "len") (Xp X.K):=by
 intro γ s σ H xs us Q I r h;rcases h with h|⟨a,kvs,rfl,e,q⟩|⟨a,ys,rfl,e,q⟩
 ·exact uh γ s σ H xs us Q I r h
 ·obtain⟨u,rfl,ru⟩:=vals1 r;cases ru;exact acK I e fun t s' I'=>⟨.int kvs.length,H,I',⟨t,rfl⟩,q⟩
 ·obtain⟨u,rfl,ru⟩:=vals1 r;cases ru;exact abh I e fun t s' I'=>⟨.int ys.length,H,I',⟨t,rfl⟩,q⟩
def RQ:uP X (Xp X.K) (b1 .len):=by
 intro env σ H x z v Q S Dx e q;have go:∀(n:Nat),Aa x=some n->U0 X.K v H n->Xp X.K [v] H Q:=fun n en ln=>by simp only[b1,en]at e;cases e;exact .inl ⟨v,n,rfl,ln,q _ H (Nx.refl S) rfl⟩
 cases x with
 |tup xs=>
  obtain⟨a,vs,rfl,hq,l⟩:=Dx.RD;refine go xs.length rfl ?_;rcases hq with hq|hq
  ·exact .inl ⟨vs,hq,l.length⟩
  ·exact .inr ⟨vs,hq,l.length⟩
 |lst xs=>
  obtain⟨a,vs,rfl,hq,l⟩:=Dx.LQ;refine go xs.length rfl ?_;rcases hq with hq|hq
  ·exact .inl ⟨vs,hq,l.length⟩
  ·exact .inr ⟨vs,hq,l.length⟩
 |str y=>
  have:=Dx.str;subst this;by_cases hf:fits y.length=true
  ·exact go y.length (by simp[Aa,hf]) ⟨fD hf,rfl⟩
  ·simp[b1,Aa,hf]at e
 |dG ks ds=>
  cases e;obtain⟨a,kvs,rfl,hr,hk,l⟩:=Dx.dG;have e2:ks.length=kvs.length:=by rw[hk,QAq]
  exact .inr (.inl ⟨a,kvs,rfl,hr,by rw[<-e2];exact q _ H (Nx.refl S) rfl⟩)
 |iy ks ds=>cases e;obtain⟨a,xs,rfl,hr,l⟩:=Dx.iy;exact .inr (.inr ⟨a,xs,rfl,hr,by rw[<-l.len.1];exact q _ H (Nx.refl S) rfl⟩)
 |_=>cases e
def Je:uP X (fun xs H Q=>∃p ys,xs=[.ref p]/\((lC X.K H p ys/\∀l,H l=none->Q (.ref l) (upd H l (.tup ys)))\/(jM X.K H p ys/\Q (.ref p) H))) (b1 .tuple):=by
 intro env σ H x z v Q S Dx e q;simp only[b1]at e;cases es:bF x with
 |none=>rw[es]at e;cases e
 |some xs=>
  rw[es]at e;cases e;obtain⟨a,vs,rfl,hq,l⟩:=Dx.seq es;refine⟨a,vs,rfl,?_⟩;rcases hq with hq|hq
  ·refine .inl ⟨hq,fun p hp=>?_⟩;have N:=Nx.laid (o:=.tup vs) S hp;exact q _ _ N (dN (.inl (.inl aq)) (l.mono N.pers))
  ·exact .inr ⟨hq,q _ H (Nx.refl S) (dN hq l)⟩
def Mj:uP X (fun xs H Q=>(∃p ys,xs=[.ref p]/\(lC X.K H p ys\/jM X.K H p ys)/\∀l,H l=none->Q (.ref l) (upd H l (.lst ys)))\/∃a ks,xs=[.ref a]/\Rd H a (sD ks)/\∀l,H l=none->Q (.ref l) (upd H l (.lst (ks.map fun x=>.ref x.2.1)))) (b1 .list):=by
 intro env σ H x z v Q S Dx e q;simp only[b1]at e;have go:∀{xs:List D},bF x=some xs->ZD .list xs=some z->∃p ys,[v]=[V.ref p]/\(lC X.K H p ys\/jM X.K H p ys)/\∀l,H l=none->Q (.ref l) (upd H l (.lst ys)):=fun es e=>by cases e;obtain⟨a,vs,rfl,hq,l⟩:=Dx.seq es;exact⟨a,vs,rfl,hq,fun p hp=>q _ _ (Nx.laid S hp) (lN S l hp)⟩
 cases x with
 |iy ks ds=>cases e;obtain⟨a,xs,rfl,hr,l⟩:=Dx.iy;exact .inr ⟨a,xs,rfl,hr,fun p hp=>q _ _ (Nx.laid S hp) (lN S l.2.2.1 hp)⟩
 |tup xs=>exact .inl (go rfl e)
 |lst xs=>exact .inl (go rfl e)
 |_=>cases e
def BoolsAre.get{bs:List Bool}(h:BoolsAre vs bs):∀{i:Nat}{v:Value},vs[i]? =some v->∃b,bs[i]? =some b/\v=.bool b:=by
 induction h with
 |nil=>intro i v e;simp at e
 |cons b t ih=>
  intro i v e;cases i with
  |zero=>simp at e;subst e;exact⟨b,rfl,rfl⟩
  |succ i=>exact ih (by simpa using e)
def range_all(bs:List Bool):((List.range bs.length).all fun i=>bs.getD i false)=bs.all id:=by
 rw[Bool.eq_iff_iff];simp only[List.all_eq_true,List.mem_range,id];constructor
 ·intro h b hb;obtain⟨i,hi,e⟩:=List.mem_iff_getElem.mp hb;have:=h i hi;rw[List.getD_eq_getElem?_getD,QXq hi]at this;simpa[e]using this
 ·intro h i hi;rw[List.getD_eq_getElem?_getD,QXq hi];exact h _ (List.getElem_mem hi)
def range_any(bs:List Bool):((List.range bs.length).any fun i=>bs.getD i false)=bs.any id:=by
 rw[Bool.eq_iff_iff];simp only[List.any_eq_true,List.mem_range,id];constructor
 ·rintro ⟨i,hi,h⟩;rw[List.getD_eq_getElem?_getD,QXq hi]at h;exact⟨bs[i],List.getElem_mem hi,by simpa using h⟩
 ·rintro ⟨b,hb,h⟩;obtain⟨i,hi,e⟩:=List.mem_iff_getElem.mp hb;exact⟨i,hi,by rw[List.getD_eq_getElem?_getD,QXq hi];simpa[e]using h⟩
noncomputable def rQu(K:QQq)(f:List Bool->Bool):List V->Hp->VK->Prop:=fun xs H Q=>∃p vs ds bs,xs=[.ref p]/\(lC K H p vs\/jM K H p vs)/\ao K H ds vs/\bools ds=some bs/\Q (.bl (f bs)) H
def qb{w:World}{its:List Value}(hb:BoolsAre its bs):TruthOf P w A (fun i v=>its.toArray[i]? =some v) fun i=>bs.getD i false:=by intro i v s Q E hv h;obtain⟨b,e,rfl⟩:=hb.get (by simpa using hv);have h:Q (bs.getD i false) s:=h;rw[List.getD_eq_getElem?_getD,e]at h;exact wpAny_truthy_bool h
def ug{id:String}{g:Nat->(Nat->Bool)->Bool}(hc:X.calm=true)(hg:∀bs:List Bool,g bs.length (fun i=>bs.getD i false)=f bs)
  (hcall:∀{E:QZq}{s:Shared}{x:Value}{Q:QZq},
   wpAny (model X.prog X.w) X.A.in1 (pyIter x) (fun it Φ=>∃I fp wr n P St tr,it=.ref I/\Walks X.prog X.w X.A.in1 I fp wr n P St/\St 0 Φ.heap/\TruthOf X.prog X.w X.A.in1 P tr/\
    ∀h' tk,(∀b o,b∉wr->Φ.heap.get? b=some o->h'.get? b=some o)->Q (.bool (g n tr)) {Φ with heap:=h',toks:=tk}) E s->wpAny (model X.prog X.w) X.A (call (.builtin id) [x]) Q E s):
  iw X (.builtin id) (rQu X.K f):=by
 intro γ s σ H xs us Q I r h;obtain⟨a,vs,ds,bs,rfl,hq,l,hb,q⟩:=h;obtain⟨u,rfl,ru⟩:=Vals.one r;cases ru;have hh:X.A.in1.handled=none:=I.ok.hd hc;refine hcall ?_;have fin:∀its o,Vals vs its->∀h' tk,(∀b o',b∉[s.heap.objs.size]->(s.heap.push o).get? b=some o'->h'.get? b=some o')->EP X γ σ Q (.bool (g its.toArray.size fun i=>bs.getD i false)) {s with heap:=h',toks:=tk}:=fun its o rv h' tk k=>by
  have hl:its.toArray.size=bs.length:=by have:=(gR hb l rv).length;simpa using this
  rw[hl,hg];refine⟨.bl (f bs),H,I.kept fun b o' e=>k b o' ?_ (QWq _ e),rfl,q⟩;simp only[QDz];exact Qvz (Qqz e)
 rcases hq with hq|hq
 ·obtain⟨its,rv,p,hz⟩:=I.list hq;have hlt:a≠s.heap.objs.size:=by
   obtain⟨o,n,e,_⟩:=p;exact Qvz (Qqz e)
  refine wpAny_pyIter_list p.isList ⟨s.heap.objs.size,[s.heap.objs.size,a],[s.heap.objs.size],its.toArray.size,_,_,_,rfl,Walks.list hh _ a hlt its.toArray,⟨⟨_,Qzq _ rfl,rfl,rfl⟩,p.isList.at fun o e=>QWq _ e⟩,qb (gR hb l rv),fin its _ rv⟩
 ·obtain⟨its,rv,p,hz⟩:=I.tuple hq;have hlt:a≠s.heap.objs.size:=by
   obtain⟨o,e,_⟩:=p;exact Qvz (Qqz e)
  have p':s.heap.IsTuple a its.toArray:=p;refine wpAny_pyIter_tuple p' ⟨s.heap.objs.size,[s.heap.objs.size,a],[s.heap.objs.size],its.toArray.size,_,_,_,rfl,Walks.tuple hh _ a hlt its.toArray,⟨⟨_,Qzq _ rfl,rfl,rfl⟩,p'.at fun o e=>QWq _ e⟩,qb (gR hb l rv),fin its _ rv⟩
def KD(hc:X.calm=true):iw X (.builtin "all") (rQu X.K (·.all id)):=ug hc range_all call_all_walk
def KC(hc:X.calm=true):iw X (.builtin "any") (rQu X.K (·.any id)):=ug hc range_any call_any_walk
def vo{f:List Bool->Bool}(hb:∀xs,ZD bb xs=(bools xs).map fun bs=>.val (.bl (f bs)))(h1:∀x,b1 bb x=(bF x).bind (ZD bb)):uP X (rQu X.K f) (b1 bb):=by
 intro env σ H x z v Q S Dx e q;rw[h1]at e;cases es:bF x with
 |none=>rw[es]at e;cases e
 |some xs=>
  rw[es]at e;simp only[Option.bind,hb]at e;cases eb:bools xs with
  |none=>rw[eb]at e;cases e
  |some bs=>rw[eb]at e;cases e;obtain⟨a,vs,rfl,hq,l⟩:=Dx.seq es;exact⟨a,vs,xs,bs,rfl,hq,l,eb,q _ H (Nx.refl S) rfl⟩
def RV:uP X (rQu X.K (·.all id)) (b1 .all):=vo (fun _=>rfl) fun _=>rfl
def RT:uP X (rQu X.K (·.any id)) (b1 .any):=vo (fun _=>rfl) fun _=>rfl
end
end Mini
end
section
namespace HT
open PySem PySem.Spec PyProof.Rows
section
def mq{t sl:Addr}{vl vu:Value}{lo hi:Option Int}(ht:IsTup s.heap t items)(hs:s.heap.IsSliceOf sl vl vu .none)(pl:IsPart vl lo)(pu:IsPart vu hi)
  (hw:gC items.size 0 lo=0/\gC items.size items.size hi=items.size)(h:Q (.ref t) s):wpAny (model prog w) A (getItem (.ref t) (.ref sl)) Q E s:=by
 obtain⟨os,hos,hcs,hds⟩:=id hs;unfold getItem;try with_reducible refine Qqq ?_
 first|refine QKq _|skip
 refine QKq (wpAny_sequenceKey ht.typeIs (by decide) ?_);refine QKq (wpAny_callSpecial?_slot ht.typeIs PyProof.Rows.slot_tuple_getitem
  (Qzz PyProof.Rows.slot_tuple_getitem ht.typeIs entry_tuple_getitem ?_ (args_tuple_getitem _ _)))
 show wpAny _ _ (Builtin.Tuple.tupleItemsOf _>>=_) _ _ s;refine QKq (tupleItemsOf_ ht ?_);refine QKq (wpAny_typeOf ⟨os,hos,hcs⟩ ?_);refine QKq (je hs pl pu ?_);have hno:((((gC items.size 0 lo):Int)==0&&(1:Int)==1&&(gC items.size items.size hi-gC items.size 0 lo)==items.size)=true):=by rw[hw.1,hw.2];simp
 show wpAny _ _ (if (((gC items.size 0 lo):Int)==0&&1==1&&_==items.size)=true then _ else _) _ _ s;rw[if_pos hno];exact QKq (QKq (wpAny_typeOf ht.typeIs (QKz (QKq (wpAny_rule (QKz ⟨_,rfl,QKz h⟩))))))
end
end HT
namespace Mini
open PySem L2
section
noncomputable def Vr(K:QQq):V->Option Int->Option Int->Hp->VK->Prop:=fun x lo hi H Q=>∃a xs,x=.ref a/\jM K H a xs/\
 (HT.gC xs.length 0 lo=0/\HT.gC xs.length xs.length hi=xs.length)/\Q (.ref a) H
def Rx:UT X (Vr X.K):=by
 intro γ s σ H x v vl vu lo hi sl Q I rx hs pl pu h;obtain⟨a,xs,rfl,hx,hw,q⟩:=h;cases rx;obtain⟨its,r,ht,hz⟩:=I.tuple hx;have hlen:its.toArray.size=xs.length:=by rw[Qyq];exact r.length.symm
 exact⟨"tuple",_,PyProof.Rows.slot_tuple_getitem.lookup,ht.typeIs,HT.mq ht hs pl pu (by rw[hlen];exact hw) ⟨.ref a,H,I,rfl,q⟩⟩
noncomputable def abA(K:QQq):V->Option Int->Option Int->Hp->VK->Prop:=fun x lo hi H Q=>aby K x lo hi H Q\/Vr K x lo hi H Q\/abz K x lo hi H Q
def Xe:UT X (abA X.K):=Xd.or (Rx.or Ry)
def qQ n i d:clip n i=HT.gC n d (some i):=by
 unfold clip HT.gC;dsimp only;by_cases h:i<0
 ·rw[if_pos h,if_pos h];split
  ·omega
  ·split<;>omega
 ·rw[if_neg h,if_neg h,if_neg h];split<;>omega
def Zt{α:Type}(xs:List α)a b:(xs.take b).drop a=(xs.drop a).take (b-a):=by rw[List.drop_take]
def yj{H:Hp}{vs:List V}(l:ao K H ds vs)lo hi:ao K H (cut ds lo hi) (ym vs lo hi):=by
 have hl:=l.length;unfold cut ym;rw[Zt];cases lo with
 |none=>
  cases hi with
  |none=>rw[HT.nW,HT.nW,<-hl];exact(l.drop _).take _
  |some j=>rw[HT.nW,<-hl,<-qQ];exact(l.drop _).take _
 |some i=>
  cases hi with
  |none=>rw[HT.nW,<-hl,<-qQ];exact(l.drop _).take _
  |some j=>rw[<-hl,<-qQ,<-qQ];exact(l.drop _).take _
def Kw{lo hi:Option Int}(h:HT.gC vs.length 0 lo=0/\HT.gC vs.length vs.length hi=vs.length):ym vs lo hi=vs:=by unfold ym;rw[h.1,h.2];simp
def Cp{env:Ev}{H:Hp}{z:Rv}{lo hi:Option Int}(S:Sat K env σ H)(D1:aL K H d v)(e:mU d lo hi=some z)(q:∀w H',Nx K env σ H env H'->iB K σ H H' z w->Q w H'):abA K v lo hi H Q:=by
 cases d with
 |tup xs=>
  cases e;obtain⟨a,vs,rfl,hq,l⟩:=cM D1;by_cases hw:HT.gC vs.length 0 lo=0/\HT.gC vs.length vs.length hi=vs.length
  ·refine .inr (.inl ⟨a,vs,rfl,hq,hw,q _ H (Nx.refl S) ?_⟩);have:=yj l lo hi;rw[Kw hw]at this;exact dN hq this
  ·refine .inl ⟨a,vs,rfl,hq,hw,fun p hp=>?_⟩;have N:=Nx.laid (o:=.tup (ym vs lo hi)) S hp;exact q _ _ N (dN (.inl (.inl aq)) ((yj l lo hi).mono N.pers))
 |lst xs=>cases e;obtain⟨a,vs,rfl,hq,l⟩:=eN D1;exact .inr (.inr ⟨a,vs,rfl,hq.sq,fun p hp=>q _ _ (Nx.laid S hp) (lN S (yj l lo hi) hp)⟩)
 |_=>cases e
def GO(X:Cx)(W:Wi)(c:Cf)(m:E)(eo:Option Expr):Prop:=(m=.noneE/\eo=Option.none)\/∃e,eo=Option.some e/\m.lW=false/\GE X W c m e
noncomputable def tPt(X:Cx)(W:Wi)(c:Cf)(m:E):TO:=fun σ H Q=>∃env,tD X.K W env (ev c m env) σ H fun v H1=>∀d,aL X.K H1 d v->∃o,eZ m.lW d=some o/\Q o H1
def GO.po(h:GO X W c m eo):PO X eo (tPt X W c m):=by
 rcases h with ⟨rfl,rfl⟩|⟨e,rfl,hn,h⟩
 ·intro γ s σ H Q I q;obtain⟨env,q⟩:=q;obtain⟨o,e,z⟩:=q.2 .non H (Nx.refl q.1) rfl .non rfl;cases e;exact Sv γ s σ H Q I z
 ·intro γ s σ H Q I q;obtain⟨env,q⟩:=q;refine Su h.d γ s σ H Q I ⟨env,q.1,?_⟩;have q2:=q.2;have go:∀d v H',aL X.K H' d v->(∀d,aL X.K H' d v->∃o,eZ m.lW d=some o/\Q o H')->∃i,v=.int i/\Q (some i) H':=fun d v H' Dv z=>by
   obtain⟨o,e,z⟩:=z d Dv;rw[hn]at e;cases d with
   |int i=>cases e;exact⟨i,Dv,z⟩
   |_=>cases e
  cases r:ev c m env with
  |bad=>rw[r]at q2;exact q2
  |exc k δ=>rw[r]at q2;exact q2
  |ok x δ=>
   rw[r]at q2;cases x with
   |val d=>exact fun v H' N Dv=>go d v H' Dv (q2 v H' N Dv)
   |new o=>exact fun v H' N Dv=>go o.d v H' Dv (q2 v H' N Dv)
   |ref i=>exact q2
   |tmp o=>exact q2
def zN{H:Hp}{d d':D}{o:Option Int}(h:aL K H d v)(e:eZ lW d=some o)(h':aL K H d' v):eZ lW d'=some o:=by
 cases lW with
 |true=>exact e
 |false=>
  cases d with
  |int i=>
   subst h;cases d' with
   |int j=>cases (h');exact e
   |non=>cases (h')
   |bl b=>cases (h')
   |str x=>cases (h')
   |tup ds=>obtain⟨a,vs,z,_⟩:=cM h';cases z
   |lst ds=>obtain⟨a,vs,z,_⟩:=eN h';cases z
   |dG ks ds=>unfold aL at h';obtain⟨a,o,kvs,z,_⟩:=h';cases z
   |iy ks ds=>unfold aL at h';obtain⟨a,o,xs,z,_⟩:=h';cases z
  |_=>cases e
def Y6(ha:GE X W c m1 a)(hl:GO X W c m2 lo)(hh:GO X W c m3 hi):GE X W c (.slc m1 m2 m3) (.Subscript a (.Slice lo hi none p2) pos):=by
 intro env;refine PE.imp (Nh Xe ha.d hl.po hh.po) fun σ H Q q=>?_;refine⟨env,aO q fun d δ v H1 N1 D1 q1=>⟨δ,aO q1 fun dl ε vl H2 N2 D2 q2 dl' D2'=>?_⟩⟩;cases el:eZ m2.lW dl with
 |none=>rw[el]at q2;exact q2.2.elim
 |some l=>
  rw[el]at q2;refine⟨l,zN D2 el D2',ε,aO q2 fun dh env3 vh H3 N3 D3 q3 dh' D3'=>?_⟩;obtain⟨z,ez,S,q4⟩:=dC q3;cases eh:eZ m3.lW dh with
  |none=>rw[eh]at ez;cases ez
  |some h=>rw[eh]at ez;exact⟨h,zN D3 eh D3',Cp S (D1.mono (N2.trans N3).pers) ez q4⟩
def adf(X:Cx)(x:Str)(d:D):Prop:=∃v u,X.mg x=some u/\RelV v u/\∀H,aL X.K H d v
def Ui{x:Str}(hk:c.gl k=some d)(h:adf X x d)(hg:Gl X x)(hd:(x==("__debug__":Str))=false):GE X W c (.glob k) (.Name x pos):=by obtain⟨v,u,hm,r,hD⟩:=h;intro env;refine PE.imp (SN hg hm r hd) fun σ H Q q=>?_;simp only[v_2,hk]at q;exact eX q (hD H)
end
def jg{a:Addr}(h:H a=some u)(hu:Fz u):bz H (upd H a u'):=by
 refine⟨fun b xs q=>?_,fun b o' w q=>?_⟩
 ·rw[ak (fun z=>by subst z;rw[h]at q;cases q;exact hu.tup xs rfl)];exact q
 ·rw[ak (fun z=>by subst z;rw[h]at q;cases q;exact hu.frz o' w rfl)];exact q
def rn{f:Ob->Option Ob}(h:fH k f env=some env'):∃o o',f o=some o'/\((env[k]? =some (.own o)/\env'=env.set k (.own o'))\/(env[k]? =some (.bor o)/\env'=env.set k (.bor o'))):=by
 unfold fH at h;cases e:env[k]? with
 |none=>rw[e]at h;cases h
 |some s=>
  rw[e]at h;cases s with
  |un=>cases h
  |val d=>cases h
  |own o=>
   cases e2:f o with
   |none=>simp only[e2]at h;cases h
   |some o'=>simp only[e2]at h;cases h;exact⟨o,o',e2,.inl ⟨rfl,rfl⟩⟩
  |bor o=>
   cases e2:f o with
   |none=>simp only[e2]at h;cases h
   |some o'=>simp only[e2]at h;cases h;exact⟨o,o',e2,.inr ⟨rfl,rfl⟩⟩
def Nx.turn{env:Ev}{H:Hp}{sl sl':Sl}{a:Addr}(S:Sat K env σ H)(hs:(sl=.own o/\sl'=.own o')\/(sl=.bor o/\sl'=.bor o'))(e:env[k]? =some sl)(es:σ[k]? =some (some (.ref a)))
  (ha:H a=some u)(hu:Fz u)(hd:yG K H o' u'):Nx K env σ H (env.set k sl') (upd H a u'):=by
 have p:=jg (u':=u') ha hu;have ow:isOwn sl=some o/\isOwn sl'=some o':=by rcases hs with ⟨rfl,rfl⟩|⟨rfl,rfl⟩<;>exact⟨rfl,rfl⟩
 have oa:aJ env σ k a:=⟨⟨_,o,e,ow.1⟩,es⟩;have hi:=(QCz.mp e).1;have sub:∀j b,aJ (env.set k sl') σ j b->aJ env σ j b:=fun j b z=>by
  obtain⟨⟨s,ys,e1,e2⟩,e3⟩:=z;by_cases hj:k=j
  ·subst hj;exact⟨⟨sl,o,e,ow.1⟩,e3⟩
  ·rw[Qxz hj]at e1;exact⟨⟨s,ys,e1,e2⟩,e3⟩
 refine⟨⟨by simpa using S.len,fun j s ej=>?_,fun j l b z w=>S.ne j l b (sub j b z) (sub l b w)⟩,sub,p,fun b w q n=>?_,fun b q=>?_,fun j ys ej=>?_⟩
 ·by_cases hj:k=j
  ·subst hj;rw[Qwq hi]at ej;cases ej;have at_:jq K _ o' a:=⟨u',aq,hd.mono p⟩;rcases hs with ⟨_,rfl⟩|⟨_,rfl⟩
   ·exact⟨a,by rw[es];rfl,at_⟩
   ·exact⟨a,by rw[es];rfl,at_⟩
  ·rw[Qxz hj]at ej;refine(S.sl j s ej).keep p fun b w ho ev hb=>?_;have nb:b≠a:=fun z=>by
    subst z;exact hj (S.ne k j b oa (xH ej ho ev))
   rw[ak nb];exact hb
 ·rw[ak (fun z=>by subst z;exact n k oa)];exact q
 ·by_cases hb:b=a
  ·subst hb;rw[aq]at q;cases q
  ·rw[ak hb]at q;exact q
 ·by_cases hj:k=j
  ·subst hj;rw[e]at ej;cases ej;rcases hs with ⟨z,_⟩|⟨_,rfl⟩
   ·cases z
   ·exact⟨o',by rw[Qwq hi]⟩
  ·exact⟨ys,by rw[Qxz hj];exact ej⟩
def FT{env env':Ev}{H:Hp}{f:Ob->Option Ob}(S:Sat K env σ H)(h:fH k f env=some env'):
  ∃o o' a u,f o=some o'/\σ[k]? =some (some (.ref a))/\H a=some u/\yG K H o u/\aX k env=some o.d/\∀u',yG K H o' u'->Nx K env σ H env' (upd H a u'):=by
 obtain⟨o,o',ef,hh⟩:=rn h;rcases hh with ⟨e,rfl⟩|⟨e,rfl⟩
 ·obtain⟨a,e1,u,e2,e3⟩:=S.sl k _ e;exact⟨o,o',a,u,ef,cB e1,e2,e3,by unfold aX;rw[e],fun u' hd=>Nx.turn S (.inl ⟨rfl,rfl⟩) e (cB e1) e2 e3.n8 hd⟩
 ·obtain⟨a,e1,u,e2,e3⟩:=S.sl k _ e;exact⟨o,o',a,u,ef,cB e1,e2,e3,by unfold aX;rw[e],fun u' hd=>Nx.turn S (.inr ⟨rfl,rfl⟩) e (cB e1) e2 e3.n8 hd⟩
def NK{o o':Ob}(h:VH f o=some o'):∃xs ys,o=.lst xs/\f xs=some ys/\o'=.lst ys:=by
 cases o with
 |lst xs=>
  simp only[VH]at h;cases e:f xs with
  |none=>rw[e]at h;cases h
  |some ys=>rw[e]at h;cases h;exact⟨xs,ys,rfl,e,rfl⟩
 |dct ks vs=>cases h
 |sdt ks vs=>cases h
def Le{env env':Ev}{H:Hp}{f:List D->Option (List D)}(S:Sat K env σ H)(h:fH k (VH f) env=some env'):
  ∃xs ys a vs,f xs=some ys/\σ[k]? =some (some (.ref a))/\H a=some (.lst vs)/\ao K H xs vs/\aX k env=some (.lst xs)/\∀ws,ao K H ys ws->Nx K env σ H env' (upd H a (.lst ws)):=by
 obtain⟨o,o',a,u,ef,es,ha,hd,lk,N⟩:=FT S h;obtain⟨xs,ys,rfl,e,rfl⟩:=NK ef;obtain⟨vs,rfl,l⟩:=hd;exact⟨xs,ys,a,vs,e,es,ha,l,lk,fun ws hw=>N _ ⟨ws,rfl,hw⟩⟩
theorem dF.lst{K:QQq}{H:Hp}{xs:List D}{v:V}(h:dF K H (.lst xs) v):∃a vs,v=.ref a/\lC K H a vs/\ao K H xs vs:=by
 rcases h with h|⟨o,a,q,rfl,u,ha,hq⟩
 ·obtain⟨a,vs,rfl,hq,l⟩:=eN h;exact⟨a,vs,rfl,hq.sq,l⟩
 ·cases o<;>cases q;obtain⟨vs,rfl,l⟩:=hq;exact⟨a,vs,rfl,.inl (.inl ha),l⟩
structure KR(X:Cx)(o:Expr)(name:Str)(apos:Pos)(e:Expr)(cpos:Pos):Prop where
 base:attributeBase o name X.env (eval o X.env)=eval o X.env
 line:(apos.endLine==cpos.line)=true
 star:starEach [e] X.env=[(false,eval e X.env)]
section
def KR.few(h:KR X o name apos e cpos):((backTo cpos (starEach [e] X.env)).all (fun x=> !x.1)&&(backToKw cpos (keywordEach [] X.env)).all (fun x=>x.1.isSome)
   &&decide ([e].length+([]:List Keyword).length+(if ([]:List Keyword).isEmpty then 0 else 1)<30))=true:=by
 rw[h.star];rfl
def VG{id:String}{to:TE}(M:KR X o name apos e cpos)(slot:Slot "list" name id)(hty:typeOf (.builtin id)=pure (.type "method_descriptor"))(hm:MtR X id r)(ho:PE X o to)(he:PE X e te):
  PE X (.Call (.Attribute o name apos) [e] [] cpos) (tBM X.K "list" r to (aG te cN)):=
 abM PySem.F.plainAttrs_list slot hty hm ho (aC he aU M.star) M.base M.few M.line M.star rfl
def countV{K:QQq}{H:Hp}{p:D}{x:V}(Dp:aL K H p x)(fp:flat p=true):∀{ds:List D}{vs:List V}{us:List Value},ao K H ds vs->Vals vs us->ds.all flat=true->vs.all jP=true/\us.countP (Wc x)=aQ p ds:=by
 intro ds;induction ds with
 |nil=>intro vs us l r _;rw[ao.bV.mp l]at r⊢;cases r;exact⟨rfl,rfl⟩
 |cons d ds ih=>
  intro vs us l r f;obtain⟨v,vs',rfl,hd,l'⟩:=ao.aH.mp l;rw[List.all_cons,QUq]at f;cases r with
  |cons r1 r2=>
   obtain⟨i1,i2⟩:=ih l' r2 f.2;obtain⟨j1,j2⟩:=xV Dp fp (ao.aZ hd ao.dZ) (by simp[f.1]);simp only[List.all_cons,List.all_nil,Bool.and_true]at j1;have j3:Qe v x=dM d p:=by simpa[inV,aP]using j2
   refine⟨by rw[List.all_cons,j1,i1];rfl,?_⟩;rw[List.countP_cons,i2,El r1 j1,j3,aQ];split<;>omega
noncomputable def R9(K:QQq):V->List V->Hp->VK->Prop:=fun x ys H Q=>∃a vs ds d y,x=.ref a/\ys=[y]/\(lC K H a vs\/jM K H a vs)/\ao K H ds vs/\aL K H d y/\flat d=true/\ds.all flat=true/\Q (.int (aQ d ds)) H
def P0{H:Hp}{v:V}(h:aL K H d v)(f:flat d=true):jP v=true:=by
 cases d with
 |non=>cases h;rfl
 |bl b=>cases h;rfl
 |int i=>cases h;rfl
 |str x=>cases h;rfl
 |_=>cases f
def JL:MtR X "list.count" (fun x ys H Q=>(∃a vs,x=.ref a/\lC X.K H a vs)/\R9 X.K x ys H Q):=by
 intro γ s σ H x ys v us Q I rx ry h;obtain⟨⟨a,vs,rfl,hq⟩,a',vs',ds,d,y,e1,rfl,hq',l,hd,f1,f2,q⟩:=h;cases e1;cases rx;obtain⟨u,rfl,ru⟩:=Vals.one ry;have hv:vs'=vs:=by
  rcases hq' with z|z
  ·exact I.z9 z hq
  ·obtain⟨_,_,⟨o,e,c,_⟩,_⟩:=I.tuple z;obtain⟨_,_,⟨o',_,e',c',_⟩,_⟩:=I.list hq;rw[e]at e';cases e';rw[c]at c';injection c' with z;exact absurd z (by decide)
 subst hv;obtain⟨its,r,pl,hz⟩:=I.list hq;obtain⟨⟨cls,dd,data,sl⟩,n,ho,hc,hdd,hdt⟩:=id pl;subst hc hdt;obtain⟨g1,g2⟩:=countV hd f1 l r f2;refine call_meets PySem.F.slot_list_count ⟨_,ho,rfl⟩ PySem.F.entry_list_count (PySem.F.args_list_count_2 _ _) (SeqAt.list_countAt a its.toArray n dd sl u _) ⟨ho,fun w hw=>ik ru (P0 hd f1) r g1 w (by simpa using hw),?_⟩;refine⟨.int _,H,I.tok _,⟨s.toks,?_⟩,q⟩;rw[show its.toArray.toList=its from rfl,g2]
def JK:MtR X "tuple.count" (fun x ys H Q=>(∃a vs,x=.ref a/\jM X.K H a vs)/\R9 X.K x ys H Q):=by
 intro γ s σ H x ys v us Q I rx ry h;obtain⟨⟨a,vs,rfl,hq⟩,a',vs',ds,d,y,e1,rfl,hq',l,hd,f1,f2,q⟩:=h;cases e1;cases rx;obtain⟨u,rfl,ru⟩:=Vals.one ry;have hv:vs'=vs:=by
  rcases hq' with z|z
  ·obtain⟨_,_,⟨o,e,c,_⟩,_⟩:=I.tuple hq;obtain⟨_,_,⟨o',_,e',c',_⟩,_⟩:=I.list z;rw[e]at e';cases e';rw[c]at c';injection c' with z;exact absurd z (by decide)
  ·exact I.uU z hq
 subst hv;obtain⟨its,r,pl,hz⟩:=I.tuple hq;obtain⟨⟨cls,dd,data,sl⟩,ho,hc,n,hdt⟩:=id pl;subst hc hdt;obtain⟨g1,g2⟩:=countV hd f1 l r f2;refine call_meets PySem.F.slot_tuple_count ⟨_,ho,rfl⟩ PySem.F.entry_tuple_count (PySem.F.args_tuple_count_2 _ _) (SeqAt.tuple_countAt a its.toArray n dd sl u _) ⟨ho,fun w hw=>ik ru (P0 hd f1) r g1 w (by simpa using hw),?_⟩;refine⟨.int _,H,I.tok _,⟨s.toks,?_⟩,q⟩;rw[show its.toArray.toList=its from rfl,g2]
noncomputable def aez(K:QQq)(to te:TE):TE:=fun σ H Q=>to σ H fun x H1=>∃a vs,x=.ref a/\((lC K H1 a vs/\te σ H1 fun y H2=>(∃a vs,x=.ref a/\lC K H2 a vs)/\R9 K x [y] H2 Q)\/(jM K H1 a vs/\te σ H1 fun y H2=>(∃a vs,x=.ref a/\jM K H2 a vs)/\R9 K x [y] H2 Q))
def XM(M:KR X o "count" apos e cpos)(ho:PE X o to)(he:PE X e te):PE X (.Call (.Attribute o "count" apos) [e] [] cpos) (aez X.K to te):=by
 intro γ s σ H Q I h;refine wpAny_Call_method_late M.base M.few M.line rfl (bJ (ho γ s σ H _ I h) fun v s1⟨x,H1,I1,r1,a,vs,ex,q1⟩=>?_);subst ex;cases r1;have arg:∀{id:String}{r:V->List V->Hp->VK->Prop},MtR X id r->(te σ H1 fun y H2=>r _ [y] H2 Q)->wpAny _ X.A (callWith cpos _ [.ref a] (backTo cpos (starEach [e] X.env)) _) _ X.xe s1:=fun{id r}hm z=>by have hA:=aC he aU M.star cpos γ s1 σ H1 (fun vs H2=>r (.ref a) vs H2 Q) I1 z;rw[M.star]at hA⊢;exact Calls.callWith_builtin rfl (Calls.evalArgs_plain (bJ hA fun us s2⟨vs,H2,I2,r2,q2⟩=>hm γ s2 σ H2 (.ref a) vs _ us Q I2 rfl r2 q2))
 rcases q1 with ⟨hq,z⟩|⟨hq,z⟩
 ·obtain⟨its,r,pl,hz⟩:=I1.list hq;refine⟨"list","list.count",PySem.F.plainAttrs_list,PySem.F.slot_list_count,PySem.F.type_list_count,pl.isList.typeIs,fun b eb=>?_,arg JL z⟩;cases eb;obtain⟨o,n,e,c,hd,_⟩:=pl;exact⟨o,e,hd⟩
 ·obtain⟨its,r,⟨o,eo,ec,hd,n,dt⟩,hz⟩:=I1.Cd hq;refine⟨"tuple","tuple.count",PySem.F.plainAttrs_tuple,PySem.F.slot_tuple_count,PySem.F.type_tuple_count,⟨o,eo,ec⟩,fun b eb=>?_,arg JK z⟩;cases eb;exact⟨o,eo,hd⟩
def PJ(M:KR X o "count" apos e cpos)(ho:GE X W c m1 o)(he:GE X W c m2 e):GE X W c (.count m1 m2) (.Call (.Attribute o "count" apos) [e] [] cpos):=by
 intro env;refine PE.imp (XM M ho.d he.d) fun σ H Q q=>?_;refine⟨env,aO q fun d δ v H1 N1 D1 q1=>?_⟩;cases d with
 |tup xs=>
  obtain⟨a,vs,rfl,hq,l⟩:=cM D1;refine⟨a,vs,rfl,.inr ⟨hq,δ,aO q1 fun d2 ε y H2 N2 D2 q2=>?_⟩⟩;obtain⟨z,ez,S,q3⟩:=dC q2;simp only[yq]at ez;split at ez
  ·rename_i hf;cases ez;rw[QUq]at hf;exact⟨⟨a,vs,rfl,N2.pers.Xb hq⟩,a,vs,xs,d2,y,rfl,rfl,.inr (N2.pers.Xb hq),l.mono N2.pers,D2,hf.1,hf.2,q3 _ H2 (Nx.refl S) rfl⟩
  ·cases ez
 |lst xs=>
  obtain⟨a,vs,rfl,hq,l⟩:=eN D1;refine⟨a,vs,rfl,.inl ⟨hq.sq,δ,aO q1 fun d2 ε y H2 N2 D2 q2=>?_⟩⟩;obtain⟨z,ez,S,q3⟩:=dC q2;simp only[yq]at ez;split at ez
  ·rename_i hf;cases ez;rw[QUq]at hf;exact⟨⟨a,vs,rfl,(N2.pers.Zj hq).sq⟩,a,vs,xs,d2,y,rfl,rfl,.inl (N2.pers.Zj hq).sq,l.mono N2.pers,D2,hf.1,hf.2,q3 _ H2 (Nx.refl S) rfl⟩
  ·cases ez
 |_=>exact q1.2.elim
def DR(h:ql d=true):∃xs,d=some (.lst xs):=by
 cases d with
 |none=>cases h
 |some d=>cases d with
  |lst xs=>exact⟨xs,rfl⟩
  |_=>cases h
def Yt k k':dM (dm k') (dm k)=decide (k'=k):=by cases k'<;>cases k<;>simp[dm,dM,Bool.beq_eq_decide_eq]
def J8{x:Str}(M:KR X (.Name x p) "append" apos e cpos)(nm:jV X k x)(he:GE X W c m e):GS X W c (.append k m) (.Expr (.Call (.Attribute (.Name x p) "append" apos) [e] [] cpos) pos):=by
 intro env;refine PS.imp (lK (VG M PySem.F.slot_list_append PySem.F.type_list_append lQ nm.pe he.d) rfl) fun D σ H q=>?_;simp only[x_9]at q;cases hl:ql _ with
 |false=>rw[hl]at q;exact q.2.elim
 |true=>
  rw[hl]at q;obtain⟨xs0,e0⟩:=DR hl;obtain⟨u,eu,Du⟩:=gj q.1 e0;obtain⟨a0,vs0,rfl,hq0,l0⟩:=Du.lst;refine⟨.ref a0,eu,.inl ⟨rfl,vs0,hq0⟩,env,wM q fun d δ y H1 N1 D1 q1=>?_⟩;cases e4:fH k _ δ with
  |none=>rw[e4]at q1;exact q1.2.elim
  |some ε=>
   rw[e4]at q1;obtain⟨zs,ys,a,vs,ef,es,ha,l,lk,N⟩:=Le q1.1 e4;rw[eu]at es;cases es;split at ef
   ·rename_i hf;cases ef;have:=fD hf;refine⟨a0,vs,y,rfl,rfl,ha,by rw[<-l.length];omega,q1.2 _ _ (N _ (l.append (ao.aZ D1 ao.dZ))).z⟩
   ·cases ef
noncomputable def Vu:V->V->V->Hp->(Hp->Prop)->Prop:=fun o i v H Q=>∃a H',o=.ref a/\Q0 H a i v H'/\Q H'
def RC(hu:X.A.units+1<cLine):KN X Vu:=by intro γ s σ H o i v ov iv u Q I ro ri rv h;obtain⟨a,H',rfl,g,q⟩:=h;cases ro;exact Ku hu I g ri rv fun s4 I4=>⟨H',I4,q⟩
noncomputable def Vs(K:QQq):V->V->V->Hp->(Hp->Prop)->Prop:=fun o i v H Q=>∃d a k xs,o=.ref d/\i=.ref a/\H d=some (.dS xs)/\(∀x∈xs,cY K H x.1 x.2.1)/\cY K H k a/\xs.length<sizeLine/\Q (upd H d (.dS (pA k a v xs)))
def Xf(hu:X.A.units+9<cLine):KN X (Vs X.K):=by intro γ s σ H o i v ov iv u Q I ro ri rv h;obtain⟨d,a,k,xs,rfl,rfl,hd,hk,ka,hl,q⟩:=h;cases ro;cases ri;exact Ja hu I hd hk ka hl rv fun s4 I4=>⟨_,I4,q⟩
noncomputable def Vv(K:QQq):V->V->V->Hp->(Hp->Prop)->Prop:=fun o i v H Q=>∃d a k,o=.ref d/\i=.ref a/\H d=some (.dK [])/\cY K H k a/\Q (upd H d (.dS [(k,a,v)]))
def set_0(hu:X.A.units+9<cLine):KN X (Vv X.K):=by intro γ s σ H o i v ov iv u Q I ro ri rv h;obtain⟨d,a,k,rfl,rfl,hd,ka,q⟩:=h;cases ro;cases ri;exact Cv hu I hd ka rv fun s4 I4=>⟨_,I4,q⟩
noncomputable def MP(K:QQq):V->V->V->Hp->(Hp->Prop)->Prop:=fun o i v H Q=>Vt o i v H Q\/Vu o i v H Q\/Vs K o i v H Q\/Vv K o i v H Q
def Gi(hu:X.A.units+9<cLine):KN X (MP X.K):=by
 intro γ s σ H o i v ov iv u Q I ro ri rv h;rcases h with h|h|h|h
 ·exact set_list γ s σ H o i v ov iv u Q I ro ri rv h
 ·exact RC (by omega) γ s σ H o i v ov iv u Q I ro ri rv h
 ·exact Xf hu γ s σ H o i v ov iv u Q I ro ri rv h
 ·exact set_0 hu γ s σ H o i v ov iv u Q I ro ri rv h
def Yx{i:Int}(h:ix? n i=some j):T8 n i=some j:=by
 unfold ix? at h;unfold T8;by_cases h0:i<0
 ·simp only[h0,if_true]at h;rw[if_neg (by omega)];by_cases hj:0<=i+n/\i+n<n
  ·rw[if_pos hj]at h;rw[if_pos (by omega)];exact h
  ·rw[if_neg hj]at h;cases h
 ·simp only[h0,if_false]at h;rw[if_pos (by omega)];by_cases hj:0<=i/\i<n
  ·rw[if_pos hj]at h;rw[if_pos hj.2];exact h
  ·rw[if_neg hj]at h;cases h
theorem zx{H:Hp}{d:D}(hv:aL K H d v):∀{kvs:List (Key×V)}{ds:List D},ao K H ds (kvs.map (·.2))->
  ao K H (rT (dm k) d (kvs.map fun p=>dm p.1) ds) ((kvs.map fun kv=>if kv.1=k then(kv.1,v)else kv).map (·.2))
 |[],ds,l=>by
  have:ds=[]:=by have:=l.length;cases ds<;>simp_all
  exact ao.dZ
 |(k',u)::r,ds,l=>by
  cases ds with
  |nil=>have:=l.length;simp at this
  |cons x ds=>
   obtain⟨w,ws,e,h1,h2⟩:=ao.aH.mp l;cases e;have ih:=zx (k:=k) hv h2;simp only[Qyz,rT,Yt];by_cases q:k'=k
   ·simp only[q,decide_true,if_true];exact ao.aZ hv ih
   ·simp only[q,decide_false,Qxq,if_false];exact ao.aZ h1 ih
theorem vp{v:V}:∀(kvs:List (Key×V)),(kvs.map fun kv=>if kv.1=k then(kv.1,v)else kv).map (fun p=>dm p.1)=kvs.map fun p=>dm p.1
 |[]=>rfl
 |(k',u)::r=>by simp only[Qyz,vp r];split<;>rfl
def Gu{H:Hp}{d:D}(hv:aL K H d v){ds:List D}(l:ao K H ds (kvs.map (·.2))):
  (putD (dm k) d (kvs.map fun p=>dm p.1) ds).1=(putK kvs k v).map (fun p=>dm p.1)/\ao K H (putD (dm k) d (kvs.map fun p=>dm p.1) ds).2 ((putK kvs k v).map (·.2)):=by
 unfold putD putK;rw[<-lF,<-qX];split
 ·rename_i h;exact⟨(vp kvs).symm,zx hv l⟩
 ·refine⟨by simp,?_⟩;rw[List.map_append];exact l.append (ao.aZ hv ao.dZ)
theorem Pj{k:Nat}{x:Str}{ix:E}{ixe:Expr}{tp:Pos}(nm:jV X k x)(he:GE X W c m e)(hi:GE X W c ix ixe)
  (ha:∀v,assign (.Subscript (.Name x p) ixe tp) X.env v=(do
   let ov<-holding [v] (eval (.Name x p) X.env)
   let iv<-holding [v,ov] (eval ixe X.env)
   standAt tp
   holding [v,ov,iv] (setItem ov iv v)
   release [v,ov,iv] []))
  (hs:swapsWithSole [.Subscript (.Name x p) ixe tp] e pos.line X.env=pure false)(hw:swappedStores [.Subscript (.Name x p) ixe tp] e X.env=pure none)(hu:X.A.units+9<cLine)
  (h1:(assignEach [.Subscript (.Name x p) ixe tp] X.env).map (·.2)=[assign (.Subscript (.Name x p) ixe tp) X.env]):
  GS X W c (.setIx k ix m) (.Assign [.Subscript (.Name x p) ixe tp] e pos):=by
 intro env;refine PS.imp (M6 he.d (Nf nm.pe hi.d (Gi hu) ha) hs hw h1) fun D σ H q=>?_;simp only[x_7]at q;refine⟨env,wM q fun d δ v H1 N1 D1 q1=>?_⟩;cases e0:aX k δ with
 |none=>rw[e0]at q1;exact q1.2.elim
 |some d0=>
  rw[e0]at q1;simp only[Option.isNone_some,Qxq,if_false]at q1;obtain⟨u,eu,Du⟩:=gj q1.1 e0;refine⟨u,eu,δ,wM q1 fun d2 ε y H2 N2 D2 q2=>?_⟩;cases e4:fH k (xu d2 d) ε with
  |none=>rw[e4]at q2;exact q2.2.elim
  |some env3=>
   rw[e4]at q2;obtain⟨o,o',a,w,ef,es,hA,hd,lk,N⟩:=FT q2.1 e4;rw[eu]at es;cases es;cases o with
   |lst xs=>
    obtain⟨vs,rfl,l⟩:=hd;cases d2 with
    |int i=>
     simp only[xu]at ef;cases e5:ix? xs.length i with
     |none=>rw[e5]at ef;cases ef
     |some j=>rw[e5]at ef;cases ef;have D2':y=.int i:=D2;subst D2';exact .inl ⟨a,vs,i,j,rfl,rfl,hA,by rw[<-l.length];exact Yx e5,q2.2 _ _ (N _ ⟨_,rfl,l.set (D1.mono N2.pers) j⟩).z⟩
    |_=>cases ef
   |dct ks ds=>
    obtain⟨kvs,rfl,rfl,l⟩:=hd;simp only[xu]at ef;split at ef
    ·rename_i hk;rw[QUq]at hk;cases ef;obtain⟨kk,rfl⟩:=gQ hk.1;have ek:=lY D2;subst ek;obtain⟨g1,g2⟩:=Gu (k:=kk) (D1.mono N2.pers) l;have hf:=fD hk.2;rw[QAq]at hf;exact .inr (.inl ⟨a,_,rfl,Q0.k hA (by omega),q2.2 _ _ (N _ ⟨_,rfl,g1,g2⟩).z⟩)
    ·split at ef
     ·rename_i hk;rw[QUq,List.isEmpty_iff]at hk;cases ef;obtain⟨b,rfl,kb⟩:=iK hk.1 D2;have hn:kvs=[]:=by simpa using hk.2
      subst hn;exact .inr (.inr (.inr ⟨a,b,_,rfl,rfl,hA,kb,q2.2 _ _ (N _ ⟨_,rfl,gO.aH.mpr ⟨_,_,rfl,rfl,hk.1,D2,D1.mono N2.pers,gO.nil⟩⟩).z⟩))
     ·cases ef
   |sdt ks ds=>
    obtain⟨xs,rfl,l⟩:=hd;simp only[xu]at ef;split at ef
    ·rename_i hk;rw[QUq]at hk;cases ef;obtain⟨b,rfl,kb⟩:=iK hk.1 D2;have g:=l.put hk.1 D2 (D1.mono N2.pers);have hf:=fD hk.2;rw[l.len.1]at hf;exact .inr (.inr (.inl ⟨a,b,_,xs,rfl,rfl,hA,l.vN,kb,by omega,q2.2 _ _ (N _ ⟨_,rfl,g⟩).z⟩))
    ·cases ef
end
section
def YS(he:GE X W c m e)(hv:∀k,m.aF=some k->∃x p,e=.Name x p/\jV X k x):GS X W c (.ret m) (.Return (some e) pos):=by
 intro env;have plain:∀D σ H,tS X.K W env ((ev c m env).fl w6) D σ H->Lr (aM X W c m) D σ H:=fun D σ H q=>by
  refine⟨env,Vd q fun x δ v H1 N z q1=>?_⟩;cases x with
  |val d=>exact q1.2 v σ H1 N.z z
  |new o=>obtain⟨a,e1,e2,e3⟩:=z;exact q1.2 v σ H1 N.z ⟨a,e1,e2,.inl e3⟩
  |ref i=>exact q1.2.elim
  |tmp o=>exact q1.2.elim
 cases q0:m.aF with
 |none=>exact PS.imp (iQ he.am) fun D σ H q=>plain D σ H (by simpa only[Ik,q0]using q)
 |some k=>
  cases e0:env[k]? with
  |none=>exact PS.imp (iQ he.am) fun D σ H q=>plain D σ H (by simpa only[Ik,q0,e0]using q)
  |some sl=>
   cases sl with
   |un=>exact PS.imp (iQ he.am) fun D σ H q=>plain D σ H (by simpa only[Ik,q0,e0]using q)
   |val d=>exact PS.imp (iQ he.am) fun D σ H q=>plain D σ H (by simpa only[Ik,q0,e0]using q)
   |bor o=>exact PS.imp (iQ he.am) fun D σ H q=>plain D σ H (by simpa only[Ik,q0,e0]using q)
   |own o=>
    obtain⟨x,p,rfl,nm⟩:=hv k q0;refine PS.imp (iQ nm.pe) fun D σ H q=>?_;simp only[Ik,q0,e0]at q;obtain⟨a,e1,e2⟩:=q.1.sl k _ e0;have es:=cB e1;have hi:=(QCz.mp e0).1;have sub:∀j b,aJ (env.set k .un) σ j b->aJ env σ j b:=fun j b z=>by
     obtain⟨⟨s,ys,z1,z2⟩,z3⟩:=z;by_cases hj:k=j
     ·subst hj;rw[Qwq hi]at z1;cases z1;cases z2
     ·rw[Qxz hj]at z1;exact⟨⟨s,ys,z1,z2⟩,z3⟩
    refine⟨.ref a,es,q.2 _ σ H ⟨⟨by simpa using q.1.len,fun j s ej=>?_,fun j l b z w=>q.1.ne j l b (sub j b z) (sub l b w)⟩,fun j b z=>.inl (sub j b z),bz.refl H,fun _ _ z _=>z,fun _ z=>z,fun j ys ej=>?_⟩ ⟨a,rfl,e2,.inr ⟨k,o,e0,es⟩⟩⟩
    ·by_cases hj:k=j
     ·subst hj;rw[Qwq hi]at ej;cases ej;trivial
     ·rw[Qxz hj]at ej;exact q.1.sl j s ej
    ·exact⟨⟨ys,by rw[Qxz (fun z=>by subst z;rw[e0]at ej;cases ej)];exact ej⟩,rfl⟩
def Ue:GS X W c (.ret ABj) (.Return none pos):=fun env=>PS.imp Sh fun D σ H q=>by exact q.2 .non σ H (Nz.refl q.1) rfl
theorem mZ lo:∀(n i:Nat)(d:D),(cD lo n)[i]? =some d->d=.int (lo+i)/\i<n
 |0,i=>fun d h=>by simp[cD]at h
 |n+1,0=>fun d h=>by simp[cD]at h;exact⟨by rw[<-h];simp,by omega⟩
 |n+1,i+1=>fun d h=>by obtain⟨e,l⟩:=mZ _ n i d h;refine⟨by rw[e];congr 1;push_cast;omega,by omega⟩
theorem mY lo:∀n,(cD lo n).length=n
 |0=>rfl
 |n+1=>by rw[cD,QBq,mY]
theorem Ah{H:Hp}{n:Nat}(hz:n<=sizeLine):Gives K (Itr lo n) (cD lo n) H where
 go:=fun H1 p i d e=>(mZ lo n i d e).2
 yld:=fun H1 p i d e x H2 y=>by obtain⟨rfl,rfl⟩:=y;rw[(mZ lo n i d e).1];exact⟨rfl,.inl rfl⟩
 stop:=fun H1 p i hi=>by rw[mY]at hi;exact hi
 len:=by rw[mY];exact hz
def Oj(h:Ha i=true): -(2 ^62)<=i/\i<2 ^62:=by simp only[Ha,QUz]at h;omega
def Km(ha:GE X W c m a)(hg:Gl X "range")(hm:X.mg "range"=none)(hs:starEach [a] X.env=[(false,eval a X.env)]):GI X W c (.range1 m) tg (.Call (.Name "range" p) [a] [] pos):=by
 intro env γ s σ H R I q;refine Js hg hm (aC ha.d aU hs) hs γ s σ H R I ⟨env,q.1,?_⟩;have q2:=q.2;simp only[ael]at q2;have go:∀d δ v H',Nx X.K env σ H δ H'->aL X.K H' d v->(match (lift δ (match d with|.int n=>if fits n.toNat&&Ha n then some (Rv.val (.lst (cD 0 n.toNat)))else none|_=>none))with
   |.ok x env'=>∃d xs,x.kO=some d/\items d=some xs/\∀J H',Nx X.K env σ H env' H'->Gives X.K J xs H'->R J H'
   |.exc c env'=>∀H',Nx X.K env σ H env' H'->W c env' σ H'
   |.bad=>False)->∃j:Int,[v]=[.int j]/\ -(2 ^62)<=j/\j<2 ^62/\R (Itr 0 j.toNat) H':=fun d δ v H' N Dv z=>by
  cases d with
  |int n=>
   simp only at z;by_cases hf:(fits n.toNat&&Ha n)=true
   ·rw[if_pos hf]at z;rw[QUq]at hf;obtain⟨d',xs,e1,e2,z⟩:=z;cases e1;cases e2;subst Dv;exact⟨n,rfl,(Oj hf.2).1,(Oj hf.2).2,z _ H' N (Ah (fD hf.1))⟩
   ·rw[if_neg hf]at z;exact z.elim
  |_=>exact z.elim
 cases r:ev c m env with
 |bad=>rw[r]at q2;exact q2
 |exc k δ=>rw[r]at q2;exact q2
 |ok x δ=>
  rw[r]at q2;cases x with
  |val d=>exact fun v H' N Dv=>go d δ v H' N Dv q2
  |new o=>exact fun v H' N Dv=>go o.d δ v H' N Dv q2
  |ref i=>exact q2
  |tmp o=>exact q2
theorem jQ.z{tg:Tg}{σ ζ:St}(st:jQ K tg env σ env' ζ H):Nz K env σ H env' ζ H:=
 ⟨st.gw,fun i a z=>.inl (st.sub z),bz.refl _,fun _ _ z _=>z,fun _ z=>z,fun i xs e=>⟨⟨xs,(st.same i (st.bors i xs e)).1.trans e⟩,(st.same i (st.bors i xs e)).2⟩⟩
theorem Ge{env:Ev}{H:Hp}{f:Fl}{D:Ends}(q:tS K W env (f.turn g) D σ H)
  (k:∀ε π H2,Nz K env σ H ε π H2->tS K W ε (g ε) D π H2->N π H2):tS K W env f {D with nx:=N,ct:=N,bk:=D.nx} σ H:=by
 refine⟨q.1,?_⟩;cases f with
 |next ε=>exact fun π H2 N2=>k ε π H2 N2 (rC q N2)
 |cont ε=>exact fun π H2 N2=>k ε π H2 N2 (rC q N2)
 |brk ε=>exact q.2
 |ret r ε=>exact q.2
 |exc j ε=>exact q.2
 |bad=>exact q.2
theorem YT{tg:Tg}{it:E}{b:S}(hp:PassesOwn (model X.prog X.w) X.A X.env X.xe)(hc:X.calm=true)(hi:GI X W c it tgE ξ)(hg:GG X tg tgE)(hb:Q6 X W c b body)
  (hs:∀x,foldedSetIterable ξ X.env x=pure x):GS X W c (.for_ tg it b) (.For tgE ξ body [] pos):=by
 intro env γ s σ H D I q;refine(Xz (pos:=pos) hp hc (wi:=fun ζ H' R=>ζ=σ/\H'=H/\tI X.K W env (ev c it env) σ H R) (fun γ s ζ H' R I'⟨e1,e2,z⟩=>by subst e1 e2;exact hi env γ s _ _ R I' z) hg (tb:=fun D σ H=>∃env,tS X.K W env _ D σ H) (fun γ s σ H D I⟨env,z⟩=>hb env γ s σ H D I z) hs) γ s σ H D I ⟨rfl,rfl,?_⟩;simp only[aeh]at q;have tur:∀δ xs J H1,Nx X.K env σ H δ H1->Gives X.K J xs H1->tS X.K W δ _ D σ H1->∃W':Nat->Nat->St->Hp->Prop,(∃m,W' 0 m σ H1)/\∀i m σ H,W' i m σ H->
   (J.stop i H/\D.nx σ H)\/(J.go i H/\∃N:St->Hp->Prop,(∀ζ H',N ζ H'->∃m',m'<m/\W' (i+1) m' ζ H')/\∀x H',J.yld i H x H'->tG X.K tg x σ H' fun π H2=>∃env,tS X.K W env (ex c b env) {D with nx:=N,ct:=N,bk:=D.nx} π H2):=fun δ xs J H1 N1 G z=>by
  refine⟨fun i m ζ H'=>i<=xs.length/\m=xs.length-i/\bz H1 H'/\∃env',tS X.K W env' (gk tg (ex c b) (xs.drop i) env') D ζ H',⟨xs.length,QIq _,by simp,bz.refl _,δ,z⟩,?_⟩;rintro i m ζ H' ⟨hi,rfl,pe,env',z⟩;by_cases hl:i<xs.length
  ·obtain⟨d,hd⟩:∃d,xs[i]? =some d:=⟨xs[i],by simp[hl]⟩;rw[vW hd,gk]at z;cases e:fZ tg d env' with
   |none=>rw[e]at z;exact z.2.elim
   |some ε=>rw[e]at z;refine .inr ⟨G.go H' pe i d hd,fun π H2=>bz H1 H2/\∃env3,tS X.K W env3 _ D π H2,fun π H2⟨p2,w⟩=>⟨xs.length- (i+1),by omega,hl,rfl,p2,w⟩,fun x H2 y=>?_⟩;obtain⟨Dx,lay⟩:=G.yld H' pe i d hd x H2 y;have N2:=z.1.lay lay;refine⟨env',d,ε,N2.gw,Dx,e,fun π st=>⟨ε,Ge (rC z (N2.z.trans st.z)) fun env3 σ3 H3 N3 w=>⟨(pe.trans N2.pers).trans N3.pers,env3,w⟩⟩⟩
  ·have e:i=xs.length:=by omega
   subst e;rw[List.drop_length,gk]at z;exact .inl ⟨G.stop H' pe _ (QVz _),z.2 ζ H' (Nz.refl z.1)⟩
 refine⟨q.1,?_⟩;have go:∀(x:Rv)δ d,x.kO=some d->(match (match items d with|some xs=>gk tg (ex c b) xs δ|none=>Fl.bad)with
   |.next env'=>∀ζ H',Nz X.K env σ H env' ζ H'->D.nx ζ H'
   |.ret r env'=>∀v ζ H',Nz X.K env σ H env' ζ H'->QT X.K env σ H H' r v->D.rt v H'
   |.brk env'=>∀ζ H',Nz X.K env σ H env' ζ H'->D.bk ζ H'
   |.cont env'=>∀ζ H',Nz X.K env σ H env' ζ H'->D.ct ζ H'
   |.exc c env'=>∀ζ H',Nz X.K env σ H env' ζ H'->W c env' ζ H'
   |.bad=>False)->∃d xs,x.kO=some d/\items d=some xs/\∀J H',Nx X.K env σ H δ H'->Gives X.K J xs H'->∃W':Nat->Nat->St->Hp->Prop,(∃m,W' 0 m σ H')/\∀i m σ H,W' i m σ H->
   (J.stop i H/\D.nx σ H)\/(J.go i H/\∃N:St->Hp->Prop,(∀ζ H',N ζ H'->∃m',m'<m/\W' (i+1) m' ζ H')/\∀x H',J.yld i H x H'->tG X.K tg x σ H' fun π H2=>∃env,tS X.K W env (ex c b env) {D with nx:=N,ct:=N,bk:=D.nx} π H2):=fun x δ d ed z=>by
  cases e1:items d with
  |none=>rw[e1]at z;exact z.elim
  |some xs=>rw[e1]at z;exact⟨d,xs,ed,e1,fun J H1 N G=>tur δ xs J H1 N G (rC ⟨q.1,z⟩ N.z)⟩
 have q2:=q.2;cases r:ev c it env with
 |bad=>rw[r]at q2;exact q2
 |exc k δ=>rw[r]at q2;exact fun H' N=>q2 σ H' N.z
 |ok x δ=>
  rw[r]at q2;cases x with
  |val d=>exact go _ δ d rfl q2
  |new o=>exact go _ δ o.d rfl q2
  |ref i=>exact q2.elim
  |tmp o=>exact q2.elim
def Ph{t:E}{b:S}(hp:PassesOwn (model X.prog X.w) X.A X.env X.xe)(ht:GT X W c t te)(hb:Q6 X W c b body):GS X W c (.while_ t b) (.While te body [] pos):=by
 intro env;refine PS.imp (zJ hp ht (tb:=fun D σ H=>∃env,tS X.K W env _ D σ H) (fun γ s σ H D I⟨env,z⟩=>hb env γ s σ H D I z)) fun D σ H q=>?_;refine⟨fun n ζ H'=>∃env',tS X.K W env' (fW _ _ n env') D ζ H',⟨c.turns,env,q⟩,?_⟩;rintro n ο H1 ⟨δ,q1⟩;cases n with
 |zero=>exact q1.2.elim
 |succ n=>
  refine⟨δ,Lq q1 fun k ε H2 N2 q2=>?_⟩;cases k with
  |true=>refine⟨fun ζ H'=>∃env',tS X.K W env' _ D ζ H',fun ζ H' w=>⟨n,Nat.lt_succ_self n,w⟩,ε,Ge q2 fun env3 σ3 H3 N3 w=>⟨env3,w⟩⟩
  |false=>exact q2.2 ο H2 (Nz.refl q2.1)
end
structure Cz(K:QQq)(ps:List Sl)(vs:List V)(H:Hp)(qs:List Sl)(H':Hp):Prop where
 bor:∀(i:Nat)o,ps[i]? =some (.bor o)->∃o' a,qs[i]? =some (.bor o')/\vs[i]? =some (.ref a)/\jq K H' o' a
 pers:bz H H'
 keep:∀b u,H b=some u->(∀i,¬aJ ps (vs.map some) i b)->H' b=some u
 dom:∀b,H' b=none->H b=none
noncomputable def ac5(K:QQq)(H H':Hp):Rv->V->Prop
 |.val d,v=>aL K H' d v
 |.new q,v=>∃a,v=.ref a/\jq K H' q a/\H a=none
 |_,_=>False
def noOwn(ps:List Sl):Prop:=∀(i:Nat)o,ps[i]? ≠some (.own o)
noncomputable def bA(K:QQq)(n:Nat)(f:List Sl->Res):Sp:=fun vs H Q _=>∃ps,vs.length=n/\Sat K ps (vs.map some) H/\noOwn ps/\match f ps with
 |.ok r qs=>∀v H',Cz K ps vs H qs H'->ac5 K H H' r v->Q v H'
 |.exc _ qs=>∀H',Cz K ps vs H qs H'->False
 |.bad=>False
def xG{ps:List Sl}{vs:List V}{b:Addr}(hl:ps.length=vs.length):aJ (ps++List.replicate k .un) (vs.map some++List.replicate k none) i b↔aJ ps (vs.map some) i b:=by
 constructor
 ·rintro ⟨⟨s,o,e1,e2⟩,e3⟩;by_cases hi:i<ps.length
  ·rw[Qwz hi]at e1;rw[Qwz (by simpa[<-hl]using hi)]at e3;exact⟨⟨s,o,e1,e2⟩,e3⟩
  ·rw[QIz (by omega),List.getElem?_replicate]at e1;split at e1
   ·cases e1;cases e2
   ·cases e1
 ·rintro ⟨⟨s,o,e1,e2⟩,e3⟩;have hi:=(QCz.mp e1).1;exact⟨⟨s,o,by rw[Qwz hi];exact e1,e2⟩,by rw[Qwz (by simpa[<-hl]using hi)];exact e3⟩
def Sat.pad{ps:List Sl}{vs:List V}(S:Sat K ps (vs.map some) H)k:Sat K (ps++List.replicate k .un) (vs.map some++List.replicate k none) H:=by
 have hl:ps.length=vs.length:=by simpa using S.len
 refine⟨by simp[hl],fun i s e=>?_,fun i j a h1 h2=>S.ne i j a ((xG hl).mp h1) ((xG hl).mp h2)⟩;by_cases hi:i<ps.length
 ·rw[Qwz hi]at e;rw[Qwz (by simpa[<-hl]using hi)];exact S.sl i s e
 ·rw[QIz (by omega),List.getElem?_replicate]at e;split at e
  ·cases e;trivial
  ·cases e
def Nz.cz{ps:List Sl}{H H':Hp}{k n:Nat}{ζ:St}(S:Sat K ps (vs.map some) H)(hn:vs.length=n)(N:Nz K (ps++List.replicate k .un) (vs.map some++List.replicate k none) H env' ζ H'):Cz K ps vs H (env'.take n) H':=by
 have hl:ps.length=vs.length:=by simpa using S.len
 refine⟨fun i o e=>?_,N.pers,fun b u hb no=>N.keep b u hb fun i z=>no i ((xG hl).mp z),N.dom⟩;have hi:=(QCz.mp e).1;obtain⟨⟨o',e1⟩,e2⟩:=N.bors i o (by rw[Qwz hi];exact e);obtain⟨a,z1,z2⟩:=N.gw.sl i _ e1;rw[e2,Qwz (by simpa[<-hl]using hi),QFz]at z1;refine⟨o',a,by rw[List.getElem?_take_of_lt (by omega)];exact e1,?_,z2⟩;cases q:vs[i]? with
 |none=>rw[q]at z1;cases z1
 |some v=>rw[q]at z1;simp at z1;rw[z1]
section
theorem Up{st:Stmt}{fd:FuncData}{k:Nat}{g:Fn}(F:yH K x qual st f fd)(S:cX N ps (aj st))(hp:g.pars=ps.length)(hn:g.names=N.length)
  (hb:∀(cdv:Value)(A:Around)(outer:List Env)(s:Shared)(H:Hp)(E:XK),dD k (A.deeper (PyProof.Rows.envOfC qual (aj st) s.heap.objs.size f cdv))->Q6 (eE dU P w K mg base N qual (aj st) f cdv A outer s H E).nQ W0 c g.body (bY st)):
  bH P w K mg base dU (k+1) f fd ps (bA K ps.length (gW c g)):=by
 refine F.ok S (fun vs H Q E h=>?_) (fun cdv A outer s H vs Q E hr h=>?_)
 ·obtain⟨_,h,_⟩:=h;exact h
 ·obtain⟨sl,hl,S0,no,q⟩:=h;refine⟨_,hb cdv A outer s H E hr (sl++List.replicate (g.names-g.pars) .un),?_⟩;have hlen:sl.length=vs.length:=by simpa using S0.len
  have hst:L2.start N vs=vs.map some++List.replicate (g.names-g.pars) none:=by unfold L2.start;rw[hn,hp,hl]
  have e0:gW c g sl=match ex c g.body (sl++List.replicate (g.names-g.pars) .un)with
    |.next σ=>.ok (.val .non) (σ.take g.pars)
    |.ret r σ=>.ok r (σ.take g.pars)
    |.exc k σ=>.exc k (σ.take g.pars)
    |_=>.bad:=by
   unfold gW;rw[if_pos (by rw[hp,<-hl,hlen])]<;>cases ex c g.body _<;>rfl
  rw[e0]at q;rw[hst];refine⟨S0.pad _,?_⟩;have hg:vs.length=g.pars:=by rw[hl,hp]
  cases r:ex c g.body _ with
  |next env'=>rw[r]at q;exact fun ζ H' N=>q .non H' (N.cz S0 hg) rfl
  |ret rv env'=>
   rw[r]at q;refine fun v ζ H' N z=>q v H' (N.cz S0 hg) ?_;cases rv with
   |val d=>exact z
   |new o=>
    obtain⟨a,e1,e2,e3⟩:=z;refine⟨a,e1,e2,?_⟩;rcases e3 with e3|⟨i,ys,e3,_⟩
    ·exact e3
    ·by_cases hi:i<sl.length
     ·rw[Qwz hi]at e3;exact absurd e3 (no i ys)
     ·rw[QIz (by omega),List.getElem?_replicate]at e3;split at e3<;>cases e3
   |ref i=>exact z.elim
   |tmp o=>exact z.elim
  |brk env'=>rw[r]at q;exact q.elim
  |cont env'=>rw[r]at q;exact q.elim
  |exc j env'=>rw[r]at q;exact fun ζ H' N=>q H' (N.cz S0 hg)
  |bad=>rw[r]at q;exact q.elim
end
inductive En(K:QQq)(env:Ev)(σ:St)(H0 H:Hp):List Rv->List Sl->List V->Prop
 |nil:En K env σ H0 H [] [] []
 |val {d:D} {v:V} {rs:List Rv} {ps:List Sl} {vs:List V}:aL K H d v->En K env σ H0 H rs ps vs->En K env σ H0 H (.val d::rs) (.val d::ps) (v::vs)
 |tmp {o:Ob} {a:Addr} {rs:List Rv} {ps:List Sl} {vs:List V}:jq K H o a->H0 a=none->(∀q,Rv.tmp q∉rs)->En K env σ H0 H rs ps vs->En K env σ H0 H (.tmp o::rs) (.bor o::ps) (.ref a::vs)
 |ref {o:Ob} {j:Nat} {a:Addr} {s:Sl} {rs:List Rv} {ps:List Sl} {vs:List V}:env[j]? =some s->isOwn s=some o->σ[j]? =some (some (.ref a))->jq K H o a->Rv.ref j∉rs->En K env σ H0 H rs ps vs->En K env σ H0 H (.ref j::rs) (.bor o::ps) (.ref a::vs)
section
theorem kI(S:Sat K env σ H):∀{rs:List Rv}{ps:List Sl}{vs:List V},enter rs env=some ps->jo K σ H0 H rs vs->En K env σ H0 H rs ps vs
 |[],ps,vs,h,r=>by cases h;have:=r;subst this;exact .nil
 |x::rs,ps,vs,h,r=>by
  obtain⟨v,vr,rfl,h1,h2⟩:=r;cases x with
  |val d=>
   simp only[enter]at h;cases e:enter rs env with
   |none=>rw[e]at h;cases h
   |some ps'=>rw[e]at h;cases h;exact .val h1 (kI S e h2)
  |new o=>cases h
  |tmp o=>
   simp only[enter]at h;split at h
   ·cases h
   ·rename_i hn;cases e:enter rs env with
    |none=>rw[e]at h;cases h
    |some ps'=>rw[e]at h;cases h;obtain⟨a,rfl,oa,ha⟩:=h1;exact .tmp oa ha (fun q hq=>hn (List.any_eq_true.mpr ⟨_,hq,rfl⟩)) (kI S e h2)
  |ref j=>
   simp only[enter]at h;split at h
   ·cases h
   ·rename_i hn;have nr:Rv.ref j∉rs:=fun hq=>hn (List.any_eq_true.mpr ⟨_,hq,by simp[jz]⟩);cases e1:env[j]? with
    |none=>rw[e1]at h;cases h
    |some s=>
     rw[e1]at h;have h1':=h1;cases s with
     |un=>cases h
     |val d=>cases h
     |own o=>
      cases e:enter rs env with
      |none=>simp only[e]at h;cases h
      |some ps'=>simp only[e]at h;cases h;obtain⟨a,z1,z2⟩:=S.sl j _ e1;rw[h1']at z1;cases z1;exact .ref e1 rfl h1' z2 nr (kI S e h2)
     |bor o=>
      cases e:enter rs env with
      |none=>simp only[e]at h;cases h
      |some ps'=>simp only[e]at h;cases h;obtain⟨a,z1,z2⟩:=S.sl j _ e1;rw[h1']at z1;cases z1;exact .ref e1 rfl h1' z2 nr (kI S e h2)
def En.len{ps:List Sl}(h:En K env σ H0 H rs ps vs):ps.length=vs.length/\rs.length=vs.length:=by
 induction h with
 |nil=>exact⟨rfl,rfl⟩
 |val _ _ ih=>simp[ih.1,ih.2]
 |tmp _ _ _ _ ih=>simp[ih.1,ih.2]
 |ref _ _ _ _ _ _ ih=>simp[ih.1,ih.2]
theorem En.noOwn{ps:List Sl}(h:En K env σ H0 H rs ps vs):noOwn ps:=by
 induction h with
 |nil=>intro i o e;simp at e
 |val _ _ ih=>intro i o e;cases i with
  |zero=>simp at e
  |succ i=>exact ih i o (by simpa using e)
 |tmp _ _ _ _ ih=>intro i o e;cases i with
  |zero=>simp at e
  |succ i=>exact ih i o (by simpa using e)
 |ref _ _ _ _ _ _ ih=>intro i o e;cases i with
  |zero=>simp at e
  |succ i=>exact ih i o (by simpa using e)
def En.lent{ps:List Sl}(h:En K env σ H0 H rs ps vs):∀{i:Nat}{a:Addr},aJ ps (vs.map some) i a->(∃o,rs[i]? =some (.tmp o)/\H0 a=none)\/∃j,rs[i]? =some (.ref j)/\aJ env σ j a:=by
 induction h with
 |nil=>rintro i a ⟨⟨s,o,e,_⟩,_⟩;simp at e
 |val _ _ ih=>
  rintro i a ⟨⟨s,o,e1,e2⟩,e3⟩;cases i with
  |zero=>simp at e1;subst e1;cases e2
  |succ i=>simpa using ih ⟨⟨s,o,by simpa using e1,e2⟩,by simpa using e3⟩
 | @tmp o b rs ps vs oa h0 _ _ ih=>
  rintro i a ⟨⟨s,o',e1,e2⟩,e3⟩;cases i with
  |zero=>simp at e3;subst e3;exact .inl ⟨o,rfl,h0⟩
  |succ i=>simpa using ih ⟨⟨s,o',by simpa using e1,e2⟩,by simpa using e3⟩
 | @ref o j b s rs ps vs e1 e2 e3 oa nr _ ih=>
  rintro i a ⟨⟨s',o',z1,z2⟩,z3⟩;cases i with
  |zero=>simp at z3;subst z3;exact .inr ⟨j,rfl,⟨⟨s,o,e1,e2⟩,e3⟩⟩
  |succ i=>simpa using ih ⟨⟨s',o',by simpa using z1,z2⟩,by simpa using z3⟩
def En.gw(S0:Sat K env0 σ H0)(S:Sat K env σ H)(sub:∀(i:Nat)a,aJ env σ i a->aJ env0 σ i a){ps:List Sl}(h:En K env σ H0 H rs ps vs):Sat K ps (vs.map some) H:=by
 refine⟨by simpa using h.len.1,?_,?_⟩
 ·clear S0 sub;induction h with
  |nil=>intro i s e;simp at e
  |val hd _ ih=>
   intro i s e;cases i with
   |zero=>simp at e;subst e;exact⟨_,rfl,hd⟩
   |succ i=>simpa using ih i s (by simpa using e)
  |tmp oa _ _ _ ih=>
   intro i s e;cases i with
   |zero=>simp at e;subst e;exact⟨_,rfl,oa⟩
   |succ i=>simpa using ih i s (by simpa using e)
  |ref _ _ _ oa _ _ ih=>
   intro i s e;cases i with
   |zero=>simp at e;subst e;exact⟨_,rfl,oa⟩
   |succ i=>simpa using ih i s (by simpa using e)
 ·have fresh:=fun a ha j z=>S0.nq ha j (sub j a z);induction h with
  |nil=>rintro i j a ⟨⟨s,o,e,_⟩,_⟩;simp at e
  |val hd t ih=>
   rintro i j a ⟨⟨s,o,e1,e2⟩,e3⟩ ⟨⟨s',o',e1',e2'⟩,e3'⟩;cases i with
   |zero=>simp at e1;subst e1;cases e2
   |succ i=>cases j with
    |zero=>simp at e1';subst e1';cases e2'
    |succ j=>rw[ih i j a ⟨⟨s,o,by simpa using e1,e2⟩,by simpa using e3⟩ ⟨⟨s',o',by simpa using e1',e2'⟩,by simpa using e3'⟩]
  | @tmp o b rs ps vs oa h0 nt t ih=>
   have clash:∀i,¬aJ ps _ i b:=fun i z=>by
    rcases t.lent z with ⟨q,e,_⟩|⟨q,_,ow⟩
    ·exact nt q (QBz e)
    ·exact fresh b h0 q ow
   rintro i j a ⟨⟨s,o,e1,e2⟩,e3⟩ ⟨⟨s',o',e1',e2'⟩,e3'⟩;cases i with
   |zero=>
    simp at e3;subst e3;cases j with
    |zero=>rfl
    |succ j=>exact absurd ⟨⟨s',o',by simpa using e1',e2'⟩,by simpa using e3'⟩ (clash j)
   |succ i=>cases j with
    |zero=>
     simp at e3'
     subst e3'
     exact absurd ⟨⟨s,o,by simpa using e1,e2⟩,by simpa using e3⟩ (clash i)
    |succ j=>rw[ih i j a ⟨⟨s,o,by simpa using e1,e2⟩,by simpa using e3⟩ ⟨⟨s',o',by simpa using e1',e2'⟩,by simpa using e3'⟩]
  | @ref o k b s0 rs ps vs z1 z2 z3 oa nr t ih=>
   have ok:aJ env σ k b:=⟨⟨s0,o,z1,z2⟩,z3⟩;have clash:∀i,¬aJ ps _ i b:=fun i z=>by
    rcases t.lent z with ⟨q,e,h0⟩|⟨q,e,ow⟩
    ·exact fresh b h0 k ok
    ·have:=S.ne k q b ok ow;subst this;exact nr (QBz e)
   rintro i j a ⟨⟨s,o,e1,e2⟩,e3⟩ ⟨⟨s',o',e1',e2'⟩,e3'⟩;cases i with
   |zero=>
    simp at e3;subst e3;cases j with
    |zero=>rfl
    |succ j=>exact absurd ⟨⟨s',o',by simpa using e1',e2'⟩,by simpa using e3'⟩ (clash j)
   |succ i=>cases j with
    |zero=>
     simp at e3'
     subst e3'
     exact absurd ⟨⟨s,o,by simpa using e1,e2⟩,by simpa using e3⟩ (clash i)
    |succ j=>rw[ih i j a ⟨⟨s,o,by simpa using e1,e2⟩,by simpa using e3⟩ ⟨⟨s',o',by simpa using e1',e2'⟩,by simpa using e3'⟩]
end
def Sl.Hg(o':Ob):Sl->Option Sl
 |.own _=>some (.own o')
 |.bor _=>some (.bor o')
 |_=>none
def Lb{o':Ob}(h:fH j (fun _=>some o') env=some env'):∃s s',env[j]? =some s/\s.Hg o'=some s'/\env'=env.set j s':=by
 obtain⟨o,q,e,hh⟩:=rn h;cases e;rcases hh with ⟨e,rfl⟩|⟨e,rfl⟩
 ·exact⟨_,_,e,rfl,rfl⟩
 ·exact⟨_,_,e,rfl,rfl⟩
theorem pJ:∀{rs:List Rv}{qs:List Sl}{env ε:Ev},giveBack rs qs env=some ε->ε.length=env.length/\∀j:Nat,
  ((∀i:Nat,rs[i]? ≠some (Rv.ref j))/\ε[j]? =env[j]?)\/∃(i:Nat)(o':Ob)(s s':Sl),rs[i]? =some (.ref j)/\qs[i]? =some (.bor o')/\env[j]? =some s/\s.Hg o'=some s'/\ε[j]? =some s'
 |[],[],env,ε,h=>by cases h;exact⟨rfl,fun j=>.inl ⟨fun i=>by simp,rfl⟩⟩
 |[],_::_,env,ε,h=>by cases h
 |x::rs,[],env,ε,h=>by cases x<;>cases h
 |x::rs,q::qs,env,ε,h=>by
  have skip:giveBack rs qs env=some ε->(∀j,x≠ .ref j)->ε.length=env.length/\∀j:Nat,
    ((∀i:Nat,(x::rs)[i]? ≠some _)/\ε[j]? =env[j]?)\/∃(i:Nat)(o':Ob)(s s':Sl),(x::rs)[i]? =some _/\(q::qs)[i]? =some (.bor o')/\env[j]? =some s/\s.Hg o'=some s'/\ε[j]? =some s':=fun h nx=>by
   obtain⟨l,g⟩:=pJ h;refine⟨l,fun j=>?_⟩;rcases g j with ⟨g1,g2⟩|⟨i,o',s,s',g1,g2,g3⟩
   ·refine .inl ⟨fun i e=>?_,g2⟩;cases i with
    |zero=>simp at e;exact nx j e
    |succ i=>exact g1 i (by simpa using e)
   ·exact .inr ⟨i+1,o',s,s',by simpa using g1,by simpa using g2,g3⟩
  cases x with
  |val d=>exact skip h fun j z=>by cases z
  |new o=>exact skip h fun j z=>by cases z
  |tmp o=>exact skip h fun j z=>by cases z
  |ref k=>
   cases q with
   |bor o=>
    change Option.bind _ _=some ε at h;cases e:fH k _ env with
    |none=>rw[e]at h;cases h
    |some δ=>
     rw[e]at h;obtain⟨s0,s1,z1,z2,rfl⟩:=Lb e;have hk:=(QCz.mp z1).1;obtain⟨l,g⟩:=pJ h;refine⟨by simpa using l,fun j=>?_⟩;rcases g j with ⟨g1,g2⟩|⟨i,o',s,s',g1,g2,g3,g4,g5⟩
     ·by_cases hj:k=j
      ·subst hj;rw[Qwq hk]at g2;exact .inr ⟨0,o,s0,s1,rfl,rfl,z1,z2,g2⟩
      ·rw[Qxz hj]at g2;refine .inl ⟨fun i e=>?_,g2⟩;cases i with
       |zero=>simp at e;exact hj e
       |succ i=>exact g1 i (by simpa using e)
     ·by_cases hj:k=j
      ·subst hj;rw[Qwq hk]at g3;cases g3;refine .inr ⟨i+1,o',s0,s',by simpa using g1,by simpa using g2,z1,?_,g5⟩;cases s0 with
       |own q=>cases z2;exact g4
       |bor q=>cases z2;exact g4
       |un=>cases z2
       |val d=>cases z2
      ·rw[Qxz hj]at g3;exact .inr ⟨i+1,o',s,s',by simpa using g1,by simpa using g2,g3,g4,g5⟩
   |un=>cases h
   |val d=>cases h
   |own o=>cases h
def Oo{o':Ob}(h:s.Hg o'=some s'):(∃o,isOwn s=some o)/\isOwn s'=some o':=by
 cases s with
 |own q=>cases h;exact⟨⟨q,rfl⟩,rfl⟩
 |bor q=>cases h;exact⟨⟨q,rfl⟩,rfl⟩
 |un=>cases h
 |val d=>cases h
section
def En.Xl(h:En K env σ H0 H rs ps vs):∀{i j:Nat},rs[i]? =some (.ref j)->∃o a,ps[i]? =some (.bor o)/\vs[i]? =some (.ref a)/\σ[j]? =some (some (.ref a)):=by
 induction h with
 |nil=>intro i j e;simp at e
 |val _ _ ih=>intro i j e;cases i with
  |zero=>simp at e
  |succ i=>simpa using ih (by simpa using e)
 |tmp _ _ _ _ ih=>intro i j e;cases i with
  |zero=>simp at e
  |succ i=>simpa using ih (by simpa using e)
 | @ref o k a s rs ps vs e1 e2 e3 oa nr t ih=>
  intro i j e;cases i with
  |zero=>simp at e;subst e;exact⟨o,a,rfl,rfl,e3⟩
  |succ i=>simpa using ih (by simpa using e)
def Ux(S0:Sat K env0 σ H0)(N:Nx K env0 σ H0 env H)(E:En K env σ H0 H rs ps vs)(C:Cz K ps vs H qs H2)(g:giveBack rs qs env=some ε):Nx K env0 σ H0 ε H2:=by
 have S:=N.gw;have sub:=N.sub;obtain⟨gl,gs⟩:=pJ g;have own2:∀j b,aJ ε σ j b->aJ env σ j b:=fun j b z=>by
  obtain⟨⟨s,o,e1,e2⟩,e3⟩:=z;rcases gs j with ⟨_,g2⟩|⟨i,o',s0,s1,_,_,g3,g4,g5⟩
  ·rw[g2]at e1;exact⟨⟨s,o,e1,e2⟩,e3⟩
  ·obtain⟨⟨q,hq⟩,_⟩:=Oo g4;exact⟨⟨s0,q,g3,hq⟩,e3⟩
 have notLent:∀j b,aJ env σ j b->(∀i:Nat,rs[i]? ≠some _)->∀i,¬aJ ps _ i b:=fun j b ow nr i z=>by
  rcases E.lent z with ⟨q,_,h0⟩|⟨k,e,ow'⟩
  ·exact(fun a ha j z=>S0.nq ha j (sub j a z)) b h0 j ow
  ·have:=S.ne j k b ow ow';subst this;exact nr i e
 refine⟨⟨by rw[gl];exact S.len,fun j s e=>?_,fun j k b z w=>S.ne j k b (own2 j b z) (own2 k b w)⟩,fun j b z=>sub j b (own2 j b z),N.pers.trans C.pers,fun b u hb no=>C.keep b u (N.keep b u hb no) fun i z=>?_,fun b z=>N.dom b (C.dom b z),fun j xs e=>?_⟩
 ·rcases gs j with ⟨g1,g2⟩|⟨i,o',s0,s1,g1,g2,g3,g4,g5⟩
  ·rw[g2]at e;exact(S.sl j s e).keep C.pers fun b u ho ev hb=>C.keep b u hb (notLent j b (xH e ho ev) g1)
  ·rw[g5]at e;cases e;obtain⟨o,a,p1,p2,p3⟩:=E.Xl g1;obtain⟨o'',a',c1,c2,c3⟩:=C.bor i o p1;rw[g2]at c1;cases c1;rw[p2]at c2;cases c2;cases s0 with
   |own q=>cases g4;exact⟨a,by rw[p3];rfl,c3⟩
   |bor q=>cases g4;exact⟨a,by rw[p3];rfl,c3⟩
   |un=>cases g4
   |val d=>cases g4
 ·rcases E.lent z with ⟨q,_,h0⟩|⟨k,e,ow⟩
  ·rw[h0]at hb;cases hb
  ·exact no k (sub k b ow)
 ·obtain⟨xs,e⟩:=N.bors j xs e;rcases gs j with ⟨g1,g2⟩|⟨i,o',s0,s1,g1,g2,g3,g4,g5⟩
  ·exact⟨xs,by rw[g2];exact e⟩
  ·rw[e]at g3;cases g3;cases g4;exact⟨o',g5⟩
end
section
theorem Um(F:bH X.prog X.w X.K X.mg X.base dU k f fd ps (bA X.K ps.length (c.fn g)))(hr:dD k X.A)(hg:Gl X x)(hm:X.mg x=some (.ref f))(hk:PySem.W.keepIn X.K (.ref f)=true)(hb:Binds X.K fd ps [])
  (hd:(x==("__debug__":Str))=false)(ha:GA X W c m (e::es))(he:starEach (e::es) X.env=(false,eval e X.env)::starEach es X.env)(hpl:(backTo pos (starEach es X.env)).any (·.1)=false)(hn:∀sl,c.fn g sl=.bad\/sl.length=ps.length):
  GE X W c (.call g m) (.Call (.Name x p) (e::es) [] pos):=by
 intro env γ s σ H Q I q;refine fX F hr hg hm hk hb .nil gH (t:=fun ζ H' R=>ζ=σ/\H'=H/\Vg X.K W env (evs c m env) σ H R) (fun p γ s ζ H' R I'⟨e1,e2,z⟩=>by subst e1 e2;exact ha env p γ s _ _ R I' z) hd he hpl γ s σ H Q I ⟨rfl,rfl,?_⟩;simp only[aen]at q;obtain⟨S,q⟩:=q;refine⟨S,?_⟩;cases r:evs c m env with
 |bad=>rw[r]at q;exact q
 |exc j δ=>rw[r]at q;exact q
 |ok rs δ=>
  rw[r]at q;simp only[Out.bind,uo]at q;intro vs H1 N rv;rw[List.append_nil];cases e1:enter rs δ with
  |none=>rw[e1]at q;exact q.elim
  |some sl=>
   rw[e1]at q;simp only at q;have E:=kI N.gw e1 rv;refine⟨sl,?_,E.gw S N.gw N.sub,E.noOwn,?_⟩
   ·rcases hn sl with z|z
    ·rw[z]at q;exact q.elim
    ·rw[<-E.len.1,z]
   ·cases e2:c.fn g sl with
    |bad=>rw[e2]at q;exact q.elim
    |ok rv qs=>
     rw[e2]at q;simp only at q;intro v H2 C z;cases e3:giveBack rs qs δ with
     |none=>rw[e3]at q;exact q.elim
     |some ε=>
      rw[e3]at q;refine q v H2 (Ux S N E C e3) ?_;cases rv with
      |val d=>exact z
      |new o=>obtain⟨a,z1,z2,z3⟩:=z;exact⟨a,z1,z2,N.dom a z3⟩
      |ref i=>exact z.elim
      |tmp o=>exact z.elim
    |exc j qs=>rw[e2]at q;exact q.elim
end
def Jd c g sl:gW c g sl=.bad\/sl.length=g.pars:=by
 unfold gW;split
 ·exact .inr (by assumption)
 ·exact .inl rfl
end Mini
end
section
namespace Mini
open PySem L2 PyProof.Rows
structure Bq(z TI TO i1 i2:Addr)(b1 b2:Bool)(l1 l2:Addr)(k:Nat)(h:Heap):Prop where
 zr:∃f0 f1,jL h z TI TO f0 f1/\F0 f0
 ti:IsPair h TI (.ref i1) (.ref i2)
 to:∃a b,IsPair h TO a b
 it1:uF b1 h i1 l1 k
 it2:uF b2 h i2 l2 k
section
variable{E:QZq}
def wk{b1 b2:Bool}{xs ys:Array Value}(hl1:yF b1 s.heap l1 xs)(hl2:yF b2 s.heap l2 ys)
  (h:∀h',Bq (s.heap.objs.size+4) (s.heap.objs.size+2) (s.heap.objs.size+3) s.heap.objs.size (s.heap.objs.size+1) b1 b2 l1 l2 0 h'->h'.objs.size=s.heap.objs.size+5->
   (∀c o,s.heap.get? c=some o->h'.get? c=some o)->Q (.ref (s.heap.objs.size+4)) {s with heap:=h'}):
  wpAny (model prog w) A (call (.type "zip") [.ref l1,.ref l2]) Q E s:=by
 refine callType_new PySem.F.called_zip (by decide) (PySem.F.typeCall_zip_2 _ _) (PySem.F.newCall_zip_2 _ _) (fun obj=>PySem.F.args_object_init_3 obj _ _) PySem.F.entry_zip_new
  (K3 b1 b2 l1 l2 xs ys) ⟨hl1,hl2,?_⟩
 have z1:(zH1 b1 s.heap l1).objs.size=s.heap.objs.size+1:=Heap.size_push ..;have z2:(zH2 b1 b2 s.heap l1 l2).objs.size=s.heap.objs.size+2:=by rw[Heap.size_push,z1]
 have z3:(zH3 b1 b2 s.heap l1 l2).objs.size=s.heap.objs.size+3:=by rw[Heap.size_push,z2]
 have z4:(zH4 b1 b2 s.heap l1 l2).objs.size=s.heap.objs.size+4:=by rw[Heap.size_push,z3]
 have g5:(Z3 b1 b2 s.heap l1 l2).get? (zH4 b1 b2 s.heap l1 l2).objs.size=some _:=Qzq _ rfl;have g4:(Z3 b1 b2 s.heap l1 l2).get? (zH3 b1 b2 s.heap l1 l2).objs.size=some _:=QWq _ (Qzq _ rfl);have g3:(Z3 b1 b2 s.heap l1 l2).get? (zH2 b1 b2 s.heap l1 l2).objs.size=some _:=QWq _ (QWq _ (Qzq _ rfl));have g2:(Z3 b1 b2 s.heap l1 l2).get? (zH1 b1 s.heap l1).objs.size=some _:=QWq _ (QWq _ (QWq _ (Qzq _ rfl)));rw[z2,z3,z4]at g5;rw[z1,z2]at g3;rw[z3]at g4;rw[z1]at g2;rw[z4];have i1:uF b1 (Z3 b1 b2 s.heap l1 l2) s.heap.objs.size l1 0:=by cases b1<;>exact⟨_,(QWq _ (QWq _ (QWq _ (QWq _ (Qzq _ rfl))))),rfl,rfl⟩
 exact⟨⟨_,g5,rfl⟩,h _ ⟨⟨_,_,g5,.inl rfl⟩,g3,⟨_,_,g4⟩,i1,(by cases b2<;>exact⟨_,g2,rfl,rfl⟩)⟩ (by rw[Heap.size_push,z4]) fun c o x=>QWq _ (QWq _ (QWq _ (QWq _ (QWq _ x))))⟩
end
def uQ(h1:l1<n)(h2:l2<n):ZipApart (n+4) (n+2) (n+3) n (n+1) l1 l2:=zipApart_new h1 h2
def Inv.nT{X:Cx}{σ:L2.St}{H:Hp}{h':Heap}{ch:List Addr}(I:Inv X γ σ H s)(k:∀b o,b∉ch->s.heap.get? b=some o->h'.get? b=some o)(hf:∀b∈ch,dB X γ H b):
  Inv X γ σ H {s with heap:=h',toks:=t'}:=by
 have nit:∀b u,H b=some u->b∉ch:=fun b u e z=>by rw[(hf b z).1]at e;cases e
 refine I.step (fun b hb=>⟨(hf b hb).2.2.2.1,(hf b hb).2.1,(hf b hb).2.2.2.2.1,(hf b hb).2.2.2.2.2⟩) (fun b o _ _ hc e _=>k b o hc e) (fun b o _ _ hc e _=>⟨o.slots,k b o hc e⟩) (fun _ _ _ _ n=>n)
  (fun b o hc e=>⟨o,k b o hc e⟩) (fun _ _ e=>e) (fun _ _ _ e=>e) (fun b ps e=>⟨#[],by rw[e];simp⟩) (fun m hm=>?_) (fun b u e=>?_) I.bare
 ·obtain⟨o,es,ep,ho,r⟩:=hm;exact⟨o,es,ep,k _ o (fun z=>(hf _ z).2.1 rfl) ho,r⟩
 ·refine(I.hok b u e).stay (fun c v hc q=>k c v ?_ q) (fun _ q=>q) fun _ _ q=>q;rcases hc with z|z
  ·rw[z];exact nit b u e
  ·exact nit c _ z
def Inv.Ip{X:Cx}{σ:L2.St}{H:Hp}{h':Heap}{ch:List Addr}{a:Addr}(I:Inv X γ σ H s)(k:∀b o,b∉ch->s.heap.get? b=some o->h'.get? b=some o)(hf:∀b∈ch,dB X γ H b)
  (ha:s.heap.objs.size<=a)(new:bZ X.prog X.w (upd H a u) h' a u):Inv X γ σ (upd H a u) {s with heap:=h',toks:=t'}:=by
 have nit:∀b u,H b=some u->b∉ch:=fun b u e z=>by rw[(hf b z).1]at e;cases e
 have ne:∀b w,H b=some w->b≠a:=fun b w e z=>by subst z;rw[I.hok.fresh ha]at e;cases e
 refine I.step (fun b hb=>⟨(hf b hb).2.2.2.1,(hf b hb).2.1,(hf b hb).2.2.2.2.1,(hf b hb).2.2.2.2.2⟩) (fun b o _ _ hc e _=>k b o hc e) (fun b o _ _ hc e _=>⟨o.slots,k b o hc e⟩)
  (fun b o _ e n=>by rw[ak (Qvz (Qvq (Qqz e) ha))];exact n)
  (fun b o hc e=>⟨o,k b o hc e⟩) (fun b xs e=>by rw[ak (ne b _ e)];exact e) (fun b o w e=>by rw[ak (ne b _ e)];exact e) (fun b ps e=>⟨#[],by rw[ak (ne b _ e),e];simp⟩) (fun m hm=>?_) (fun b w e=>?_) I.bare
 ·obtain⟨o,es,ep,ho,r⟩:=hm;exact⟨o,es,ep,k _ o (fun z=>(hf _ z).2.1 rfl) ho,r⟩
 ·by_cases hb:b=a
  ·subst hb;rw[aq]at e;cases e;exact new
  ·rw[ak hb]at e;refine(I.hok b w e).stay (fun c v hc q=>k c v ?_ q) (fun c q=>by rw[ak (ne c _ q)];exact q) fun c xs q=>by rw[ak (ne c _ q)];exact q
   rcases hc with z|z
   ·rw[z];exact nit b w e
   ·exact nit c _ z
def QR(K:QQq)(b:Bool)(H:Hp)(l:Addr)(vs:List V):Prop:=match b with|true=>QX K H l vs|false=>jM K H l vs
def bz.wV{K:QQq}{b:Bool}{l:Addr}(p:bz H H')(h:QR K b H l vs):QR K b H' l vs:=by
 cases b with
 |true=>exact p.Zj h
 |false=>exact p.Xb h
def Inv.wV{X:Cx}{σ:L2.St}{H:Hp}{b:Bool}{l:Addr}(I:Inv X γ σ H s)(h:QR X.K b H l vs):∃its:List Value,Vals vs its/\yF b s.heap l its.toArray/\vs.length<=sizeLine/\l<s.heap.objs.size:=by
 cases b with
 |true=>obtain⟨its,r,p,z⟩:=I.list (QX.sq h);obtain⟨o,e,_⟩:=p.isList;exact⟨its,r,p.isList,z,Qqz e⟩
 |false=>obtain⟨its,r,p,z⟩:=I.tuple h;obtain⟨o,e,_⟩:=id p;exact⟨its,r,p,z,Qqz e⟩
noncomputable def Itz(K:QQq)(b1 b2:Bool)(l1 l2:Addr)(vs ws:List V):It:=
 ⟨fun i H=>QR K b1 H l1 vs/\QR K b2 H l2 ws/\∃v u,vs[i]? =some v/\ws[i]? =some u,
  fun i H x H'=>∃p v u,H p=none/\x=.ref p/\vs[i]? =some v/\ws[i]? =some u/\H'=upd H p (.tup [v,u]),
  fun i H=>QR K b1 H l1 vs/\QR K b2 H l2 ws/\(vs.length<=i\/ws.length<=i)⟩
theorem rm{w:World}{K:QQq}{z TI TO i1 i2 l1 l2:Addr}{b1 b2:Bool}(D:ZipApart z TI TO i1 i2 l1 l2):
  Turn P w K tg (Itz K b1 b2 l1 l2 vs ws) [z,TI,TO,i1,i2] z (fun i h=>Bq z TI TO i1 i2 b1 b2 l1 l2 i h) where
 mem:=by simp
 obj:=fun i h st b hb=>by
  obtain⟨f0,f1,zr,_⟩:=st.zr;obtain⟨x,y,to⟩:=st.to;simp only[QCq,QAz,or_false]at hb;rcases hb with rfl|rfl|rfl|rfl|rfl
  ·exact⟨_,zr,fun v z=>by cases z⟩
  ·exact⟨_,st.ti,fun v z=>by cases z⟩
  ·exact⟨_,to,fun v z=>by cases z⟩
  ·exact st.it1.obj
  ·exact st.it2.obj
 keep:=fun i h h' st k=>by obtain⟨f0,f1,zr,hf⟩:=st.zr;obtain⟨x,y,to⟩:=st.to;exact⟨⟨f0,f1,k z (by simp) _ zr,hf⟩,k TI (by simp) _ st.ti,⟨x,y,k TO (by simp) _ to⟩,st.it1.at fun o e=>k i1 (by simp) o e,st.it2.at fun o e=>k i2 (by simp) o e⟩
 item:=by
  intro X hP hw hK hc i γ s σ H E I hf st hg;subst hP hw hK;obtain⟨hq1,hq2,v,u,ev,eu⟩:=hg;obtain⟨its,r1,p1,_,_⟩:=Inv.wV I hq1;obtain⟨its2,r2,p2,_,_⟩:=Inv.wV I hq2;obtain⟨x,ex,rx⟩:=r1.get ev;obtain⟨y,ey,ry⟩:=r2.get eu;obtain⟨f0,f1,zr,h0⟩:=st.zr;obtain⟨a,b,to⟩:=st.to;refine qD D zr h0 st.ti to st.it1 st.it2 p1 p2 (by simpa using ex) (by simpa using ey) fun h' T=>?_;obtain⟨g0,g1,zr',h0'⟩:=T.zr;refine⟨_,rfl,JS zr' h0' fun h'' q0 zr'' hq0 sb=>?_⟩;have f1':∀b∈[z,TO,i1,i2],dB X γ H b:=fun b hb=>hf b (by simp only[QCq,QAz,or_false]at hb⊢;rcases hb with h|h|h|h<;>simp[h])
  have kk:∀b o,b∉[z,TO,i1,i2]->s.heap.get? b=some o->h''.get? b=some o:=fun b o hb e=>by simp only[QCq,QAz,or_false,not_or]at hb;exact sb.extBut _ _ hb.1 (T.keep b o hb.1 hb.2.1 hb.2.2.1 hb.2.2.2 e)
  have new'':=sb.extBut _ _ (by obtain⟨q,e,_⟩:∃q,s.heap.get? z=some q/\True:=⟨_,zr,trivial⟩;exact Nat.ne_of_gt (Qqz e)) T.new
  have I1:Inv X γ σ (upd H s.heap.objs.size (.tup [v,u])) {s with heap:=h''}:=by refine Inv.Ip I kk f1' (QVz _) ⟨by show 2<=sizeLine;rw[sizeLine_eq];decide,[x,y],.cons rx (.cons ry .nil),_,new'',rfl,rfl,_,rfl⟩
  refine⟨.ref s.heap.objs.size,upd H s.heap.objs.size _,I1,rfl,⟨_,v,u,I.hok.fresh (QVz _),rfl,ev,eu,rfl⟩,?_,fun b hb=>?_⟩
  ·have up:∀c o,c≠z->h'.get? c=some o->h''.get? c=some o:=fun c o hcz e=>sb.extBut _ _ hcz e;obtain⟨a',b',to'⟩:=T.to;exact⟨⟨q0,g1,zr'',hq0⟩,up _ _ D.TIz T.ti,⟨a',b',up _ _ D.TOz to'⟩,T.it1.at fun o e=>up _ o D.i1z e,T.it2.at fun o e=>up _ o D.i2z e⟩
  ·have lt:b<s.heap.objs.size:=by
    simp only[QCq,QAz,or_false]at hb;rcases hb with rfl|rfl|rfl|rfl|rfl
    ·exact Qqz zr
    ·exact Qqz st.ti
    ·exact Qqz to
    ·exact st.it1.lt
    ·exact st.it2.lt
   rw[ak (Qvz lt)]
   exact(hf b hb).1
 done:=by
  intro X hP hw hK hc i γ s σ H E I hf st hg;subst hP hw hK;obtain⟨hq1,hq2,hend⟩:=hg;obtain⟨its,r1,p1,_,_⟩:=Inv.wV I hq1;obtain⟨its2,r2,p2,_,_⟩:=Inv.wV I hq2;have l1:=r1.length;have l2:=r2.length;obtain⟨f0,f1,zr,h0⟩:=st.zr;obtain⟨a,b,to⟩:=st.to;refine sE (I.ok.hd hc) D zr h0 st.ti to st.it1 st.it2 p1 p2 ?_ fun h' kk=>⟨rfl,?_⟩
  ·rcases hend with h|h
   ·exact .inl (by simp;omega)
   ·exact .inr (by simp;omega)
  ·refine Inv.nT (ch:=[z,TO,i1,i2]) I (fun b o hb e=>?_) fun b hb=>hf b (by
    simp only[QCq,QAz,or_false]at hb⊢;rcases hb with h|h|h|h<;>simp[h])
   simp only[QCq,QAz,or_false,not_or]at hb
   exact kk b o hb.1 hb.2.1 hb.2.2.1 hb.2.2.2 e
 self:=fun A i s Q E st h=>by obtain⟨f0,f1,zr,h0⟩:=st.zr;exact m9 zr h
end Mini
end
section
namespace Mini
open PySem L2
theorem qW:∀{xs ys:List D}{i:Nat}{d:D},(cC xs ys)[i]? =some d->∃x y,xs[i]? =some x/\ys[i]? =some y/\d=.tup [x,y]
 |[],_,i,d,h=>by simp[cC]at h
 |_::_,[],i,d,h=>by simp[cC]at h
 |x::xs,y::ys,0,d,h=>by simp[cC]at h;exact⟨x,y,rfl,rfl,h.symm⟩
 |x::xs,y::ys,i+1,d,h=>by rw[cC,List.getElem?_cons_succ]at h;simpa using qW h
theorem qU:∀(xs ys:List D),(cC xs ys).length=min xs.length ys.length
 |[],ys=>by simp[cC]
 |_::_,[]=>by simp[cC]
 |x::xs,y::ys=>by rw[cC,QBq,qU xs ys,QBq,QBq];omega
theorem vU{H:Hp}{b1 b2:Bool}{vs ws:List V}(h1:QR K b1 H l1 vs)(h2:QR K b2 H l2 ws)(d1:ao K H xs vs)(d2:ao K H ys ws)(hz:vs.length<=sizeLine):
  Gives K (Itz K b1 b2 l1 l2 vs ws) (cC xs ys) H where
 go:=fun H1 p i d e=>by obtain⟨x,y,ex,ey,_⟩:=qW e;obtain⟨v,ev,_⟩:=d1.get ex;obtain⟨u,eu,_⟩:=d2.get ey;exact⟨p.wV h1,p.wV h2,v,u,ev,eu⟩
 yld:=fun H1 p i d e x H2 y=>by
  obtain⟨a,v,u,hn,rfl,ev,eu,rfl⟩:=y;obtain⟨dx,dy,ex,ey,rfl⟩:=qW e;obtain⟨v',ev',dv⟩:=d1.get ex;obtain⟨u',eu',du⟩:=d2.get ey;rw[ev]at ev';rw[eu]at eu';cases ev';cases eu';have pp:bz H1 (upd H1 a (.tup [v,u])):=by
   refine⟨fun b xs q=>?_,fun b o w q=>?_⟩
   ·rw[ak (fun z=>by subst z;rw[hn]at q;cases q)];exact q
   ·rw[ak (fun z=>by subst z;rw[hn]at q;cases q)];exact q
  exact⟨dN (.inl (.inl aq)) (ao.aZ ((dv.mono p).mono pp) (ao.aZ ((du.mono p).mono pp) ao.dZ)),.inr ⟨a,_,hn,rfl⟩⟩
 stop:=fun H1 p i hi=>by rw[qU]at hi;have:=d1.length;have:=d2.length;exact⟨p.wV h1,p.wV h2,by omega⟩
 len:=by rw[qU];have:=d1.length;omega
def aL.wV{H:Hp}{xs:List D}(h:aL K H d v)(e:bF d=some xs):∃b l vs,v=.ref l/\QR K b H l vs/\ao K H xs vs:=by
 cases d with
 |tup ys=>cases e;obtain⟨a,vs,rfl,hq,l⟩:=cM h;exact⟨false,a,vs,rfl,hq,l⟩
 |lst ys=>cases e;obtain⟨a,vs,rfl,hq,l⟩:=eN h;exact⟨true,a,vs,rfl,hq,l⟩
 |_=>cases e
section
def aa2{H1:Hp}(h:tI K W env r σ H R)(N:Nx K env σ H δ H1):tI K W δ r σ H1 R:=by
 obtain⟨_,h⟩:=h;refine⟨N.gw,?_⟩;cases r with
 |bad=>exact h
 |exc c ε=>exact fun H' N'=>h H' (N.trans N')
 |ok x ε=>obtain⟨d,xs,e1,e2,z⟩:=h;exact⟨d,xs,e1,e2,fun J H' N' G=>z J H' (N.trans N') G⟩
theorem yV{f:D->Ev->Out Rv}(h:tI K W env (r.au f) σ H R)
  (k:∀d δ v H1,Nx K env σ H δ H1->aL K H1 d v->tI K W δ (f d δ) σ H1 R->R' v H1):tD K W env r σ H R':=by
 have step:∀d δ,r.au f=f d δ->∀v H1,Nx K env σ H δ H1->aL K H1 d v->R' v H1:=fun d δ e v H1 N D=>by rw[e]at h;exact k d δ v H1 N D (aa2 h N)
 obtain⟨S,h⟩:=h;refine⟨S,?_⟩;cases r with
 |bad=>exact h
 |exc c δ=>exact h
 |ok x δ=>
  cases x with
  |val d=>exact fun v H1 N D=>step d δ rfl v H1 N D
  |new xs=>exact fun v H1 N D=>step xs.d δ rfl v H1 N D
  |ref i=>exact h
  |tmp xs=>exact h
end
section
theorem YZ(ha:GE X W c m1 a)(hb:GE X W c m2 b)(hg:Gl X "zip")(hm:X.mg "zip"=none)(hs:starEach [a,b] X.env=[(false,eval a X.env),(false,eval b X.env)])(hs2:starEach [b] X.env=[(false,eval b X.env)]):
  GI X W c (.zip m1 m2) tg (.Call (.Name "zip" p) [a,b] [] pos):=by
 intro env γ s σ H R I q;let RR:List V->Hp->Prop:=fun vs H'=>∃ε d1 d2 xs ys v1 v2,vs=[v1,v2]/\aL X.K H' d1 v1/\aL X.K H' d2 v2/\bF d1=some xs/\bF d2=some ys/\Sat X.K ε σ H'/\∀J H2,Nx X.K ε σ H' ε H2->Gives X.K J (cC xs ys) H2->R J H2
 have go:aD X W c m1 σ H fun v1 H1=>aD X W c m2 σ H1 fun v2 H2=>RR [v1,v2] H2:=by
  refine⟨env,yV q fun d1 δ v1 H1 N1 D1 q1=>⟨δ,yV q1 fun d2 ε v2 H2 N2 D2 q2=>?_⟩⟩;cases e1:bF d1 with
  |none=>rw[e1]at q2;exact q2.2.elim
  |some xs=>
   cases e2:bF d2 with
   |none=>rw[e1,e2]at q2;exact q2.2.elim
   |some ys=>rw[e1,e2]at q2;obtain⟨S,d,zs,z1,z2,z3⟩:=q2;cases z1;cases z2;exact⟨ε,d1,d2,xs,ys,v1,v2,rfl,D1.mono N2.pers,D2,e1,e2,S,z3⟩
 refine wpAny_Call_Name_kw (kj I hg hm PyProof.Rows.boot_zip ?_ (by decide) (by decide));refine PyProof.Rows.callWith_type1 (bJ (aC ha.d (aC hb.d aU hs2) (by rw[hs,hs2]) pos γ s σ H RR I go) fun us s1⟨vs,H1,I1,r1,q1⟩=>?_) (by rw[hs,hs2]) (by rw[hs2];rfl);obtain⟨ε,d1,d2,xs,ys,v1,v2,rfl,D1,D2,e1,e2,S2,q3⟩:=q1;obtain⟨b1,l1,vs,rfl,h1,dl1⟩:=D1.wV e1;obtain⟨b2,l2,ws,rfl,h2,dl2⟩:=D2.wV e2;obtain⟨u1,u2,rfl,ru1,ru2⟩:=Vals.two r1;cases ru1;cases ru2;obtain⟨its,rr1,p1,z1,lt1⟩:=Inv.wV I1 h1;obtain⟨its2,rr2,p2,z2,lt2⟩:=Inv.wV I1 h2;refine wk p1 p2 fun h' st sz kk=>?_;obtain⟨f0,f1,zr,h0⟩:=st.zr;refine m9 zr ?_;refine⟨s1.heap.objs.size+4,[s1.heap.objs.size+4,s1.heap.objs.size+2,s1.heap.objs.size+3,s1.heap.objs.size,s1.heap.objs.size+1],_,_,H1,rfl,I1.kept kk,rm (uQ lt1 lt2),st,fun b hb=>?_,q3 _ H1 (Nx.refl S2) (vU h1 h2 dl1 dl2 z1)⟩;have hb':s1.heap.objs.size<=b:=by simp only[QCq,QAz,or_false]at hb;rcases hb with rfl|rfl|rfl|rfl|rfl<;>omega
 exact I1.pM hb' (I1.hok.fresh hb')
end
def Nx.chg{env:Ev}{H0 H:Hp}{u u':HO}(N:Nx K env σ H0 env H)(S:Sat K env σ H0)(h0:H0 d=none)(h:H d=some u)(hu:Fz u):Nx K env σ H0 env (upd H d u'):=by
 have p:=jg (u':=u') h hu;refine⟨N.gw.keep p fun i b w ow hb=>?_,N.sub,N.pers.trans p,fun b w q n=>?_,fun b q=>?_,N.bors⟩
 ·rw[ak (fun z=>by subst z;exact S.nq h0 i (N.sub i b ow))];exact hb
 ·rw[ak (fun z=>by subst z;rw[h0]at q;cases q)];exact N.keep b w q n
 ·refine N.dom b ?_;by_cases hb:b=d
  ·subst hb;rw[aq]at q;cases q
  ·rw[ak hb]at q;exact q
def yr:Fz (.dK kvs):=by constructor;all_goals (intros;intro z;cases z)
def Cx.under(X:Cx)(A:Around):Cx:={X with A:=A}
theorem Inv.under{A:Around}{σ:St}{H:Hp}(I:Inv X γ σ H s)(h1:A.handled=X.A.handled)(h2:A.frames=X.A.frames):Inv (Cx.under X A) γ σ H s:=
 ⟨⟨I.ok.mod,I.ok.kind,I.ok.glob,I.ok.blt,I.ok.above,I.ok.inj,I.ok.has,I.ok.cab,fun hc=>h1.trans (I.ok.hd hc),h2.trans I.ok.frames,I.ok.stk,I.ok.exf,I.ok.bs,I.ok.bsz,I.ok.noex,I.ok.exfs,I.ok.my,I.ok.frf⟩,
  I.os,I.bare,I.base,I.loc,I.cell,I.free,I.freeC,I.pin,I.hok,I.len⟩
def Inv.back{A:Around}{σ:St}{H:Hp}(I:Inv (Cx.under X A) γ σ H s)(h1:X.A.handled=A.handled)(h2:X.A.frames=A.frames):Inv X γ σ H s:=
 Inv.under (X:=Cx.under X A) I h1 h2
def qO{M:Model}{β:Type}{p:Pos}{m:Sem β}{Q:β->Shared->Prop}{E:QZq}
  (h:wpAny M A (letOwnedTupleGo (.Name x p) it u) (fun _ s=>wpAny M A m Q E s) E s):wpAny M A m Q E s:=by
 have:=QKq h;exact this
def eG:entryFor table "dict.update.loop"=some Builtin.«dict.update.loop»:=entryFor_of_tree (by kernel_rfl)
def cg:plainId "dict.update.loop"=true:=by decide+kernel
def Ay{d:D}(h:dictOf ks vs (d::r)=some p):∃k v,d=.tup [k,v]/\keyOk k=true/\dictOf (putD k v ks vs).1 (putD k v ks vs).2 r=some p:=by
 unfold dictOf at h;split at h
 ·rename_i e;cases e
 ·rename_i k v r' e;cases e;split at h
  ·rename_i hk;exact⟨k,v,rfl,hk,h⟩
  ·cases h
 ·cases h
def Hu{xs:List D}(h:i<xs.length):∃d,xs[i]? =some d/\xs.drop i=d::xs.drop (i+1):=⟨xs[i],QXq h,List.drop_eq_getElem_cons h⟩
def Es{d:D}(h:kJ ks vs (d::r)=some p):∃k v,d=.tup [k,v]/\cH k=true/\kJ (putD k v ks vs).1 (putD k v ks vs).2 r=some p:=by
 unfold kJ at h;split at h
 ·rename_i e;cases e
 ·rename_i k v r' e;cases e;split at h
  ·rename_i hk;exact⟨k,v,rfl,hk,h⟩
  ·cases h
 ·cases h
def Qs:Fz (.dS xs):=by constructor;all_goals (intros;intro z;cases z)
def Qg{w:World}(h:Heap)(hb:sysModules<h.objs.size):bZ P w H (h.push {cls:=.type "dict",data:=.dict #[]}) h.objs.size (.dS []):=
 ⟨QIq _,beq_eq_false_iff_ne.mpr (Ne.symm (Qvz hb)),List.nodup_nil,[],_, #[],0,.nil,Qzq _ rfl,⟨rfl,rfl,rfl⟩,rfl,rfl⟩
noncomputable def Ba(xs:List D):Option Ob:=((dictOf [] [] xs).map fun p=>Ob.dct p.1 p.2).or ((kJ [] [] xs).map fun p=>Ob.sdt p.1 p.2)
def Bh xs:ZD .dict xs=(Ba xs).map .new:=by unfold Ba;simp only[ZD];cases dictOf [] [] xs<;>cases kJ [] [] xs<;>rfl
def Qm{o:Ob}(h:Ba xs=some o):(∃p,dictOf [] [] xs=some p/\o=.dct p.1 p.2)\/∃p,kJ [] [] xs=some p/\o=.sdt p.1 p.2:=by
 unfold Ba at h;cases e:dictOf [] [] xs with
 |some p=>rw[e]at h;cases h;exact .inl ⟨p,rfl,rfl⟩
 |none=>
  rw[e]at h;cases e2:kJ [] [] xs with
  |some p=>rw[e2]at h;cases h;exact .inr ⟨p,rfl,rfl⟩
  |none=>rw[e2]at h;cases h
section
theorem Kr(hA:X.A=A.in1)(hc:X.calm=true)(T:Turn X.prog X.w X.K (.Name x p) J fp it tn)(G:Gives X.K J xs H1)(S:Sat X.K env τ H0)(h0:H0 d=none)
  (fin:∀s H,Inv X γ σ H s->Nx X.K env τ H0 env H->jq X.K H (.dct ks' vs') d->R (.ok (.ret .none)) s):
  ∀(n i:Nat)(s:Shared)(H:Hp)(kvs:List (Key×V))(vs:List D),xs.length-i=n->Inv X γ σ H s->(∀b∈fp,dB X γ H b)->tn i s.heap->bz H1 H->Nx X.K env τ H0 env H->H d=some (.dK kvs)->
   ao X.K H vs (kvs.map (·.2))->dictOf (kvs.map fun q=>dm q.1) vs (xs.drop i)=some (ks',vs')->kvs.length<=i->i<=xs.length->
   codeAny (model X.prog X.w) A (.builtin "dict.update.loop" ⟨[.ref d,.ref it,rawInt ((i:Nat):Int),.none],[]⟩) R s:=by
 intro n;induction n with
 |zero=>intro i s H kvs vs hn I hf st P N hd dl ho hk hi;refine codeAny_builtin eG ?_;rw[Around.under_plainId cg _,<-hA];refine QKq (QGq (T.done X rfl rfl rfl hc i γ s σ H _ I hf st (G.stop H P i (by omega))) (fun r s1 h=>?_) fun _ _ h=>h);obtain⟨rfl,I1⟩:=h;rw[List.drop_eq_nil_of_le (by omega)]at ho;cases ho;exact QKq (QKz (QKz (fin s1 H I1 N ⟨_,hd,kvs,rfl,rfl,dl⟩)))
 |succ n ih=>
  intro i s H kvs vs hn I hf st P N hd dl ho hk hi;have hlt:i<xs.length:=by omega
  obtain⟨dd,ed,edr⟩:=Hu hlt;rw[edr]at ho;obtain⟨k,v,rfl,hkk,ho'⟩:=Ay ho;refine codeAny_builtin eG ?_;rw[Around.under_plainId cg _,<-hA];refine QKq (QGq (T.item X rfl rfl rfl hc i γ s σ H _ I hf st (G.go H P i _ ed)) (fun r s1 h=>?_) fun _ _ h=>h);obtain⟨u,rfl,h⟩:=h;refine qO (QGq h (fun _ s2 h2=>?_) fun _ _ h=>h);obtain⟨y,H',I',ry,yl,st',nf⟩:=h2;obtain⟨Dy,hH⟩:=G.yld H P i _ ed y H' yl;obtain⟨a,ws,rfl,hq,l⟩:=cM Dy;cases ry;obtain⟨vk,r1,rfl,Dk,l⟩:=ao.aH.mp l;obtain⟨vv,r2,rfl,Dv,l⟩:=ao.aH.mp l;have:=ao.bV.mp l;subst this;obtain⟨kk,rfl⟩:=gQ hkk;have ek:=lY Dk;subst ek;obtain⟨its,rr,pt,_⟩:=I'.tuple hq;obtain⟨uk,uv,rfl,rk,rv⟩:=Vals.two rr;obtain⟨o,eo,ec,nn,edt⟩:=pt;have N':Nx X.K env τ H0 env H'/\bz H H'/\H' d=some (.dK kvs):=by
   rcases hH with rfl|⟨q,ws,hq0,rfl⟩
   ·exact⟨N,bz.refl _,hd⟩
   ·have NL:=Nx.laid (o:=.tup ws) N.gw hq0;exact⟨N.trans NL,NL.pers,by rw[ak (fun z=>by subst z;rw[hq0]at hd;cases hd)];exact hd⟩
  obtain⟨N',PP,hd'⟩:=N';refine QKq (Qqq ?_);refine QKq (wpAny_tryCatch ?_);have hty:s2.TypeIs (.ref a) "tuple":=⟨o,eo,ec⟩;refine QKq (wpAny_typeOf hty ?_);refine QKq (wpAny_seqItems eo edt (QKz ?_));refine Qqq ?_;obtain⟨z,hds,vvs,rel,dd⟩:=Hv I'.hok hd';have hz:vvs.length<=sizeLine:=by rw[<-rel.length];exact z
  have hG:=G.len;have hl:(putK kvs kk vv).length<=i+1:=by have:=j9 kvs kk vv;omega
  refine wpAny_dictSet_pairs (qj rk) dd fun h' dd' hs=>?_;have he:∃q,h'.get? d=some q:=let ⟨q,_,_,hq,_⟩:=dd';⟨q,hq⟩
  have I2:Inv X γ σ (upd H' d (.dK (putK kvs kk vv))) {s2 with heap:=h',toks:=s2.toks+1}:=iH I' (by rw[hd'];exact True.intro) hs he (Ep (by omega) hds (rel.put kk rv) dd');have N2:=Nx.chg (u':=.dK (putK kvs kk vv)) N' S h0 hd' yr;have p2:=jg (u':=.dK (putK kvs kk vv)) hd' yr;obtain⟨g1,g2⟩:=Gu Dv (dl.mono PP);refine QKz ⟨plainId_quiet cg _,?_⟩;refine ih (i+1) _ _ (putK kvs kk vv) _ (by omega) I2 (fun b hb=>?_) (T.keep _ _ _ st' fun b hb o e=>?_) ((P.trans PP).trans p2) N2 aq (g2.mono p2) ?_ hl (by omega)
  ·have nb:b≠d:=fun e=>by subst e;rw[nf b hb]at hd';cases hd'
   exact⟨by rw[ak nb];exact nf b hb,(hf b hb).2⟩
  ·have nb:b≠d:=fun e=>by subst e;rw[nf b hb]at hd';cases hd'
   exact(hs.2 b nb).trans e
  ·rw[<-g1];exact ho'
theorem Er(hA:X.A=A.in1)(hu:X.A.units+8<cLine)(hc:X.calm=true)(T:Turn X.prog X.w X.K (.Name x p) J fp it tn)(G:Gives X.K J xs H1)(S:Sat X.K env τ H0)(h0:H0 d=none)
  (fin:∀s H,Inv X γ σ H s->Nx X.K env τ H0 env H->jq X.K H (.sdt ks' vs') d->R (.ok (.ret .none)) s):
  ∀(n i:Nat)(s:Shared)(H:Hp)(kvs:List SV)(ks vs:List D),xs.length-i=n->Inv X γ σ H s->(∀b∈fp,dB X γ H b)->tn i s.heap->bz H1 H->Nx X.K env τ H0 env H->H d=some (.dS kvs)->
   gO X.K H ks vs kvs->kJ ks vs (xs.drop i)=some (ks',vs')->kvs.length<=i->i<=xs.length->
   codeAny (model X.prog X.w) A (.builtin "dict.update.loop" ⟨[.ref d,.ref it,rawInt ((i:Nat):Int),.none],[]⟩) R s:=by
 intro n;induction n with
 |zero=>intro i s H kvs ks vs hn I hf st P N hd dl ho hk hi;refine codeAny_builtin eG ?_;rw[Around.under_plainId cg _,<-hA];show wpAny _ X.A (pyNext (.ref it)>>=_) _ _ s;refine QKq (QGq (T.done X rfl rfl rfl hc i γ s σ H _ I hf st (G.stop H P i (by omega))) (fun r s1 h=>?_) fun _ _ h=>h);obtain⟨rfl,I1⟩:=h;rw[List.drop_eq_nil_of_le (by omega)]at ho;cases ho;show wpAny _ X.A (Builtin.Dict.addKeywords d []>>=_) _ _ s1;exact QKq (QKz (QKz (fin s1 H I1 N ⟨_,hd,kvs,rfl,dl⟩)))
 |succ n ih=>
  intro i s H kvs ks vs hn I hf st P N hd dl ho hk hi;have hlt:i<xs.length:=by omega
  obtain⟨dd,ed,edr⟩:=Hu hlt;rw[edr]at ho;obtain⟨k,v,rfl,hkk,ho'⟩:=Es ho;refine codeAny_builtin eG ?_;rw[Around.under_plainId cg _,<-hA];show wpAny _ X.A (pyNext (.ref it)>>=_) _ _ s;refine QKq (QGq (T.item X rfl rfl rfl hc i γ s σ H _ I hf st (G.go H P i _ ed)) (fun r s1 h=>?_) fun _ _ h=>h);obtain⟨u,rfl,h⟩:=h;refine qO (QGq h (fun _ s2 h2=>?_) fun _ _ h=>h);obtain⟨y,H',I',ry,yl,st',nf⟩:=h2;obtain⟨Dy,hH⟩:=G.yld H P i _ ed y H' yl;obtain⟨a,ws,rfl,hq,l⟩:=cM Dy;cases ry;obtain⟨vk,r1,rfl,Dk,l⟩:=ao.aH.mp l;obtain⟨vv,r2,rfl,Dv,l⟩:=ao.aH.mp l;have:=ao.bV.mp l;subst this;obtain⟨ka,rfl,hka⟩:=iK hkk Dk;obtain⟨its,rr,pt,_⟩:=I'.tuple hq;obtain⟨uk,uv,rfl,rk,rv⟩:=Vals.two rr;cases rk;obtain⟨o,eo,ec,nn,edt⟩:=pt;have N':Nx X.K env τ H0 env H'/\bz H H'/\H' d=some (.dS kvs):=by
   rcases hH with rfl|⟨q,ws,hq0,rfl⟩
   ·exact⟨N,bz.refl _,hd⟩
   ·have NL:=Nx.laid (o:=.tup ws) N.gw hq0;exact⟨N.trans NL,NL.pers,by rw[ak (fun z=>by subst z;rw[hq0]at hd;cases hd)];exact hd⟩
  obtain⟨N',PP,hd'⟩:=N';have sr:=dl.mono PP;show wpAny _ X.A (holding [.ref a] _>>=_) _ _ s2;refine QKq (Qqq ?_);refine QKq (wpAny_tryCatch ?_);unfold Builtin.Dict.pairItems;have hty:s2.TypeIs (.ref a) "tuple":=⟨o,eo,ec⟩;refine QKq (wpAny_typeOf hty ?_);rw[if_pos (by decide)];refine QKq (wpAny_seqItems eo edt (QKz ?_));show wpAny _ X.A (holding [.ref ka,uv] (dictSet d (.ref ka) uv)) _ _ s2;refine Qqq ?_;obtain⟨ys,pr,dd,y,z⟩:=lX I' (.inl hd') sr.vN;have hz:ys.length<=sizeLine:=by have:=congrArg List.length (lV pr);simp at this;omega
  have hG:=G.len;have hl:(pA (kC k) ka vv kvs).length<=i+1:=by have:=Gr (k:=kC k) (a:=ka) (xs:=kvs) vv;omega
  refine wpAny_dictSet_heap (knd:=eY X.prog X.w) (hsz:=hz) hu (iR I' hka) dd fun h' dd' hs=>?_;have he:∃q,h'.get? d=some q:=let ⟨q,_,_,hq,_⟩:=dd';⟨q,hq⟩
  have I2:Inv X γ σ (upd H' d (.dS (pA (kC k) ka vv kvs))) {s2 with heap:=h',toks:=s2.toks+(eY X.prog X.w).draws (kC k)}:=iH I' (by rw[hd'];exact True.intro) hs he (Gm (by omega) y (nZ rv pr) dd');have N2:=Nx.chg (u':=.dS (pA (kC k) ka vv kvs)) N' S h0 hd' Qs;have p2:=jg (u':=.dS (pA (kC k) ka vv kvs)) hd' Qs;have g:=sr.put hkk Dk Dv;refine QKz ⟨plainId_quiet cg _,?_⟩;refine ih (i+1) _ _ (pA (kC k) ka vv kvs) _ _ (by omega) I2 (fun b hb=>?_) (T.keep _ _ _ st' fun b hb o e=>?_) ((P.trans PP).trans p2) N2 aq (g.mono p2) ho' hl (by omega)
  ·have nb:b≠d:=fun e=>by subst e;rw[nf b hb]at hd';cases hd'
   exact⟨by rw[ak nb];exact nf b hb,(hf b hb).2⟩
  ·have nb:b≠d:=fun e=>by subst e;rw[nf b hb]at hd';cases hd'
   exact(hs.2 b nb).trans e
end
section
variable{E:QZq}
def um{oo:Ob}(hc:X.calm=true)(hu:X.A.units+60<cLine)(I:Inv X γ σ H s)(S:Sat X.K env τ H)(ho:s.heap.get? o=some ob)(hcl:ob.cls=.type T)(hT:(T !="dict")=true)(hd:Ba xs=some oo)
  (hkey:∀(s1:Shared)(E:QZq)(Q:Option Value->Shared->Prop),s1.heap.get? o=some ob->(∀h' tk,(∀b u,s1.heap.get? b=some u->h'.get? b=some u)->Q none {s1 with heap:=h',toks:=tk})->
   wpAny (model X.prog X.w) X.A.in1.in1 (getAttr? (.ref o) "keys") Q E s1)
  (hit:∀(s1:Shared)(u:HO)(E:QZq)(Q:QZq),Inv (Cx.under X X.A.in1.in1) γ σ (upd H s.heap.objs.size u) s1->Nx X.K env τ H env (upd H s.heap.objs.size u)->(∀b u,s.heap.get? b=some u->s1.heap.get? b=some u)->
   (∀s2 it fp tn J,Inv (Cx.under X X.A.in1.in1) γ σ (upd H s.heap.objs.size u) s2->Turn X.prog X.w X.K (.Name x p) J fp it tn->tn 0 s2.heap->(∀b∈fp,dB X γ (upd H s.heap.objs.size u) b)->Gives X.K J xs (upd H s.heap.objs.size u)->Q (.ref it) s2)->
   wpAny (model X.prog X.w) X.A.in1.in1 (pyIter (.ref o)) Q E s1)
  (h:∀a s' H',Inv X γ σ H' s'->Nx X.K env τ H env H'->jq X.K H' oo a->H a=none->Q (.ref a) s'):
  wpAny (model X.prog X.w) X.A (call (.type "dict") [.ref o]) Q E s:=by
 have hfr:H s.heap.objs.size=none:=I.hok.fresh (QVz _);have LP:∃u0,(∀H',bZ X.prog X.w H' (s.heap.push {cls:=.type "dict",data:=.dict #[]}) s.heap.objs.size u0)/\∀(s3:Shared)it fp tn J(R:Result->Shared->Prop),(∀s4 H4,Inv (Cx.under X X.A.in1.in1) γ σ H4 s4->Nx X.K env τ H env H4->jq X.K H4 oo s.heap.objs.size->R (.ok (.ret .none)) s4)->
   Inv (Cx.under X X.A.in1.in1) γ σ (upd H s.heap.objs.size u0) s3->Turn X.prog X.w X.K (.Name x p) J fp it tn->tn 0 s3.heap->(∀b∈fp,dB X γ (upd H s.heap.objs.size u0) b)->Gives X.K J xs (upd H s.heap.objs.size u0)->Nx X.K env τ H env (upd H s.heap.objs.size u0)->
   codeAny (model X.prog X.w) X.A.in1 (.builtin "dict.update.loop" ⟨[.ref s.heap.objs.size,.ref it,rawInt ((0:Nat):Int),.none],[]⟩) R s3:=by
  have hu2:(Cx.under X X.A.in1.in1).A.units+8<cLine:=by
   show X.A.in1.in1.units+8<cLine;have:X.A.in1.in1.units<=X.A.units+2:=by simp[Around.in1]
   omega
  rcases Qm hd with ⟨pr,hd1,rfl⟩|⟨pr,hd1,rfl⟩
  ·exact⟨.dK [],fun H'=>tZ s.heap I.big,fun s3 it fp tn J R fin I3 Tn st hf G N1=>Kr (X:=Cx.under X X.A.in1.in1) (A:=X.A.in1) rfl hc Tn G S hfr fin xs.length 0 s3 _ [] [] rfl I3 hf st (bz.refl _) N1 aq ao.dZ hd1 (QVz _) (QIq _)⟩
  ·exact⟨.dS [],fun H'=>Qg s.heap I.big,fun s3 it fp tn J R fin I3 Tn st hf G N1=>Er (X:=Cx.under X X.A.in1.in1) (A:=X.A.in1) rfl hu2 hc Tn G S hfr fin xs.length 0 s3 _ [] [] [] rfl I3 hf st (bz.refl _) N1 aq gO.nil hd1 (QVz _) (QIq _)⟩
 obtain⟨u0,ok0,LP⟩:=LP;refine callType_codes (Q₁:=fun obj θ=>obj=.ref s.heap.objs.size/\θ={s with heap:=s.heap.push {cls:=.type "dict",data:=.dict #[]}}) PySem.F.kt_called_dict (PySem.F.kt_typeCall_dict_1 _) PySem.F.entry_dict_init (kt_code_dict_new _ ⟨rfl,rfl⟩) ?_;rintro obj θ ⟨rfl,rfl⟩;have hnew:(s.heap.push {cls:=.type "dict",data:=.dict #[]}).DictOf (bQ X.prog X.w) s.heap.objs.size []:=Heap.DictOf.new s.heap;have k1:∀b u,s.heap.get? b=some u->(s.heap.push {cls:=.type "dict",data:=.dict #[]}).get? b=some u:=fun _ _ q=>QWq _ q;have I1:=I.laid (a:=s.heap.objs.size) (o:=u0) (h':=s.heap.push {cls:=.type "dict",data:=.dict #[]}) (t':=s.toks) k1 (QVz _) (ok0 _);have N1:=Nx.laid (o:=u0) S hfr;refine⟨hnew.typeIs,PySem.F.args_dict_init_2 _ _,?_⟩;unfold Builtin.«dict.__init__»;refine QKq ?_;unfold Builtin.Dict.selfAndRest;refine QKq (wpAny_notOrdered_dict hnew.typeIs ?_);show wpAny _ _ (pure (s.heap.objs.size,[Value.ref o])) _ _ _;refine QKz ?_;show wpAny _ _ (Builtin.Dict.updateFrom "dict.__init__" s.heap.objs.size (.ref o) [] .none) _ _ _;unfold Builtin.Dict.updateFrom;have hty:(⟨s.heap.push {cls:=.type "dict",data:=.dict #[]},s.gens,s.drawn,s.toks,s.os⟩:Shared).TypeIs (.ref o) T:=⟨ob,k1 o ob ho,hcl⟩;refine QKq (wpAny_typeOf hty ?_);have ht:((Value.type T) !=(Value.type "dict"))=true:=by
  have:T≠"dict":=by simpa using hT
  simpa using this
 rw[if_pos ht];refine QKq (hkey _ _ _ (k1 o ob ho) fun h2 tk k2=>?_);simp only[Option.isNone_none,if_true];refine QKq (wpAny_rule ?_);have I2:Inv X γ σ _ {s with heap:=h2,toks:=tk}:=I1.kept (t':=tk) k2;refine QKq (hit _ _ _ _ (Inv.under I2 rfl rfl) N1 (fun b u q=>k2 b u (k1 b u q)) fun s3 it fp tn J I3 Tn st hf G=>?_);refine QKq (QKz (QKz ⟨plainId_quiet cg _,?_⟩));exact LP s3 it fp tn J _ (fun s4 H4 I4 N4 O4=>⟨rfl,h _ s4 H4 (Inv.back I4 rfl rfl) N4 O4 hfr⟩) I3 Tn st hf G N1
end
def Gives.mono{J:It}{H H':Hp}(g:Gives K J xs H)(p:bz H H'):Gives K J xs H':=
 ⟨fun H1 q=>g.go H1 (p.trans q),fun H1 q=>g.yld H1 (p.trans q),fun H1 q=>g.stop H1 (p.trans q),g.len⟩
def Inv.FN{E:QZq}{σ:St}{H:Hp}(I:Inv X γ σ H s):Inv {X with xe:=E} γ σ H s:=
 ⟨⟨I.ok.mod,I.ok.kind,I.ok.glob,I.ok.blt,I.ok.above,I.ok.inj,I.ok.has,I.ok.cab,I.ok.hd,I.ok.frames,I.ok.stk,I.ok.exf,I.ok.bs,I.ok.bsz,I.ok.noex,I.ok.exfs,I.ok.my,I.ok.frf⟩,
  I.os,I.bare,I.base,I.loc,I.cell,I.free,I.freeC,I.pin,I.hok,I.len⟩
def Inv.unE{E:QZq}{σ:St}{H:Hp}(I:Inv {X with xe:=E} γ σ H s):Inv X γ σ H s:=Inv.FN (X:={X with xe:=E}) I
theorem Inv.seqObj{X:Cx}{σ:St}{H:Hp}{b:Bool}{l:Addr}(I:Inv X γ σ H s)(h:QR X.K b H l vs):
  ∃(its:Array Value)(k:Nat)(sl:Array (Option Value)),s.heap.get? l=some {cls:=.type (if b then "list" else "tuple"),dict:=none,data:=.seq its k,slots:=sl}:=by
 cases b with
 |true=>obtain⟨its,r,⟨o,n,e,c,d,dt⟩,z⟩:=I.list (QX.sq h);obtain⟨oc,od,odt,os⟩:=o;subst c d dt;exact⟨_,_,_,e⟩
 |false=>obtain⟨its,r,⟨o,e,c,d,n,dt⟩,z⟩:=I.Cd h;obtain⟨oc,od,odt,os⟩:=o;subst c d dt;exact⟨_,_,_,e⟩
def xU{xs:List D}(h:bF d=some xs):items d=some xs:=by cases d<;>simp[bF]at h<;>simp[items,h]
noncomputable def Vy(K:QQq):List V->Hp->VK->Prop:=fun us H Q=>∃env τ v d xs pr,us=[v]/\Sat K env τ H/\aL K H d v/\bF d=some xs/\Ba xs=some pr/\
 ∀a H',Nx K env τ H env H'->jq K H' pr a->H a=none->Q (.ref a) H'
section
def Fe(hc:X.calm=true)(hu:X.A.units+60<cLine):iw X (.type "dict") (Vy X.K):=by
 intro γ s σ H us ws Q I r h;obtain⟨env,τ,v,d,xs,pr,rfl,S,Dv,es,hd,q⟩:=h;obtain⟨u,rfl,ru⟩:=vals1 r;obtain⟨bb,l,vs,rfl,hq,dl⟩:=Dv.wV es;cases ru;obtain⟨its,k,sl,eo⟩:=Inv.seqObj I hq;refine um (x:=("_")) (p:=default) hc hu I S eo rfl (by cases bb<;>decide) hd (fun s1 E Q e1 k1=>?_) (fun s1 u E Q I1 N1 k1 hQ=>?_) fun a s' H' I' N' O' h'=>⟨.ref a,H',I',rfl,q a H' N' O' h'⟩
 ·cases bb with
  |true=>exact sY e1 (I.ok.hd hc) k1
  |false=>exact qG e1 (I.ok.hd hc) k1
 ·refine QGq (Ox (tg:=.Name ("_") default) (R:=fun J H'=>Gives X.K J xs H'/\H'=upd H s.heap.objs.size u) (Inv.FN I1) (show RelV (.ref l) _ from rfl) (Dv.mono N1.pers) (xU es) fun J g=>⟨g,rfl⟩) (fun v2 s2 h2=>?_) fun _ _ h=>h;obtain⟨it,fp,tn,J,H',rfl,I2,T,st,hf,g,rfl⟩:=h2;exact hQ s2 it fp tn J (Inv.unE I2) T st hf g
def Qk{σ:St}{Q:VK}(hv:m.aF=none)(q:tM X.K W env (ev c (.bi .dict m) env) σ H Q):aD X W c m σ H fun v H1=>Vy X.K [v] H1 Q:=by
 simp only[yK,hv]at q;refine⟨env,aO q fun d δ v H1 N1 D1 q1=>?_⟩;obtain⟨z,ez,S,q3⟩:=dC q1;simp only[b1]at ez;cases es:bF d with
 |none=>rw[es]at ez;cases ez
 |some xs=>
  rw[es]at ez;simp only[QHq,Bh]at ez;cases ed:Ba xs with
  |none=>rw[ed]at ez;cases ez
  |some pr=>rw[ed]at ez;cases ez;exact⟨δ,σ,v,d,xs,pr,rfl,S,D1,es,ed,fun a H' N O h0=>q3 _ H' N ⟨a,rfl,O,h0⟩⟩
def Uk(hc:X.calm=true)(hu:X.A.units+60<cLine)(ha:GE X W c m a)(hv:m.aF=none)(hg:Gl X "dict")(hm:X.mg "dict"=none)(hs:starEach [a] X.env=[(false,eval a X.env)]):
  GE X W c (.bi .dict m) (.Call (.Name "dict" p) [a] [] pos):=fun env=>
 PE.imp (ji (Fe hc hu) hg hm PyProof.Rows.boot_dict (aC ha.d aU hs) (by decide) (by decide) hs rfl) fun σ H Q h=>Qk hv h
structure agF(X:Cx)(W:Wi)(γ:QQz)(σ:St)(Q:VK)(f:D->Ev->Out Rv)(v:Value)(s:Shared):Prop where
 go:∃z TI TO i1 i2 b1 b2 l1 l2 vs ws xs ys env H,v=.ref z/\Inv X γ σ H s/\Bq z TI TO i1 i2 b1 b2 l1 l2 0 s.heap/\ZipApart z TI TO i1 i2 l1 l2/\(∀b∈[z,TI,TO,i1,i2],dB X γ H b)/\
  Gives X.K (Itz X.K b1 b2 l1 l2 vs ws) (cC xs ys) H/\tM X.K W env (f (.lst (cC xs ys)) env) σ H Q
theorem K4{env:Ev}{s:Shared}{σ:St}{Q:VK}(ha:GE X W c m1 a)(hb:GE X W c m2 b)(hg:Gl X "zip")(hm:X.mg "zip"=none)
  (hs:starEach [a,b] X.env=[(false,eval a X.env),(false,eval b X.env)])(hs2:starEach [b] X.env=[(false,eval b X.env)])(I:Inv X γ σ H s)(q:tM X.K W env ((ev c (.zip m1 m2) env).au f) σ H Q):
  wpAny (model X.prog X.w) X.A (eval (.Call (.Name "zip" p) [a,b] [] pos) X.env) (agF X W γ σ Q f) X.xe s:=by
 simp only[aek]at q;let RR:List V->Hp->Prop:=fun vs H'=>∃ε d1 d2 xs ys v1 v2,vs=[v1,v2]/\aL X.K H' d1 v1/\aL X.K H' d2 v2/\bF d1=some xs/\bF d2=some ys/\tM X.K W ε (f (.lst (cC xs ys)) ε) σ H' Q
 have asc:∀(o:Out Rv)g,(o.au g).au f=o.au fun d e=>(g d e).au f:=fun o g=>by
  cases o with
  |ok x e=>cases x<;>rfl
  |exc c e=>rfl
  |bad=>rfl
 rw[asc]at q;have go:aD X W c m1 σ H fun v1 H1=>aD X W c m2 σ H1 fun v2 H2=>RR [v1,v2] H2:=by
  refine⟨env,aO q fun d1 δ v1 H1 N1 D1 q1=>⟨δ,?_⟩⟩;rw[asc]at q1;refine aO q1 fun d2 ε v2 H2 N2 D2 q2=>?_;cases e1:bF d1 with
  |none=>rw[e1]at q2;exact q2.2.elim
  |some xs=>
   cases e2:bF d2 with
   |none=>rw[e1,e2]at q2;exact q2.2.elim
   |some ys=>rw[e1,e2]at q2;exact⟨ε,d1,d2,xs,ys,v1,v2,rfl,D1.mono N2.pers,D2,e1,e2,q2⟩
 refine wpAny_Call_Name_kw (kj I hg hm PyProof.Rows.boot_zip ?_ (by decide) (by decide));refine PyProof.Rows.callWith_type1 (bJ (aC ha.d (aC hb.d aU hs2) (by rw[hs,hs2]) pos γ s σ H RR I go) fun us s1⟨vs,H1,I1,r1,q1⟩=>?_) (by rw[hs,hs2]) (by rw[hs2];rfl);obtain⟨ε,d1,d2,xs,ys,v1,v2,rfl,D1,D2,e1,e2,q3⟩:=q1;obtain⟨b1,l1,vs,rfl,h1,dl1⟩:=D1.wV e1;obtain⟨b2,l2,ws,rfl,h2,dl2⟩:=D2.wV e2;obtain⟨u1,u2,rfl,ru1,ru2⟩:=Vals.two r1;cases ru1;cases ru2;obtain⟨its,rr1,p1,z1,lt1⟩:=Inv.wV I1 h1;obtain⟨its2,rr2,p2,z2,lt2⟩:=Inv.wV I1 h2;refine wk p1 p2 fun h' st sz kk=>?_;refine⟨s1.heap.objs.size+4,s1.heap.objs.size+2,s1.heap.objs.size+3,s1.heap.objs.size,s1.heap.objs.size+1,b1,b2,l1,l2,vs,ws,xs,ys,ε,H1,rfl,I1.kept kk,st,uQ lt1 lt2,fun b hb=>?_,vU h1 h2 dl1 dl2 z1,q3⟩;have hb':s1.heap.objs.size<=b:=by simp only[QCq,QAz,or_false]at hb;rcases hb with rfl|rfl|rfl|rfl|rfl<;>omega
 exact I1.pM hb' (I1.hok.fresh hb')
theorem Bq.lt{z TI TO i1 i2:Addr}{b1 b2:Bool}{k:Nat}(st:Bq z TI TO i1 i2 b1 b2 l1 l2 k h):∀b∈[z,TI,TO,i1,i2],b<h.objs.size:=by
 intro b hb;obtain⟨f0,f1,zr,_⟩:=st.zr;obtain⟨x,y,to⟩:=st.to;simp only[QCq,QAz,or_false]at hb;rcases hb with rfl|rfl|rfl|rfl|rfl
 ·exact Qqz zr
 ·exact Qqz st.ti
 ·exact Qqz to
 ·exact st.it1.lt
 ·exact st.it2.lt
theorem Eg(hc:X.calm=true)(hu:X.A.units+60<cLine)(ha:GE X W c m1 a)(hb:GE X W c m2 b)(hg:Gl X "zip")(hm:X.mg "zip"=none)
  (hs:starEach [a,b] X.env=[(false,eval a X.env),(false,eval b X.env)])(hs2:starEach [b] X.env=[(false,eval b X.env)])(hg':Gl X "dict")(hm':X.mg "dict"=none)
  (hs':starEach [.Call (.Name "zip" q1) [a,b] [] q2] X.env=[(false,eval (.Call (.Name "zip" q1) [a,b] [] q2) X.env)]):
  GE X W c (.bi .dict (.zip m1 m2)) (.Call (.Name "dict" p) [.Call (.Name "zip" q1) [a,b] [] q2] [] pos):=by
 intro env γ s σ H Q I q;simp only[yK,E.aF]at q;refine wpAny_Call_Name_kw (kj I hg' hm' PyProof.Rows.boot_dict ?_ (by decide) (by decide));refine PyProof.Rows.callWith_type1 ?_ hs' rfl;refine Calls.spliced_cons (bJ (K4 ha hb hg hm hs hs2 I (by simpa only[yK]using q)) fun u s1 h1=>Calls.spliced_nil ?_);obtain⟨z,TI,TO,i1,i2,b1,b2,l1,l2,vs,ws,xs,ys,δ,H1,rfl,I1,st,ap,hf,G,q1⟩:=h1.go;obtain⟨r,er,S,q3⟩:=dC q1;simp only[Mini.b1,bF,QHq,Bh]at er;cases ed:Ba _ with
 |none=>rw[ed]at er;cases er
 |some pr=>
  rw[ed]at er;cases er;obtain⟨f0,f1,zr,h0⟩:=st.zr;refine um (x:=("_")) (p:=default) hc hu I1 S zr rfl (by decide) ed (fun s2 E Q e1 k1=>uM e1 (I1.ok.hd hc) k1) (fun s2 u E Q I2 N2 k2 hQ=>?_)
   fun a s' H' I' N' O' h'=>⟨.ref a,H',I',rfl,q3 _ H' N' ⟨a,rfl,O',h'⟩⟩
  refine m9 (k2 _ _ zr) (hQ s2 z [z,TI,TO,i1,i2] _ _ I2 (rm ap) ((rm (P:=X.prog) (w:=X.w) (K:=X.K) (tg:=.Name ("_") default) (vs:=vs) (ws:=ws) ap).keep 0 _ _ st fun b _ o e=>k2 b o e) (fun b hb=>⟨?_,(hf b hb).2⟩) (G.mono N2.pers));rw[ak (Qvz (st.lt b hb))];exact(hf b hb).1
end
section
def Y7{x:Str}(nm:jV X k x):GE X W c (.ref k) (.Name x pos):=by
 intro env;refine PE.imp nm.pe fun σ H Q q=>?_;simp only[aaI]at q;have go:∀o,(env[k]? =some (.own o)\/env[k]? =some (.bor o))->tM X.K W env (.ok (.ref k) env) σ H Q->aN k σ H Q:=fun o e q=>by
  have:∃a,(σ[k]?).join=some (.ref a):=by
   rcases e with e|e
   ·obtain⟨a,z,_⟩:=q.1.sl k _ e;exact⟨a,z⟩
   ·obtain⟨a,z,_⟩:=q.1.sl k _ e;exact⟨a,z⟩
  obtain⟨a,z⟩:=this;exact⟨.ref a,cB z,q.2 _ H (Nx.refl q.1) (cB z)⟩
 cases e:env[k]? with
 |none=>rw[e]at q;exact q.2.elim
 |some s=>
  rw[e]at q;cases s with
  |un=>exact q.2.elim
  |val d=>exact q.2.elim
  |own o=>exact go o (.inl e) q
  |bor o=>exact go o (.inr e) q
def Y5(h:GE X W c m e):GE X W c (.tmp m) e:=by
 intro env;refine PE.imp (h env) fun σ H Q q=>?_;simp only[aem]at q;refine⟨q.1,?_⟩;have q2:=q.2;cases r:ev c m env with
 |bad=>rw[r]at q2;exact q2
 |exc k δ=>rw[r]at q2;exact q2
 |ok x δ=>
  rw[r]at q2;cases x with
  |val d=>exact False.elim q2
  |ref i=>exact False.elim q2
  |tmp o=>exact False.elim q2
  |new o=>exact q2
theorem Lp{env:Ev}{H:Hp}{f:Bool->Ev->Out Rv}(h:tT K W env (r.cT iY f) σ H Q)
  (k:∀b δ H1,Nx K env σ H δ H1->tT K W δ (f b δ) σ H1 Q->R b H1):tT K W env r σ H R:=by
 have step:∀d δ x,x.kO=some d->r=.ok x δ->∃b,iY d=some b/\∀H1,Nx K env σ H δ H1->R b H1:=fun d δ x ex er=>by
  subst er;cases q:iY d with
  |none=>
   cases x with
   |val d'=>cases ex;simp only[Out.cT,Out.au,q]at h;exact h.2.elim
   |new xs=>cases ex;simp only[Out.cT,Out.au,q]at h;exact h.2.elim
   |ref i=>cases ex
   |tmp xs=>cases ex
  |some b=>
   refine⟨b,rfl,fun H1 N=>k b δ H1 N (Vc ?_ N)⟩;cases x with
   |val d'=>cases ex;simp only[Out.cT,Out.au,q]at h;exact h
   |new xs=>cases ex;simp only[Out.cT,Out.au,q]at h;exact h
   |ref i=>cases ex
   |tmp xs=>cases ex
 refine⟨h.1,?_⟩;cases r with
 |bad=>exact h.2
 |exc c δ=>exact h.2
 |ok x δ=>
  cases x with
  |val d=>obtain⟨b,e,q⟩:=step d δ _ rfl rfl;exact⟨d,b,rfl,e,q⟩
  |new xs=>obtain⟨b,e,q⟩:=step xs.d δ _ rfl rfl;exact⟨xs.d,b,rfl,e,q⟩
  |ref i=>exact h.2.elim
  |tmp xs=>exact h.2.elim
def YL(ht:GT X W c m1 t)(ha:GT X W c m2 a)(hb:GT X W c m3 b):GT X W c (.ite m1 m2 m3) (.IfExp t a b pos):=by
 intro γ s σ H Q I ⟨env,q⟩;have e:∀w,isTrue (.IfExp t a b pos) X.env w=(isTrue t X.env _>>=fun q=>if q=true then isTrue a X.env _ else isTrue b X.env _):=fun w=>by first|rfl|rw[PySem.isTrue]|simp only[PySem.isTrue]
 refine QKq (bJ (ht γ s σ H (fun k H1=>∃δ,tT X.K W δ _ σ H1 Q) I ⟨env,Lp q fun k δ H1 N q1=>⟨δ,q1⟩⟩) fun k s1⟨H1,I1,δ,q1⟩=>?_);cases k with
 |true=>rw[if_pos rfl]at q1⊢;exact ha γ s1 σ H1 Q I1 ⟨δ,q1⟩
 |false=>rw[if_neg Qjz]at q1⊢;exact hb γ s1 σ H1 Q I1 ⟨δ,q1⟩
end
section
def Px{H:Hp}{v y w:V}{Q:VK}(D1:dF K H d v)(D2:aL K H k y)(D3:aL K H x w)(e:qu d k x=some z)(q:∀u,aL K H z u->Q u H):∃a,v=.ref a/\∃o,lE H a y o/\Q (o.getD w) H:=by
 cases d with
 |dG ks ds=>
  simp only[qu]at e;split at e
  ·rename_i hk;cases e;obtain⟨kk,rfl⟩:=gQ hk;have ek:=lY D2;subst ek;obtain⟨a,kvs,rfl,ha,rfl,l⟩:=jB D1;refine⟨a,rfl,eO kvs kk,.inl ⟨kvs,kk,ha,rfl,rfl⟩,q _ ?_⟩;cases e1:aY _ _ ds with
   |some d=>obtain⟨w,e2,e3⟩:=pD kk e1 l;rw[e2];exact e3
   |none=>
    have n:=lF (kvs:=kvs) kk;have e4:∀{ks vs:List D},vs.length=ks.length->aY (dm kk) ks vs=none->aP (dm kk) ks=false:=by
     intro ks;induction ks with
     |nil=>intro vs _ _;rfl
     |cons k' ks ih=>
      intro vs hl h;cases vs with
      |nil=>simp at hl
      |cons v vs=>
       simp only[aY]at h;split at h
       ·cases h
       ·rename_i ne;simp[aP,ne,ih (by simpa using hl) h]
    rw[e4 (by have:=l.length;simpa using this) e1]at n;have e5:eO kvs kk=none:=by
     cases e6:eO kvs kk with
     |none=>rfl
     |some w=>rw[e6]at n;cases n
    rw[e5];exact D3
  ·cases e
 |_=>cases e
def Oz{H:Hp}{v:V}(D1:dF K H d v)(e:tH (some d)=true):∃a,v=.ref a/\IsD H a:=by
 cases d with
 |dG ks ds=>obtain⟨a,kvs,rfl,ha,_⟩:=jB D1;exact⟨a,rfl,.inl ⟨kvs,ha⟩⟩
 |_=>cases e
def Uj(hu:X.A.units+1<cLine)(M:M2 X o "get" apos e f cpos)(hv:∀k,m1.aF=some k->∃x p,o=.Name x p/\jV X k x)(hd:GE X W c m1 o)(hk:GE X W c m2 e)(hx:GE X W c m3 f):GE X W c (.get2 m1 m2 m3) (.Call (.Attribute o "get" apos) [e,f] [] cpos):=by
 intro env;cases qv:m1.aF with
 |some i=>
  obtain⟨x,p,rfl,nm⟩:=hv i qv;refine PE.imp (Nq hu nm.pe hk.d hx.d M) fun σ H Q q=>?_;simp only[Ww,qv]at q;cases e0:tH _ with
  |false=>rw[e0]at q;exact q.2.elim
  |true=>
   rw[e0]at q;cases e1:aX i env with
   |none=>rw[e1]at e0;cases e0
   |some d0=>
    rw[e1]at e0;obtain⟨u,eu,D0⟩:=gj q.1 e1;obtain⟨a,rfl,ia⟩:=Oz D0 e0;refine⟨.ref a,eu,a,rfl,ia,env,aO q fun k ε y H2 N2 D2 q2=>⟨ε,aO q2 fun x env3 z H3 N3 D3 q3=>?_⟩⟩;obtain⟨r,er,S,q4⟩:=dC q3;cases e2:aX i env3 with
    |none=>rw[e2]at er;cases er
    |some d3=>
     rw[e2]at er;simp only[Option.bind]at er;obtain⟨u',eu',D4⟩:=gj S e2;rw[eu]at eu';cases eu';cases e3:qu d3 k x with
     |none=>rw[e3]at er;cases er
     |some w=>rw[e3]at er;cases er;obtain⟨a',ea,o,g,q5⟩:=Px D4 (D2.mono N3.pers) D3 e3 fun u hu=>q4 u H3 (Nx.refl S) hu;cases ea;exact⟨o,g,q5⟩
 |none=>intro γ s σ H Q I q;simp only[Ww,qv]at q;exact q.2.elim
def aA(X:Cx)(W:Wi)(c:Cf)(m:E):TE:=fun σ H Q=>∃env,tA X.K W env (ev c m env) σ H Q
inductive Kv(X:Cx)(W:Wi)(c:Cf):E->List (Option Expr)->List Expr->List (TE×TE)->Prop
 |nil:Kv X W c .nil [] [] []
 |cons {k v r:E} {ke ve:Expr} {ks:List (Option Expr)} {vs:List Expr} {mF:List (TE×TE)}:GE X W c k ke->GE X W c v ve->Kv X W c r ks vs mF->Kv X W c (.cons k (.cons v r)) (some ke::ks) (ve::vs) ((aA X W c k,aA X W c v)::mF)
def yS{env:Ev}{H:Hp}{Q:VK}(q:Vg K W env (evs c (.cons m1 m2) env) σ H R)(k:∀v H1 δ,Vg K W δ (evs c m2 δ) σ H1 (fun vs H2=>R (v::vs) H2)->Q v H1):tA K W env (ev c m1 env) σ H Q:=by
 obtain⟨S,q⟩:=q;refine⟨S,?_⟩;simp only[evs]at q;cases r:ev c m1 env with
 |bad=>rw[r]at q;exact q.elim
 |exc k δ=>rw[r]at q;exact q
 |ok x δ=>
  rw[r]at q;intro v H1 N1 k1;refine k v H1 δ ⟨N1.gw,?_⟩;simp only[Out.bind]at q;cases r2:evs c m2 δ with
  |bad=>rw[r2]at q;exact q.elim
  |exc k ε=>rw[r2]at q;exact fun H2 N2=>q H2 (N1.trans N2)
  |ok xs ε=>rw[r2]at q;intro vs H2 N2 k2;exact q _ H2 (N1.trans N2) ⟨v,vs,rfl,k1.on S N1 N2,k2.weaken N1.dom⟩
def o4:List (V×V)->List V
 |[]=>[]
 |p::r=>p.1::p.2::o4 r
theorem q8:∀{a b:List (V×V)},o4 a=o4 b->a=b
 |[],[]=>fun _=>rfl
 |[],_::_=>fun h=>by cases h
 |_::_,[]=>fun h=>by cases h
 |(x,y)::a,_::b=>fun h=>by simp only[o4,List.cons.injEq]at h;obtain⟨rfl,rfl,h⟩:=h;rw[q8 h]
def Kv.pps{ks:List (Option Expr)}{mF:List (TE×TE)}(h:Kv X W c es ks vs mF):PPs X pos ks vs mF:=by
 induction h with
 |nil=>exact Sq
 |cons hk hv _ ih=>exact M8 (fun γ s σ H Q I⟨env,q⟩=>hk.ag env γ s σ H Q I q) (fun γ s σ H Q I⟨env,q⟩=>hv.ag env γ s σ H Q I q) ih
def Kv.go{ks:List (Option Expr)}{mF:List (TE×TE)}(h:Kv X W c es ks vs mF):∀{env:Ev}{σ:St}{H:Hp}{R:List V->Hp->Prop},Vg X.K W env (evs c es env) σ H R->wN mF σ H fun ps H2=>R (o4 ps) H2:=by
 induction h with
 |nil=>intro env σ H R q;obtain⟨S,q⟩:=q;exact q [] H (Nx.refl S) rfl
 |cons hk hv _ ih=>intro env σ H R q;exact⟨env,yS q fun x H1 δ q1=>⟨δ,yS q1 fun y H2 ε q2=>ih q2⟩⟩
def Nx.relaid{env δ:Ev}{σ:St}{p:Addr}(S:Sat K env σ H)(hp:H p=none)(hu:Fz u)(N:Nx K env σ (upd H p u) δ H2):H2 p=some u/\Nx K env σ H δ (upd H2 p u'):=by
 have no:=S.nq hp;have e:=N.keep p u aq no;have N0:=(Nx.laid S hp).trans N;have P:=jg (u':=u') e hu;refine⟨e,⟨N.gw.keep P fun i b w o q=>?_,N0.sub,N0.pers.trans P,fun b w q n=>?_,fun b q=>?_,N0.bors⟩⟩
 ·rw[ak (fun z=>by subst z;exact no i (N.sub i _ o))];exact q
 ·rw[ak ((fun b w q z=>by subst z;rw[hp]at q;cases q) b w q)];exact N0.keep b w q n
 ·by_cases hb:b=p
  ·subst hb;exact hp
  ·rw[ak hb]at q;exact N0.dom b q
def Qf{ds:List D}{r:Rv}(h:Kq ds=some r):∃k v:D,ds=[k,v]/\cH k=true/\r=.new (.sdt [k] [v]):=by
 unfold Kq at h;split at h
 ·split at h
  ·rename_i hk;cases h;exact⟨_,_,rfl,hk,rfl⟩
  ·cases h
 ·cases h
def Ze(hu:X.A.units+9<cLine){es:E}{ks:List (Option Expr)}{vs:List Expr}{mF:List (TE×TE)}(h:Kv X W c es ks vs mF)(hall:ks.all (·.isSome)=true)(hl:ks.length=vs.length)(h0:ks≠[])(h15:ks.length<=15):GE X W c (.dsp es) (.Dict ks vs pos):=by
 intro env;refine PE.imp (SQ hu h.pps hall hl h0 h15) fun σ H Q q p hp=>?_;simp only[aej]at q;obtain⟨S,q⟩:=q;have S1:=(Nx.laid (o:=.dK []) S hp).gw;have go:Vg X.K W env (evs c es env) σ (upd H p (.dK [])) (fun us H2=>H2 p=some (.dK [])/\∃k a v,us=o4 [(.ref a,v)]/\cY X.K H2 k a/\Q (.ref p) (upd H2 p (sD [(k,a,v)]))):=by
  refine⟨S1,?_⟩;cases r:evs c es env with
  |bad=>rw[r]at q;exact q.elim
  |exc k δ=>rw[r]at q;exact fun H2 N=>q H2 ((Nx.laid S hp).trans N)
  |ok rs δ=>
   rw[r]at q;simp only[Out.bind]at q;cases e1:cV rs with
   |none=>rw[e1]at q;exact q.elim
   |some ds=>
    rw[e1]at q;simp only[QHq]at q;unfold Aw at q;by_cases hd:(decide (ds.length<=30)&& !ds.isEmpty)=true
    ·rw[if_pos hd]at q;simp only[QUq,QUz]at hd;cases e0:Kq ds with
     |some rv0=>rw[e0]at q;intro us H2 N rv;have l:ao X.K H2 ds us:=jo.ds (by rw[Ao es env r];exact rv) e1;obtain⟨k,v,rfl,hk,rfl⟩:=Qf e0;obtain⟨x,w1,rfl,h1,l1⟩:=ao.aH.mp l;obtain⟨y,w2,rfl,h2,l2⟩:=ao.aH.mp l1;cases ao.bV.mp l2;obtain⟨a,rfl,ka⟩:=iK hk h1;obtain⟨b1,b2⟩:=Nx.relaid (u':=sD [(kC k,a,y)]) S hp (by constructor<;>(intros;intro z;cases z)) N;have P:=jg (u':=sD [(kC k,a,y)]) b1 (by constructor<;>(intros;intro z;cases z));exact⟨b1,⟨kC k,a,y,rfl,ka,q _ _ b2 ⟨p,rfl,⟨_,aq,_,rfl,gO.aH.mpr ⟨_,_,rfl,rfl,hk,h1.mono P,h2.mono P,gO.nil⟩⟩,hp⟩⟩⟩
     |none=>rw[e0]at q;exact q.elim
    ·rw[if_neg hd]at q;exact q.elim
 have:=h.go go;refine cast ?_ this;congr 1;funext ps H2;refine propext ⟨fun⟨z,f⟩=>⟨z,?_⟩,fun⟨z,f⟩=>⟨z,?_⟩⟩
 ·obtain⟨k,a,v,e,h⟩:=f;exact⟨k,a,v,q8 e,h⟩
 ·obtain⟨k,a,v,e,h⟩:=f;exact⟨k,a,v,by rw[e],h⟩
def PB:GE X W c .emp (.Dict [] [] pos):=by intro env;refine PE.imp zM fun σ H Q q p hp=>?_;obtain⟨S,q⟩:=q;exact q _ _ (Nx.laid S hp) ⟨p,rfl,⟨_,aq,[],rfl,rfl,ao.dZ⟩,hp⟩
end
end Mini
end
section
namespace Mini
open PySem
structure Ct where
 N:List Str
 sc:Scope
 fns:List (Str×List Bool)
 dR:List Str
 exs:List Str:=[]
 rz:List Str:=[]
noncomputable def pH:List Str->Str->Option Nat
 |[],_=>none
 |y::r,x=>if x=y then some 0 else(pH r x).map (· +1)
noncomputable def Qp:Const->Option D
 |.none=>some .non
 |.bool b=>some (.bl b)
 |.int i=>some (.int i)
 |.str x=>some (.str x)
 |_=>none
noncomputable def K9(sc:Scope)(x:Str):Bool:=match sc.names.lookup x with
 |some .local=>true
 |some .cell=>true
 |some .free=>true
 |_=>false
def BP(sc:Scope)(x:Str):Bool:=sc.names.lookup x==some .globalImplicit
def JH(x:Str):Bool:= !(x==("__debug__":Str))&& !(x==("__classdict__":Str))
noncomputable def mR(C:Ct)(x:Str):Option E:=
 if JH x then
  match pH C.N x with
  |some k=>if K9 C.sc x then some (.var k)else none
  |none=>if BP C.sc x then(pH C.dR x).map .glob else none
 else none
noncomputable def opB:Operator->Option Wn
 |.Add=>some .add
 |.Sub=>some .sub
 |.Mult=>some .mul
 |.Mod=>some .mod
 |.FloorDiv=>some .fdiv
 |.Pow=>some .pow
 |_=>none
noncomputable def cmB:CmpOp->Option Cm
 |.Eq=>some .eq
 |.NotEq=>some .ne
 |.Lt=>some .lt
 |.LtE=>some .le
 |.Gt=>some .gt
 |.GtE=>some .ge
 |.In=>some .isin
 |.NotIn=>some .notin
 |.Is=>some .lW
 |.IsNot=>some .notN
noncomputable def tyB(x:Str):Option Ty:=
 if x="tuple" then some .tup else if x="list" then some .lst else if x="str" then some .str else if x="bool" then some .bool else if x="int" then some .int else if x="dict" then some .dG else none
noncomputable def biB(x:Str):Option Bi:=
 if x="len" then some .len else if x="tuple" then some .tuple else if x="list" then some .list else if x="all" then some .all else if x="any" then some .any
 else if x="dict" then some .dict else none
noncomputable def plain:Expr->Bool
 |.BoolOp .. |.BinOp .. |.UnaryOp .. |.IfExp .. |.ListComp .. |.Compare .. |.Call .. |.Constant .. |.Subscript .. |.Name .. |.List .. |.Tuple .. |.Dict .. =>true
 |_=>false
def E.OJ:E->Bool
 |.nil=>true
 |_=>false
noncomputable def fnAt(C:Ct)(x:Str):Option (Nat×List Bool):=(pH (C.fns.map (·.1)) x).bind fun g=>(C.fns[g]?).map fun p=>(g,p.2)
noncomputable def nY(scope outer:Scope):Scope:=
 {scope with names:=scope.names.map fun(n,k)=>if (k== .free&&outer.kind== .function&&outer.names.lookup n==some .cell)then(n,.cell)else(n,k)}
def rQ(η N:List Str):List Str:=η++N.map fun x=>if η.contains x then(".":Str)++x else x
def uL:Expr->Option Str
 |.Name x _=>some x
 |_=>none
noncomputable def WL:Expr->Option (List Str×Tg)
 |.Name x _=>some ([x],.name 0)
 |.Tuple es _ _=>(es.mapM uL).map fun xs=>(xs,.tup (List.range xs.length))
 |_=>none
noncomputable def Vn(outer inner:Scope)(η N:List Str):Bool:=
 decide (inner.kind=.function)&&decide ((rQ η N).Nodup)
 &&(inner.names.all fun p=>(p.2 != .local)||((η.contains p.1||p.1==(".0":Str))&&inner.names.lookup p.1==some .local))
 &&(η.all fun x=>inner.names.lookup x==some .local)
 &&(inner.names.all fun p=>p.2 != .cell)
 &&(inner.names.all fun p=>(p.2 != .free)||outer.names.lookup p.1==some .cell||outer.names.lookup p.1==some .free)
 &&(N.all fun x=> !η.contains x||(inner.names.lookup ((".":Str)++x)).isNone)
 && !N.contains (".0":Str)
def isCall:Expr->Bool
 |.Call .. =>true
 |_=>false
def NT(ap cp:Pos):Bool:=ap.endLine==cp.line
mutual
noncomputable def eV:Nat->Ct->Expr->Option E
 |0,_,_=>none
 |n+1,C,e=>match e with
  |.Constant k _ _=>(Qp k).map .con
  |.Name x _=>mR C x
  |.Tuple es _ _=>(wJ n C es).map .tup
  |.List es _=>(wJ n C es).map .lis
  |.BinOp a o b _=>(opB o).bind fun o=>(eV n C a).bind fun a=>(eV n C b).map fun b=>.op o a b
  |.UnaryOp o a _=>match o with
   |.Not=>(eV n C a).map .not
   |_=>none
  |.BoolOp o es _=>(wJ n C es).bind fun m=>if m.OJ then none else match o with
   |.And=>some (.and m)
   |.Or=>some (.or m)
  |.Compare a ops cs _=>match ops,cs with
   |[o],[b]=>(cmB o).bind fun o=>(eV n C a).bind fun a=>(eV n C b).map fun b=>.cmp o a b
   |[o,o2],[b,d]=>(cmB o).bind fun o=>(cmB o2).bind fun o2=>(eV n C a).bind fun a=>(eV n C b).bind fun b=>(eV n C d).map fun d=>.chain o o2 a b d
   |_,_=>none
  |.IfExp t a b _=>(eV n C t).bind fun t=>(eV n C a).bind fun a=>(eV n C b).map fun b=>.ite t a b
  |.Subscript a i _=>match i with
   |.Slice lo hi st _=>match st with
    |none=>(eV n C a).bind fun a=>(Z8 n C lo).bind fun lo=>(Z8 n C hi).map fun hi=>.slc a lo hi
    |some _=>none
   |i=>(eV n C a).bind fun a=>(eV n C i).map fun i=>.idx a i
  |.Call f args kw cp=>match kw with
   |[]=>match f with
    |.Name x _=>if JH x&&BP C.sc x then(match fnAt C x with
      |some (g,fl)=>(Iu n C fl args).bind fun m=>if m.OJ then none else some (.call g m)
      |none=>trB n C x args)else none
    |.Attribute o name ap=>if NT ap cp then(match args with
      |[e]=>if name="count" then(eV n C o).bind fun m1=>(if plain o&& !isCall o then some ()else none).bind fun _=>(eV n C e).map fun m2=>.count m1 m2
       else none
      |[e,f]=>if name="get" then(eV n C o).bind fun m1=>(if plain o&& !isCall o then some ()else none).bind fun _=>(eV n C e).bind fun m2=>(eV n C f).map fun m3=>.get2 m1 m2 m3 else none
      |_=>none)else none
    |_=>none
   |_=>none
  |.Dict ks vs _=>if ks.isEmpty&&vs.isEmpty then some .emp else if ks.length=vs.length&&decide (ks.length<=15)&& !ks.isEmpty then(Ir n C ks vs).map .dsp else none
  |.ListComp elt gens sc _=>match gens with
   |[g]=>trC n C elt g sc
   |_=>none
  |_=>none
noncomputable def Ir:Nat->Ct->List (Option Expr)->List Expr->Option E
 |0,_,_,_=>none
 |n+1,C,ks,vs=>match ks,vs with
  |[],[]=>some .nil
  |some k::ks,v::vs=>(eV n C k).bind fun k=>(eV n C v).bind fun v=>(Ir n C ks vs).map fun r=>.cons k (.cons v r)
  |_,_=>none
noncomputable def trC:Nat->Ct->Expr->Comprehension->Scope->Option E
 |0,_,_,_,_=>none
 |n+1,C,elt,g,sc=>if g.is_async=0 then(WL g.target).bind fun(η,tg)=>
   if Vn C.sc sc η C.N then
    let C2:Ct:={C with N:=rQ η C.N,sc:=nY sc C.sc}
    (Z9 n C g.iter).bind fun it=>(match g.ifs with
     |[]=>some (E.con (.bl true))
     |[c]=>eV n C2 c
     |_=>none).bind fun cond=>(eV n C2 elt).map fun m=>.comp η.length tg it cond m
   else none else none
noncomputable def Z9:Nat->Ct->Expr->Option E
 |0,_,_=>none
 |n+1,C,e=>match e with
  |.Call f args kw cp=>match f,args,kw with
   |.Name x _,[a],[]=>if x="range"&&BP C.sc x&&(fnAt C x).isNone then(eV n C a).map .range1 else eV n C e
   |.Name x _,[a,b],[]=>if x="zip"&&BP C.sc x&&(fnAt C x).isNone then(eV n C a).bind fun a=>(eV n C b).map fun b=>.zip a b else eV n C e
   |_,_,_=>eV n C e
  |_=>eV n C e
noncomputable def trB:Nat->Ct->Str->List Expr->Option E
 |0,_,_,_=>none
 |n+1,C,x,args=>match args with
  |[a,t]=>if x="isinstance" then(match t with
    |.Name y _=>if BP C.sc y then(tyB y).bind fun t=>(eV n C a).map fun a=>.isi a t else none
    |_=>none)else none
  |[a]=>match a with
   |.Call f zs kw _=>(match f,zs,kw with
    |.Name z _,[p,q],[]=>if z="zip"&&BP C.sc z&&(fnAt C z).isNone then
      (if x="dict" then(eV n C p).bind fun p=>(eV n C q).map fun q=>.bi .dict (.zip p q)else none)
     else(biB x).bind fun b=>(eV n C a).bind fun m=>if b=.dict&&m.aF.isSome then some (.bi b (.rd m))else some (.bi b m)
    |_,_,_=>(biB x).bind fun b=>(eV n C a).bind fun m=>if b=.dict&&m.aF.isSome then some (.bi b (.rd m))else some (.bi b m))
   |a=>(biB x).bind fun b=>(eV n C a).bind fun m=>if b=.dict&&m.aF.isSome then some (.bi b (.rd m))else some (.bi b m)
  |_=>none
noncomputable def Iu:Nat->Ct->List Bool->List Expr->Option E
 |0,_,_,_=>none
 |n+1,C,fl,es=>match fl,es with
  |[],[]=>some .nil
  |false::fl,e::es=>(eV n C e).bind fun m=>(Iu n C fl es).map fun ms=>.cons m ms
  |true::fl,e::es=>(match e with
    |.Name x _=>(mR C x).bind fun m=>match m with
     |.var k=>some (E.ref k)
     |_=>none
    |e=>(eV n C e).map E.tmp).bind fun m=>(Iu n C fl es).map fun ms=>.cons m ms
  |_,_=>none
noncomputable def Z8:Nat->Ct->Option Expr->Option E
 |0,_,_=>none
 |n+1,C,o=>match o with
  |none=>some .noneE
  |some e=>eV n C e
noncomputable def wJ:Nat->Ct->List Expr->Option E
 |0,_,_=>none
 |n+1,C,es=>match es with
  |[]=>some .nil
  |e::es=>(eV n C e).bind fun m=>(wJ n C es).map fun ms=>.cons m ms
end
noncomputable def Mx(C:Ct)(e f:Option Expr):Nat:=match e,f with
 |some (.Call (.Name x _) [.Constant (.str _) _ _] [] _),none=>if BP C.sc x&&JH x then(match pH C.exs x with|some k=>k+1|none=>0)else 0
 |_,_=>0
def z7(sc:Scope)(x:Str):Bool:=sc.names.lookup x==some .local||sc.names.lookup x==some .cell
noncomputable def slotsOf(C:Ct):List Expr->Option (List Nat)
 |[]=>some []
 |.Name x _::es=>if z7 C.sc x then(pH C.N x).bind fun i=>(slotsOf C es).map (i:: ·)else none
 |_=>none
noncomputable def Lk(C:Ct):Expr->Option Tg
 |.Name x _=>if z7 C.sc x then(pH C.N x).map .name else none
 |.Tuple es _ _=>(slotsOf C es).map .tup
 |_=>none
def tK:Expr->Bool
 |.ListComp .. =>true
 |_=>false
def isSlice:Expr->Bool
 |.Slice .. =>true
 |_=>false
def rzB(C:Ct):Expr->Bool
 |.Name x _=>C.rz.contains x
 |_=>false
noncomputable def trX(n:Nat)(C:Ct)(f:Expr)(args:List Expr)(kw:List Keyword):Option S:=
 match f,kw with
 |.Name x _,[]=>if JH x&&BP C.sc x then(match fnAt C x with
   |some (g,fl)=>(Iu n C fl args).bind fun m=>if m.OJ then none else some (.callx g m)
   |none=>none)else none
 |_,_=>none
mutual
noncomputable def Vb:Nat->Ct->Stmt->Option S
 |0,_,_=>none
 |n+1,C,st=>match st with
  |.Return v _=>match v with
   |none=>some (.ret ABj)
   |some e=>(eV n C e).map .ret
  |.Assign ts e _=>match ts with
   |[t]=>match t with
    |.Name x _=>if z7 C.sc x then(pH C.N x).bind fun i=>(eV n C e).map fun m=>.set i m else none
    |.Subscript o ix _=>match o with
     |.Name x _=>if tK e||isSlice ix then none else(mR C x).bind fun v=>match v with
      |.var k=>(eV n C ix).bind fun i=>(eV n C e).map fun m=>.setIx k i m
      |_=>none
     |_=>none
    |_=>none
   |_=>none
  |.Expr e _=>match e with
   |.Call f args kw cp=>match f,args,kw with
    |.Attribute o name ap,[a],[]=>match o with
     |.Name x _=>if NT ap cp&&name="append" then(mR C x).bind fun v=>(match v with
       |.var k=>(eV n C a).map fun m=>.append k m
       |_=>none)
      else(eV n C e).map .expr
     |_=>none
    |f,args,kw=>if rzB C f then trX n C f args kw else(eV n C e).map .expr
   |_=>none
  |.If t a b _=>(eV n C t).bind fun t=>(rB n C a).bind fun a=>(rB n C b).map fun b=>.ite t a b
  |.For tg it b el _=>match el with
   |[]=>(Lk C tg).bind fun tg'=>(Z9 n C it).bind fun it=>(rB n C b).map fun b=>.for_ tg' it b
   |_=>none
  |.While t b el _=>match el with
   |[]=>(eV n C t).bind fun t=>(rB n C b).map fun b=>.while_ t b
   |_=>none
  |.Raise e f _=>some (.raise (Mx C e f))
  |_=>none
noncomputable def rB:Nat->Ct->List Stmt->Option S
 |0,_,_=>none
 |n+1,C,ss=>match ss with
  |[]=>some .nil
  |s::ss=>(Vb n C s).bind fun m=>(rB n C ss).map fun ms=>.cons m ms
end
end Mini
end
section
namespace Mini
open PySem L2
noncomputable def oU:List Str:=["isinstance","tuple","list","str","bool","int","dict","len","all","any","sorted","zip","range","enumerate"]
def Z2(X:Cx)(c:Cf)(g:Nat)(x:Str):Prop:=∃k f fd ps,bH X.prog X.w X.K X.mg X.base dU k f fd ps (bA X.K ps.length (c.fn g))/\dD k X.A/\X.mg x=some (.ref f)/\PySem.W.keepIn X.K (.ref f)=true/\Binds X.K fd ps []/\∀sl,c.fn g sl=.bad\/sl.length=ps.length
structure jn(C:Ct)(X:Cx)(c:Cf):Prop where
 N:X.N=C.N
 sc:X.env.scope=C.sc
 nd:C.N.Nodup
 calm:X.calm=true
 hu:X.A.units+60<cLine
 bi:∀x∈oU,X.mg x=none
 gl:∀k x,C.dR[k]? =some x->∃d,c.gl k=some d/\adf X x d
 fn:∀g x fl,C.fns[g]? =some (x,fl)->Z2 X c g x
structure Sd(X:Cx)(c:Cf)(m:E)(e:Expr):Prop where
 ge:GE X W0 c m e
 gt:GT X W0 c m e
 pl:plain e=true
 va:∀k,m.aF=some k->∃x p,e=.Name x p/\jV X k x
 nn:m.lW=false
theorem jy:∀{N:List Str}{x:Str}{k:Nat},pH N x=some k->N[k]? =some x
 |[],_,_,h=>by cases h
 |y::r,x,k,h=>by
  unfold pH at h;split at h
  ·rename_i e;cases h;subst e;rfl
  ·cases q:pH r x with
   |none=>rw[q]at h;cases h
   |some j=>rw[q]at h;cases h;simpa using jy q
def BW{x:Str}(h:K9 sc x=true):Fw sc x:=by
 unfold K9 at h;unfold Fw;cases q:sc.names.lookup x with
 |none=>rw[q]at h;cases h
 |some k=>rw[q]at h;cases k<;>simp at h<;>simp
def GF(h:JH x=true):(x==("__debug__":Str))=false/\(x==("__classdict__":Str))=false:=by unfold JH at h;rw[QUq]at h;exact⟨by simpa using h.1,by simpa using h.2⟩
section
def qt(O:jn C X c)(h:BP C.sc x=true):Gl X x:=by unfold BP at h;show X.env.scope.names.lookup x=_;rw[O.sc];simpa using h
def cj(h:plain e=true)es env:starEach (e::es) env=(false,eval e env)::starEach es env:=by cases e<;>first|rfl|exact absurd (h) Qjz
def sV(h:plain e=true)o:behindInMarks o e=false:=by cases e<;>first|rfl|exact absurd (h) Qjz
def xY(h:plain e=true)env x:foldedSetIterable e env x=pure x:=by cases e<;>first|rfl|exact absurd (h) Qjz
def Dc(h:plain e=true):qR e:=by intro o i;cases e<;>first|rfl|exact absurd (h) Qjz
def tame:Expr->Bool
 |.UnaryOp .Not .. |.BoolOp .. |.IfExp .. |.Compare .. =>false
 |_=>true
def O9(h:GE X W0 c m e)(hp:plain e=true)(ht:tame e=true):GT X W0 c m e:=by
 refine h.t fun whole=>?_;cases e with
 |UnaryOp o a q=>cases o<;>first|rfl|exact absurd (ht) Qjz
 |_=>first|rfl|exact absurd (hp) Qjz|exact absurd (ht) Qjz
def Gj(O:jn C X c)(h:mR C x=some m):Sd X c m (.Name x p):=by
 unfold mR at h;split at h
 ·rename_i nb;obtain⟨n1,n2⟩:=GF nb;cases q:pH C.N x with
  |some k=>
   rw[q]at h;simp only at h;split at h
   ·rename_i hv;cases h;have nm:jV X k x:=⟨by rw[O.N];exact jy q,by rw[O.sc];exact BW hv,n1,n2⟩;exact⟨nm.ge,O9 nm.ge rfl rfl,rfl,fun k' e=>by cases e;exact⟨x,p,rfl,nm⟩,rfl⟩
   ·cases h
  |none=>
   rw[q]at h;simp only at h;split at h
   ·rename_i hg;cases q2:pH C.dR x with
    |none=>rw[q2]at h;cases h
    |some k=>rw[q2]at h;cases h;obtain⟨d,hk,ok⟩:=O.gl k x (jy q2);have ge:GE X W0 c _ (.Name x p):=Ui hk ok (qt O hg) n1;exact⟨ge,O9 ge rfl rfl,rfl,fun k' e=>(by cases e),rfl⟩
   ·cases h
 ·cases h
def Oa(O:jn C X c)(h:mR C x=some (.var k)):jV X k x:=by obtain⟨y,q,e,nm⟩:=(Gj (p:=default) O h).va k rfl;cases e;exact nm
inductive Al(X:Cx)(c:Cf):E->List Expr->Prop
 |nil:Al X c .nil []
 |cons {m ms:E} {e:Expr} {es:List Expr}:Sd X c m e->Al X c ms es->Al X c (.cons m ms) (e::es)
theorem Al.ga:∀{ms:E}{es:List Expr},Al X c ms es->GA X W0 c ms es
 |_,_,.nil=>PX
 |_,_,.cons h t=>Hn h.ge t.ga (cj h.pl _ _)
theorem Al.and{es:List Expr}:∀{m ms:E}{e:Expr},Al X c (.cons m ms) (e::es)->GE X W0 c (.and (.cons m ms)) (.BoolOp .And (e::es) pos)/\GW X W0 c (.and (.cons m ms)) (.BoolOp .And (e::es) pos):=by
 induction es with
 |nil=>intro m ms e h;cases h with|cons h t=>cases t;exact⟨Uo h.ge,Uc h.gt⟩
 |cons e2 es ih=>intro m ms e h;cases h with|cons h t=>cases t with|cons h2 t=>exact⟨Zh h.ge (ih (.cons h2 t)).1,YQ h.gt (ih (.cons h2 t)).2⟩
theorem Al.or{es:List Expr}:∀{m ms:E}{e:Expr},Al X c (.cons m ms) (e::es)->GE X W0 c (.or (.cons m ms)) (.BoolOp .Or (e::es) pos)/\GW X W0 c (.or (.cons m ms)) (.BoolOp .Or (e::es) pos):=by
 induction es with
 |nil=>intro m ms e h;cases h with|cons h t=>cases t;exact⟨Y8 h.ge,YJ h.gt⟩
 |cons e2 es ih=>intro m ms e h;cases h with|cons h t=>cases t with|cons h2 t=>exact⟨acB h.ge (ih (.cons h2 t)).1,acw h.gt (ih (.cons h2 t)).2⟩
def Yi{q:Wn}(h:opB o=some q):o=abU q:=by cases o<;>first|(cases (h);rfl)|cases (h)
def Ew{q:Cm}(h:cmB o=some q):o=fG q:=by cases o<;>first|(cases (h);rfl)|cases (h)
def Qo{d:D}(h:Qp k=some d):GD d k=true:=by cases k<;>simp[Qp]at h<;>subst h<;>simp[GD]
def WF(h:tyB x=some t):x=Str.ofString (tyN t)/\x∈oU:=by
 unfold tyB at h;split at h
 ·rename_i e;cases h;subst e;exact⟨rfl,by decide⟩
 split at h
 ·rename_i e;cases h;subst e;exact⟨rfl,by decide⟩
 split at h
 ·rename_i e;cases h;subst e;exact⟨rfl,by decide⟩
 split at h
 ·rename_i e;cases h;subst e;exact⟨rfl,by decide⟩
 split at h
 ·rename_i e;cases h;subst e;exact⟨rfl,by decide⟩
 split at h
 ·rename_i e;cases h;subst e;exact⟨rfl,by decide⟩
 cases h
def V7(O:jn C X c){bb:Bi}(h:biB x=some bb)(hg:BP C.sc x=true)(ha:Sd X c m a)(hd:bb=.dict->m.aF=none):GE X W0 c (.bi bb m) (.Call (.Name x p) [a] [] pos):=by
 have hs:=cj ha.pl [] X.env;have hG:=qt O hg;unfold biB at h;split at h
 ·rename_i e;cases h;subst e;exact Eh Kz RQ ha.ge ha.va hG (O.bi _ (by decide)) PySem.boot_len (by decide) (by decide) hs
 split at h
 ·rename_i e;cases h;subst e;exact PN mJ Je ha.ge ha.va hG (O.bi _ (by decide)) PyProof.Rows.boot_tuple (by decide) (by decide) hs
 split at h
 ·rename_i e;cases h;subst e;exact PN (Fb O.calm) Mj ha.ge ha.va hG (O.bi _ (by decide)) PyProof.Rows.boot_list (by decide) (by decide) hs
 split at h
 ·rename_i e;cases h;subst e;exact Eh (KD O.calm) RV ha.ge ha.va hG (O.bi _ (by decide)) PyProof.Rows.boot_all (by decide) (by decide) hs
 split at h
 ·rename_i e;cases h;subst e;exact Eh (KC O.calm) RT ha.ge ha.va hG (O.bi _ (by decide)) PyProof.Rows.boot_any (by decide) (by decide) hs
 split at h
 ·rename_i e;cases h;subst e;exact Uk O.calm O.hu ha.ge (hd rfl) hG (O.bi _ (by decide)) hs
 cases h
end
def CK{env:Env}(h:env.scope=outer):relabel sc env=nY sc outer:=by subst h;rfl
def LR{η N:List Str}(h:Vn outer inner η N=true):(rQ η N).Nodup:=by unfold Vn at h;simp only[QUq,QUz]at h;exact h.1.1.1.1.1.1.2
def Cu{η N:List Str}(h:Vn outer inner η N=true):Bt outer inner η N:=by
 unfold Vn at h;simp only[QUq,QUz,List.all_eq_true,Bool.or_eq_true,bne_iff_ne,beq_iff_eq,Bool.not_eq_true',ne_eq]at h;obtain⟨⟨⟨⟨⟨⟨⟨h1,h2⟩,h3⟩,h4⟩,h5⟩,h6⟩,h7⟩,h8⟩:=h;refine⟨h1,h2,fun x hx=>?_,fun p hp hl=>?_,h4,h5,fun p hp hf=>?_,fun x hx ht=>?_,fun hx=>?_⟩
 ·rcases h3 _ (PySem.mem_of_lookup hx)with z|z
  ·exact absurd rfl z
  ·rcases z.1 with z|z
   ·exact .inl (by simpa using z)
   ·exact .inr z
 ·rcases h3 p hp with z|z
  ·exact absurd hl z
  ·exact z.2
 ·rcases h6 p hp with (z|z)|z
  ·exact absurd hf z
  ·exact .inl z
  ·exact .inr z
 ·rcases h7 x hx with z|z
  ·rw[ht]at z;cases z
  ·simpa using z
 ·have:N.contains (".0")=true:=by simpa using hx
  rw[this]at h8;cases h8
section
variable{sc:Scope}
theorem jn.blk(O:jn C X c)(hs:Vn C.sc sc η C.N=true){fp:List Addr}{H₀:Hp}:jn {C with N:=rQ η C.N,sc:=nY sc C.sc} (Mini.blk X sc cl (aR η X.N) fp s₀ H₀) c:=
 ⟨by show aR η X.N=rQ η C.N;rw[O.N];rfl,CK O.sc,LR hs,O.calm,O.hu,O.bi,O.gl,O.fn⟩
theorem sO{sc:Scope}{N:List Str}:∀{es:List Expr}{xs:List Str}(k:Nat),es.mapM uL=some xs->(∀j x,xs[j]? =some x->N[k+j]? =some x)->(∀x∈xs,sc.names.lookup x=some .local)->iD sc N (List.range' k xs.length) es=true
 |[],xs,k,h,_,_=>by simp at h;subst h;rfl
 |e::es,xs,k,h,hN,hl=>by
  rw[List.mapM_cons]at h;cases q:uL e with
  |none=>rw[q]at h;cases h
  |some x=>
   rw[q]at h;cases q2:es.mapM uL with
   |none=>rw[q2]at h;cases h
   |some ys=>rw[q2]at h;cases h;cases e<;>simp[uL]at q;subst q;rw[QBq,List.range'_succ];unfold iD;rw[sO _ q2 (fun j y e=>by have:=hN (j+1) y (by simpa using e);rw[<-this];congr 1;omega) (fun y hy=>hl y (QYq _ hy))];have:=hN 0 _ rfl;simp at this;simp[this,hl _ QYz]
theorem sU:∀{es:List Expr}{xs:List Str},es.mapM uL=some xs->(assignEach es env).length=xs.length/\(assignEach es env).findIdx? (·.1)=none
 |[],xs,h=>by simp at h;subst h;exact⟨rfl,rfl⟩
 |e::es,xs,h=>by
  rw[List.mapM_cons]at h;cases q:uL e with
  |none=>rw[q]at h;cases h
  |some x=>
   rw[q]at h;cases q2:es.mapM uL with
   |none=>rw[q2]at h;cases h
   |some ys=>
    rw[q2]at h;cases h;obtain⟨i1,i2⟩:=sU (env:=env) q2;cases e<;>simp[uL]at q;constructor
    ·show(_::assignEach es env).length=_;simp[i1]
    ·show(List.findIdx? (·.1) ((false,_)::assignEach es env))=none;rw[List.findIdx?_cons];simp[i2]
def aaT(O:jn C X c){tgE:Expr}(ht:WL tgE=some (η,tg))(hs:Vn C.sc sc η C.N=true):(∀i∈slots tg,i<η.length)/\∀(cl:List (Str×Addr))(fp:List Addr)(s₀:Shared)(H₀:Hp),GG (Mini.blk X sc cl (aR η X.N) fp s₀ H₀) tg tgE:=by
 have lc:∀x∈η,∀cl fp s₀ H₀,(Mini.blk X sc cl (aR η X.N) fp s₀ H₀).env.scope.names.lookup x=some .local:=fun x hx cl fp s₀ H₀=>lookup_relabel_local ((Cu hs).tg x hx);have nd:∀cl fp s₀ H₀,(Mini.blk X sc cl (aR η X.N) fp s₀ H₀).N.Nodup:=fun cl fp s₀ H₀=>by rw[O.N];exact LR hs
 cases tgE<;>simp only[WL]at ht<;>try (cases ht;done)
 ·rename_i x q;cases ht;refine⟨fun i hi=>?_,fun cl fp s₀ H₀=>xX (nd cl fp s₀ H₀) rfl (.inl (lc x (by simp) cl fp s₀ H₀)) (.inr (lc x (by simp) cl fp s₀ H₀))⟩;simp[slots]at hi;subst hi;simp
 ·rename_i es k q;cases qm:es.mapM uL with
  |none=>rw[qm]at ht;cases ht
  |some xs=>
   rw[qm]at ht;cases ht;refine⟨fun i hi=>by simpa[slots]using hi,fun cl fp s₀ H₀=>?_⟩;obtain⟨l1,l2⟩:=sU qm;refine Pu (nd cl fp s₀ H₀) O.calm (N8 ?_) (by simp[l1]) l2;have:=sO (N:=(Mini.blk X sc cl (aR η X.N) fp s₀ H₀).N) 0 qm (fun j x e=>?_) (fun x hx=>lc x hx cl fp s₀ H₀)
   ·rwa[List.range_eq_range']
   ·show(aR η X.N)[0+j]? =some x;unfold aR;rw[Nat.zero_add,Qwz (QCz.mp e).1];exact e
end
inductive Ar(X:Cx)(c:Cf):E->List Expr->Prop
 |nil:Ar X c .nil []
 |cons {m ms:E} {e:Expr} {es:List Expr}:GE X W0 c m e->plain e=true->Ar X c ms es->Ar X c (.cons m ms) (e::es)
theorem Ar.ga{c:Cf}:∀{ms:E}{es:List Expr},Ar X c ms es->GA X W0 c ms es
 |_,_,.nil=>PX
 |_,_,.cons h p t=>Hn h t.ga (cj p _ _)
theorem Ar.plain{c:Cf}:∀{ms:E}{es:List Expr},Ar X c ms es->(backTo pos (starEach es X.env)).any (·.1)=false
 |_,_,.nil=>rfl
 |_,_,.cons h p t=>by rw[cj p];have:=t.plain (pos:=pos);simpa[backTo]using this
def Fy(X:Cx)(c:Cf)(m:E)(elt:Expr)(g:Comprehension)(sc:Scope):Prop:=
 ∃η tg it cond m',m=.comp η.length tg it cond m'/\Bx X c sc η tg cond m' g.target elt g.ifs/\GI X W0 c it g.target g.iter/\plain g.iter=true/\g.is_async=0
structure Ih(c:Cf)(n:Nat):Prop where
 e:∀C X e m,jn C X c->eV n C e=some m->Sd X c m e
 es:∀C X es m,jn C X c->wJ n C es=some m->Al X c m es
 a:∀C X fl es m,jn C X c->Iu n C fl es=some m->Ar X c m es
 o:∀C X o m,jn C X c->Z8 n C o=some m->GO X W0 c m o
 b:∀C X x args m p pos,jn C X c->BP C.sc x=true->trB n C x args=some m->GE X W0 c m (.Call (.Name x p) args [] pos)/\m.aF=none/\m.lW=false
 i:∀C X tg e m,jn C X c->Z9 n C e=some m->GI X W0 c m tg e/\plain e=true
 k:∀C X elt g sc m,jn C X c->trC n C elt g sc=some m->Fy X c m elt g sc
 d:∀C X ks vs m,jn C X c->Ir n C ks vs=some m->∃mF,Kv X W0 c m ks vs mF/\ks.all (·.isSome)=true
def ih0 c:Ih c 0:=by constructor;all_goals (intros;rename_i h;first|(rw[eV]at h;cases h)|(rw[wJ]at h;cases h)|(rw[Iu]at h;cases h)|(rw[Z8]at h;cases h)|(rw[trB]at h;cases h)|(rw[Z9]at h;cases h)|(rw[trC]at h;cases h)|(rw[Ir]at h;cases h))
section
def Rt(I:Ih c n)(O:jn C X c)(h:wJ (n+1) C es=some m):Al X c m es:=by
 cases es with
 |nil=>rw[wJ]at h;cases h;exact .nil
 |cons e es=>rw[wJ]at h;simp only[QJq,QJz]at h;obtain⟨m1,h1,m2,h2,rfl⟩:=h;exact .cons (I.e C X e m1 O h1) (I.es C X es m2 O h2)
def W6(I:Ih c n)(O:jn C X c){vs:List Expr}(h:Ir (n+1) C ks vs=some m):∃mF,Kv X W0 c m ks vs mF/\ks.all (·.isSome)=true:=by
 unfold Ir at h;split at h
 ·cases h;exact⟨[],.nil,rfl⟩
 ·simp only[QJq,QJz]at h;obtain⟨k1,h1,v1,h2,r,h3,rfl⟩:=h;obtain⟨mF,K,a⟩:=I.d C X _ _ r O h3;exact⟨_,.cons (I.e C X _ k1 O h1).ge (I.e C X _ v1 O h2).ge K,by simpa using a⟩
 ·cases h
def W2(I:Ih c n)(O:jn C X c)(h:Z8 (n+1) C o=some m):GO X W0 c m o:=by
 cases o with
 |none=>rw[Z8]at h;cases h;exact .inl ⟨rfl,rfl⟩
 |some e=>have s:=I.e C X e m O h;exact .inr ⟨e,rfl,s.nn,s.ge⟩
def W8(I:Ih c n)(O:jn C X c){es:List Expr}(h:Iu (n+1) C fl es=some m):Ar X c m es:=by
 cases fl with
 |nil=>
  cases es with
  |nil=>rw[Iu]at h;cases h;exact .nil
  |cons e es=>rw[Iu]at h<;>first|cases h|(intros;simp_all)
 |cons f fl=>
  cases es with
  |nil=>rw[Iu]at h<;>first|cases h|(intros;simp_all)
  |cons e es=>
   cases f with
   |false=>rw[Iu]at h;simp only[QJq,QJz]at h;obtain⟨m1,h1,m2,h2,rfl⟩:=h;have s:=I.e C X e m1 O h1;exact .cons s.ge s.pl (I.a C X fl es m2 O h2)
   |true=>
    by_cases hN:∃x p,e=.Name x p
    ·obtain⟨x,p,rfl⟩:=hN;rw[Iu]at h;simp only[QJq,QJz]at h;obtain⟨m1,⟨m3,h3,h4⟩,m2,h2,rfl⟩:=h;split at h4
     ·cases h4;exact .cons (Y7 (Oa O h3)) rfl (I.a C X fl es m2 O h2)
     ·cases h4
    ·rw[Iu]at h
     ·simp only[QJq,QJz]at h;obtain⟨m1,⟨m3,h3,rfl⟩,m2,h2,rfl⟩:=h;have s:=I.e C X e m3 O h3;exact .cons (Y5 s.ge) s.pl (I.a C X fl es m2 O h2)
     ·exact fun x p z=>hN ⟨x,p,z⟩
def Xn{x:Str}(O:jn C X c)(h:(decide (x="range")&&BP C.sc x&&(fnAt C x).isNone)=true):x="range"/\Gl X "range":=by simp only[QUq,QUz]at h;obtain⟨⟨rfl,h2⟩,_⟩:=h;exact⟨rfl,qt O h2⟩
def aaG{x:Str}(O:jn C X c)(h:(decide (x="zip")&&BP C.sc x&&(fnAt C x).isNone)=true):x="zip"/\Gl X "zip":=by simp only[QUq,QUz]at h;obtain⟨⟨rfl,h2⟩,_⟩:=h;exact⟨rfl,qt O h2⟩
def W4(I:Ih c n)(O:jn C X c)(h:Z9 (n+1) C e=some m):GI X W0 c m tg e/\plain e=true:=by
 have dflt:eV n C e=some m->GI X W0 c m tg e/\plain e=true:=fun h=>let s:=I.e C X e m O h;⟨acz s.ge,s.pl⟩
 unfold Z9 at h;split at h
 ·split at h
  ·split at h
   ·rename_i hr;obtain⟨rfl,hg⟩:=Xn O hr;simp only[QJz]at h;obtain⟨m1,h1,rfl⟩:=h;have s:=I.e C X _ m1 O h1;exact⟨Km s.ge hg (O.bi _ (by decide)) (cj s.pl _ _),rfl⟩
   ·exact dflt h
  ·split at h
   ·rename_i hr;obtain⟨rfl,hg⟩:=aaG O hr;simp only[QJq,QJz]at h;obtain⟨m1,h1,m2,h2,rfl⟩:=h;have s1:=I.e C X _ m1 O h1;have s2:=I.e C X _ m2 O h2;exact⟨YZ s1.ge s2.ge hg (O.bi _ (by decide)) (by rw[cj s1.pl,cj s2.pl];rfl) (cj s2.pl _ _),rfl⟩
   ·exact dflt h
  ·exact dflt h
 ·exact dflt h
def W3(I:Ih c n)(O:jn C X c){g:Comprehension}(h:trC (n+1) C elt g sc=some m):Fy X c m elt g sc:=by
 rw[trC]at h;split at h
 ·rename_i ha;simp only[QJq]at h;obtain⟨⟨η,tg⟩,ht,h⟩:=h;split at h
  ·rename_i hs;simp only[QJq,QJz]at h;obtain⟨it,h1,cond,h2,m',h3,rfl⟩:=h;obtain⟨sm,gg⟩:=aaT O ht hs;obtain⟨gi,gp⟩:=I.i C X g.target g.iter it O h1;refine⟨η,tg,it,cond,m',rfl,⟨by rw[O.sc,O.N];exact Cu hs,sm,fun cl fp s₀ H₀ _=>gg cl fp s₀ H₀,?_,fun cl fp s₀ H₀ _=>(I.e _ _ elt m' (O.blk hs) h3).ge⟩,gi,gp,ha⟩;split at h2
   ·rename_i hi;cases h2;exact .inl ⟨hi,rfl⟩
   ·rename_i ce hi;exact .inr ⟨ce,hi,fun cl fp s₀ H₀ _=>(I.e _ _ ce cond (O.blk hs) h2).gt⟩
   ·cases h2
  ·cases h
 ·cases h
end
section
theorem NB(I:Ih c n)(O:jn C X c){a:Expr}(hg:BP C.sc x=true)(h:((biB x).bind fun b=>(eV n C a).bind fun m=>if (decide (b=.dict)&&m.aF.isSome)=true then some (E.bi b (.rd m))else some (E.bi b m))=some m):
  GE X W0 c m (.Call (.Name x p) [a] [] pos)/\m.aF=none/\m.lW=false:=by
 simp only[QJq]at h;obtain⟨bb,h1,m1,h2,h3⟩:=h;split at h3
 ·cases h3;have s:=I.e C X a m1 O h2;exact⟨V7 O h1 hg ⟨(fun env=>PE.imp (s.ge env) fun σ H Q q=>by simpa only[aaH]using q),fun γ sh σ H Q I⟨env,q⟩=>s.gt γ sh σ H Q I ⟨env,by simpa only[aaH]using q⟩,s.pl,fun k z=>(by cases z),rfl⟩ fun _=>rfl,rfl,rfl⟩
 ·rename_i hn;cases h3;refine⟨V7 O h1 hg (I.e C X a m1 O h2) (fun z=>?_),rfl,rfl⟩;subst z;cases q:m1.aF with
  |none=>rfl
  |some k=>rw[q]at hn;exact absurd rfl hn
def W7(I:Ih c n)(O:jn C X c){x:Str}{args:List Expr}{p pos:Pos}(hg:BP C.sc x=true)(h:trB (n+1) C x args=some m):GE X W0 c m (.Call (.Name x p) args [] pos)/\m.aF=none/\m.lW=false:=by
 unfold trB at h;split at h
 ·split at h
  ·rename_i hx;subst hx;split at h
   ·split at h
    ·rename_i hy;simp only[QJq,QJz]at h;obtain⟨t,h1,m1,h2,rfl⟩:=h;have s:=I.e C X _ m1 O h2;obtain⟨e1,e2⟩:=WF h1;exact⟨Zc s.ge e1 (qt O hy) (O.bi _ e2) (qt O hg) (O.bi _ (by decide)) (cj s.pl _ _),rfl,rfl⟩
    ·cases h
   ·cases h
  ·cases h
 ·split at h
  ·split at h
   ·split at h
    ·rename_i hz;obtain⟨rfl,hgz⟩:=aaG O hz;split at h
     ·rename_i hx;subst hx;simp only[QJq,QJz]at h;obtain⟨m1,h1,m2,h2,rfl⟩:=h;have s1:=I.e C X _ m1 O h1;have s2:=I.e C X _ m2 O h2;exact⟨Eg O.calm O.hu s1.ge s2.ge hgz (O.bi _ (by decide)) (by rw[cj s1.pl,cj s2.pl];rfl) (cj s2.pl _ _) (qt O hg) (O.bi _ (by decide)) rfl,rfl,rfl⟩
     ·cases h
    ·exact NB I O hg h
   ·exact NB I O hg h
  ·exact NB I O hg h
 ·cases h
def jf(ge:GE X W0 c m e)(hp:plain e=true)(hv:m.aF=none)(hi:m.lW=false)(ht:tame e=true):Sd X c m e:=
 ⟨ge,O9 ge hp ht,hp,fun k z=>(by rw[hv]at z;cases z),hi⟩
def hu1(O:jn C X c):X.A.units+1<cLine:=by have:=O.hu;omega
def Uq{g:Nat}(h:fnAt C x=some (g,fl)):C.fns[g]? =some (x,fl):=by unfold fnAt at h;simp only[QJq,QJz]at h;obtain⟨g',h1,⟨y,fl'⟩,h2,h3⟩:=h;cases h3;have:=jy h1;rw[QFz,h2]at this;simp at this;rw[h2,this]
def oV{name:Str}(h:isCall o=false):attributeBase o name env (eval o env)=eval o env:=by cases o<;>first|rfl|simp[isCall]at h
def W5(I:Ih c n)(O:jn C X c){e:Expr}(h:eV (n+1) C e=some m):Sd X c m e:=by
 have no:∀{P:Prop},(none:Option E)=some m->P:=fun z=>nomatch z
 unfold eV at h;split at h
 ·simp only[QJz]at h;obtain⟨d,h1,rfl⟩:=h;exact jf (Zf (Qo h1)) rfl rfl rfl rfl
 ·exact Gj O h
 ·simp only[QJz]at h;obtain⟨m1,h1,rfl⟩:=h;exact jf (Y4 (I.es C X _ m1 O h1).ga) rfl rfl rfl rfl
 ·simp only[QJz]at h;obtain⟨m1,h1,rfl⟩:=h;exact jf (Za (I.es C X _ m1 O h1).ga) rfl rfl rfl rfl
 ·simp only[QJq,QJz]at h;obtain⟨o,h0,m1,h1,m2,h2,rfl⟩:=h;rw[Yi h0];exact jf (acC (I.e C X _ m1 O h1).ge (I.e C X _ m2 O h2).ge) rfl rfl rfl rfl
 ·split at h
  ·simp only[QJz]at h;obtain⟨m1,h1,rfl⟩:=h;have s:=I.e C X _ m1 O h1;exact⟨Y9 s.ge,YK s.gt,rfl,fun k z=>(by cases z),rfl⟩
  ·exact no h
 ·simp only[QJq]at h;obtain⟨m1,h1,h2⟩:=h;have A:=I.es C X _ m1 O h1;split at h2
  ·exact no h2
  ·rename_i hn;cases A with
   |nil=>exact absurd rfl hn
   |cons s t=>
    split at h2
    ·cases h2;exact⟨(Al.cons s t).and.1,(Al.cons s t).and.2.t,rfl,fun k z=>(by cases z),rfl⟩
    ·cases h2;exact⟨(Al.cons s t).or.1,(Al.cons s t).or.2.t,rfl,fun k z=>(by cases z),rfl⟩
 ·split at h
  ·simp only[QJq,QJz]at h;obtain⟨o,h0,m1,h1,m2,h2,rfl⟩:=h;rw[Ew h0];have s1:=I.e C X _ m1 O h1;have s2:=I.e C X _ m2 O h2;exact⟨Zg (pq O.hu o) s1.ge s2.ge s2.va (sV s2.pl _),YM (pq O.hu o) s1.ge s2.ge s2.va (sV s2.pl _),rfl,fun k z=>(by cases z),rfl⟩
  ·simp only[QJq,QJz]at h;obtain⟨o,h0,o2,h02,m1,h1,m2,h2,m3,h3,rfl⟩:=h;rw[Ew h0,Ew h02];have s1:=I.e C X _ m1 O h1;have s2:=I.e C X _ m2 O h2;have s3:=I.e C X _ m3 O h3;have hm:∀b,lastMarks [fG o,fG o2] [b,_]=false:=fun b=>sV s3.pl (fG o2);exact⟨PL (pq O.hu o) (pq O.hu o2) s1.ge s2.ge s3.ge (hm _),Pa (pq O.hu o) (pq O.hu o2) s1.ge s2.ge s3.ge (hm _),rfl,fun k z=>(by cases z),rfl⟩
  ·exact no h
 ·simp only[QJq,QJz]at h;obtain⟨m1,h1,m2,h2,m3,h3,rfl⟩:=h;have s1:=I.e C X _ m1 O h1;have s2:=I.e C X _ m2 O h2;have s3:=I.e C X _ m3 O h3;exact⟨Zb s1.gt s2.ge s3.ge,YL s1.gt s2.gt s3.gt,rfl,fun k z=>(by cases z),rfl⟩
 ·split at h
  ·split at h
   ·simp only[QJq,QJz]at h;obtain⟨m1,h1,m2,h2,m3,h3,rfl⟩:=h;exact jf (Y6 (I.e C X _ m1 O h1).ge (I.o C X _ m2 O h2) (I.o C X _ m3 O h3)) rfl rfl rfl rfl
   ·exact no h
  ·simp only[QJq,QJz]at h;obtain⟨m1,h1,m2,h2,rfl⟩:=h;have s1:=I.e C X _ m1 O h1;have s2:=I.e C X _ m2 O h2;exact jf (Zd (by have:=O.hu;omega) s1.ge s2.ge s1.va (Dc s2.pl)) rfl rfl rfl rfl
 ·split at h
  ·split at h
   ·split at h
    ·rename_i hx;rw[QUq]at hx;split at h
     ·rename_i g fl hf;simp only[QJq]at h;obtain⟨m1,h1,h2⟩:=h;split at h2
      ·exact no h2
      ·rename_i hn;cases h2;have A:=I.a C X _ _ m1 O h1;obtain⟨k,f,fd,ps,F,hr,hm,hk,hb,hl⟩:=O.fn g _ fl (Uq hf);cases A with
       |nil=>exact absurd rfl hn
       |cons ge pl t=>exact jf (Um F hr (qt O hx.2) hm hk hb (GF hx.1).1 (Ar.cons ge pl t).ga (cj pl _ _) t.plain hl) rfl rfl rfl rfl
     ·obtain⟨ge,h1,h2⟩:=I.b C X _ _ m _ _ O hx.2 h;exact jf ge rfl h1 h2 rfl
    ·exact no h
   ·split at h
    ·rename_i hl;split at h
     ·split at h
      ·rename_i hx;subst hx;simp only[QJq,QJz]at h;obtain⟨m1,h1,u,h0,m2,h2,rfl⟩:=h;split at h0
       ·rename_i hp;rw[QUq]at hp;have s1:=I.e C X _ m1 O h1;have s2:=I.e C X _ m2 O h2;exact jf (PJ ⟨oV (by simpa using hp.2),hl,cj s2.pl _ _⟩ s1.ge s2.ge) rfl rfl rfl rfl
       ·cases h0
      ·exact no h
     ·split at h
      ·rename_i hx;subst hx;simp only[QJq,QJz]at h;obtain⟨m1,h1,u,h0,m2,h2,m3,h3,rfl⟩:=h;split at h0
       ·rename_i hp;rw[QUq]at hp;have s1:=I.e C X _ m1 O h1;have s2:=I.e C X _ m2 O h2;have s3:=I.e C X _ m3 O h3;exact jf (Uj (hu1 O) ⟨oV (by simpa using hp.2),by rw[cj s2.pl,cj s3.pl];rfl,hl,by rw[cj s2.pl,cj s3.pl];rfl⟩ s1.va s1.ge s2.ge s3.ge) rfl rfl rfl rfl
       ·cases h0
      ·exact no h
     ·exact no h
    ·exact no h
   ·exact no h
  ·exact no h
 ·split at h
  ·rename_i hx;simp only[QUq,List.isEmpty_iff]at hx;obtain⟨rfl,rfl⟩:=hx;cases h;exact jf PB rfl rfl rfl rfl
  ·split at h
   ·rename_i hx;simp only[QUq,QUz]at hx;simp only[QJz]at h;obtain⟨m1,h1,rfl⟩:=h;obtain⟨mF,K,a⟩:=I.d C X _ _ m1 O h1;exact jf (Ze (by have:=O.hu;omega) K a hx.1.1 (fun z=>by rw[z]at hx;simp at hx) hx.1.2) rfl rfl rfl rfl
   ·exact no h
 ·split at h
  ·rename_i elt sc pos g;obtain⟨η,tg,it,cond,m',rfl,B,gi,gp,ha⟩:=I.k C X _ _ _ m O h;obtain⟨ta,ti,tf,tn⟩:=g;simp only at ha;subst ha;exact jf (Ul B gi O.calm (fun x=>xY gp _ _)) rfl rfl rfl rfl
  ·exact no h
 ·exact no h
end
theorem ih c:∀n,Ih c n
 |0=>ih0 c
 |n+1=>let I:=ih c n
  ⟨fun C X e m O h=>W5 I O h,fun C X es m O h=>Rt I O h,fun C X fl es m O h=>W8 I O h,fun C X o m O h=>W2 I O h,fun C X x args m p pos O hg h=>W7 I O hg h,fun C X tg e m O h=>W4 I O h,fun C X elt g sc m O h=>W3 I O h,fun C X ks vs m O h=>W6 I O h⟩
def NE{α:Type}(r:Out α):Prop:=∀k σ,r≠ .exc k σ
section
theorem NE.ok(a:α)σ:NE (.ok a σ):=fun _ _ z=>nomatch z
theorem NE.bad:NE (.bad:Out α):=fun _ _ z=>nomatch z
theorem NE.lift σ(o:Option α):NE (lift σ o):=by cases o<;>(intro _ _ z;cases z)
theorem NE.bind{f:α->Ev->Out β}(h:NE r)(g:∀a σ,NE (f a σ)):NE (r.bind f):=by
 cases r with
 |ok a σ=>exact g a σ
 |exc k σ=>exact absurd rfl (h k σ)
 |bad=>exact NE.bad
theorem NE.au{f:D->Ev->Out β}(h:NE r)(g:∀a σ,NE (f a σ)):NE (r.au f):=by
 cases r with
 |ok a σ=>cases a<;>first|exact g _ _|exact NE.bad
 |exc k σ=>exact absurd rfl (h k σ)
 |bad=>exact NE.bad
theorem NE.cT{r:Out Rv}{f:Bool->Ev->Out β}(h:NE r)(g:∀a σ,NE (f a σ)):NE (r.cT tr f):=
 NE.au h fun d σ=>by
  cases tr d with
  |none=>exact NE.bad
  |some b=>exact g b σ
def NE.ite{p:Prop}[Decidable p]{a b:Out α}(h:NE a)(g:NE b):NE (if p then a else b):=by split<;>assumption
end
def TJ c f as σ:NE (uo c f as σ):=by
 unfold uo;split
 ·exact NE.bad
 ·split
  ·split
   ·exact NE.ok _ _
   ·exact NE.bad
  ·exact NE.bad
def Yk k y σ:NE (Gw k y σ):=by
 unfold Gw;split
 ·refine NE.ite NE.bad ?_;split
  ·split
   ·exact NE.ok _ _
   ·exact NE.bad
  ·exact NE.bad
 ·exact NE.bad
def TF k σ:NE (rW k σ):=by unfold rW;split<;>first|exact NE.ok _ _|exact NE.bad
def xM(c:Cf):∀(m:E)(σ:Ev),NE (ev c m σ)/\NE (evs c m σ)/\NE (iG c m σ)/\NE (oJ c m σ):=by
 have k3:∀{m:E},(∀σ,NE (ev c m σ))->(∀σ,evs c m σ=.bad)->(∀σ,iG c m σ=.bad)->(∀σ,oJ c m σ=.bad)->∀σ,NE (ev c m σ)/\NE (evs c m σ)/\NE (iG c m σ)/\NE (oJ c m σ):=fun h a b d σ=>by rw[a,b,d];exact⟨h σ,NE.bad,NE.bad,NE.bad⟩
 intro m;induction m with
 |var i=>exact k3 (fun σ=>TF i σ) (fun _=>rfl) (fun _=>rfl) fun _=>rfl
 |con d=>exact k3 (fun σ=>NE.ok _ _) (fun _=>rfl) (fun _=>rfl) fun _=>rfl
 |glob k=>exact k3 (fun σ=>by rw[v_2];split<;>first|exact NE.ok _ _|exact NE.bad) (fun _=>rfl) (fun _=>rfl) fun _=>rfl
 |nil=>exact fun σ=>⟨NE.bad,NE.ok _ _,NE.bad,NE.bad⟩
 |cons h t ih jh=>
  intro σ;refine⟨NE.bad,NE.bind (ih σ).1 fun x σ=>NE.bind (jh σ).2.1 fun _ _=>NE.ok _ _,?_,?_⟩
  ·cases t with
   |nil=>exact(ih σ).1
   |_=>exact NE.au (ih σ).1 fun x σ=>(by split<;>first|exact(jh σ).2.2.1|exact NE.ok _ _|exact NE.bad)
  ·cases t with
   |nil=>exact(ih σ).1
   |_=>exact NE.au (ih σ).1 fun x σ=>(by split<;>first|exact(jh σ).2.2.2|exact NE.ok _ _|exact NE.bad)
 |tup es ih=>exact k3 (fun σ=>NE.bind (ih σ).2.1 fun _ _=>NE.lift _ _) (fun _=>rfl) (fun _=>rfl) fun _=>rfl
 |lis es ih=>exact k3 (fun σ=>NE.bind (ih σ).2.1 fun _ _=>NE.lift _ _) (fun _=>rfl) (fun _=>rfl) fun _=>rfl
 |op o a b ih jh=>exact k3 (fun σ=>NE.au (ih σ).1 fun _ σ=>NE.au (jh σ).1 fun _ _=>NE.lift _ _) (fun _=>rfl) (fun _=>rfl) fun _=>rfl
 |neg a ih=>exact k3 (fun σ=>NE.au (ih σ).1 fun _ σ=>NE.lift _ _) (fun _=>rfl) (fun _=>rfl) fun _=>rfl
 |cmp o a b ih jh=>exact k3 (fun σ=>NE.au (ih σ).1 fun _ σ=>by split<;>first|exact NE.lift _ _|exact NE.au (jh σ).1 fun _ _=>NE.lift _ _) (fun _=>rfl) (fun _=>rfl) fun _=>rfl
 |chain o p a b d ih jh kh=>exact k3 (fun σ=>NE.au (ih σ).1 fun _ σ=>NE.au (jh σ).1 fun _ σ=>NE.bind (NE.lift _ _) fun _ σ=>NE.ite (NE.au (kh σ).1 fun _ _=>NE.lift _ _) (NE.ok _ _)) (fun _=>rfl) (fun _=>rfl) fun _=>rfl
 |and es ih=>exact k3 (fun σ=>(ih σ).2.2.1) (fun _=>rfl) (fun _=>rfl) fun _=>rfl
 |or es ih=>exact k3 (fun σ=>(ih σ).2.2.2) (fun _=>rfl) (fun _=>rfl) fun _=>rfl
 |not a ih=>exact k3 (fun σ=>NE.cT (ih σ).1 fun _ _=>NE.ok _ _) (fun _=>rfl) (fun _=>rfl) fun _=>rfl
 |ite t a b ih jh kh=>exact k3 (fun σ=>NE.cT (ih σ).1 fun _ σ=>NE.ite (jh σ).1 (kh σ).1) (fun _=>rfl) (fun _=>rfl) fun _=>rfl
 |idx a i ih jh=>exact k3 (fun σ=>by rw[Wx];split<;>first|exact NE.ite NE.bad (NE.au (jh σ).1 fun _ _=>NE.lift _ _)|exact NE.au (ih σ).1 fun _ σ=>NE.au (jh σ).1 fun _ _=>NE.lift _ _) (fun _=>rfl) (fun _=>rfl) fun _=>rfl
 |slc a lo hi ih jh kh=>exact k3 (fun σ=>NE.au (ih σ).1 fun _ σ=>NE.au (jh σ).1 fun _ σ=>by split<;>first|exact NE.bad|exact NE.au (kh σ).1 fun _ _=>NE.lift _ _) (fun _=>rfl) (fun _=>rfl) fun _=>rfl
 |noneE=>exact k3 (fun σ=>NE.ok _ _) (fun _=>rfl) (fun _=>rfl) fun _=>rfl
 |call f as ih=>exact k3 (fun σ=>NE.bind (ih σ).2.1 fun _ _=>TJ _ _ _ _) (fun _=>rfl) (fun _=>rfl) fun _=>rfl
 |ref i=>exact k3 (fun σ=>by rw[aaI];split<;>first|exact NE.ok _ _|exact NE.bad) (fun _=>rfl) (fun _=>rfl) fun _=>rfl
 |tmp e ih=>exact k3 (fun σ=>NE.bind (ih σ).1 fun _ _=>NE.lift _ _) (fun _=>rfl) (fun _=>rfl) fun _=>rfl
 |rd e ih=>exact k3 (fun σ=>(ih σ).1) (fun _=>rfl) (fun _=>rfl) fun _=>rfl
 |isi a t ih=>exact k3 (fun σ=>NE.au (ih σ).1 fun _ _=>NE.ok _ _) (fun _=>rfl) (fun _=>rfl) fun _=>rfl
 |bi b a ih=>exact k3 (fun σ=>by rw[yK];split<;>first|exact NE.lift _ _|exact NE.au (ih σ).1 fun _ _=>NE.lift _ _) (fun _=>rfl) (fun _=>rfl) fun _=>rfl
 |range1 a ih=>exact k3 (fun σ=>NE.au (ih σ).1 fun _ _=>NE.lift _ _) (fun _=>rfl) (fun _=>rfl) fun _=>rfl
 |zip a b ih jh=>exact k3 (fun σ=>NE.au (ih σ).1 fun _ σ=>NE.au (jh σ).1 fun _ _=>NE.lift _ _) (fun _=>rfl) (fun _=>rfl) fun _=>rfl
 |count a b ih jh=>exact k3 (fun σ=>NE.au (ih σ).1 fun _ σ=>NE.ite NE.bad (NE.au (jh σ).1 fun _ _=>NE.lift _ _)) (fun _=>rfl) (fun _=>rfl) fun _=>rfl
 |popAt i a ih=>exact k3 (fun σ=>NE.ite NE.bad (NE.au (ih σ).1 fun _ _=>Yk _ _ _)) (fun _=>rfl) (fun _=>rfl) fun _=>rfl
 |get2 a b d ih jh kh=>
  refine k3 (fun σ=>?_) (fun _=>rfl) (fun _=>rfl) fun _=>rfl;rw[Ww];split
  ·exact NE.ite NE.bad (NE.au (jh σ).1 fun _ σ=>NE.au (kh σ).1 fun _ _=>NE.lift _ _)
  ·exact NE.bad
 |dsp es ih=>exact k3 (fun σ=>NE.bind (ih σ).2.1 fun _ _=>NE.lift _ _) (fun _=>rfl) (fun _=>rfl) fun _=>rfl
 |emp=>exact k3 (fun σ=>NE.ok _ _) (fun _=>rfl) (fun _=>rfl) fun _=>rfl
 |comp nl tg it cond elt ih _ _=>
  refine k3 (fun σ=>?_) (fun _=>rfl) (fun _=>rfl) fun _=>rfl;rw[BX];refine NE.au (ih σ).1 fun _ σ=>?_;split
  ·split
   ·exact NE.ok _ _
   ·exact NE.bad
  ·exact NE.bad
section
def GE.w(h:GE X W0 c m e):GE X W c m e:=fun env=>PE.imp (h env) fun σ H Q⟨S,q⟩=>by
 refine⟨S,?_⟩;cases r:ev c m env with
 |exc k ζ=>exact absurd r ((xM c m env).1 k ζ)
 |_=>rw[r]at q;exact q
def GA.w(h:GA X W0 c m es):GA X W c m es:=fun env p γ s σ H R I q=>h env p γ s σ H R I (by
 obtain⟨S,q⟩:=q;refine⟨S,?_⟩;cases r:evs c m env with
 |exc k ζ=>exact absurd r ((xM c m env).2.1 k ζ)
 |_=>rw[r]at q;exact q)
def GT.w(h:GT X W0 c m e):GT X W c m e:=PT.imp h fun σ H Q⟨env,S,q⟩=>by
 refine⟨env,S,?_⟩;cases r:ev c m env with
 |exc k ζ=>exact absurd r ((xM c m env).1 k ζ)
 |_=>rw[r]at q;exact q
def GI.w(h:GI X W0 c m tg e):GI X W c m tg e:=fun env γ s σ H R I q=>h env γ s σ H R I (by
 obtain⟨S,q⟩:=q;refine⟨S,?_⟩;cases r:ev c m env with
 |exc k ζ=>exact absurd r ((xM c m env).1 k ζ)
 |_=>rw[r]at q;exact q)
end
structure Top(C:Ct)(X:Cx)(W:Wi)(c:Cf):Prop where
 fn:∀x,X.fn x=true
 po:PassesOwn (model X.prog X.w) X.A X.env X.xe
 ra:∀e f p n m,Vb (n+1) C (.Raise e f p)=some m->GS X W c m (.Raise e f p)
 cx:∀f args kw cp p n m,Ih c n->rzB C f=true->trX n C f args kw=some m->GS X W c m (.Expr (.Call f args kw cp) p)
section
theorem Ut(O:jn C X c):∀{n:Nat}{elt:Expr}{gens:List Comprehension}{sc:Scope}{pos:Pos},eV n C (.ListComp elt gens sc pos)=some m->∃g,gens=[g]/\Fy X c m elt g sc
 |0,_,_,_,_,h=>by rw[eV]at h;cases h
 |n+1,elt,gens,sc,pos,h=>by
  unfold eV at h;simp only at h;split at h
  ·exact⟨_,rfl,(ih c n).k C X _ _ _ m O h⟩
  ·cases h
def sW(O:jn C X c)(h:z7 C.sc x=true):Loc X.env.scope x:=by
 unfold z7 at h;rw[O.sc];rw[Bool.or_eq_true]at h;rcases h with h|h
 ·exact .inl (by simpa using h)
 ·exact .inr (by simpa using h)
def rG{t:Option Expr}{env:Env}(hp:plain e=true)(hc:tK e=false):swapsWith e t l env=pure false:=by cases e<;>first|rfl|exact absurd (hp) Qjz|exact absurd (hc) (fun h=>Qjz h.symm)
def yX{q:Pos}:swappedStores [.Subscript o i q] e env=pure none:=by cases e<;>rfl
def Rw{l:Nat}:swapsWithSole [t] e l env=swapsWith e (some t) l env:=rfl
def Uz{tp:Pos}{v:Value}(h:isSlice i=false):assign (.Subscript o i tp) env v=(do
   let ov<-holding [v] (eval o env)
   let iv<-holding [v,ov] (eval i env)
   standAt tp
   holding [v,ov,iv] (setItem ov iv v)
   release [v,ov,iv] []):=by
 cases i<;>first|rfl|(simp[isSlice]at h;done)
theorem zp(O:jn C X c)(T:Top C X W c):∀{es:List Expr}{is:List Nat},slotsOf C es=some is->uE X is es/\(assignEach es X.env).length=is.length/\(assignEach es X.env).findIdx? (·.1)=none
 |[],is,h=>by cases h;exact⟨.nil,rfl,rfl⟩
 |e::es,is,h=>by
  cases e<;>simp only[slotsOf]at h<;>try (cases h;done)
  rename_i x q;split at h
  ·rename_i hl;simp only[QJq,QJz]at h;obtain⟨i,h1,js,h2,rfl⟩:=h;obtain⟨a1,a2,a3⟩:=zp O T h2;refine⟨.cons (by rw[O.N];exact jy h1) (sW O hl) (.inl (T.fn x)) a1,?_,?_⟩
   ·show(_::assignEach es X.env).length=_;simp[a2]
   ·show(List.findIdx? (·.1) ((false,_)::assignEach es X.env))=none;rw[List.findIdx?_cons];simp[a3]
  ·cases h
def zX(O:jn C X c):X.N.Nodup:=by rw[O.N];exact O.nd
def Lj(O:jn C X c)(T:Top C X W c){e:Expr}(h:Lk C e=some tg):GG X tg e:=by
 cases e<;>simp only[Lk]at h<;>try (cases h;done)
 ·rename_i x q;split at h
  ·rename_i hl;simp only[QJz]at h;obtain⟨i,h1,rfl⟩:=h;exact xX (zX O) (by rw[O.N];exact jy h1) (sW O hl) (.inl (T.fn x))
  ·cases h
 ·simp only[QJz]at h;obtain⟨is,h1,rfl⟩:=h;obtain⟨a1,a2,a3⟩:=zp O T h1;exact Pu (zX O) O.calm a1 a2 a3
theorem J7(O:jn C X c)(T:Top C X W c){scope:Scope}{tg:Tg}{it cond elt:E}{ifs:List Expr}{i:Nat}(B:Bx X c scope η tg cond elt tgE ω ifs)(hi:GI X W c it tgE ξ)(gp:plain ξ=true)
  (ge:GE X W c (.comp η.length tg it cond elt) (.ListComp ω [⟨tgE,ξ,ifs,0⟩] scope cp))(hN:X.N[i]? =some x)(hl:z7 C.sc x=true):
  GS X W c (.set i (.comp η.length tg it cond elt)) (.Assign [.Name x np] (.ListComp ω [⟨tgE,ξ,ifs,0⟩] scope cp) sp):=by
 have key:∃b:Bool,swapsWith (.ListComp ω [⟨tgE,ξ,ifs,0⟩] scope cp) (some (.Name x np)) sp.line X.env=pure b:=⟨_,rfl⟩;obtain⟨b,hb⟩:=key;cases b with
 |false=>exact Pn ge (zX O) hN (sW O hl) (.inl (T.fn x)) hb
 |true=>exact Ed B hi O.calm (fun x=>xY gp _ _) (zX O) hN (sW O hl) (.inl (T.fn x)) hb
structure IhS(c:Cf)(n:Nat):Prop where
 s:∀C X W st m,jn C X c->Top C X W c->Vb n C st=some m->GS X W c m st
 ss:∀C X W st m,jn C X c->Top C X W c->rB n C st=some m->Q6 X W c m st
def af0 c:IhS c 0:=by constructor;all_goals (intros;rename_i h;first|(rw[Vb]at h;cases h)|(rw[rB]at h;cases h))
def Rq(I:IhS c n)(O:jn C X c)(T:Top C X W c){m:S}(h:rB (n+1) C st=some m):Q6 X W c m st:=by
 cases st with
 |nil=>rw[rB]at h;cases h;exact Ud
 |cons s st=>rw[rB]at h;simp only[QJq,QJz]at h;obtain⟨m1,h1,m2,h2,rfl⟩:=h;exact Pb (I.s C X W s m1 O T h1) (I.ss C X W st m2 O T h2)
def WY(I:IhS c n)(O:jn C X c)(T:Top C X W c){st:Stmt}{m:S}(h0:Vb (n+1) C st=some m):GS X W c m st:=by
 have J:=ih c n;have no:∀{P:Prop},(none:Option S)=some m->P:=fun z=>nomatch z
 have h:=h0;unfold Vb at h;split at h
 ·split at h
  ·cases h;exact Ue
  ·simp only[QJz]at h;obtain⟨m1,h1,rfl⟩:=h;have s:=J.e C X _ m1 O h1;exact YS s.ge.w s.va
 ·split at h
  ·split at h
   ·rename_i e _ _ _ x _;split at h
    ·rename_i hl;simp only[QJq,QJz]at h;obtain⟨i,h1,m1,h2,rfl⟩:=h;have s:=J.e C X _ m1 O h2;have hN:X.N[i]? =some x:=by rw[O.N];exact jy h1
     cases hc:tK e with
     |false=>exact Pn s.ge.w (zX O) hN (sW O hl) (.inl (T.fn x)) (rG s.pl hc)
     |true=>cases e<;>simp[tK]at hc;rename_i elt gens sc cp;obtain⟨g,rfl,η,tg,it,cond,m',rfl,B,gi,gp,ha⟩:=Ut O h2;obtain⟨ta,ti,tf,tn⟩:=g;simp only at ha;subst ha;exact J7 O T B gi.w gp s.ge.w hN hl
    ·exact no h
   ·split at h
    ·split at h
     ·exact no h
     ·rename_i hx;rw[Bool.not_eq_true,Bool.or_eq_false_iff]at hx;simp only[QJq]at h;obtain⟨v,h1,h⟩:=h;split at h
      ·simp only[QJq,QJz]at h;obtain⟨i,h2,m1,h3,rfl⟩:=h;have s1:=J.e C X _ i O h2;have s:=J.e C X _ m1 O h3;exact Pj (Oa O h1) s.ge.w s1.ge.w (fun v=>Uz hx.2) (by rw[Rw];exact rG s.pl hx.1) yX (by have:=O.hu;omega) rfl
      ·exact no h
    ·exact no h
   ·exact no h
  ·exact no h
 ·split at h
  ·have dflt:∀(e:Expr)(q:Pos),tK e=false->(eV n C e).map S.expr=some m->GS X W c m (.Expr e q):=fun e q hc z=>by
    simp only[QJz]at z;obtain⟨m1,h1,rfl⟩:=z;have s:=J.e C X _ m1 O h1;exact Ug s.ge.w (rG s.pl hc)
   split at h
   ·split at h
    ·split at h
     ·rename_i hx
      simp only[QUq,QUz]at hx
      obtain⟨hl,rfl⟩:=hx
      simp only[QJq]at h
      obtain⟨v,h1,h⟩:=h
      split at h
      ·simp only[QJz]at h
       obtain⟨m1,h2,rfl⟩:=h
       have s:=J.e C X _ m1 O h2
       exact J8 ⟨rfl,hl,cj s.pl _ _⟩ (Oa O h1) s.ge.w
      ·exact no h
     ·exact dflt _ _ rfl h
    ·exact no h
   ·split at h
    ·rename_i hz
     exact T.cx _ _ _ _ _ _ _ J hz h
    ·exact dflt _ _ rfl h
  ·exact no h
 ·simp only[QJq,QJz]at h;obtain⟨t,h1,a,h2,b,h3,rfl⟩:=h;exact acx (J.e C X _ t O h1).gt.w (I.ss C X W _ a O T h2) (I.ss C X W _ b O T h3)
 ·split at h
  ·simp only[QJq,QJz]at h;obtain⟨tg,h1,it,h2,b,h3,rfl⟩:=h;obtain⟨gi,gp⟩:=J.i C X _ _ it O h2;exact YT T.po O.calm gi.w (Lj O T h1) (I.ss C X W _ b O T h3) (fun x=>xY gp _ _)
  ·exact no h
 ·split at h
  ·simp only[QJq,QJz]at h;obtain⟨t,h1,b,h3,rfl⟩:=h;exact Ph T.po (J.e C X _ t O h1).gt.w (I.ss C X W _ b O T h3)
  ·exact no h
 ·exact T.ra _ _ _ _ _ h0
 ·exact no h
end
def R5{e f:Option Expr}{n:Nat}(h:Vb (n+1) C (.Raise e f p)=some m):m=.raise (Mx C e f):=by unfold Vb at h;cases h;rfl
def abl(hz:C.rz=[])f:rzB C f=false:=by cases f<;>first|rfl|(unfold rzB;rw[hz];rfl)
def Top.plain{X:Cx}(hf:∀x,X.fn x=true)(hp:PassesOwn (model X.prog X.w) X.A X.env X.xe)(hz:C.rz=[]):Top C X W0 c:=
 ⟨hf,hp,fun e f p n m h=>by rw[R5 h];exact Pq,fun f _ _ _ _ _ _ _ z=>by rw[abl hz f]at z;cases z⟩
theorem ihS c:∀n,IhS c n
 |0=>af0 c
 |n+1=>let I:=ihS c n
  ⟨fun C X W st m O T h=>WY I O T h,fun C X W st m O T h=>Rq I O T h⟩
structure Df where
 x:Str
 st:Stmt
 N:List Str
 ps:List Str
 fl:List Bool
 exs:List Str:=[]
 rz:List Str:=[]
def aeF(ds:List Df):List (Str×List Bool):=ds.map fun d=>(d.x,d.fl)
noncomputable def Bb(ds:List Df)(dR:List Str)(d:Df):Ct:={N:=d.N,sc:=aj d.st,fns:=aeF ds,dR:=dR,exs:=d.exs}
noncomputable def fnOf(ds:List Df)(dR:List Str)(d:Df):Option Fn:=(rB 60 (Bb ds dR d) (bY d.st)).map fun b=>{pars:=d.ps.length,names:=d.N.length,body:=b}
structure wG(K:QQq)(mg:QZz)(d:Df)(f:Addr)(fd:FuncData):Prop where
 fu:yH K d.x d.x d.st f fd
 bi:Binds K fd d.ps []
 at_:mg d.x=some (.ref f)
section
variable{P:Program}{w:World}{base:Heap}{p:Pg}{fa:Nat->Addr}{fd:Nat->FuncData}
end
theorem Xc{K:QQq}{H:Hp}{ns:List Int}(hO:Only H)(hS:lC K H a (ns.map V.int))(hf:∃qs,f [.val (.lst (ns.map D.int))]=.ok (.val (.bl true)) qs)E:
  bA K 1 f [.ref a] H (fun v _=>v=.bl true) E:=by
 have den:aL K H (.lst (ns.map D.int)) (.ref a):=by
  have fr:QX K H a (ns.map V.int):=by
   rcases hS with (h|⟨o,h⟩)|h
   ·rcases hO a with z|⟨o,xs,z⟩
    ·rw[z]at h;cases h
    ·rw[z]at h;cases h
   ·exact .inl ⟨o,h⟩
   ·exact .inr h
  have l:∀(ns:List Int),ao K H (ns.map D.int) (ns.map V.int):=fun ns=>by
   induction ns with
   |nil=>exact ao.dZ
   |cons i r ih=>exact ao.aZ rfl ih
  exact⟨a,_,rfl,fr,l ns⟩
 obtain⟨qs,hf⟩:=hf;refine⟨[.val (.lst (ns.map D.int))],rfl,⟨rfl,fun i s e=>?_,fun i j b h1=>?_⟩,fun i o e=>?_,?_⟩
 ·cases i with
  |zero=>simp at e;subst e;exact⟨.ref a,rfl,den⟩
  |succ i=>simp at e
 ·obtain⟨⟨s,o,e1,e2⟩,_⟩:=h1;cases i with
  |zero=>simp at e1;subst e1;cases e2
  |succ i=>simp at e1
 ·cases i with
  |zero=>simp at e
  |succ i=>simp at e
 ·rw[hf];exact fun v H' _ z=>z
def XS(a:Arguments):List Str:=a.args.map (·.arg)
noncomputable def namesOf(st:Stmt):List Str:=XS (dg st)++(((aj st).names.filter fun p=>(p.2== .local||p.2== .cell)&& !(XS (dg st)).contains p.1).map (·.1))
noncomputable def cU(x:Str)(st:Stmt)(fl:List Bool):Df:={x:=x,st:=st,N:=namesOf st,ps:=XS (dg st),fl:=fl}
noncomputable def I9(d:Df):Bool:=
 decide ((aj d.st).kind=.function)&& !(aj d.st).isCoroutine&& !(aj d.st).isGenerator&&decide d.N.Nodup&&decide (d.N.take d.ps.length=d.ps)
 &&(d.ps.all fun x=>(aj d.st).names.lookup x==some .local||(aj d.st).names.lookup x==some .cell)&&((aj d.st).names.all fun y=>y.2 != .free)
def wY(h:I9 d=true):cX d.N d.ps (aj d.st):=by unfold I9 at h;simp only[QUq,QUz,Bool.not_eq_true',List.all_eq_true,Bool.or_eq_true,beq_iff_eq,bne_iff_ne,ne_eq]at h;obtain⟨⟨⟨⟨⟨⟨h1,h2⟩,h3⟩,h4⟩,h5⟩,h6⟩,h7⟩:=h;exact⟨h1,h2,h3,h4,h5,h6,h7⟩
noncomputable def vIs:Value->D->Bool
 |.none,.non=>true
 |.bool a,.bl b=>a==b
 |.int i _,.int j=>i==j
 |.str x _,.str y=>decide (x=y)
 |_,_=>false
noncomputable def Im:List Value->List D->Bool
 |[],[]=>true
 |u::us,d::ds=>vIs u d&&Im us ds
 |_,_=>false
noncomputable def Lf(o:Obj)(ds:List D):Bool:=o.cls== .type "tuple"&&o.dict.isNone&&match o.data with
 |.seq its _=>Im its.toList ds&&decide (its.size<=1000)
 |_=>false
def U3(K:QQq)(mg:QZz)(x:Str)(d:D):Prop:=∃v u,mg x=some u/\RelV v u/\∀H,aL K H d v
def La{u:Value}(h:vIs u d=true):∃v,RelV v u/\∀H,aL K H d v:=by
 cases u<;>cases d<;>simp[vIs]at h
 ·exact⟨.non,rfl,fun H=>rfl⟩
 ·subst h;exact⟨.bl _,rfl,fun H=>rfl⟩
 ·subst h;exact⟨.int _,⟨_,rfl⟩,fun H=>rfl⟩
 ·subst h;exact⟨.str _,⟨_,rfl⟩,fun H=>rfl⟩
theorem FP:∀{us:List Value}{ds:List D},Im us ds=true->∃vs,Vals vs us/\∀H,ao K H ds vs
 |[],[]=>fun _=>⟨[],.nil,fun H=>ao.dZ⟩
 |u::us,d::ds=>fun h=>by unfold Im at h;rw[QUq]at h;obtain⟨v,r,e⟩:=La h.1;obtain⟨vs,rs,es⟩:=FP h.2;exact⟨v::vs,.cons r rs,fun H=>ao.aZ (e H) (es H)⟩
 |[],_::_=>fun h=>by simp[Im]at h
 |_::_,[]=>fun h=>by simp[Im]at h
section
def YW(X:K.In h)(G:h.Ns mainGlobals mg)(e:PySem.W.nsIn K mainGlobals x=some (some u))(hv:vIs u d=true):U3 K mg x d:=by obtain⟨v,r,q⟩:=La hv;exact⟨v,u,PySem.W.mg_of X G e,r,q⟩
def YX(X:K.In h)(G:h.Ns mainGlobals mg)(e:PySem.W.nsIn K mainGlobals x=some (some (.ref a)))(l:K.lookup a=some o)(hv:Lf o ds=true):U3 K mg x (.tup ds):=by
 unfold Lf at hv;simp only[QUq,beq_iff_eq,Option.isNone_iff_eq_none]at hv;obtain⟨⟨hc,hd⟩,hv⟩:=hv;split at hv
 ·rename_i its n hs;rw[QUq,QUz]at hv;obtain⟨vs,r,q⟩:=FP hv.1;exact⟨.ref a,_,PySem.W.mg_of X G e,rfl,fun H=>dN (.inr ⟨o,its,n,l,hc,hd,hs,Nat.le_of_lt (IK hv.2),r⟩) (q H)⟩
 ·cases hv
end
noncomputable def Ii(K:QQq)(mg:QZz):List Df->List (Addr×FuncData)->Prop
 |[],[]=>True
 |d::ds,(f,fd)::r=>wG K mg d f fd/\Ii K mg ds r
 |_,_=>False
theorem Ii.at{K:QQq}{mg:QZz}:∀{ds:List Df}{fs:List (Addr×FuncData)},Ii K mg ds fs->∀(i:Nat)d,ds[i]? =some d->∃q,fs[i]? =some q/\wG K mg d q.1 q.2
 |[],_,_,i=>fun d e=>by simp at e
 |_::_,[],h,_=>fun _ _=>h.elim
 |d::ds,(f,fd)::r,h,0=>fun d' e=>by cases e;exact⟨(f,fd),rfl,h.1⟩
 |d::ds,_::r,h,i+1=>fun d' e=>h.2.at i d' e
noncomputable def Ig(K:QQq)(mg:QZz):List Str->List D->Prop
 |[],[]=>True
 |x::xs,d::ds=>U3 K mg x d/\Ig K mg xs ds
 |_,_=>False
theorem Ig.at{K:QQq}{mg:QZz}:∀{xs:List Str}{ds:List D},Ig K mg xs ds->∀(k:Nat)x,xs[k]? =some x->∃d,ds[k]? =some d/\U3 K mg x d
 |[],_,_,k=>fun x e=>by simp at e
 |_::_,[],h,_=>fun _ _=>h.elim
 |x::xs,d::ds,h,0=>fun x' e=>by cases e;exact⟨d,rfl,h.1⟩
 |x::xs,d::ds,h,k+1=>fun x' e=>h.2.at k x' e
def QZ(K:QQq)(x:Str)(st:Stmt):Prop:=∃(f:Addr)(od an:Option Addr)(sl:Array (Option Value))(oc kV dc pm cd ct:Value),
 PySem.W.nsIn K mainGlobals x=some (some (.ref f))/\K.lookup f=some ⟨oc,od,.func (PySem.W.fnOf x x (dg st) (bY st) (aj st) .none kV dc pm an cd ct),sl⟩/\PySem.W.codeIn K cd x=true/\PySem.W.keepIn K (.ref f)=true
def dIn{x:Str}{f:Addr}{od an:Option Addr}{oc kV dc pm cd ct:Value}(a:PySem.W.nsIn K mainGlobals x=some (some (.ref f)))
  (l:K.lookup f=some ⟨oc,od,.func (PySem.W.fnOf x x (dg st) (bY st) (aj st) .none kV dc pm an cd ct),sl⟩)(c:PySem.W.codeIn K cd x=true)(p:PySem.W.keepIn K (.ref f)=true):QZ K x st:=⟨f,od,an,sl,oc,kV,dc,pm,cd,ct,a,l,c,p⟩
def AllIn(K:QQq):List (Str×Stmt)->Prop
 |[]=>True
 |(x,s)::r=>QZ K x s/\AllIn K r
def Bd(d:Df):Prop:=∀(kV dc pm:Value)(an:Option Addr)(cd ct:Value)(us:List Value),us.length=d.ps.length->bindArgs (PySem.W.fnOf d.x d.x (dg d.st) (bY d.st) (aj d.st) .none kV dc pm an cd ct) ⟨us,[]⟩=pure (d.ps.zip us)
def sX{us:List Value}(h:us.length=1):∃a,us=[a]:=List.length_eq_one_iff.mp h
def T4{us:List Value}(h:us.length=n+1):∃a r,us=a::r/\r.length=n:=by
 cases us with
 |nil=>simp at h
 |cons a r=>exact⟨a,r,rfl,by simpa using h⟩
def oE{us:List Value}(h:us.length=2):∃a b,us=[a,b]:=by obtain⟨a,r,rfl,h2⟩:=T4 h;obtain⟨b,rfl⟩:=sX h2;exact⟨a,b,rfl⟩
def jR{us:List Value}(h:us.length=3):∃a b c,us=[a,b,c]:=by obtain⟨a,r,rfl,h2⟩:=T4 h;obtain⟨b,c,rfl⟩:=oE h2;exact⟨a,b,c,rfl⟩
def JT{us:List Value}(h:us.length=4):∃a b c d,us=[a,b,c,d]:=by obtain⟨a,r,rfl,h2⟩:=T4 h;obtain⟨b,c,d,rfl⟩:=jR h2;exact⟨a,b,c,d,rfl⟩
def afw{us:List Value}(h:us.length=5):∃a b c d e,us=[a,b,c,d,e]:=by obtain⟨a,r,rfl,h2⟩:=T4 h;obtain⟨b,c,d,e,rfl⟩:=JT h2;exact⟨a,b,c,d,e,rfl⟩
def BJ:List Df->Prop
 |[]=>True
 |d::r=>Bd d/\BJ r
inductive ZZ(K:QQq)(x:Str):D->Prop
 |v {u:Value} {d:D}:PySem.W.nsIn K mainGlobals x=some (some u)->vIs u d=true->ZZ K x d
 |t {a:Addr} {o:Obj} {ds:List D}:PySem.W.nsIn K mainGlobals x=some (some (.ref a))->K.lookup a=some o->Lf o ds=true->ZZ K x (.tup ds)
noncomputable def qT(K:QQq):List Str->List D->Prop
 |[],[]=>True
 |x::xs,d::ds=>ZZ K x d/\qT K xs ds
 |_,_=>False
noncomputable def Ie(K:QQq):List Str->Prop
 |[]=>True
 |x::r=>PySem.W.nsIn K mainGlobals x=some none/\Ie K r
section
theorem QG(X:K.In h)(G:h.Ns mainGlobals mg):∀(ds:List Df),BJ ds->AllIn K (ds.map fun d=>(d.x,d.st))->
  ∃fs,Ii K mg ds fs/\∀(i:Nat)d,ds[i]? =some d->∃q,fs[i]? =some q/\wG K mg d q.1 q.2/\∀(s:Shared)(us:List Value),us.length=d.ps.length->BindsTo s q.2 ⟨us,[]⟩ (d.ps.zip us)
 |[],_,_=>⟨[],trivial,fun i d e=>by simp at e⟩
 |d::ds,⟨b,bs⟩,⟨⟨f,od,an,sl,oc,kV,dc,pm,cd,ct,a,l,c,p⟩,is⟩=>by
  obtain⟨fs,A,B⟩:=QG X G ds bs is;have F:=Ei l c p;have D:wG K mg d f _:=⟨F,F.binds b,PySem.W.mg_of X G a⟩;refine⟨(f,_)::fs,⟨D,A⟩,fun i e he=>?_⟩;cases i with
  |zero=>cases he;exact⟨_,rfl,D,fun s us hl=>.of_eq (b kV dc pm an cd ct us hl)⟩
  |succ i=>exact B i e he
theorem QF(X:K.In h)(G:h.Ns mainGlobals mg):∀(xs:List Str)(ds:List D),qT K xs ds->Ig K mg xs ds
 |[],[],_=>trivial
 |_::xs,_::ds,⟨g,r⟩=>⟨by cases g with
  |v e hv=>exact YW X G e hv
  |t e l hv=>exact YX X G e l hv,QF X G xs ds r⟩
 |[],_::_,h=>h.elim
 |_::_,[],h=>h.elim
theorem QD(X:K.In h)(G:h.Ns mainGlobals mg):∀(xs:List Str),Ie K xs->∀x∈xs,mg x=none
 |[],_=>fun x hx=>by cases hx
 |_::r,⟨e,es⟩=>fun x hx=>by
  rcases QCq.mp hx with rfl|hx
  ·exact PySem.W.mg_none_of X G e
  ·exact QD X G r es x hx
end
section
@[simp]theorem ad5{f:α->Ev->Out β}:(Out.ok a σ).bind f=f a σ:=rfl
@[simp]theorem acT{f:α->Ev->Out β}:(Out.exc k σ).bind f=.exc k σ:=rfl
@[simp]theorem acU{f:α->Ev->Out β}:(Out.bad:Out α).bind f=.bad:=rfl
@[simp]theorem gU{f:D->Ev->Out β}:(Out.ok (.val d) σ).au f=f d σ:=rfl
@[simp]theorem wy{f:D->Ev->Out β}:(Out.ok (.new o) σ).au f=f o.d σ:=rfl
@[simp]theorem aap{f:D->Ev->Out β}:(Out.exc k σ).au f=.exc k σ:=rfl
@[simp]theorem aaq{f:D->Ev->Out β}:(Out.bad).au f=.bad:=rfl
@[simp]theorem kY{f:Bool->Ev->Out β}:(Out.ok (.val (.bl b)) σ).cT iY f=f b σ:=rfl
@[simp]theorem aam{f:Bool->Ev->Out β}:(Out.ok (.val (.int i)) σ).cT iY f=f (i !=0) σ:=rfl
@[simp]theorem aak{f:Bool->Ev->Out β}:(Out.ok (.val (.tup xs)) σ).cT iY f=f (!xs.isEmpty) σ:=rfl
@[simp]theorem aal{f:Bool->Ev->Out β}:(Out.ok (.val (.lst xs)) σ).cT iY f=f (!xs.isEmpty) σ:=rfl
@[simp]theorem aan{f:Bool->Ev->Out β}:(Out.exc k σ).cT iY f=.exc k σ:=rfl
@[simp]theorem aao{f:Bool->Ev->Out β}:(Out.bad).cT iY f=.bad:=rfl
@[simp]theorem ag4{a:α}:(Out.ok a σ).fl f=f a σ:=rfl
@[simp]theorem af6:(Out.exc k σ:Out α).fl f=.exc k σ:=rfl
@[simp]theorem af7:(Out.bad:Out α).fl f=.bad:=rfl
@[simp]theorem adR:(Out.ok (.val d) σ).pN f=f d σ:=rfl
@[simp]theorem adS:(Out.ok (.new o) σ).pN f=f o.d σ:=rfl
@[simp]theorem adT:(Out.exc k σ).pN f=.exc k σ:=rfl
@[simp]theorem adU:(Out.bad).pN f=.bad:=rfl
@[simp]theorem af8:(Out.ok (.val (.bl b)) σ).BR f=f b σ:=rfl
@[simp]theorem adP:(Out.exc k σ).BR f=.exc k σ:=rfl
@[simp]theorem adQ:(Out.bad).BR f=.bad:=rfl
@[simp]theorem vI{a:α}:Mini.lift σ (some a)=.ok a σ:=rfl
@[simp]theorem aaf:Mini.lift σ (none:Option α)=.bad:=rfl
@[simp]theorem abe:(Fl.next σ).seq f=f σ:=rfl
@[simp]theorem ady{f:Ev->Fl}:(Fl.ret r σ).seq f=.ret r σ:=rfl
@[simp]theorem adz:(Fl.exc k σ).seq f=.exc k σ:=rfl
@[simp]theorem adA:(Fl.brk σ).seq f=.brk σ:=rfl
@[simp]theorem abf:(Fl.cont σ).seq f=.cont σ:=rfl
@[simp]theorem adB:(Fl.bad).seq f=.bad:=rfl
@[simp]theorem Z6:(Fl.next σ).turn f=f σ:=rfl
@[simp]theorem Z7:(Fl.cont σ).turn f=f σ:=rfl
@[simp]theorem aaN:(Fl.brk σ).turn f=.next σ:=rfl
@[simp]theorem aaL{f:Ev->Fl}:(Fl.ret r σ).turn f=.ret r σ:=rfl
@[simp]theorem aaM:(Fl.exc k σ).turn f=.exc k σ:=rfl
@[simp]theorem aaO:(Fl.bad).turn f=.bad:=rfl
@[simp]theorem abn:w6 (.val d) σ=.ret (.val d) σ:=rfl
@[simp]theorem abo:w6 (.new o) σ=.ret (.new o) σ:=rfl
@[simp]theorem abW:JC (some τ)=.next τ:=rfl
@[simp]theorem abX:JC none=.bad:=rfl
@[simp]theorem ac0:argv (.val d)=.val d:=rfl
@[simp]theorem ac3:argv (.new o)=.val o.d:=rfl
@[simp]theorem ac2:argv (.ref k)=.ref k:=rfl
@[simp]theorem ac1:argv (.tmp o)=.tmp o:=rfl
@[simp]theorem aa7:Rv.IV (.val d)=some (.val d):=rfl
@[simp]theorem aa8:Rv.IV (.new o)=some (.own o):=rfl
@[simp]theorem ad2:Rv.kO (.val d)=some d:=rfl
@[simp]theorem ad3:Rv.kO (.new o)=some o.d:=rfl
@[simp]theorem We:Ob.d (.lst xs)=.lst xs:=rfl
@[simp]theorem ahx:Ob.d (.dct xs ys)=.dG xs ys:=rfl
@[simp]theorem adH:Aa (.tup xs)=some xs.length:=rfl
@[simp]theorem adI:Aa (.lst xs)=some xs.length:=rfl
@[simp]theorem ad8:b1 .len (.tup xs)=some (.val (.int xs.length)):=rfl
@[simp]theorem aea:b1 .len (.lst xs)=some (.val (.int xs.length)):=rfl
@[simp]theorem acV:b1 .tuple d=(bF d).bind fun xs=>some (.val (.tup xs)):=rfl
@[simp]theorem ad7:b1 .list d=(LK d).bind fun xs=>some (.new (.lst xs)):=rfl
@[simp]theorem aeG xs:LK (.tup xs)=some xs:=rfl
@[simp]theorem aeI xs:LK (.lst xs)=some xs:=rfl
@[simp]theorem aeH ks vs:LK (.iy ks vs)=some ks:=rfl
@[simp]theorem Qx:b1 .all d=(bF d).bind fun xs=>(bools xs).map fun bs=>.val (.bl (bs.all id)):=rfl
@[simp]theorem agA:b1 .any d=(bF d).bind fun xs=>(bools xs).map fun bs=>.val (.bl (bs.any id)):=rfl
@[simp]theorem Uy:b1 .dict d=(bF d).bind fun xs=>((dictOf [] [] xs).map fun p=>Rv.new (.dct p.1 p.2)).or ((kJ [] [] xs).map fun p=>.new (.sdt p.1 p.2)):=rfl
@[simp]theorem aaa:bF (.tup xs)=some xs:=rfl
@[simp]theorem vg:bF (.lst xs)=some xs:=rfl
@[simp]theorem aae:ab3 (.lst xs)=some xs:=rfl
@[simp]theorem adN:getD (.tup xs) (.int i)=at? xs i:=rfl
@[simp]theorem adO:getD (.lst xs) (.int i)=at? xs i:=rfl
@[simp]theorem add_int:binop .add (.int i) (.int j)=some (.val (.int (i+j))):=rfl
@[simp]theorem sub_int:binop .sub (.int i) (.int j)=some (.val (.int (i-j))):=rfl
@[simp]theorem adG{x:D}{j:Int}:binop .mul (.lst [x]) (.int j)=if 0<j/\j<=8 then some (.new (.lst (List.replicate j.toNat x)))else none:=rfl
@[simp]theorem mul_int:binop .mul (.int i) (.int j)=if small i||small j then some (.val (.int (i*j)))else none:=rfl
@[simp]theorem mod_int:binop .mod (.int i) (.int j)=if 0<j then some (.val (.int (i%j)))else none:=rfl
@[simp]theorem lt_int:aK .lt (.int i) (.int j)=some (decide (i<j)):=rfl
@[simp]theorem gt_int:aK .gt (.int i) (.int j)=some (decide (j<i)):=rfl
@[simp]theorem le_int:aK .le (.int i) (.int j)=some (decide (i<=j)):=rfl
@[simp]theorem ge_int:aK .ge (.int i) (.int j)=some (decide (j<=i)):=rfl
@[simp]theorem ag2:aK .lW d .non=some (cR d):=rfl
@[simp]theorem afp:aK .notN d .non=some (!cR d):=rfl
@[simp]theorem aag:cR (.tup xs)=false:=rfl
@[simp]theorem aah:cR .non=true:=rfl
@[simp]theorem eq_int:aK .eq (.int i) (.int j)=some (i==j):=rfl
@[simp]theorem ne_int:aK .ne (.int i) (.int j)=some (!(i==j)):=rfl
@[simp]theorem ahw:aK .eq (.bl b) (.bl c)=some (b==c):=rfl
@[simp]theorem agZ:aK .ne (.bl b) (.bl c)=some (!(b==c)):=rfl
@[simp]theorem eq_str:aK .eq (.str x) (.str y)=some (decide (x=y)):=rfl
@[simp]theorem ne_str:aK .ne (.str x) (.str y)=some (!decide (x=y)):=rfl
@[simp]theorem aat:E.aF (.var k)=some k:=rfl
@[simp]theorem aaC d:E.aF (.con d)=none:=rfl
@[simp]theorem ZQ k:E.aF (.glob k)=none:=rfl
@[simp]theorem aau a:E.aF (.tup a)=none:=rfl
@[simp]theorem aay a:E.aF (.lis a)=none:=rfl
@[simp]theorem acY o a b:E.aF (.op o a b)=none:=rfl
@[simp]theorem aax a:E.aF (.neg a)=none:=rfl
@[simp]theorem aaD o a b:E.aF (.cmp o a b)=none:=rfl
@[simp]theorem Wj o p a b c:E.aF (.chain o p a b c)=none:=rfl
@[simp]theorem aaE a:E.aF (.and a)=none:=rfl
@[simp]theorem acX a:E.aF (.or a)=none:=rfl
@[simp]theorem aaw a:E.aF (.not a)=none:=rfl
@[simp]theorem aaz a b c:E.aF (.ite a b c)=none:=rfl
@[simp]theorem aaB a b:E.aF (.idx a b)=none:=rfl
@[simp]theorem aav a b c:E.aF (.slc a b c)=none:=rfl
@[simp]theorem ZR f a:E.aF (.call f a)=none:=rfl
@[simp]theorem acZ b a:E.aF (.bi b a)=none:=rfl
@[simp]theorem aaA a t:E.aF (.isi a t)=none:=rfl
@[simp]theorem aas a b:E.aF (.zip a b)=none:=rfl
@[simp]theorem UG a:E.aF (.range1 a)=none:=rfl
@[simp]theorem Wh a b:E.aF (.count a b)=none:=rfl
@[simp]theorem Wg i a:E.aF (.popAt i a)=none:=rfl
@[simp]theorem uA n tg a b c:E.aF (.comp n tg a b c)=none:=rfl
@[simp]theorem acW a:E.aF (.rd a)=none:=rfl
def nP xs(j:Nat)(h:j<xs.length):at? xs (j:Int)=xs[j]? :=by unfold at? ix?;rw[if_neg (by omega:¬(j:Int)<0),if_pos ⟨by omega,by omega⟩];simp
@[simp]theorem at0:at? (a::xs) 0=some a:=(nP _ 0 (by simp)).trans rfl
@[simp]theorem at1{a b:D}:at? (a::b::xs) 1=some b:=(nP _ 1 (by simp)).trans rfl
@[simp]theorem at2{a b c:D}:at? (a::b::c::xs) 2=some c:=(nP _ 2 (by simp)).trans rfl
@[simp]theorem at3{a b c e:D}:at? (a::b::c::e::xs) 3=some e:=(nP _ 3 (by simp)).trans rfl
end
@[simp]theorem ad9{ks vs:List D}:b1 .len (.iy ks vs)=some (.val (.int ks.length)):=rfl
def cF(bs:List Bool):D:=.tup (bs.map .bl)
noncomputable def V0{α:Type}:List Bool->List α->List α
 |b::bs,x::xs=>if b then x::V0 bs xs else V0 bs xs
 |_,_=>[]
def afZ:List (List Bool)->Bool
 |a::b::r=>pF a b&&afZ (b::r)
 |_=>true
theorem filter_tt{α:Type}:∀(xs:List α),xs.filter (fun _=>true)=xs
 |[]=>rfl
 |x::xs=>by rw[List.filter_cons_of_pos rfl,filter_tt xs]
def jr(s:Sl):Prop:=s=.un\/∃d,s=.val d
def vd(h:jr s)d(r:Ev):fZ (.name 0) d (s::r)=some (.val d::r):=by rcases h with rfl|⟨e,rfl⟩<;>rfl
def vf(h:jr s)(h':jr t)a b(r:Ev):fZ (.tup [0,1]) (.tup [a,b]) (s::t::r)=some (.val a:: .val b::r):=by rcases h with rfl|⟨e,rfl⟩<;>rcases h' with rfl|⟨e',rfl⟩<;>rfl
def yo c d σ:ev c (.con d) σ=.ok (.val d) σ:=rfl
section
variable{cond elt:Ev->Out Rv}
theorem go1{f:D->D}{p:D->Bool}:∀(xs acc:List D)(s:Sl),jr s->(∀x∈xs,cond (.val x::τ)=.ok (.val (.bl (p x))) (.val x::τ))->(∀x∈xs,p x=true->elt (.val x::τ)=.ok (.val (f x)) (.val x::τ))->
  ∃s',jr s'/\bx (.name 0) cond elt xs acc (s::τ)=.ok (acc++(xs.filter p).map f) (s'::τ)
 |[]=>fun acc s hs _ _=>⟨s,hs,by simp[bx]⟩
 |x::xs=>fun acc s hs hc he=>by
  rw[bx,vd hs];simp only;rw[hc x QYz,kY];cases q:p x with
  |true=>obtain⟨s',a1,a2⟩:=go1 xs _ _ (.inr ⟨x,rfl⟩) (fun y hy=>hc y (QYq _ hy)) (fun y hy=>he y (QYq _ hy));refine⟨s',a1,?_⟩;rw[if_pos rfl,he x QYz q,gU,a2];simp[q]
  |false=>obtain⟨s',a1,a2⟩:=go1 xs acc _ (.inr ⟨x,rfl⟩) (fun y hy=>hc y (QYq _ hy)) (fun y hy=>he y (QYq _ hy));refine⟨s',a1,?_⟩;rw[if_neg (by simp),a2];simp[q]
def pairD(p:D×D):D:=.tup [p.1,p.2]
theorem go2{f:D×D->D}{p:D×D->Bool}:∀(xs:List (D×D))(acc:List D)(s t:Sl),jr s->jr t->(∀x∈xs,cond (.val x.1:: .val x.2::τ)=.ok (.val (.bl (p x))) (.val x.1:: .val x.2::τ))->
  (∀x∈xs,p x=true->elt (.val x.1:: .val x.2::τ)=.ok (.val (f x)) (.val x.1:: .val x.2::τ))->
  ∃s' t',bx (.tup [0,1]) cond elt (xs.map pairD) acc (s::t::τ)=.ok (acc++(xs.filter p).map f) (s'::t'::τ)
 |[]=>fun acc s t hs ht _ _=>⟨s,t,by simp[bx]⟩
 |x::xs=>fun acc s t hs ht hc he=>by
  rw[Qyz,bx,show pairD x=.tup [x.1,x.2]from rfl,vf hs ht];simp only;rw[hc x QYz,kY];cases q:p x with
  |true=>obtain⟨s',t',a2⟩:=go2 xs _ _ _ (.inr ⟨_,rfl⟩) (.inr ⟨_,rfl⟩) (fun y hy=>hc y (QYq _ hy)) (fun y hy=>he y (QYq _ hy));refine⟨s',t',?_⟩;rw[if_pos rfl,he x QYz q,gU,a2];simp[q]
  |false=>obtain⟨s',t',a2⟩:=go2 xs acc _ _ (.inr ⟨_,rfl⟩) (.inr ⟨_,rfl⟩) (fun y hy=>hc y (QYq _ hy)) (fun y hy=>he y (QYq _ hy));refine⟨s',t',?_⟩;rw[if_neg (by simp),a2];simp[q]
end
section
def yp f p(hi:ev c it σ=.ok r τ)(hr:r.kO=some d)(hd:items d=some xs)(hc:∀x∈xs,ev c co (.val x::τ)=.ok (.val (.bl (p x))) (.val x::τ))(he:∀x∈xs,p x=true->ev c el (.val x::τ)=.ok (.val (f x)) (.val x::τ)):
  ev c (.comp 1 (.name 0) it co el) σ=.ok (.new (.lst ((xs.filter p).map f))) τ:=by
 obtain⟨s',_,a⟩:=go1 xs [] .un (.inl rfl) hc he;rw[BX,hi];have b:∀{β:Type}(g:D->Ev->Out β),(Out.ok r τ).au g=g d τ:=fun g=>by cases r<;>simp[Rv.kO]at hr<;>subst hr<;>rfl
 rw[b];simp only[hd];rw[show List.replicate 1 Sl.un++τ=.un::τ from rfl,a];simp
def uf f(hi:ev c it σ=.ok r τ)(hr:r.kO=some d)(hd:items d=some xs)(he:∀x∈xs,ev c el (.val x::τ)=.ok (.val (f x)) (.val x::τ)):
  ev c (.comp 1 (.name 0) it AAL el) σ=.ok (.new (.lst (xs.map f))) τ:=by
 have:=yp f (fun _=>true) hi hr hd (fun x _=>yo c _ _) (fun x hx _=>he x hx);rw[filter_tt]at this;exact this
def Zw{ps:List (D×D)}f p(hi:ev c it σ=.ok r τ)(hr:r.kO=some d)(hd:items d=some (ps.map pairD))(hc:∀x∈ps,ev c co (.val x.1:: .val x.2::τ)=.ok (.val (.bl (p x))) (.val x.1:: .val x.2::τ))
  (he:∀x∈ps,p x=true->ev c el (.val x.1:: .val x.2::τ)=.ok (.val (f x)) (.val x.1:: .val x.2::τ)):
  ev c (.comp 2 (.tup [0,1]) it co el) σ=.ok (.new (.lst ((ps.filter p).map f))) τ:=by
 obtain⟨s',t',a⟩:=go2 ps [] .un .un (.inl rfl) (.inl rfl) hc he;rw[BX,hi];have b:∀{β:Type}(g:D->Ev->Out β),(Out.ok r τ).au g=g d τ:=fun g=>by cases r<;>simp[Rv.kO]at hr<;>subst hr<;>rfl
 rw[b];simp only[hd];rw[show List.replicate 2 Sl.un++τ=.un:: .un::τ from rfl,a];simp
def Qq{ps:List (D×D)}f(hi:ev c it σ=.ok r τ)(hr:r.kO=some d)(hd:items d=some (ps.map pairD))(he:∀x∈ps,ev c el (.val x.1:: .val x.2::τ)=.ok (.val (f x)) (.val x.1:: .val x.2::τ)):
  ev c (.comp 2 (.tup [0,1]) it AAL el) σ=.ok (.new (.lst (ps.map f))) τ:=by
 have:=Zw f (fun _=>true) hi hr hd (fun x _=>yo c _ _) (fun x hx _=>he x hx);rw[filter_tt]at this;exact this
end
section
theorem Zv{ps:List (D×D)}f p(hi:ev c it σ=.ok r τ0)(hr:r.kO=some d)(hd:items d=some ((x0::ps).map pairD))(hc0:ev c co (.val x0.1:: .val x0.2::τ0)=.ok (.val (.bl (p x0))) (.val x0.1:: .val x0.2::τ))
  (hc:∀x∈ps,ev c co (.val x.1:: .val x.2::τ)=.ok (.val (.bl (p x))) (.val x.1:: .val x.2::τ))
  (he:∀x∈x0::ps,p x=true->ev c el (.val x.1:: .val x.2::τ)=.ok (.val (f x)) (.val x.1:: .val x.2::τ)):ev c (.comp 2 (.tup [0,1]) it co el) σ=.ok (.new (.lst (((x0::ps).filter p).map f))) τ:=by
 rw[BX,hi];have b:∀{β:Type}(g:D->Ev->Out β),(Out.ok r τ0).au g=g d τ0:=fun g=>by cases r<;>simp[Rv.kO]at hr<;>subst hr<;>rfl
 rw[b];simp only[hd];rw[show List.replicate 2 Sl.un++τ0=.un:: .un::τ0 from rfl,Qyz,bx,show pairD x0=.tup [x0.1,x0.2]from rfl,vf (.inl rfl) (.inl rfl)];simp only;rw[hc0,kY];cases q:p x0 with
 |true=>obtain⟨s',t',a⟩:=go2 ps _ _ _ (.inr ⟨_,rfl⟩) (.inr ⟨_,rfl⟩) hc (fun x hx=>he x (QYq _ hx));rw[if_pos rfl,he x0 QYz q,gU,a];simp[q]
 |false=>obtain⟨s',t',a⟩:=go2 ps [] _ _ (.inr ⟨_,rfl⟩) (.inr ⟨_,rfl⟩) hc (fun x hx=>he x (QYq _ hx));rw[if_neg (by simp),a];simp[q]
end
theorem Bg:∀(bs:List Bool),bools (bs.map D.bl)=some bs
 |[]=>rfl
 |b::bs=>by simp[bools,Bg bs]
theorem uq:∀{α:Type}(xs:List α),bools (xs.map fun _=>D.bl true)=some (xs.map fun _=>true)
 |_,[]=>rfl
 |_,x::xs=>by simp[bools,uq xs]
theorem Fq:∀{α:Type}(xs:List α),(xs.map fun _=>true).all id=true
 |_,[]=>rfl
 |_,x::xs=>by simpa using Fq xs
section
def all1(hi:ev c it σ=.ok r τ)(hr:r.kO=some d)(hd:items d=some xs)(he:∀x∈xs,ev c el (.val x::τ)=.ok (.val (.bl true)) (.val x::τ)):
  ev c (.bi .all (.comp 1 (.name 0) it AAL el)) σ=.ok (.val (.bl true)) τ:=by
 rw[yK];simp only[uA];rw[uf _ hi hr hd he,wy];simp only[We,Qx,vg,QHq];rw[uq];simp only[Option.map_some,vI,Fq]
def all2{ps:List (D×D)}(hi:ev c it σ=.ok r τ)(hr:r.kO=some d)(hd:items d=some (ps.map pairD))(he:∀x∈ps,ev c el (.val x.1:: .val x.2::τ)=.ok (.val (.bl true)) (.val x.1:: .val x.2::τ)):
  ev c (.bi .all (.comp 2 (.tup [0,1]) it AAL el)) σ=.ok (.val (.bl true)) τ:=by
 rw[yK];simp only[uA];rw[Qq _ hi hr hd he,wy];simp only[We,Qx,vg,QHq];rw[uq];simp only[Option.map_some,vI,Fq]
end
theorem fL:∀(xs ys:List D),cC xs ys=(xs.zip ys).map pairD
 |[],_=>by simp[cC]
 |_::_,[]=>by simp[cC]
 |x::xs,y::ys=>by simp[cC,fL xs ys,pairD]
end Mini
end
section
namespace Mini
open PySem
@[simp]def fin(k:Nat):Fl->Res
 |.next σ=>.ok (.val .non) (σ.take k)
 |.ret r σ=>.ok r (σ.take k)
 |.exc c σ=>.exc c (σ.take k)
 |_=>.bad
def RK c f ps(h:ps.length=f.pars):gW c f ps=fin f.pars (ex c f.body (ps++List.replicate (f.names-f.pars) .un)):=by unfold gW;rw[if_pos h];cases ex c f.body _<;>rfl
def Bl{α:Type}(b:Bool)(r:Out α):Out α:=if b then .bad else r
def ZF(b:Bool)(r:Fl):Fl:=if b then .bad else r
def xK{α:Type}(b:Bool)(r:Option α):Option α:=if b then none else r
@[simp]theorem ad6(r:Out α):Bl false r=r:=rfl
@[simp]theorem agz r:ZF false r=r:=rfl
@[simp]theorem abZ(r:Option α):xK false r=r:=rfl
@[simp]theorem abY(r:Option α):xK true r=none:=rfl
@[simp]def abp(i:Nat)(σ:Ev):Option Sl->Out Rv
 |some (.val d)=>.ok (.val d) σ
 |some (.own o)=>.ok (.val o.d) (σ.set i (.val o.d))
 |_=>.bad
@[simp]theorem Mt i σ:rW i σ=abp i σ σ[i]? :=rfl
@[simp]def ab5:Option Sl->Option D
 |some (.val d)=>some d
 |some (.own o)=>some o.d
 |some (.bor o)=>some o.d
 |_=>none
@[simp]theorem ab4 i σ:aX i σ=ab5 σ[i]? :=rfl
noncomputable def zq(i:Nat)(σ:Ev)(s:Sl):Option Sl->Option Ev
 |some (.bor _)=>none
 |some _=>some (σ.set i s)
 |none=>none
@[simp]theorem aa9 i s σ:f9 i s σ=zq i σ s σ[i]? :=rfl
@[simp]theorem aba(i σ s d):zq i σ s (some (.val d))=some (σ.set i s):=rfl
@[simp]theorem abb(i σ s o):zq i σ s (some (.own o))=some (σ.set i s):=rfl
@[simp]theorem adx(i σ s):zq i σ s (some .un)=some (σ.set i s):=rfl
@[simp]theorem abd(i σ s o):zq i σ s (some (.bor o))=none:=rfl
@[simp]def CZ(i:Nat)(σ:Ev)(q:Ob):Ev:=σ.set i (.own q)
@[simp]def Xu(i:Nat)(σ:Ev)(q:Ob):Ev:=σ.set i (.bor q)
@[simp]def aaQ(i:Nat)(f:Ob->Option Ob)(σ:Ev):Option Sl->Option Ev
 |some (.own o)=>(f o).map (CZ i σ)
 |some (.bor o)=>(f o).map (Xu i σ)
 |_=>none
@[simp]theorem aaP i f σ:fH i f σ=aaQ i f σ σ[i]? :=rfl
@[simp]def okB(r:Rv):Option Ev->Out Rv
 |some σ=>.ok r σ
 |none=>.bad
@[simp]def acQ(as:List Rv)(σ:Ev):Res->Out Rv
 |.ok r qs=>okB r (giveBack as qs σ)
 |_=>.bad
@[simp]def acR(c:Cf)(f:Nat)(as:List Rv)(σ:Ev):Option (List Sl)->Out Rv
 |none=>.bad
 |some ps=>acQ as σ (c.fn f ps)
@[simp]theorem acS c f as σ:uo c f as σ=acR c f as σ (enter as σ):=rfl
@[simp]theorem ad1(σ):enter [] σ=some []:=rfl
@[simp]theorem ad0(d as σ):enter (.val d::as) σ=(enter as σ).map (.val d:: ·):=rfl
@[simp]theorem adZ(o as σ):enter (.tmp o::as) σ=xK (as.any Ae) ((enter as σ).map (.bor o:: ·)):=rfl
@[simp]def agl(r:Option (List Sl)):Option Sl->Option (List Sl)
 |some (.own o)=>r.map (.bor o:: ·)
 |some (.bor o)=>r.map (.bor o:: ·)
 |_=>none
@[simp]theorem adY(i as σ):enter (.ref i::as) σ=xK (as.any (jz i)) (agl (enter as σ) σ[i]?):=rfl
@[simp]theorem agi c(i σ):ev c (.var i) σ=rW i σ:=rfl
@[simp]theorem ai1 c(d σ):ev c (.con d) σ=.ok (.val d) σ:=rfl
@[simp]theorem ai0 c(k σ):ev c (.glob k) σ=match c.gl k with|some d=>.ok (.val d) σ|none=>.bad:=rfl
@[simp]def aeq(ds:List D):Option Rv:=if fits ds.length then some (.val (.tup ds))else none
@[simp]def afv(ds:List D):Option Rv:=if fits ds.length then some (.new (.lst ds))else none
@[simp]def afy(rs:List Rv)(σ:Ev):Out Rv:=lift σ ((cV rs).bind aeq)
@[simp]def afE(rs:List Rv)(σ:Ev):Out Rv:=lift σ ((cV rs).bind afv)
@[simp]theorem aiZ c(es σ):ev c (.tup es) σ=(evs c es σ).bind afy:=rfl
@[simp]theorem aiY c(es σ):ev c (.lis es) σ=(evs c es σ).bind afE:=rfl
@[simp]def afC(o:Wn)(x y:D)(σ:Ev):Out Rv:=lift σ (binop o x y)
@[simp]def kOp(c:Cf)(o:Wn)(b:E)(x:D)(σ:Ev):Out Rv:=(ev c b σ).au (afC o x)
@[simp]theorem aiX c(o a b σ):ev c (.op o a b) σ=(ev c a σ).au (kOp c o b):=rfl
@[simp]theorem aiW c(a σ):ev c (.neg a) σ=(ev c a σ).au fun x σ=>lift σ (match x with|.int i=>some (.val (.int (-i)))|_=>none):=rfl
@[simp]def qV(q:Bool):Rv:=.val (.bl q)
@[simp]def agp(o:Cm)(x d:D):Option Rv:=(aK o x d).map qV
@[simp]def Ow(o:Cm)(x y:D)(σ:Ev):Out Rv:=lift σ ((aK o x y).map qV)
@[simp]def afP(c:Cf)(o:Cm)(b:E)(x:D)(σ:Ev):Option Nat->Out Rv
 |some k=>lift σ ((aX k σ).bind (agp o x))
 |none=>(ev c b σ).au (Ow o x)
@[simp]def aco(c:Cf)(o:Cm)(b:E)(x:D)(σ:Ev):Out Rv:=afP c o b x σ b.aF
@[simp]theorem aiV c(o a b σ):ev c (.cmp o a b) σ=(ev c a σ).au (aco c o b):=rfl
noncomputable def Yv(c:Cf)(o:Cm)(d:E)(y:D)(q:Bool)(σ:Ev):Out Rv:=if q then(ev c d σ).au (Ow o y)else .ok (.val (.bl false)) σ
@[simp]theorem afQ(c o d y σ):Yv c o d y true σ=(ev c d σ).au (Ow o y):=rfl
@[simp]theorem afR(c o d y σ):Yv c o d y false σ=.ok (.val (.bl false)) σ:=rfl
@[simp]def afS(c:Cf)(o p:Cm)(d:E)(x y:D)(σ:Ev):Out Rv:=(lift σ (aK o x y)).bind (Yv c p d y)
@[simp]def kCh(c:Cf)(o p:Cm)(b d:E)(x:D)(σ:Ev):Out Rv:=(ev c b σ).au (afS c o p d x)
@[simp]theorem aiU c(υ ψ a b d σ):ev c (.chain υ ψ a b d) σ=(ev c a σ).au (kCh c υ ψ b d):=rfl
@[simp]theorem aiT c(es σ):ev c (.and es) σ=iG c es σ:=rfl
@[simp]theorem ahv c(es σ):ev c (.or es) σ=oJ c es σ:=rfl
@[simp]def afD(b:Bool)(σ:Ev):Out Rv:=.ok (.val (.bl (!b))) σ
@[simp]theorem ahu c(a σ):ev c (.not a) σ=(ev c a σ).cT iY afD:=rfl
def Ov(c:Cf)(a b:E)(q:Bool)(σ:Ev):Out Rv:=if q then ev c a σ else ev c b σ
@[simp]theorem adJ(c a b σ):Ov c a b true σ=ev c a σ:=rfl
@[simp]theorem adK(c a b σ):Ov c a b false σ=ev c b σ:=rfl
@[simp]theorem aht c(t a b σ):ev c (.ite t a b) σ=(ev c t σ).cT iY (Ov c a b):=rfl
@[simp]def af3(y d:D):Option Rv:=(getD d y).map Rv.val
@[simp]def afJ(k:Nat)(y:D)(σ:Ev):Out Rv:=lift σ ((aX k σ).bind (af3 y))
@[simp]def acg(x y:D)(σ:Ev):Out Rv:=lift σ ((getD x y).map Rv.val)
@[simp]def ach(c:Cf)(i:E)(x:D)(σ:Ev):Out Rv:=(ev c i σ).au (acg x)
@[simp]def af1(c:Cf)(a i:E)(σ:Ev):Option Nat->Out Rv
 |some k=>Bl (aX k σ).isNone ((ev c i σ).au (afJ k))
 |none=>(ev c a σ).au (ach c i)
@[simp]theorem ahs c(a i σ):ev c (.idx a i) σ=af1 c a i σ a.aF:=rfl
@[simp]def afz(hi:E)(x:D)(l:Option Int)(h:D)(σ:Ev):Out Rv:=lift σ ((eZ hi.lW h).bind (mU x l))
@[simp]def slM(c:Cf)(hi:E)(x:D)(σ:Ev):Option (Option Int)->Out Rv
 |none=>.bad
 |some l=>(ev c hi σ).au (afz hi x l)
@[simp]def afA(c:Cf)(lo hi:E)(x l:D)(σ:Ev):Out Rv:=slM c hi x σ (eZ lo.lW l)
@[simp]def kSl(c:Cf)(lo hi:E)(x:D)(σ:Ev):Out Rv:=(ev c lo σ).au (afA c lo hi x)
@[simp]theorem ahr c(a lo hi σ):ev c (.slc a lo hi) σ=(ev c a σ).au (kSl c lo hi):=rfl
@[simp]theorem ahq c(σ):ev c .noneE σ=.ok (.val .non) σ:=rfl
@[simp]theorem ahp c(f as σ):ev c (.call f as) σ=(evs c as σ).bind (uo c f):=rfl
@[simp]def afk(i:Nat)(σ:Ev):Option Sl->Out Rv
 |some (.own _)=>.ok (.ref i) σ
 |some (.bor _)=>.ok (.ref i) σ
 |_=>.bad
@[simp]theorem aho c(i σ):ev c (.ref i) σ=afk i σ σ[i]? :=rfl
@[simp]theorem ahn c(e σ):ev c (.rd e) σ=ev c e σ:=rfl
def aca(x:Rv)(σ:Ev):Out Rv:=lift σ (match x with|.new o=>some (.tmp o)|_=>none)
@[simp]theorem ab9(o σ):aca (.new o) σ=.ok (.tmp o) σ:=rfl
@[simp]theorem ahm c(e σ):ev c (.tmp e) σ=(ev c e σ).bind aca:=rfl
@[simp]def afI(t:Ty)(x:D)(σ:Ev):Out Rv:=.ok (.val (.bl (tB t x))) σ
@[simp]theorem ahl c(a t σ):ev c (.isi a t) σ=(ev c a σ).au (afI t):=rfl
@[simp]def kBi(b:Bi)(x:D)(σ:Ev):Out Rv:=lift σ (b1 b x)
@[simp]def biM(c:Cf)(b:Bi)(a:E)(σ:Ev):Option Nat->Out Rv
 |some k=>lift σ ((aX k σ).bind (b1 b))
 |none=>(ev c a σ).au (kBi b)
@[simp]theorem ahk c(b a σ):ev c (.bi b a) σ=biM c b a σ a.aF:=rfl
noncomputable def ace(x:D)(σ:Ev):Out Rv:=lift σ (match x with|.int n=>if fits n.toNat&&Ha n then some (.val (.lst (cD 0 n.toNat)))else none|_=>none)
@[simp]theorem acd n(σ):ace (.int n) σ=lift σ (if fits n.toNat&&Ha n then some (.val (.lst (cD 0 n.toNat)))else none):=rfl
@[simp]theorem ahj c(a σ):ev c (.range1 a) σ=(ev c a σ).au ace:=rfl
@[simp]def aef(xs ys:List D):Rv:=.val (.lst (cC xs ys))
@[simp]def aeg(y:D)(xs:List D):Option Rv:=(bF y).map (aef xs)
@[simp]def ab8(x y:D)(σ:Ev):Out Rv:=lift σ ((bF x).bind (aeg y))
@[simp]def afx(c:Cf)(b:E)(x:D)(σ:Ev):Out Rv:=(ev c b σ).au (ab8 x)
@[simp]theorem ahi c(a b σ):ev c (.zip a b) σ=(ev c a σ).au (afx c b):=rfl
@[simp]def acn(x y:D)(σ:Ev):Out Rv:=lift σ (yq x y)
@[simp]def afO(c:Cf)(b:E)(x:D)(σ:Ev):Out Rv:=Bl (bF x).isNone ((ev c b σ).au (acn x))
@[simp]theorem ahh c(a b σ):ev c (.count a b) σ=(ev c a σ).au (afO c b):=rfl
@[simp]theorem adL(ks vs):tH (some (.dG ks vs))=true:=rfl
@[simp]theorem ahg c(k a σ):ev c (.popAt k a) σ=Bl (!ql (aX k σ)) ((ev c a σ).au (Gw k)):=rfl
@[simp]def ack(c:Cf)(nl:Nat)(tg:Tg)(cond elt:E)(x:D)(σ:Ev):Out Rv:=match items x with
  |some xs=>match bx tg (ev c cond) (ev c elt) xs [] (List.replicate nl .un++σ)with
   |.ok ys τ=>.ok (.new (.lst ys)) (τ.drop nl)
   |_=>.bad
  |none=>.bad
@[simp]theorem ahf c(nl tg it cond elt σ):ev c (.comp nl tg it cond elt) σ=(ev c it σ).au (ack c nl tg cond elt):=rfl
@[simp]def acj(x:Rv)(xs:List Rv)(σ:Ev):Out (List Rv):=.ok (argv x::xs) σ
@[simp]def afM(c:Cf)(t:E)(x:Rv)(σ:Ev):Out (List Rv):=(evs c t σ).bind (acj x)
@[simp]theorem ahb c(σ):evs c .nil σ=.ok [] σ:=rfl
@[simp]theorem aha c(h t σ):evs c (.cons h t) σ=(ev c h σ).bind (afM c t):=rfl
@[simp]theorem aiS c(σ):ex c .nil σ=.next σ:=rfl
@[simp]theorem aiR c(h t σ):ex c (.cons h t) σ=(ex c h σ).seq (ex c t):=rfl
@[simp]theorem aiQ c(σ):ex c .pass σ=.next σ:=rfl
@[simp]theorem aiP c(σ):ex c .brk σ=.brk σ:=rfl
@[simp]theorem aiO c(σ):ex c .cont σ=.cont σ:=rfl
@[simp]def Xg(i:Nat)(σ:Ev)(s:Sl):Option Ev:=f9 i s σ
@[simp]def afB(i:Nat)(x:Rv)(σ:Ev):Fl:=JC (x.IV.bind (Xg i σ))
@[simp]theorem aiN c(i e σ):ex c (.set i e) σ=(ev c e σ).fl (afB i):=rfl
@[simp]def acb(is:List Nat)(x:D)(σ:Ev):Fl:=JC (fZ (.tup is) x σ)
@[simp]theorem aiM c(is e σ):ex c (.setT is e) σ=(ev c e σ).pN (acb is):=rfl
@[simp]def afF(k:Nat)(x y:D)(σ:Ev):Fl:=JC (fH k (xu y x) σ)
@[simp]def kIx(c:Cf)(k:Nat)(ix:E)(x:D)(σ:Ev):Fl:=ZF (aX k σ).isNone ((ev c ix σ).pN (afF k x))
@[simp]theorem aiL c(k ix e σ):ex c (.setIx k ix e) σ=(ev c e σ).pN (kIx c k ix):=rfl
@[simp]def acf(_:D)(σ:Ev):Fl:=.next σ
@[simp]theorem aiK c(e σ):ex c (.expr e) σ=(ev c e σ).pN acf:=rfl
@[simp]def agD(x:D)(xs:List D):Option (List D):=if fits (xs.length+1)then some (xs++[x])else none
@[simp]def afT(k:Nat)(x:D)(σ:Ev):Fl:=JC (fH k (VH (agD x)) σ)
@[simp]theorem aiJ c(k e σ):ex c (.append k e) σ=ZF (!ql (aX k σ)) ((ev c e σ).pN (afT k)):=rfl
@[simp]def afi(c:Cf)(e:E)(i:Nat)(σ:Ev):Option Sl->Fl
 |some (.own o)=>.ret (.new o) (σ.set i .un)
 |_=>(ev c e σ).fl w6
@[simp]def afj(c:Cf)(e:E)(σ:Ev):Option Nat->Fl
 |some i=>afi c e i σ σ[i]?
 |none=>(ev c e σ).fl w6
@[simp]theorem ag9 c(e σ):ex c (.ret e) σ=afj c e σ e.aF:=rfl
def Yu(c:Cf)(a b:S)(q:Bool)(σ:Ev):Fl:=if q then ex c a σ else ex c b σ
@[simp]theorem afG(c a b σ):Yu c a b true σ=ex c a σ:=rfl
@[simp]theorem afH(c a b σ):Yu c a b false σ=ex c b σ:=rfl
@[simp]theorem ag8 c(t a b σ):ex c (.ite t a b) σ=(ev c t σ).BR (Yu c a b):=rfl
@[simp]def kFor(c:Cf)(tg:Tg)(b:S)(σ:Ev):Option (List D)->Fl
 |some xs=>gk tg (ex c b) xs σ
 |none=>.bad
@[simp]def aci(c:Cf)(tg:Tg)(b:S)(x:D)(σ:Ev):Fl:=kFor c tg b σ (items x)
@[simp]theorem ag7 c(tg it b σ):ex c (.for_ tg it b) σ=(ev c it σ).pN (aci c tg b):=rfl
@[simp]theorem ag6 c(t b σ):ex c (.while_ t b) σ=fW (ev c t) (ex c b) c.turns σ:=rfl
@[simp]theorem ag5 c(k σ):ex c (.raise k) σ=.exc k σ:=rfl
@[simp]def afU(c:Cf)(e:E)(x:D)(σ:Ev):Out Rv:=match x with|.bl true=>iG c e σ|.bl false=>.ok (.val (.bl false)) σ|_=>.bad
@[simp]def kOr(c:Cf)(e:E)(x:D)(σ:Ev):Out Rv:=match x with|.bl true=>.ok (.val (.bl true)) σ|.bl false=>oJ c e σ|_=>.bad
@[simp]theorem adX c(h σ):iG c (.cons h .nil) σ=ev c h σ:=rfl
@[simp]theorem adW c(h a b σ):iG c (.cons h (.cons a b)) σ=(ev c h σ).au (afU c (.cons a b)):=rfl
@[simp]theorem agk c(h σ):oJ c (.cons h .nil) σ=ev c h σ:=rfl
@[simp]theorem agj c(h a b σ):oJ c (.cons h (.cons a b)) σ=(ev c h σ).au (kOr c (.cons a b)):=rfl
@[simp high]theorem ajJ x0:at? [x0] 0=some x0:=rfl
@[simp high]theorem ajI x0 x1:at? [x0,x1] 0=some x0:=rfl
@[simp high]theorem ajH x0 x1:at? [x0,x1] 1=some x1:=rfl
@[simp high]theorem ajG x0 x1 x2:at? [x0,x1,x2] 0=some x0:=rfl
@[simp high]theorem ajF x0 x1 x2:at? [x0,x1,x2] 1=some x1:=rfl
@[simp high]theorem ajE x0 x1 x2:at? [x0,x1,x2] 2=some x2:=rfl
@[simp high]theorem ajD x0 x1 x2 x3:at? [x0,x1,x2,x3] 0=some x0:=rfl
@[simp high]theorem ajC x0 x1 x2 x3:at? [x0,x1,x2,x3] 1=some x1:=rfl
@[simp high]theorem ajB x0 x1 x2 x3:at? [x0,x1,x2,x3] 2=some x2:=rfl
@[simp high]theorem ajA x0 x1 x2 x3:at? [x0,x1,x2,x3] 3=some x3:=rfl
@[simp]theorem aiI(σ):giveBack [] [] σ=some σ:=rfl
@[simp]theorem aiH(i as o ps σ):giveBack (.ref i::as) (.bor o::ps) σ=(fH i (fun _=>some o) σ).bind (giveBack as ps):=rfl
@[simp]theorem aiG(d as p ps σ):giveBack (.val d::as) (p::ps) σ=giveBack as ps σ:=rfl
@[simp]theorem aiF(o as p ps σ):giveBack (.tmp o::as) (p::ps) σ=giveBack as ps σ:=rfl
@[simp]theorem ah9(i j):jz i (.ref j)=(i==j):=rfl
@[simp]theorem ah8(i d):jz i (.val d)=false:=rfl
@[simp]theorem ah7(i o):jz i (.tmp o)=false:=rfl
@[simp]theorem ah6(i o):jz i (.new o)=false:=rfl
@[simp]theorem ain(o):Ae (.tmp o)=true:=rfl
@[simp]theorem aim(d):Ae (.val d)=false:=rfl
@[simp]theorem ail(i):Ae (.ref i)=false:=rfl
@[simp]theorem ahP(xs):tB .tup (.tup xs)=true:=rfl
@[simp]theorem ahO(xs):tB .lst (.lst xs)=true:=rfl
@[simp]theorem ahN(x):tB .str (.str x)=true:=rfl
@[simp]theorem ahM(b):tB .bool (.bl b)=true:=rfl
def aep(i):tB .bool (.int i)=false:=rfl
@[simp]theorem ahL(i):tB .int (.int i)=true:=rfl
@[simp]theorem agh:fits 0=true:=rfl
@[simp]theorem agg:fits 1=true:=rfl
@[simp]theorem agf:fits 2=true:=rfl
@[simp]theorem age:fits 3=true:=rfl
@[simp]theorem agd:fits 4=true:=rfl
@[simp]theorem agc:fits 5=true:=rfl
@[simp]theorem agb:fits 6=true:=rfl
@[simp]theorem aga:fits 7=true:=rfl
@[simp]theorem af9:fits 8=true:=rfl
@[simp]theorem acG i j:binop .fdiv (.int i) (.int j)=if 0<j/\j<1073741824 then some (.val (.int (i/j)))else none:=rfl
@[simp]theorem pow_int i j:binop .pow (.int i) (.int j)=if 0<=j/\j<=64/\small i=true then some (.val (.int (i ^j.toNat)))else none:=rfl
@[simp↓]theorem ite_tt{α:Type}(a b:α):(if true=true then a else b)=a:=rfl
@[simp↓]theorem ite_ff{α:Type}(a b:α):(if false=true then a else b)=b:=rfl
@[simp]theorem aeb xs ys:binop .add (.tup xs) (.tup ys)=if fits (xs.length+ys.length)then some (.val (.tup (xs++ys)))else none:=rfl
@[simp]theorem aec xs ys:binop .add (.lst xs) (.lst ys)=if fits (xs.length+ys.length)then some (.new (.lst (xs++ys)))else none:=rfl
@[simp]def gtK(k x y:D):Option Rv:=(qu y k x).map Rv.val
@[simp]def afK(i:Nat)(k x:D)(σ:Ev):Out Rv:=lift σ ((aX i σ).bind (gtK k x))
@[simp]def afL(c:Cf)(i:Nat)(x:E)(k:D)(σ:Ev):Out Rv:=(ev c x σ).au (afK i k)
@[simp]def af2(c:Cf)(d k x:E)(σ:Ev):Option Nat->Out Rv
 |some i=>Bl (!tH (aX i σ)) ((ev c k σ).au (afL c i x))
 |none=>.bad
@[simp]theorem ahe c(d k x σ):ev c (.get2 d k x) σ=af2 c d k x σ d.aF:=rfl
@[simp]def afN(rs:List Rv)(σ:Ev):Out Rv:=lift σ ((cV rs).bind Aw)
@[simp]theorem ahd c(es σ):ev c (.dsp es) σ=(evs c es σ).bind afN:=rfl
@[simp]theorem ahc c(σ):ev c .emp σ=.ok (.new (.dct [] [])) σ:=rfl
@[simp high]theorem aiE a0(r:Ev):(a0::r)[0]? =some a0:=rfl
@[simp high]theorem ah3 a0 v(r:Ev):List.set (a0::r) 0 v=v::r:=rfl
@[simp high]theorem aiD a0 a1(r:Ev):(a0::a1::r)[1]? =some a1:=rfl
@[simp high]theorem ah2 a0 a1 v(r:Ev):List.set (a0::a1::r) 1 v=a0::v::r:=rfl
@[simp high]theorem aiC a0 a1 a2(r:Ev):(a0::a1::a2::r)[2]? =some a2:=rfl
@[simp high]theorem ah1 a0 a1 a2 v(r:Ev):List.set (a0::a1::a2::r) 2 v=a0::a1::v::r:=rfl
@[simp high]theorem aiB a0 a1 a2 a3(r:Ev):(a0::a1::a2::a3::r)[3]? =some a3:=rfl
@[simp high]theorem ah0 a0 a1 a2 a3 v(r:Ev):List.set (a0::a1::a2::a3::r) 3 v=a0::a1::a2::v::r:=rfl
@[simp high]theorem aiA a0 a1 a2 a3 a4(r:Ev):(a0::a1::a2::a3::a4::r)[4]? =some a4:=rfl
@[simp high]theorem ahZ a0 a1 a2 a3 a4 v(r:Ev):List.set (a0::a1::a2::a3::a4::r) 4 v=a0::a1::a2::a3::v::r:=rfl
@[simp high]theorem aiz a0 a1 a2 a3 a4 a5(r:Ev):(a0::a1::a2::a3::a4::a5::r)[5]? =some a5:=rfl
@[simp high]theorem ahY a0 a1 a2 a3 a4 a5 v(r:Ev):List.set (a0::a1::a2::a3::a4::a5::r) 5 v=a0::a1::a2::a3::a4::v::r:=rfl
@[simp high]theorem aiy a0 a1 a2 a3 a4 a5 a6(r:Ev):(a0::a1::a2::a3::a4::a5::a6::r)[6]? =some a6:=rfl
@[simp high]theorem ahX a0 a1 a2 a3 a4 a5 a6 v(r:Ev):List.set (a0::a1::a2::a3::a4::a5::a6::r) 6 v=a0::a1::a2::a3::a4::a5::v::r:=rfl
@[simp high]theorem aix a0 a1 a2 a3 a4 a5 a6 a7(r:Ev):(a0::a1::a2::a3::a4::a5::a6::a7::r)[7]? =some a7:=rfl
@[simp high]theorem ahW a0 a1 a2 a3 a4 a5 a6 a7 v(r:Ev):List.set (a0::a1::a2::a3::a4::a5::a6::a7::r) 7 v=a0::a1::a2::a3::a4::a5::a6::v::r:=rfl
@[simp high]theorem aiw a0 a1 a2 a3 a4 a5 a6 a7 a8(r:Ev):(a0::a1::a2::a3::a4::a5::a6::a7::a8::r)[8]? =some a8:=rfl
@[simp high]theorem ahV a0 a1 a2 a3 a4 a5 a6 a7 a8 v(r:Ev):List.set (a0::a1::a2::a3::a4::a5::a6::a7::a8::r) 8 v=a0::a1::a2::a3::a4::a5::a6::a7::v::r:=rfl
@[simp high]theorem aiv a0 a1 a2 a3 a4 a5 a6 a7 a8 a9(r:Ev):(a0::a1::a2::a3::a4::a5::a6::a7::a8::a9::r)[9]? =some a9:=rfl
@[simp high]theorem ahU a0 a1 a2 a3 a4 a5 a6 a7 a8 a9 v(r:Ev):List.set (a0::a1::a2::a3::a4::a5::a6::a7::a8::a9::r) 9 v=a0::a1::a2::a3::a4::a5::a6::a7::a8::v::r:=rfl
abbrev eU:=List (Str×Int)
noncomputable def o6:List D->List D->Option eU
 |[],[]=>some []
 |.str x::ks,.int i::vs=>(o6 ks vs).map ((x,i):: ·)
 |_,_=>none
def o7(l:eU):List D:=l.map fun p=>.str p.1
def Cg(l:eU):List D:=l.map fun p=>.int p.2
def bf(x:Str):eU->Option Int
 |[]=>none
 |p::r=>if p.1=x then some p.2 else bf x r
def fU(ls ss:eU)(i:Nat):Int:=match ss[i]? with
 |some p=>p.2+(bf p.1 ls).getD 0
 |none=>0
def ie(f:Nat->Int):Nat->Nat
 |0=>0
 |n+1=>if f n<f (ie f n)then n else ie f n
structure Gs where
 cs:List D
 sd:D
 ss:eU
structure Gf where
 led:List Sl->Res
 stp:List Sl->Res
 snw:List Sl->Res
def Od:Res->Option eU
 |.ok (.new (.dct ks vs)) _=>o6 ks vs
 |_=>none
def qY:Res->Option D
 |.ok (.val d) _=>some d
 |_=>none
def JN:Res->Option (List D)
 |.ok (.new (.lst xs)) _=>some xs
 |_=>none
def NQ(ls ss:eU):Bool:=ss.all fun p=>bf p.1 ss==some p.2&&(bf p.1 ls).isSome
noncomputable def xN(f:Gf)(n t sd:D):Option (List D):=if cR sd then some []else JN (f.stp [.val n,.val t,.val sd])
noncomputable def rO(f:Gf)(nm:List D)(ss:eU)(tm:Int):Option eU:=Od (f.snw [.val (.lst nm),.bor (.dct (o7 ss) (Cg ss)),.val (.int tm)])
noncomputable def uX(f:Gf)(n t:D)(ls:eU)(g:Gs):Option Gs:=
 if NQ ls g.ss&&fits (g.cs.length+1)then match g.ss[ie (fU ls g.ss) g.ss.length]? with
  |none=>none
  |some p=>(qY (f.led [.val n,.val t,.val g.sd,.val (.str p.1)])).bind fun sd=>(xN f n t sd).bind fun nm=>(rO f nm (g.ss.filter fun q=>decide (q.1≠p.1)) (fU ls g.ss (ie (fU ls g.ss) g.ss.length))).map fun ss=>⟨g.cs++[.tup [.int (fU ls g.ss (ie (fU ls g.ss) g.ss.length)),.str p.1]],sd,ss⟩
 else none
structure Br where
 chk:Nat
 isn:Nat
 fst:Nat
 stp:Nat
 led:Nat
 snw:Nat
 mz:E
 top:Int
def Br.gf(T:Br)(c:Cf):Gf:=⟨c.fn T.led,c.fn T.stp,c.fn T.snw⟩
def Tz:Out Rv->Option eU
 |.ok (.new (.dct ks vs)) _=>o6 ks vs
 |_=>none
noncomputable def O3(T:Br)(c:Cf)(n t w:D):Option (eU×Gs):=
 (Tz (ev c T.mz [.un,.val n,.val t,.val w])).bind fun ls=>(qY (c.fn T.fst [.val n])).bind fun sd=>(JN (c.fn T.stp [.val n,.val t,.val sd])).bind fun nm=>(rO (T.gf c) nm [] 0).map fun ss=>(ls,⟨[],sd,ss⟩)
def Hl:Res->Bool
 |.ok (.val _) _=>true
 |_=>false
structure KH where
 tmb:Nat
 rnd:Nat
def dW(ls ss:eU)(tm:Int):List Int:=ss.map fun p=>p.2+(bf p.1 ls).getD 0-tm
noncomputable def uV:Res->Option (Int×List D)
 |.ok (.val (.int i)) (.bor (.lst cs)::_)=>some (i,cs)
 |_=>none
def dH(sd:D)(ws:List Int):D:=.tup [sd,.tup (ws.map .int)]
noncomputable def j5(T:Br)(U:KH)(c:Cf)(n t:D)(ls:eU):Nat->List D->List Int->Gs->Option D
 |0,_,_,_=>none
 |m+1,ks,is,g=>if g.ss.isEmpty then some .non else
  (uV (c.fn U.tmb [.bor (.lst g.cs),.val (.int g.cs.length)])).bind fun q=>
   if NQ ls g.ss&&cH (dH g.sd (dW ls g.ss q.1))&&fits (ks.length+1)then
    match aY (dH g.sd (dW ls g.ss q.1)) ks (is.map .int)with
    |some i=>qY (c.fn U.rnd [.val n,.val (.lst q.2),.val i])
    |none=>(uX (T.gf c) n t ls ⟨q.2,g.sd,g.ss⟩).bind (j5 T U c n t ls m (ks++[dH g.sd (dW ls g.ss q.1)]) (is++[(q.2.length:Int)]))
   else none
noncomputable def gY(T:Br)(U:KH)(c:Cf):List Sl->Res
 |[.val n,.val t,.val w]=>
  if Hl (c.fn T.chk [.val n,.val t,.val w])then
   match (O3 T c n t w).bind fun q=>j5 T U c n t q.1 c.turns [] [] q.2 with
   |some d=>.ok (.val d) [.val n,.val t,.val w]
   |none=>.bad
  else .bad
 |_=>.bad
end Mini
end
section
namespace Mini
open PySem L2 PyProof.Rows
section
variable{X:Cx}{γ:QQz}{σ:L2.St}{H:Hp}{s:Shared}{b:Addr}{o:Obj}
def Inv.sH(I:L2.Inv X γ σ H s)(f:dB X γ H b)(e:s.heap.get? b=some o)(hn:∀v,o.data≠ .cell v):L2.Inv X (γ++[(b,o)]) σ H s:=
 I.xF fun p hp=>by
  rcases QXz.mp hp with hp|hp
  ·exact I.pin p (QVq _ hp)
  ·rw[QDz.mp hp];exact⟨e,f.1,f.2.1,f.2.2.1,hn⟩
def dB.sH(f:dB X γ H c)(h:b≠c):dB X (γ++[(b,o)]) H c:=
 ⟨f.1,f.2.1,f.2.2.1,f.2.2.2.1,f.2.2.2.2.1,fun p hp=>by
  rcases QXz.mp hp with hp|hp
  ·exact f.2.2.2.2.2 p (QWz _ hp)
  ·rcases QXz.mp hp with hp|hp
   ·exact f.2.2.2.2.2 p (QVq _ hp)
   ·rw[QDz.mp hp];exact h⟩
def Inv.last(I:L2.Inv X (γ++[(b,o)]) σ H s):s.heap.get? b=some o:=(I.pin (b,o) (QVq _ (QVq _ (.head _)))).1
end
section
variable{X:Cx}{A:Around}{γ:QQz}{σ:L2.St}{H:Hp}{l it S q:Addr}{xs:List V}{R:Result->Shared->Prop}{kf:Nat->Int}
theorem Oi(hA:X.A=A.in1)(hc:X.calm=true)(hl:H l=some (.lst xs))(hSI:S≠it)
  (turn:∀(i:Nat)(v:V)(u:Value)(Θ:QQz)(s:Shared),xs[i]? =some v->L2.Inv X Θ σ H s->RelV v u->wpAny (model X.prog X.w) X.A (call (.ref q) [u]) (EP X Θ σ (fun r H'=>r=.int (kf i)/\H'=H)) (fun _ _=>False) s)
  (fin:∀(i:Nat)(v:V)(u:Value)(s:Shared),xs[i]? =some v->(∀j,j<xs.length->kf i<=kf j/\(j<i->kf i<kf j))->L2.Inv X γ σ H s->RelV v u->R (.ok (.ret u)) s):
  ∀(r j i:Nat)(s:Shared)(vb:V)(ub:Value)(tb:Tok)(c:Nat),xs.length- (j+1)=r->j+1<=xs.length->L2.Inv X γ σ H s->dB X γ H it->dB X γ H S->s.heap.IsListIter it l (j+1)->
   s.heap.get? S=some (seqObj "list" #[ub,.int (kf i) tb] c)->xs[i]? =some vb->RelV vb ub->i<=j->(∀j',j'<=j->kf i<=kf j'/\(j'<i->kf i<kf j'))->
   codeAny (model X.prog X.w) A (.builtin "min.loop" ⟨[.ref it,.ref q,.ref S],[]⟩) R s:=by
 have hname:(toString "min"++toString ".loop":String)="min.loop":=by decide
 have T:=o5 (P:=X.prog) (w:=X.w) (K:=X.K) (tg:=.Name "x" ⟨0,0,0,0⟩) l it;intro r;induction r with
 |zero=>intro j i s vb ub tb c hr hj I fI fS st eS hvb rb hij best;refine codeAny_builtin PySem.F.entry_min_loop ?_;rw[Around.under_plainId PySem.F.plain_min_loop _,<-hA];show wpAny _ X.A (seqItems? (.ref S)>>=_) _ _ _;refine QKq (wpAny_seqItems eS rfl ?_);show wpAny _ X.A (tryCatch (pyNext (.ref it)) _>>=_) _ _ _;have I1:=Inv.sH I fS eS (fun v z=>by cases z);refine QKq (wpAny_tryCatch (QGq (T.done X rfl rfl rfl hc (j+1) _ s σ H _ I1 (fun b hb=>by rw[QDz.mp hb];exact dB.sH fI hSI) st ⟨xs,.inl (.inl hl),by omega⟩) (fun r s1 h=>?_) fun _ _ h=>h));obtain⟨rfl,I2⟩:=h;have e2:=Inv.last I2;show wpAny _ X.A (updateSeq S (fun _=> #[])>>=_) _ _ _;refine QKq ?_;refine wpAny_updateSeq e2 rfl (QKq (wpAny_letGo (QKz ?_)));have s3:=Heap.SameBut.update s1.heap S (Obj.mapSeq fun _=>(#[]:Array Value));exact fin i vb ub _ hvb (fun j' hj'=>best j' (by omega)) (Inv.nT (ch:=[S]) I2.dj (fun b o hb e=>(s3.2 b (by simpa using hb)).trans e) (fun b hb=>by rw[QDz.mp hb];exact fS)) rb
 |succ r ih=>
  intro j i s vb ub tb c hr hj I fI fS st eS hvb rb hij best;have hlt:j+1<xs.length:=by omega
  refine codeAny_builtin PySem.F.entry_min_loop ?_;rw[Around.under_plainId PySem.F.plain_min_loop _,<-hA];show wpAny _ X.A (seqItems? (.ref S)>>=_) _ _ _;refine QKq (wpAny_seqItems eS rfl ?_);have I1:=Inv.sH I fS eS (fun v z=>by cases z);obtain⟨v,hv⟩:∃v,xs[j+1]? =some v:=⟨xs[j+1],QXq hlt⟩;refine QKq (wpAny_tryCatch (QGq (T.item X rfl rfl rfl hc (j+1) _ s σ H (fun _ _=>False) I1 (fun b hb=>by rw[QDz.mp hb];exact dB.sH fI hSI) st ⟨xs,v,.inl (.inl hl),hv⟩) (fun r s1 h=>?_) fun _ _ h=>h.elim));obtain⟨u,rfl,h⟩:=h;refine qO (QGq h (fun _ s2 h2=>?_) fun _ _ h=>h.elim);obtain⟨y,H',I2,ry,⟨rfl,yl⟩,st2,nf⟩:=h2;have ev:=QEq ((yl xs (.inl (.inl hl))).symm.trans hv);subst ev;obtain⟨oI,eI,cI,dI⟩:=id st2;have I3:=Inv.sH I2 (dB.sH (o:=seqObj "list" #[ub,.int (kf i) tb] c) fI hSI) eI (fun v z=>by rw[dI]at z;cases z);refine QKq (wpAny_tryCatch (Qqq (QGq (turn (j+1) y u _ s2 hv I3 ry) (fun x s3 he=>?_) fun _ _ hF=>hF.elim)));obtain⟨z,H3,I4,rz,rfl,rfl⟩:=he;obtain⟨t2,rfl⟩:=(show∃t,x=Value.int (kf (j+1)) t from rz);have eI4:=Inv.last I4;have eS4:=Inv.last I4.dj;have I5:=I4.dj.dj;have st4:s3.heap.IsListIter it l (j+1+1):=⟨oI,eI4,cI,dI⟩;refine QKq (wpAny_tryCatch (Qqq (QKq (CmpOf.ints_lt (prog:=X.prog) (w:=X.w) (A:=X.A) (P:=fun i v=>∃t,v=.int (kf i) t) kf (fun i v h=>h) (j+1) i _ _ _ _ _ ⟨t2,rfl⟩ ⟨tb,rfl⟩ ?_))));refine QKq (Qqq (wpAny_truthy_bool ?_));refine QKq (wpAny_letGo (QKz ?_));by_cases hb:kf (j+1)<kf i
  ·have s5:=Heap.SameBut.update s3.heap S (Obj.mapSeq fun _=> #[u,.int (kf (j+1)) t2]);obtain⟨c2,hc2⟩:∃c2,(s3.heap.update S (Obj.mapSeq fun _=> #[u,.int (kf (j+1)) t2])).get? S=some (seqObj "list" #[u,.int (kf (j+1)) t2] c2):=⟨_,get?_update_seq eS4 fun _=> #[u,.int (kf (j+1)) t2]⟩;simp only[hb,decide_true,if_true];refine QKq ?_;refine wpAny_updateSeq eS4 rfl (QKq (wpAny_letGo ?_));rw[hname];refine QKz ⟨plainId_quiet PySem.F.plain_min_loop _,?_⟩;refine ih (j+1) (j+1) _ y u t2 c2 (by omega) hlt (Inv.nT (ch:=[S]) I5 (fun b o hb e=>(s5.2 b (by simpa using hb)).trans e) (fun b hb=>by rw[QDz.mp hb];exact fS)) fI fS ⟨oI,(s5.2 it (Ne.symm hSI)).trans eI4,cI,dI⟩ hc2 hv ry (QVz _) fun j' hj'=>?_;by_cases e:j'=j+1
   ·subst e;exact⟨by omega,fun _=>by omega⟩
   ·have b1:=best j' (by omega);have b2:=b1.1;exact⟨by omega,fun _=>by omega⟩
  ·simp only[hb,decide_false,Qxq,if_false];refine QKq (wpAny_letGo ?_);rw[hname];refine QKz ⟨plainId_quiet PySem.F.plain_min_loop _,?_⟩;refine ih (j+1) i _ vb ub tb c (by omega) hlt (I5.tok _) fI fS st4 eS4 hvb rb (by omega) fun j' hj'=>?_;by_cases e:j'=j+1
   ·subst e;exact⟨by omega,fun _=>by omega⟩
   ·exact best j' (by omega)
end
section
variable{X:Cx}{γ:QQz}{σ:L2.St}{H:Hp}{s:Shared}{l q:Addr}{xs:List V}{kf:Nat->Int}{Q:QZq}{E:QZq}
def Qt(hc:X.calm=true)(I:L2.Inv X γ σ H s)(hl:H l=some (.lst xs))(hne:0<xs.length)
  (turn:∀(i:Nat)(v:V)(u:Value)(Θ:QQz)(s:Shared),xs[i]? =some v->L2.Inv (Cx.under X X.A.in1) Θ σ H s->RelV v u->
   wpAny (model X.prog X.w) X.A.in1 (call (.ref q) [u]) (EP (Cx.under X X.A.in1) Θ σ (fun r H'=>r=.int (kf i)/\H'=H)) (fun _ _=>False) s)
  (fin:∀(i:Nat)(v:V)(u:Value)(s:Shared),xs[i]? =some v->(∀j,j<xs.length->kf i<=kf j/\(j<i->kf i<kf j))->L2.Inv X γ σ H s->RelV v u->Q u s):
  wpAny (model X.prog X.w) X.A (call (.builtin "min") [.ref l] [(Str.ofString "key",.ref q)]) Q E s:=by
 have hname:(toString "min"++toString ".loop":String)="min.loop":=by decide
 obtain⟨its,rv,p,hz⟩:=I.list (xs:=xs) (.inl (.inl hl));refine kmk_tree PySem.F.kind_min PySem.F.plain_min PySem.F.entry_min (kmk_min_key _ _) ?_;refine QKq (wpAny_of_eq (show Builtin.Builtins.bindParams "min" ["key","default"] 0 ⟨[],[(Str.ofString "key",.ref q)]⟩=pure [some (.ref q),none]from rfl) ?_);refine QKq (QKz ?_);refine QKq (wpAny_pyIter_list p.isList ?_);refine QKq (wpAny_newList ?_ (QIq _));rw[hname];generalize hh1:s.heap.push {cls:=.type "list_iterator",data:=.fields #[.ref l,.int 0 0]}=h1;have z1:h1.objs.size=s.heap.objs.size+1:=by rw[<-hh1];exact Heap.size_push _ _
 have g1:h1.get? s.heap.objs.size=some {cls:=.type "list_iterator",data:=.fields #[.ref l,.int 0 0]}:=by rw[<-hh1];exact Qzq _ rfl
 have hSI:h1.objs.size≠s.heap.objs.size:=by rw[z1];exact Nat.succ_ne_self _
 have fI:=I.pM (QVz _) (I.hok.fresh (QVz _));have fS:dB X γ H h1.objs.size:=I.pM (by omega) (I.hok.fresh (by omega));have I0:L2.Inv (Cx.under X X.A.in1) γ σ H {s with heap:=h1.push (seqObj "list" #[] 0)}:=
  Inv.under (Inv.nT (ch:=[]) (t':=s.toks) I (fun b o _ e=>QWq _ (by rw[<-hh1];exact QWq _ e)) (fun b hb=>nomatch hb)) rfl rfl
 have eS:(h1.push (seqObj "list" #[] 0)).get? h1.objs.size=some (seqObj "list" #[] 0):=Qzq _ rfl;have eI:(h1.push (seqObj "list" #[] 0)).get? s.heap.objs.size=some {cls:=.type "list_iterator",data:=.fields #[.ref l,.int 0 0]}:=QWq _ g1;refine QKz ⟨plainId_quiet PySem.F.plain_min_loop _,?_⟩;have T:=o5 (P:=X.prog) (w:=X.w) (K:=X.K) (tg:=.Name "x" ⟨0,0,0,0⟩) l s.heap.objs.size;refine codeAny_builtin PySem.F.entry_min_loop ?_;rw[Around.under_plainId PySem.F.plain_min_loop _];show wpAny _ X.A.in1 (seqItems? (.ref h1.objs.size)>>=_) _ _ _;refine QKq (wpAny_seqItems eS rfl ?_);show wpAny _ X.A.in1 (tryCatch (pyNext (.ref s.heap.objs.size)) _>>=_) _ _ _;have fI':=fI;have fS':=fS;have I1:=Inv.sH I0 fS' eS (fun v z=>by cases z);obtain⟨v,hv⟩:∃v,xs[0]? =some v:=⟨xs[0],QXq hne⟩;refine QKq (wpAny_tryCatch (QGq (T.item (Cx.under X X.A.in1) rfl rfl rfl hc 0 _ _ σ H (fun _ _=>False) I1 (fun b hb=>by rw[QDz.mp hb];exact dB.sH fI' hSI) ⟨_,eI,rfl,rfl⟩ ⟨xs,v,.inl (.inl hl),hv⟩) (fun r s1 h=>?_) fun _ _ h=>h.elim));obtain⟨u,rfl,h⟩:=h;refine qO (QGq h (fun _ s2 h2=>?_) fun _ _ h=>h.elim);obtain⟨y,H',I2,ry,⟨rfl,yl⟩,st2,nf⟩:=h2;have ev:=QEq ((yl xs (.inl (.inl hl))).symm.trans hv);subst ev;obtain⟨oI,eI2,cI,dI⟩:=id st2;have I3:=Inv.sH I2 (dB.sH (o:=seqObj "list" #[] 0) fI' hSI) eI2 (fun v z=>by rw[dI]at z;cases z);refine QKq (wpAny_tryCatch (Qqq (QGq (turn 0 y u _ s2 hv I3 ry) (fun x s3 he=>?_) fun _ _ hF=>hF.elim)));obtain⟨z,H3,I4,rz,rfl,rfl⟩:=he;obtain⟨t2,rfl⟩:=(show∃t,x=Value.int (kf 0) t from rz);have eI4:=Inv.last I4;have eS4:=Inv.last I4.dj;have I5:=I4.dj.dj;have s5:=Heap.SameBut.update s3.heap h1.objs.size (Obj.mapSeq fun _=> #[u,.int (kf 0) t2]);obtain⟨c2,hc2⟩:∃c2,(s3.heap.update h1.objs.size (Obj.mapSeq fun _=> #[u,.int (kf 0) t2])).get? h1.objs.size=some (seqObj "list" #[u,.int (kf 0) t2] c2):=⟨_,get?_update_seq eS4 fun _=> #[u,.int (kf 0) t2]⟩;refine QKq ?_;refine wpAny_updateSeq eS4 rfl ?_;rw[hname];refine QKz ⟨plainId_quiet PySem.F.plain_min_loop _,?_⟩;refine Oi (X:=Cx.under X X.A.in1) (A:=X.A) rfl hc hl hSI turn (fun i v u s' e b J r=>fin i v u s' e b (Inv.back J rfl rfl) r) _ 0 0 _ y u t2 c2 rfl hne
  (Inv.nT (ch:=[h1.objs.size]) I5 (fun b o hb e=>(s5.2 b (by simpa using hb)).trans e) (fun b hb=>by rw[QDz.mp hb];exact fS')) fI' fS' ⟨oI,(s5.2 _ (Ne.symm hSI)).trans eI4,cI,dI⟩ hc2 hv ry (QVz _) fun j' hj'=>?_
 have e:j'=0:=by omega
 subst e;exact⟨by omega,fun h=>absurd h (Nat.lt_irrefl _)⟩
end
structure Wo(K:QQq)(C:Addr)(m:Str)(g:Addr):Prop where
 me:Meth K C m g
 get:PySem.W.specialIn K (.ref g) "__get__"=some (some (.builtin "function.__get__"))
 tk:PySem.W.takesIn K (.ref g)=some false
 cp:PySem.W.copiedNames.contains m=false
section
variable{X:Cx}{γ:QQz}{σ:L2.St}{H:Hp}{s:Shared}{a C dx g:Addr}{fs:List (Str×V)}{m:Str}{A:Around}{Q:QZq}{E:QZq}
def Ai(I:L2.Inv X γ σ H s)(e:H a=some (.ins C dx fs))(c:oZ X.K C)(k:Wo X.K C m g)(l:fs.lookup m=none)
  (h:∀q s',H q=none->L2.Inv X γ σ (upd H q (.met g a)) s'->Q (.ref q) s'):wpAny (model X.prog X.w) A (getAttr (.ref a) m b) Q E s:=by
 obtain⟨mA,O,r,_,_,_⟩:=qL I.hok e;have hn:=iC.none_of (by rw[<-l];exact r m);obtain⟨od,J,hl⟩:=O.look;refine PySem.W.get_bind I.Ab J (PySem.W.plainGet_of (c.get m)).1 (PySem.W.findObj_fn c.hd k.me.at_ k.get k.tk k.cp (by rw[hl,hn])) (PySem.W.plainGet_of (c.get m)).2 ?_;refine wpAny_call (PySem.W.fn_get I.Ab (beq_iff_eq.mp k.me.fn) (PySem.W.handed_on rfl (h s.heap.objs.size _ (I.hok.fresh (QVz _)) ?_)));exact I.laid (fun b u q=>QWq _ q) (QVz _) (Qzq _ rfl)
end
section
variable{X:Cx}{CX:K1}{k:Nat}{C:Addr}{fd:FuncData}{ps:List Str}{sp:Sp}{E:XK}{m:Str}{p pos kpos:Pos}{e le ke:Expr}{ta:TE}{t tk:TA}{g:Addr}{ds:List Value}{dvs:List V}
noncomputable def WT(K:QQq)(ta:TE)(m:Str)(g:Addr):TE:=fun σ H Q=>ta σ H fun x H1=>∃a C dx fs,x=.ref a/\H1 a=some (.ins C dx fs)/\oZ K C/\Wo K C m g/\fs.lookup m=none/\∀q,H1 q=none->Q (.ref q) (upd H1 q (.met g a))
def XN(he:PE X e ta)(hb:attributeBase e m X.env (eval e X.env)=eval e X.env):PE X (.Attribute e m pos) (WT X.K ta m g):=by intro γ s σ H Q I h;refine Ia hb (bJ (he γ s σ H _ I h) fun u s1⟨x,H1,I1,rx,a,C,dx,fs,ex,ea,c,k,l,q⟩=>?_);subst ex;obtain rfl:u=Value.ref a:=rx;exact Ai I1 ea c k l fun q' s2 hq I2=>⟨.ref q',_,I2,rfl,q q' hq⟩
theorem Jc{σ:L2.St}{H:Hp}{Q:VK}{vs:List V}(F:bH X.prog X.w X.K X.mg X.base CX k g fd ps sp)(hr:dD k X.A)(hb:Binds X.K fd ps ds)(hd:Vals dvs ds)(hx:lD CX X E)
  (I:L2.Inv X γ σ H s)(eq:H q=some (.met g a))(r:Vals vs us)(h:sp ((.ref a::vs)++dvs) H Q E):wpAny (model X.prog X.w) X.A (call (.ref q) us) (EP X γ σ Q) X.xe s:=by
 have r2:Vals ((.ref a::vs)++dvs) _:=Vals.append (.cons rfl r) hd;have hl:((Value.ref a::us)++ds).length=ps.length:=by rw[<-r2.length];exact F.len _ _ _ _ h
 have ho:=I.hok q _ eq;refine wpAny_call (ks_codeAny_call_bound ho (codeAny_mono (F.run X.A X.stack s H ⟨.ref a::us,[]⟩ _ _ Q E hr I.env0 (hb s _ I.Ab hl) r2 h) fun r s' hq=>?_));cases r with
 |error e=>exact hx γ σ H s e s' I hq
 |ok fl=>
  cases fl with
  |ret u=>exact I.after hq
  |next=>exact False.elim hq
  |brk=>exact False.elim hq
  |cont=>exact False.elim hq
def adc(X:Cx)(σ:L2.St)(H:Hp)(q:Addr)(xs:List V)(kf:Nat->Int):Prop:=
 ∀(i:Nat)(v:V)(u:Value)(Θ:QQz)(s:Shared),xs[i]? =some v->L2.Inv (Cx.under X X.A.in1) Θ σ H s->RelV v u->
  wpAny (model X.prog X.w) X.A.in1 (call (.ref q) [u]) (EP (Cx.under X X.A.in1) Θ σ (fun r H'=>r=.int (kf i)/\H'=H)) (fun _ _=>False) s
end
def km{σ:L2.St}{q a g:Addr}{kf:Nat->Int}{fd:FuncData}{sp:Sp}(F:bH X.prog X.w X.K X.mg X.base dU k g fd ps sp)(hr:dD (k+1) X.A)(hb:Binds X.K fd ps [])(eq:H q=some (.met g a))
  (h:∀i v,xs[i]? =some v->sp [.ref a,v] H (fun r H'=>r=.int (kf i)/\H'=H) E0):adc X σ H q xs kf:=by
 intro i v u Θ s hv I ru;have I':L2.Inv {Cx.under X X.A.in1 with xe:=fun _ _=>False} Θ σ H s:=Inv.FN I;exact QGq (Jc (X:={Cx.under X X.A.in1 with xe:=fun _ _=>False}) F hr.in1 hb .nil gH I' eq (.cons ru .nil) (h i v hv)) (fun r s'⟨z,H',J,rz,e⟩=>⟨z,H',Inv.FN J,rz,e⟩) fun _ _ z=>z
noncomputable def jd(K:QQq):Sp:=fun vs H Q _=>∃a w C dx fs sa la i j,vs=[.ref a,w]/\H a=some (.ins C dx fs)/\oZ K C/\aW K C "since"/\aW K C "lengths"/\fs.lookup ("since":Str)=some (.ref sa)/\fs.lookup ("lengths":Str)=some (.ref la)/\
 lE H sa w (some (.int i))/\lE H la w (some (.int j))/\Q (.int (i+j)) H
def ZL(st:Stmt):Prop:=∃p1 p2 p3 p4 p5 p6 p7 p8 p9 p10:Pos,bY st=[.Return (some (.BinOp (.Subscript (.Attribute (.Name "self" p1) "since" p2) (.Name "wire" p3) p4) .Add (.Subscript (.Attribute (.Name "self" p5) "lengths" p6) (.Name "wire" p7) p8) p9)) p10]
section
variable{P:Program}{w:World}{K:QQq}{mg:QZz}{base:Heap}
def Zn{st:Stmt}{f:Addr}{k:Nat}(F:yH K "due" qual st f fd)(S:cX ["self","wire"] ["self","wire"] (aj st))(v0:Fw (aj st) "self")(v1:Fw (aj st) "wire")(hb:ZL st):
  bH P w K mg base dU (k+1) f fd ["self","wire"] (jd K):=by
 obtain⟨p1,p2,p3,p4,p5,p6,p7,p8,p9,p10,hb⟩:=hb;refine F.ok S (fun vs H Q E⟨a,w,C,dx,fs,sa,la,i,j,e,_⟩=>by rw[e];rfl) fun cdv A outer s H vs Q E hr h=>?_;rw[hb];have hu:(eE dU P w K mg base ["self","wire"] qual (aj st) f cdv A outer s H E).nQ.A.units+1<cLine:=by have:=hr.units;exact Nat.lt_of_le_of_lt (Nat.add_le_add_left (by decide) _) this
 refine⟨_,jw (iQ (XR (Gz hu (pB (cA (i:=0) rfl v0) rfl) (cA (i:=1) rfl v1) (fun _ _=>rfl)) (Gz hu (pB (cA (i:=0) rfl v0) rfl) (cA (i:=1) rfl v1) (fun _ _=>rfl)))),?_⟩;obtain⟨a,w,C,dx,fs,sa,la,i,j,rfl,ea,cl,n1,n2,l1,l2,g1,g2,q⟩:=h;exact⟨.ref a,rfl,a,C,dx,fs,.ref sa,rfl,ea,cl,n1,l1,w,rfl,sa,.int i,rfl,g1,.ref a,rfl,a,C,dx,fs,.ref la,rfl,ea,cl,n2,l2,w,rfl,la,.int j,rfl,g2,i,j,rfl,rfl,q⟩
end
section
variable{P:Program}{w:World}{K:QQq}{mg:QZz}{base:Heap}
end
def Dz{w:World}{v:Value}(h:(bQ P w).is k v=true):RelV (kV k) v:=by rcases bR h with ⟨i,t,rfl,rfl⟩|⟨x,t,rfl,rfl⟩<;>exact⟨t,rfl⟩
def JW{P:Program}{w:World}:∀{kvs:List (Key×V)}{vs:List (Key×Value)}{es:List DictEntry},KV kvs vs->Pairs (bQ P w) es vs->Vals (kvs.map fun p=>kV p.1) (es.map (·.key)):=by
 intro kvs vs es r;induction r generalizing es with
 |nil=>intro p;cases p;exact .nil
 |cons h t ih=>
  intro p;cases p with
  |cons h1 h2 h3=>exact .cons (by dsimp only;rw[h.1];exact Dz h1) (ih h3)
section
variable{X:Cx}
def Fd(hc:X.calm=true):iw X (.type "list") (fun xs H Q=>∃a kvs,xs=[.ref a]/\H a=some (.dK kvs)/\∀l,H l=none->Q (.ref l) (upd H l (.lst (kvs.map fun p=>kV p.1)))):=by
 rintro γ s σ H xs us Q I r ⟨a,kvs,rfl,e,q⟩;obtain⟨u,rfl,rx⟩:=vals1 r;cases rx;obtain⟨z,y,vs,rel,o,es,ep,h1,h2,h3,_,pr,_⟩:=(I.hok a _ e);have lk:=Paired.length rel;have le:es.size=vs.length:=by rw[<-Array.length_toList];exact pr.length
 refine PySem.W.kdl_call (Bj y) (I.ok.hd hc) ⟨o,h1,h2,h3⟩ (by omega) fun h' tk acc c' kp g it=>?_;have ev:acc.toList=es.toList.map (·.key):=by
  refine List.ext_getElem? fun i=>?_;rw[Array.getElem?_toList,QFz,Array.getElem?_toList];by_cases hi:i<acc.size
  ·obtain⟨e,e1,e2⟩:=it.2 i acc[i] (Array.getElem?_eq_getElem hi);rw[Array.getElem?_eq_getElem hi,e1,e2];rfl
  ·have:=it.1;rw[Array.getElem?_eq_none (by omega),Array.getElem?_eq_none (by omega)];rfl
 have rv:Vals (kvs.map fun p=>kV p.1) acc.toList:=by rw[ev];exact JW rel pr
 refine⟨.ref s.heap.objs.size,_,I.laid kp (QVz _) (show bZ X.prog X.w _ h' _ (.lst _)from⟨by rw[QAq];omega,acc.toList,c',rv,by simpa using g⟩),rfl,q _ (I.hok.fresh (QVz _))⟩
end
section
variable{X:Cx}{k:Nat}{fd:FuncData}{ps:List Str}{sp:Sp}{p pos kpos:Pos}{le ke:Expr}{t tk:TA}{g:Addr}
noncomputable def Ls(g:Addr)(sp:Sp)(t tk:TA):TE:=fun σ H Q=>t σ H fun vs H1=>tk σ H1 fun zs H2=>∃(l q a:Addr)(xs:List V)(kf:Nat->Int),vs=[.ref l]/\zs=[.ref q]/\H2 l=some (.lst xs)/\0<xs.length/\H2 q=some (.met g a)/\
 (∀(i:Nat)v,xs[i]? =some v->sp [.ref a,v] H2 (fun r H'=>r=.int (kf i)/\H'=H2) E0)/\∀(i:Nat)v,xs[i]? =some v->(∀j,j<xs.length->kf i<=kf j/\(j<i->kf i<kf j))->Q v H2
def SJ(hc:X.calm=true)(F:bH X.prog X.w X.K X.mg X.base dU k g fd ps sp)(hr:dD (k+1) X.A)(hb:Binds X.K fd ps [])(ha:PA X [le] t)(hkw:PK X [⟨some "key",ke,kpos⟩] tk)(hg:Gl X "min")(hm:X.mg "min"=none)
  (he:backTo pos (starEach [le] X.env)=(false,eval le X.env)::backTo pos (starEach [] X.env):=by rfl)(hplain:(backTo pos (starEach [le] X.env)).any (·.1)=false:=by rfl):
  PE X (.Call (.Name "min" p) [le] [⟨some "key",ke,kpos⟩] pos) (Ls g sp t tk):=by
 intro γ s σ H Q I h;refine wpAny_Call_Name_kw (kj I hg hm rfl ?_);refine callWith_kw (bJ (ha pos γ s σ H _ I h) fun us s1⟨vs,H1,I1,r,q⟩=>?_) he hplain;refine bJ (hkw pos γ s1 σ H1 _ I1 q) fun ws s2⟨zs,H2,I2,rz,l,q',a,xs,kf,e1,e2,hl,hne,eq,hk,fin⟩=>?_;subst e1 e2;obtain⟨u1,rfl,r1⟩:=Vals.one r;obtain⟨u2,rfl,r2⟩:=Vals.one rz;obtain rfl:u1=Value.ref l:=r1;obtain rfl:u2=Value.ref q':=r2;exact Qt hc I2 hl hne (km F hr hb eq hk) fun i v u s' e b J rv=>⟨v,H2,J,rv,fin i v e b⟩
end
def Vj(K:QQq)(c:Cf)(m:E):TE:=fun σ H Q=>∃env,tM K W0 env (ev c m env) σ H Q
theorem GE.Vj{c:Cf}{e:Expr}(h:GE X W0 c m e):PE X e (Vj X.K c m):=fun γ s σ H Q I⟨env,q⟩=>h env γ s σ H Q I q
noncomputable def WN(t:TE):TE:=fun σ H Q=>t σ H fun v H1=>∃a u,v=.ref a/\H1 a=some u/\Fz u/\∀o,Q v (upd H1 a (.frz o u))
def Nm{e:Expr}(h:PE X e t):PE X e (WN t):=by intro γ s σ H Q I q;refine bJ (h γ s σ H _ I q) fun u s1⟨v,H1,I1,r,a,w,ev,ha,hu,k⟩=>?_;obtain⟨o,I2⟩:=Inv.freeze I1 ha hu;exact⟨v,_,I2,r,k o⟩
abbrev sf(K:QQq)(f:Str):TE:=Rm K (aN 0) f
abbrev rLk:List V->Hp->VK->Prop:=fun xs H Q=>∃a kvs,xs=[.ref a]/\H a=some (.dK kvs)/\∀l,H l=none->Q (.ref l) (upd H l (.lst (kvs.map fun p=>kV p.1)))
noncomputable def aeA(K:QQq)(C g:Addr)(spD spL spS spW:Sp):TS:=
 iJ (o8 (Ls g spD (aG (WR rLk (aG (sf K "since") cN)) cN) (aG (WT K (aN 0) "due" g) cN)) (jO 1))
 (iJ (o8 (rD C "due" spD [] E0 (aN 0) (aG (aN 1) cN)) (jO 2))
 (iJ (rE (tBM K "list" xr (sf K "changes") (aG (Rh (aG (aN 2) (aG (aN 1) cN))) cN)))
 (iJ (mV K (aN 0) (gG spL [] E0 (aG (sf K "net") (aG (sf K "talk") (aG (sf K "stand") (aG (aN 1) cN))))) "stand")
 (iJ (rE (Ci (sf K "since") (aN 1)))
 (iJ (o8 (tIf (Gd (Ve (fun x y H Q=>y=.non/\Q (.bl (decide (x=.non))) H) (sf K "stand") (tC .non))) (Lw cN) (gG spS [] E0 (aG (sf K "net") (aG (sf K "talk") (aG (sf K "stand") cN))))) (jO 3))
 (mV K (aN 0) (gG spW [] E0 (aG (WN (aN 3)) (aG (sf K "since") (aG (aN 2) cN)))) "since"))))))
abbrev j6:List Str:=["self","wire","time","names"]
noncomputable def uY(K:QQq)(C g:Addr)(spD spL spS spW:Sp):Sp:=fun vs H Q _=>vs.length=1/\aeA K C g spD spL spS spW {nx:=fun _ H'=>Q .non H',rt:=Q} (L2.start j6 vs) H
inductive ZM(st:Stmt):Prop
 |mk (x1 lc:Nat) (p1 p2 p3 p4 p5 p6 p7 p8 p9 p10 q1 q2 q6 a1 a2 a3 a4 a5 b1 b2 b3 b4 b5 b6 b7 b8 c1 c2 c3 c4 c5 c6 c7 c8 c9 c10 c11 c12 d1 d2 d3 d4 d5 d6 e1 e2 e3 e4 e5 e6 e7 e8 e9 e10 e11 e12 e13 e14 e15 g1 g2 g3 g4 g5 g6 g7 g8 g9:Pos) (h0_:bY st=[.Assign [.Name "wire" q1] (.Call (.Name "min" p1) [.Call (.Name "list" p2) [.Attribute (.Name "self" p3) "since" p4] [] p5] [⟨some "key",.Attribute (.Name "self" p6) "due" p7,p8⟩] p9) p10,
   .Assign [.Name "time" q2] (.Call (.Attribute (.Name "self" a1) "due" a2) [.Name "wire" a3] [] a4) a5,
   .Expr (.Call (.Attribute (.Attribute (.Name "self" b1) "changes" b2) "append" b3) [.Tuple [.Name "time" b4,.Name "wire" b5] lc b6] [] b7) b8,
   .Assign [.Attribute (.Name "self" c1) "stand" c2] (.Call (.Name "led_to" c3) [.Attribute (.Name "self" c4) "net" c5,.Attribute (.Name "self" c6) "talk" c7,.Attribute (.Name "self" c8) "stand" c9,.Name "wire" c10] [] c11) c12,
   .Expr (.Call (.Attribute (.Attribute (.Name "self" d1) "since" d2) "pop" d3) [.Name "wire" d4] [] d5) d6,
   .Assign [.Name "names" q6] (.IfExp (.Compare (.Attribute (.Name "self" e1) "stand" e2) [.Is] [.Constant .none x1 e3] e4) (.List [] e5) (.Call (.Name "steps_at" e6) [.Attribute (.Name "self" e7) "net" e8,.Attribute (.Name "self" e9) "talk" e10,.Attribute (.Name "self" e11) "stand" e12] [] e13) e14) e15,
   .Assign [.Attribute (.Name "self" g1) "since" g2] (.Call (.Name "since_when" g3) [.Name "names" g4,.Attribute (.Name "self" g5) "since" g6,.Name "time" g7] [] g8) g9]) (h1_:∀env:Env,∃pl:Sem Bool,eval (.Call (.Attribute (.Name "self" a1) "due" a2) [.Name "wire" a3] [] a4) env=(do
   let ov<-eval (.Name "self" a1) env
   standAt a2.atName
   let (f,first)<-holding [ov] (getMethod ov "due" pl)
   callWith a4 f first (backTo a4 (starEach [.Name "wire" a3] env)) (backToKw a4 (keywordEach [] env)))) (h2_:(b3.endLine==b7.line)=true) (h3_:(d3.endLine==d5.line)=true)
section
variable{P:Program}{w:World}{K:QQq}{mg:QZz}{base:Heap}
def Zz{st:Stmt}{f C g fl fs fw:Addr}{k:Nat}{spD spL spS spW:Sp}
  (F:yH K "change" qual st f fd)(S:cX j6 ["self"] (aj st))(lo:∀x∈j6,(aj st).names.lookup x=some .local)
  (gl:∀x∈(["min","list","led_to","steps_at","since_when"]:List Str),(aj st).names.lookup x=some .globalImplicit)
  (cl:oZ K C)(bd:Wo K C "due" g)(D:bH P w K mg base dU k g fdD ["self","wire"] spD)(bD:Binds K fdD ["self","wire"] [])
  (L:bH P w K mg base dU k fl fdL psL spL)(bL:Binds K fdL psL [])(mL:mg "led_to"=some (.ref fl))(kL:PySem.W.keepIn K (.ref fl)=true)
  (T:bH P w K mg base dU k fs fdS psS spS)(bT:Binds K fdS psS [])(mT:mg "steps_at"=some (.ref fs))(kT:PySem.W.keepIn K (.ref fs)=true)
  (W:bH P w K mg base dU k fw fdW psW spW)(bW:Binds K fdW psW [])(mW:mg "since_when"=some (.ref fw))(kW:PySem.W.keepIn K (.ref fw)=true)
  (m1:mg "min"=none)(m2:mg "list"=none)(hb:ZM st):
  bH P w K mg base dU (k+2) f fd ["self"] (uY K C g spD spL spS spW):=by
 obtain⟨x1,lc,p1,p2,p3,p4,p5,p6,p7,p8,p9,p10,q1,q2,q6,a1,a2,a3,a4,a5,b1,b2,b3,b4,b5,b6,b7,b8,c1,c2,c3,c4,c5,c6,c7,c8,c9,c10,c11,c12,d1,d2,d3,d4,d5,d6,e1,e2,e3,e4,e5,e6,e7,e8,e9,e10,e11,e12,e13,e14,e15,g1,g2,g3,g4,g5,g6,g7,g8,g9,hb,hm,h3,h5⟩:=hb;refine F.ok S (fun vs H Q E h=>h.1) fun cdv A outer s H vs Q E hr h=>?_;rw[hb];refine⟨_,?_,h.2⟩;have hr1:=hr.mono (Nat.le_succ k);have v:∀x∈j6,Fw (aj st) x:=fun x hx=>.inl (lo x hx);have pv0:∀{p:Pos},PE (eE dU P w K mg base j6 qual (aj st) f cdv A outer s H E).nQ (.Name "self" p) (aN 0):=fun{p}=>cA (i:=0) rfl (v _ (by simp));have pv1:∀{p:Pos},PE (eE dU P w K mg base j6 qual (aj st) f cdv A outer s H E).nQ (.Name "wire" p) (aN 1):=fun{p}=>cA (i:=1) rfl (v _ (by simp));have pv2:∀{p:Pos},PE (eE dU P w K mg base j6 qual (aj st) f cdv A outer s H E).nQ (.Name "time" p) (aN 2):=fun{p}=>cA (i:=2) rfl (v _ (by simp));have pv3:∀{p:Pos},PE (eE dU P w K mg base j6 qual (aj st) f cdv A outer s H E).nQ (.Name "names" p) (WN (aN 3)):=fun{p}=>Nm (cA (i:=3) rfl (v _ (by simp)));have pf:∀{p q:Pos}{x:Str},PE (eE dU P w K mg base j6 qual (aj st) f cdv A outer s H E).nQ (.Attribute (.Name "self" p) x q) (sf K x):=fun{p q x}=>pB pv0 rfl;refine bj (jX S.nd rfl (.inl (lo _ (by simp))) (SJ rfl D hr bD (aC (ji (Fd rfl) (gl _ (by simp)) m2 rfl (aC pf aU)) aU) (Sw (XN pv0 rfl) XC) (gl _ (by simp)) m1) rfl (.inr (lo _ (by simp)))) ?_;obtain⟨pl,ht⟩:=hm (eE dU P w K mg base j6 qual (aj st) f cdv A outer s H E).nQ.env;refine bj (jX S.nd rfl (.inl (lo _ (by simp))) (Gy (pl:=pl) pv0 cl bd.me D hr1 bD .nil gH (aC pv1 aU) rfl rfl ht) rfl (.inr (lo _ (by simp)))) ?_;refine bj (lK (VG ⟨rfl,h3,rfl⟩ PySem.F.slot_list_append PySem.F.type_list_append lQ pf (Dg (aC pv2 (aC pv1 aU)))) rfl) ?_;refine bj (jY pv0 (fX L hr1 (gl _ (by simp)) mL kL bL .nil gH (aC pf (aC pf (aC pf (aC pv1 aU))))) rfl) ?_;refine bj (lK (Np pf pv1 ⟨rfl,rfl,h5,rfl⟩) rfl) ?_;refine bj (jX S.nd rfl (.inl (lo _ (by simp))) (zL (xx Nv pf Dh rfl) (Di aU) (fX T hr1 (gl _ (by simp)) mT kT bT .nil gH (aC pf (aC pf (aC pf aU))))) rfl (.inr (lo _ (by simp)))) ?_;exact jw (jY pv0 (fX W hr1 (gl _ (by simp)) mW kW bW .nil gH (aC pv3 (aC pf (aC pv2 aU)))) rfl)
end
noncomputable def aew(K:QQq)(c:Cf)(mz:E)(spF spS spW:Sp):TS:=
 iJ (mV K (aN 0) (aN 1) "net") (iJ (mV K (aN 0) (aN 2) "talk") (iJ (mV K (aN 0) (Vj K c mz) "lengths") (iJ (mV K (aN 0) (Lw cN) "changes")
 (iJ (mV K (aN 0) (gG spF [] E0 (aG (aN 1) cN)) "stand")
 (mV K (aN 0) (gG spW [] E0 (aG (WN (gG spS [] E0 (aG (aN 1) (aG (aN 2) (aG (sf K "stand") cN))))) (aG (Vj K c .emp) (aG (tC (.int 0)) cN)))) "since")))))
abbrev fJ:List Str:=["self","net","talk","waits"]
noncomputable def zm(K:QQq)(c:Cf)(mz:E)(spF spS spW:Sp):Sp:=fun vs H Q _=>vs.length=4/\aew K c mz spF spS spW {nx:=fun _ H'=>Q .non H',rt:=Q} (L2.start fJ vs) H
inductive ZK(ct:Ct)(mz:E)(st:Stmt):Prop
 |mk (x1:Nat) (ez:Expr) (p1 p2 p3 p4 q1 q2 q3 q4 r1 r2 r3 s1 s2 s3 s4 u1 u2 u3 u4 u5 u6 v1 v2 v3 v4 v5 v6 v7 v8 v9 v10 v11 v12 v13:Pos) (h0_:bY st=[.Assign [.Attribute (.Name "self" p1) "net" p2] (.Name "net" p3) p4,.Assign [.Attribute (.Name "self" q1) "talk" q2] (.Name "talk" q3) q4,
   .Assign [.Attribute (.Name "self" r1) "lengths" r2] ez r3,.Assign [.Attribute (.Name "self" s1) "changes" s2] (.List [] s3) s4,
   .Assign [.Attribute (.Name "self" u1) "stand" u2] (.Call (.Name "first_stand" u3) [.Name "net" u4] [] u5) u6,
   .Assign [.Attribute (.Name "self" v1) "since" v2] (.Call (.Name "since_when" v3) [.Call (.Name "steps_at" v4) [.Name "net" v5,.Name "talk" v6,.Attribute (.Name "self" v7) "stand" v8] [] v9,.Dict [] [] v10,.Constant (.int 0) x1 v11] [] v12) v13]) (h1_:∀(l:Nat)(env:Env),swapsWith ez (some (.Attribute (.Name "self" r1) "lengths" r2)) l env=pure false) (h2_:eV 60 ct ez=some mz)
section
variable{P:Program}{w:World}{K:QQq}{mg:QZz}{base:Heap}
def Yz{st:Stmt}{f ff fs fw:Addr}{k:Nat}{spF spS spW:Sp}{c:Cf}
  (F:yH K "__init__" qual st f fd)(S:cX fJ fJ (aj st))(lo:∀x∈fJ,(aj st).names.lookup x=some .local)
  (gl:∀x∈(["first_stand","steps_at","since_when"]:List Str),(aj st).names.lookup x=some .globalImplicit)
  (D:bH P w K mg base dU k ff fdF psF spF)(bD:Binds K fdF psF [])(mD:mg "first_stand"=some (.ref ff))(kD:PySem.W.keepIn K (.ref ff)=true)
  (T:bH P w K mg base dU k fs fdS psS spS)(bT:Binds K fdS psS [])(mT:mg "steps_at"=some (.ref fs))(kT:PySem.W.keepIn K (.ref fs)=true)
  (W:bH P w K mg base dU k fw fdW psW spW)(bW:Binds K fdW psW [])(mW:mg "since_when"=some (.ref fw))(kW:PySem.W.keepIn K (.ref fw)=true)(hX:∀X:Cx,X.prog=P->X.w=w->X.K=K->X.mg=mg->X.base=base->X.calm=true->X.N=fJ->X.env.scope=aj st->dD k X.A->jn ct X c)(hb:ZK ct mz st):
  bH P w K mg base dU (k+1) f fd fJ (zm K c mz spF spS spW):=by
 obtain⟨x1,ez,p1,p2,p3,p4,q1,q2,q3,q4,r1,r2,r3,s1,s2,s3,s4,u1,u2,u3,u4,u5,u6,v1,v2,v3,v4,v5,v6,v7,v8,v9,v10,v11,v12,v13,hb,sw,tr⟩:=hb;refine F.ok S (fun vs H Q E h=>h.1) fun cdv A outer s H vs Q E hr h=>?_;rw[hb];refine⟨_,?_,h.2⟩;have v:∀x∈fJ,Fw (aj st) x:=fun x hx=>.inl (lo x hx);have pv0:∀{p:Pos},PE (eE dU P w K mg base fJ qual (aj st) f cdv A outer s H E).nQ (.Name "self" p) (aN 0):=fun{p}=>cA rfl (v _ (by simp));have pv1:∀{p:Pos},PE (eE dU P w K mg base fJ qual (aj st) f cdv A outer s H E).nQ (.Name "net" p) (aN 1):=fun{p}=>cA rfl (v _ (by simp));have pv2:∀{p:Pos},PE (eE dU P w K mg base fJ qual (aj st) f cdv A outer s H E).nQ (.Name "talk" p) (aN 2):=fun{p}=>cA rfl (v _ (by simp));have pf:∀{p q:Pos}{x:Str},PE (eE dU P w K mg base fJ qual (aj st) f cdv A outer s H E).nQ (.Attribute (.Name "self" p) x q) (sf K x):=fun{p q x}=>pB pv0 rfl;refine bj (jY pv0 pv1 rfl) (bj (jY pv0 pv2 rfl) (bj (jY pv0 (GE.Vj ((ih c 60).e ct _ _ _ (hX _ rfl rfl rfl rfl rfl rfl rfl rfl hr) tr).ge) (sw _ _)) ?_));refine bj (jY pv0 (Di aU) rfl) (bj (jY pv0 (fX D hr (gl _ (by simp)) mD kD bD .nil gH (aC pv1 aU)) rfl) ?_);exact jw (jY pv0 (fX W hr (gl _ (by simp)) mW kW bW .nil gH (aC (Nm (fX T hr (gl _ (by simp)) mT kT bT .nil gH (aC pv1 (aC pv2 (aC pf aU))))) (aC (GE.Vj PB) (aC Nk aU)))) rfl)
end
abbrev gf(K:QQq)(f:Str):TE:=Rm K (aN 4) f
section
variable{P:Program}{w:World}{K:QQq}{mg:QZz}{base:Heap}
end
def ir(l:eU):List (Key×V):=l.map fun p=>(.inr p.1,.int p.2)
def Kp(H H':Hp):Prop:=∀b u,H b=some u->H' b=some u
def Kp.trans(a:Kp H H1)(b:Kp H1 H2):Kp H H2:=fun c u h=>b c u (a c u h)
def Kp.pers(k:Kp H H'):bz H H':=⟨fun b xs h=>k b _ h,fun b o u h=>k b _ h⟩
def Kp.lay{a:Addr}(h:H a=none):Kp H (upd H a u):=fun b v e=>by rw[ak (fun z=>by subst z;rw[h]at e;cases e)];exact e
def Kp.chg{a:Addr}(k:Kp H0 H)(h:H0 a=none):Kp H0 (upd H a u):=fun b v e=>by rw[ak (fun z=>by subst z;rw[h]at e;cases e)];exact k b v e
noncomputable def nD(vn vt vs:V)(la ca sa:Addr):List (Str×V):=[("net",vn),("talk",vt),("lengths",.ref la),("changes",.ref ca),("stand",vs),("since",.ref sa)]
structure dX(K:QQq)(C:Addr)(H0 H:Hp)(a:Addr)(n t:D)(ls:eU)(cs:List D)(sd:D)(ss:eU):Prop where
 ex:∃(dx la ca sa:Addr)(vn vt vs:V)(cv:List V),H a=some (.ins C dx (nD vn vt vs la ca sa))/\aL K H n vn/\aL K H t vt/\aL K H sd vs/\H la=some (.dK (ir ls))/\H ca=some (.lst cv)/\ao K H cs cv/\H sa=some (.dK (ir ss))/\
  la≠sa/\H0 a=none/\H0 ca=none/\H0 sa=none
 kp:Kp H0 H
def oF{d:Addr}{x:Str}(e:H d=some (.dK (ir l)))(h:eO (ir l) (.inr x)=some (.int i)):lE H d (.str x) (some (.int i)):=by rw[<-h];exact lE.k (k:=.inr x) e
noncomputable def Av(ls ss:eU)(i:Nat):Int:=match ss[i]? with
 |some p=>p.2+(match eO (ir ls) (.inr p.1)with|some (.int j)=>j|_=>0)
 |none=>0
theorem dX.mono{K:QQq}{C a:Addr}{n t sd:D}{cs:List D}(G:dX K C H0 H a n t ls cs sd ss)(k:Kp H H'):dX K C H0 H' a n t ls cs sd ss:=by obtain⟨⟨dx,la,ca,sa,vn,vt,vs,cv,e1,d1,d2,d3,e2,e3,d4,e4,r⟩,k0⟩:=G;exact⟨⟨dx,la,ca,sa,vn,vt,vs,cv,k _ _ e1,d1.mono k.pers,d2.mono k.pers,d3.mono k.pers,k _ _ e2,k _ _ e3,d4.mono k.pers,k _ _ e4,r⟩,k0.trans k⟩
section
variable{K:QQq}{C a g:Addr}{H0 H:Hp}{n t sd:D}{ls ss:eU}{cs:List D}{σ:L2.St}{D:Ends}
def agx(hσ:σ[0]? =some (some (.ref a)))(G:dX K C H0 H a n t ls cs sd ss)(cl:oZ K C)(bd:Wo K C "due" g)(n1:aW K C "since")(n2:aW K C "lengths")(ne:0<ss.length)
  (hi:∀(i:Nat)(p:Str×Int),ss[i]? =some p->eO (ir ss) (.inr p.1)=some (.int p.2))(hl:∀(i:Nat)(p:Str×Int),ss[i]? =some p->∃j,eO (ir ls) (.inr p.1)=some (.int j))
  (fin:∀(i:Nat)(p:Str×Int)(H1:Hp),ss[i]? =some p->(∀j,j<ss.length->Av ls ss i<=Av ls ss j/\(j<i->Av ls ss i<Av ls ss j))->Kp H H1->D.nx (σ.set 1 (some (.str p.1))) H1):
  o8 (Ls g (jd K) (aG (WR rLk (aG (sf K "since") cN)) cN) (aG (WT K (aN 0) "due" g) cN)) (jO 1) D σ H:=by
 obtain⟨⟨dx,la,ca,sa,vn,vt,vs,cv,e1,d1,d2,d3,e2,e3,d4,e4,r⟩,k0⟩:=G;refine⟨.ref a,hσ,a,C,dx,_,.ref sa,rfl,e1,cl,n1,rfl,sa,ir ss,rfl,e4,fun l hl0=>?_⟩;have k1:Kp H (upd H l (.lst ((ir ss).map fun p=>kV p.1))):=Kp.lay hl0;refine⟨.ref a,hσ,a,C,dx,_,rfl,k1 _ _ e1,cl,bd,rfl,fun q hq=>?_⟩;have k2:=k1.trans (Kp.lay (u:=.met g a) hq);have nlq:l≠q:=fun z=>by subst z;rw[aq]at hq;cases hq
 refine⟨l,q,a,(ir ss).map fun p=>kV p.1,Av ls ss,rfl,rfl,?_,?_,aq,fun i v hv=>?_,fun i v hv best=>?_⟩
 ·rw[ak nlq,aq]
 ·simpa[ir]using ne
 ·unfold ir at hv;rw[List.map_map,QFz]at hv;obtain⟨p,ep,rfl⟩:=QJz.mp hv;obtain⟨j,hj⟩:=hl i p ep;refine⟨a,.str p.1,C,dx,_,sa,la,p.2,j,rfl,k2 _ _ e1,cl,n1,n2,rfl,rfl,oF (k2 _ _ e4) (hi i p ep),oF (k2 _ _ e2) hj,?_,rfl⟩;unfold Av;rw[ep];simp only[hj]
 ·unfold ir at hv;rw[List.map_map,QFz]at hv;obtain⟨p,ep,rfl⟩:=QJz.mp hv;exact fin i p _ ep (fun j hj=>best j (by simpa[ir]using hj)) k2
end
section
variable{K:QQq}{C a g:Addr}{H0 H:Hp}{n t sd:D}{ls ss:eU}{cs:List D}{σ:L2.St}{D:Ends}
def agw{x:Str}(hσ:σ[0]? =some (some (.ref a)))(hx:σ[1]? =some (some (.str x)))(G:dX K C H0 H a n t ls cs sd ss)(cl:oZ K C)(n1:aW K C "since")(n2:aW K C "lengths")
  (hi:eO (ir ss) (.inr x)=some (.int i))(hj:eO (ir ls) (.inr x)=some (.int j))(fin:D.nx (σ.set 2 (some (.int (i+j)))) H):
  o8 (rD C "due" (jd K) [] E0 (aN 0) (aG (aN 1) cN)) (jO 2) D σ H:=by
 obtain⟨⟨dx,la,ca,sa,vn,vt,vs,cv,e1,d1,d2,d3,e2,e3,d4,e4,r⟩,k0⟩:=G;exact⟨.ref a,hσ,a,dx,_,rfl,e1,rfl,.str x,hx,a,.str x,C,dx,_,sa,la,i,j,rfl,e1,cl,n1,n2,rfl,rfl,oF e4 hi,oF e2 hj,fin⟩
def agv{i:Int}(hσ:σ[0]? =some (some (.ref a)))(hx:σ[1]? =some (some (.str x)))(ht:σ[2]? =some (some (.int i)))(G:dX K C H0 H a n t ls cs sd ss)(cl:oZ K C)(n1:aW K C "changes")(hz:cs.length<sizeLine)
  (fin:∀H1,dX K C H0 H1 a n t ls (cs++[.tup [.int i,.str x]]) sd ss->D.nx σ H1):
  rE (tBM K "list" xr (sf K "changes") (aG (Rh (aG (aN 2) (aG (aN 1) cN))) cN)) D σ H:=by
 obtain⟨⟨dx,la,ca,sa,vn,vt,vs,cv,e1,d1,d2,d3,e2,e3,d4,e4,ne,z1,z2,z3⟩,k0⟩:=G;refine⟨.ref a,hσ,a,C,dx,_,.ref ca,rfl,e1,cl,n1,rfl,.inl ⟨rfl,cv,.inl (.inl e3)⟩,.int i,ht,.str x,hx,by simp[sizeLine_eq],fun p hp=>?_⟩;have k1:Kp H (upd H p (.tup [.int i,.str x])):=Kp.lay hp;have lc:cv.length<sizeLine:=by rw[<-d4.length];exact hz
 have nca:ca≠a:=fun z=>by subst z;rw[e1]at e3;cases e3
 have ncl:ca≠la:=fun z=>by subst z;rw[e2]at e3;cases e3
 have ncs:ca≠sa:=fun z=>by subst z;rw[e4]at e3;cases e3
 have ncp:ca≠p:=fun z=>by subst z;rw[hp]at e3;cases e3
 refine⟨ca,cv,.ref p,rfl,rfl,k1 _ _ e3,lc,fin _ ?_⟩;have k2:bz H (upd (upd H p (.tup [.int i,.str x])) ca (.lst (cv++[.ref p]))):=by
  refine⟨fun b xs h=>?_,fun b o u h=>?_⟩
  ·rw[ak (fun z=>by subst z;rw[e3]at h;cases h)];exact k1 _ _ h
  ·rw[ak (fun z=>by subst z;rw[e3]at h;cases h)];exact k1 _ _ h
 refine⟨⟨dx,la,ca,sa,vn,vt,vs,cv++[.ref p],?_,d1.mono k2,d2.mono k2,d3.mono k2,?_,aq,ao.append (d4.mono k2) ?_,?_,ne,z1,z2,z3⟩,(k0.trans k1).chg z2⟩
 ·rw[ak (Ne.symm nca)];exact k1 _ _ e1
 ·rw[ak (Ne.symm ncl)];exact k1 _ _ e2
 ·refine ao.aZ ?_ ao.dZ;unfold aL;refine⟨p,[.int i,.str x],rfl,.inl (.inl ?_),ao.aZ (by unfold aL;rfl) (ao.aZ (by unfold aL;rfl) ao.dZ)⟩;rw[ak (Ne.symm ncp),aq]
 ·rw[ak (Ne.symm ncs)];exact k1 _ _ e4
end
def zP{ds:List D}{i:Nat}:¬aJ (ds.map .val) σ i b:=by rintro ⟨⟨s,xs,e,h⟩,_⟩;rw[QFz]at e;obtain⟨d,_,rfl⟩:=QJz.mp e;cases h
def Ma{K:QQq}{ds:List D}(l:ao K H ds vs):Sat K (ds.map .val) (vs.map some) H:=by refine⟨by simp[l.length],fun i s e=>?_,fun i j a h _=>absurd h zP⟩;rw[QFz]at e;obtain⟨d,ed,rfl⟩:=QJz.mp e;obtain⟨v,ev,dv⟩:=l.get ed;exact⟨v,by rw[QFz,ev];rfl,dv⟩
def lH{K:QQq}{H:Hp}{vs:List V}{r:Rv}{k:Nat}{E:XK}(l:ao K H ds vs)(hk:vs.length=k)(h:f (ds.map .val)=.ok r qs)(fin:∀v H',Kp H H'->ac5 K H H' r v->Q v H'):bA K k f vs H Q E:=by
 refine⟨ds.map .val,hk,Ma l,fun i o e=>?_,?_⟩
 ·rw[QFz]at e;obtain⟨d,_,z⟩:=QJz.mp e;cases z
 ·rw[h];exact fun v H' c rc=>fin v H' (fun b u e=>c.keep b u e fun i=>zP) rc
section
variable{K:QQq}{C a g:Addr}{H0 H:Hp}{n t sd:D}{ls ss:eU}{cs:List D}{σ:L2.St}{D:Ends}{f:List Sl->Res}
def agu{sd':Mini.D}(hσ:σ[0]? =some (some (.ref a)))(hx:σ[1]? =some (some (.str x)))(G:dX K C H0 H a n t ls cs sd ss)(cl:oZ K C)(n1:aW K C "net")(n2:aW K C "talk")(n3:aW K C "stand")
  (hf:f [.val n,.val t,.val sd,.val (.str x)]=.ok (.val sd') qs)(fin:∀H1,dX K C H0 H1 a n t ls cs sd' ss->D.nx σ H1):
  mV K (aN 0) (gG (bA K 4 f) [] E0 (aG (sf K "net") (aG (sf K "talk") (aG (sf K "stand") (aG (aN 1) cN))))) "stand" D σ H:=by
 obtain⟨⟨dx,la,ca,sa,vn,vt,vs,cv,e1,d1,d2,d3,e2,e3,d4,e4,ne,z1,z2,z3⟩,k0⟩:=G;refine⟨.ref a,hσ,a,C,dx,_,vn,rfl,e1,cl,n1,rfl,.ref a,hσ,a,C,dx,_,vt,rfl,e1,cl,n2,rfl,.ref a,hσ,a,C,dx,_,vs,rfl,e1,cl,n3,rfl,.str x,hx,?_⟩;refine lH (E:=E0) (ao.aZ d1 (ao.aZ d2 (ao.aZ d3 (ao.aZ (by unfold aL;rfl) ao.dZ)))) rfl hf fun v H' k rc=>?_;have hv:=rc;refine⟨.ref a,hσ,a,C,dx,_,rfl,k _ _ e1,cl,n3,by simp[nD],fin _ ?_⟩;have hp:ju "stand" v (nD vn vt vs la ca sa)=nD vn vt v la ca sa:=rfl;have ea:=k _ _ e1;have k2:bz H' (upd H' a (.ins C dx (nD vn vt v la ca sa))):=by
  refine⟨fun b xs h=>?_,fun b o u h=>?_⟩
  ·rw[ak (fun z=>by subst z;rw[ea]at h;cases h)];exact h
  ·rw[ak (fun z=>by subst z;rw[ea]at h;cases h)];exact h
 have kp:=k.pers;have n_:∀{b:Addr}{u:HO},H b=some u->(∀C dx fs,u≠ .ins C dx fs)->upd H' a (.ins C dx (nD vn vt v la ca sa)) b=some u:=fun{b u}h hu=>by rw[ak (fun z=>by subst z;rw[e1]at h;cases h;exact hu _ _ _ rfl)];exact k _ _ h
 exact⟨⟨dx,la,ca,sa,vn,vt,v,cv,aq,(d1.mono kp).mono k2,(d2.mono kp).mono k2,hv.mono k2,n_ e2 (by intros;intro z;cases z),n_ e3 (by intros;intro z;cases z),(d4.mono kp).mono k2,n_ e4 (by intros;intro z;cases z),ne,z1,z2,z3⟩,(k0.trans k).chg z1⟩
end
section
variable{K:QQq}{C a g:Addr}{H0 H:Hp}{n t sd:D}{ls ss ss':eU}{cs:List D}{σ:L2.St}{D:Ends}{f:List Sl->Res}
def agt{i:Int}(hσ:σ[0]? =some (some (.ref a)))(hx:σ[1]? =some (some (.str x)))(G:dX K C H0 H a n t ls cs sd ss)(cl:oZ K C)(n1:aW K C "since")(hi:eO (ir ss) (.inr x)=some (.int i))(hs:qw (ir ss) (.inr x)=ir ss')
  (fin:∀H1,dX K C H0 H1 a n t ls cs sd ss'->D.nx σ H1):
  rE (Ci (sf K "since") (aN 1)) D σ H:=by
 obtain⟨⟨dx,la,ca,sa,vn,vt,vs,cv,e1,d1,d2,d3,e2,e3,d4,e4,ne,z1,z2,z3⟩,k0⟩:=G;refine⟨.ref a,hσ,a,C,dx,_,.ref sa,rfl,e1,cl,n1,rfl,sa,rfl,.inl ⟨_,.inl e4⟩,.str x,hx,ir ss,.inr x,.int i,e4,rfl,hi,?_⟩;rw[hs];refine fin _ ?_;have k2:bz H (upd H sa (.dK (ir ss'))):=by
  refine⟨fun b xs h=>?_,fun b o u h=>?_⟩
  ·rw[ak (fun z=>by subst z;rw[e4]at h;cases h)];exact h
  ·rw[ak (fun z=>by subst z;rw[e4]at h;cases h)];exact h
 refine⟨⟨dx,la,ca,sa,vn,vt,vs,cv,?_,d1.mono k2,d2.mono k2,d3.mono k2,?_,?_,d4.mono k2,aq,ne,z1,z2,z3⟩,k0.chg z3⟩
 ·rw[ak (fun z=>by subst z;rw[e4]at e1;cases e1)];exact e1
 ·rw[ak ne];exact e2
 ·rw[ak (fun z=>by subst z;rw[e4]at e3;cases e3)];exact e3
end
section
variable{K:QQq}{C a g:Addr}{H0 H:Hp}{n t sd:D}{ls ss:eU}{cs nm:List D}{σ:L2.St}{D:Ends}{f:List Sl->Res}
theorem ags(hσ:σ[0]? =some (some (.ref a)))(G:dX K C H0 H a n t ls cs sd ss)(cl:oZ K C)(n1:aW K C "net")(n2:aW K C "talk")(n3:aW K C "stand")
  (hf:if cR sd then nm=[]else∃qs,f [.val n,.val t,.val sd]=.ok (.new (.lst nm)) qs)
  (fin:∀p H1,dX K C H0 H1 a n t ls cs sd ss->H p=none->jq K H1 (.lst nm) p->Kp H H1->D.nx (σ.set 3 (some (.ref p))) H1):
  o8 (tIf (Gd (Ve (fun x y H Q=>y=.non/\Q (.bl (decide (x=.non))) H) (sf K "stand") (tC .non))) (Lw cN) (gG (bA K 3 f) [] E0 (aG (sf K "net") (aG (sf K "talk") (aG (sf K "stand") cN))))) (jO 3) D σ H:=by
 have G0:=G;obtain⟨⟨dx,la,ca,sa,vn,vt,vs,cv,e1,d1,d2,d3,e2,e3,d4,e4,ne,z1,z2,z3⟩,k0⟩:=G;refine⟨.ref a,hσ,a,C,dx,_,vs,rfl,e1,cl,n3,rfl,rfl,decide _,rfl,?_⟩;rw[yg d3];cases hs:cR sd with
 |true=>
  rw[hs]at hf;have hnm:nm=[]:=by simpa using hf
  subst hnm;refine⟨QIq _,fun p hp=>fin p _ (G0.mono (Kp.lay hp)) hp ⟨_,aq,?_⟩ (Kp.lay hp)⟩;exact⟨[],rfl,ao.dZ⟩
 |false=>
  rw[hs]at hf;obtain⟨qs,hf⟩:∃qs,f [.val n,.val t,.val sd]=.ok _ qs:=by simpa using hf
  refine⟨.ref a,hσ,a,C,dx,_,vn,rfl,e1,cl,n1,rfl,.ref a,hσ,a,C,dx,_,vt,rfl,e1,cl,n2,rfl,.ref a,hσ,a,C,dx,_,vs,rfl,e1,cl,n3,rfl,?_⟩;refine lH (E:=E0) (ao.aZ d1 (ao.aZ d2 (ao.aZ d3 ao.dZ))) rfl hf fun v H' k rc=>?_;obtain⟨p,rfl,ob,hp⟩:=rc;exact fin p H' (G0.mono k) hp ob k
end
theorem gK x:∀l:eU,eO (ir l) (.inr x)=(bf x l).map V.int
 |[]=>rfl
 |p::l=>by
  show eO ((Sum.inr p.1,V.int p.2)::ir l) _=_;by_cases e:p.1=x
  ·rw[jb (by show(Sum.inr p.1)=.inr x;rw[e]),bf,if_pos e];rfl
  ·rw[jc (fun z=>e (Sum.inr.inj z)),gK x l,bf,if_neg e]
def Qi x l:qw (ir l) (.inr x)=ir (l.filter fun q=>decide (q.1≠x)):=by unfold qw ir;rw[List.filter_map];congr 1;refine List.filter_congr fun q _=>?_;by_cases e:q.1=x<;>simp[e]
def Zo ls ss i:Av ls ss i=fU ls ss i:=by
 unfold Av fU;cases ss[i]? with
 |none=>rfl
 |some p=>simp only[gK];cases bf p.1 ls<;>rfl
section
variable{K:QQq}{C a:Addr}{H0 H:Hp}{n t sd:D}{ls ss:eU}{cs nm:List D}{σ:L2.St}{D:Ends}{f:List Sl->Res}
theorem wL:∀{kvs:List (Key×V)}{vs:List Mini.D}{l:eU},o6 (kvs.map fun p=>dm p.1) vs=some l->ao K H vs (kvs.map (·.2))->kvs=ir l
 |[],vs,l,h,_=>by
  cases vs with
  |nil=>cases h;rfl
  |cons v vs=>simp[o6]at h
 |(k,v)::kvs,vs,l,h,d=>by
  cases k with
  |inl i=>cases vs<;>simp[o6,dm]at h
  |inr x=>
   cases vs with
   |nil=>simp[o6,dm]at h
   |cons w vs=>
    cases w with
    |int i=>
     have h':=h;obtain⟨l',e,rfl⟩:=QJz.mp h';obtain⟨v',r,q,dv,dr⟩:=ao.aH.mp d;injection q with q1 q2;subst q2;have ev:v=.int i:=by have dv2:=dv;exact q1.trans dv2
     rw[ev,wL e dr];rfl
    |_=>simp[o6,dm]at h
def Tu l:yG K H (.dct (o7 l) (Cg l)) (.dK (ir l)):=by
 refine⟨ir l,rfl,by simp[o7,ir,dm],?_⟩;induction l with
 |nil=>exact ao.dZ
 |cons p l ih=>exact ao.aZ (by unfold aL;rfl) ih
theorem zg{tm:Int}{Q:VK}{E:XK}(dp:aL K H (.lst nm) (.ref p))(es:H sa=some (.dK (ir ss)))(hf:Od (f [.val (.lst nm),.bor (.dct (o7 ss) (Cg ss)),.val (.int tm)])=some ss')
  (fin:∀b H',(∀c u,H c=some u->c≠sa->H' c=some u)->bz H H'->H b=none->H' b=some (.dK (ir ss'))->Q (.ref b) H'):bA K 3 f [.ref p,.ref sa,.int tm] H Q E:=by
 have own:∀i b,aJ [.val (.lst nm),.bor (.dct (o7 ss) (Cg ss)),.val (.int tm)] ([V.ref p,.ref sa,.int tm].map some) i b->i=1/\b=sa:=fun i b⟨⟨s,o,e1,e2⟩,e3⟩=>by
  match i with
  |0=>cases e1;cases e2
  |1=>cases e3;exact⟨rfl,rfl⟩
  |2=>cases e1;cases e2
  |i+3=>simp at e1
 refine⟨[.val _,.bor _,.val _],rfl,⟨rfl,fun i s e=>?_,fun i j b h1 h2=>(own i b h1).1.trans (own j b h2).1.symm⟩,fun i o e=>?_,?_⟩
 ·match i with
  |0=>cases e;exact⟨_,rfl,dp⟩
  |1=>cases e;exact⟨_,rfl,_,es,Tu ss⟩
  |2=>cases e;exact⟨_,rfl,by unfold aL;rfl⟩
  |i+3=>simp at e
 ·match i with
  |0=>cases e
  |1=>cases e
  |2=>cases e
  |i+3=>simp at e
 ·cases hr:f [.val _,.bor _,.val _]with
  |bad=>rw[hr]at hf;cases hf
  |exc _ _=>rw[hr]at hf;cases hf
  |ok r qs=>
   rw[hr]at hf;cases r with
   |val _=>cases hf
   |ref _=>cases hf
   |tmp _=>cases hf
   |new o=>
    cases o with
    |lst _=>cases hf
    |sdt _ _=>cases hf
    |dct ks vs=>intro v H' c rc;obtain⟨b,rfl,⟨u,hu,kvs,rfl,hk,hd⟩,hb⟩:=rc;have hf':=hf;rw[hk]at hf';have:=wL hf' hd;subst this;exact fin b H' (fun c' u' e ne=>c.keep c' u' e fun i o=>ne (own i c' o).2) c.pers hb hu
theorem agr{tm:Int}(hσ:σ[0]? =some (some (.ref a)))(ht:σ[2]? =some (some (.int tm)))(hp:σ[3]? =some (some (.ref p)))(G:dX K C H0 H a n t ls cs sd ss)(cl:oZ K C)(n1:aW K C "since")
  (p0:H0 p=none)(ob:jq K H (.lst nm) p)(pc:∀dx vn vt vs la ca sa,H a=some (.ins C dx (nD vn vt vs la ca sa))->p≠ca)
  (hf:Od (f [.val (.lst nm),.bor (.dct (o7 ss) (Cg ss)),.val (.int tm)])=some ss')(fin:∀H1,dX K C H0 H1 a n t ls cs sd ss'->D.nx σ H1):
  mV K (aN 0) (gG (bA K 3 f) [] E0 (aG (WN (aN 3)) (aG (sf K "since") (aG (aN 2) cN)))) "since" D σ H:=by
 obtain⟨⟨dx,la,ca,sa,vn,vt,vs,cv,e1,d1,d2,d3,e2,e3,d4,e4,ne,z1,z2,z3⟩,k0⟩:=G;obtain⟨u,hu,ol⟩:=ob;have hpc:=pc _ _ _ _ _ _ _ e1;have cu:=ol.n8;obtain⟨vl,rfl,dl⟩:=id ol;have npa:a≠p:=fun z=>by subst z;rw[hu]at e1;cases e1
 have npl:la≠p:=fun z=>by subst z;rw[hu]at e2;cases e2
 have nps:sa≠p:=fun z=>by subst z;rw[hu]at e4;cases e4
 refine⟨.ref p,hp,p,_,rfl,hu,cu,fun o=>?_⟩;have pf:=dJ (o:=o) hu cu;have f1:∀{b:Addr}{w:HO},b≠p->H b=some w->upd H p (.frz o (.lst vl)) b=some w:=fun nb h=>by rw[ak nb];exact h
 refine⟨.ref a,hσ,a,C,dx,_,.ref sa,rfl,f1 npa e1,cl,n1,rfl,.int tm,ht,?_⟩;refine zg (E:=E0) (nm:=nm) (ss:=ss) ((ol.mono pf).den aq) (f1 nps e4) hf fun b H' keep pe hb eb=>?_;have nas:a≠sa:=fun z=>by subst z;rw[e4]at e1;cases e1
 have ncs:ca≠sa:=fun z=>by subst z;rw[e4]at e3;cases e3
 have ea:=keep _ _ (f1 npa e1) nas;refine⟨.ref a,hσ,a,C,dx,_,rfl,ea,cl,n1,by simp[nD],fin _ ?_⟩;have hpf:ju "since" (.ref b) (nD vn vt vs la ca sa)=nD vn vt vs la ca b:=rfl;rw[hpf];have k2:bz H' (upd H' a (.ins C dx (nD vn vt vs la ca b))):=by
  refine⟨fun b xs h=>?_,fun b o u h=>?_⟩
  ·rw[ak (fun z=>by subst z;rw[ea]at h;cases h)];exact h
  ·rw[ak (fun z=>by subst z;rw[ea]at h;cases h)];exact h
 have pp:=(pf.trans pe).trans k2;have nba:b≠a:=fun z=>by subst z;rw[f1 npa e1]at hb;cases hb
 have nbl:la≠b:=fun z=>by subst z;rw[f1 npl e2]at hb;cases hb
 have f2:∀{c:Addr}{w:HO},c≠p->c≠sa->c≠a->H c=some w->upd H' a (.ins C dx (nD vn vt vs la ca b)) c=some w:=fun x1 x2 x3 h=>by rw[ak x3];exact keep _ _ (f1 x1 h) x2
 have b0:H0 b=none:=by
  cases q:H0 b with
  |none=>rfl
  |some w=>
   have:=k0 _ _ q;have nbp:b≠p:=fun z=>by subst z;rw[p0]at q;cases q
   rw[f1 nbp this]at hb;cases hb
 refine⟨⟨dx,la,ca,b,vn,vt,vs,cv,aq,d1.mono pp,d2.mono pp,d3.mono pp,f2 npl ne (fun z=>by subst z;rw[e1]at e2;cases e2) e2,f2 (Ne.symm hpc) ncs (fun z=>by subst z;rw[e1]at e3;cases e3) e3,d4.mono pp,?_,nbl,z1,z2,b0⟩,fun c w h=>?_⟩
 ·rw[ak nba];exact eb
 ·exact f2 (fun z=>by subst z;rw[p0]at h;cases h) (fun z=>by subst z;rw[z3]at h;cases h) (fun z=>by subst z;rw[z1]at h;cases h) (k0 c w h)
end
theorem vC(f:Nat->Int):∀n,0<n->ie f n<n/\∀j,j<n->f (ie f n)<=f j/\(j<ie f n->f (ie f n)<f j)
 |0=>fun h=>absurd h (Nat.lt_irrefl 0)
 |1=>fun _=>⟨by simp[ie],fun j hj=>by
  have:j=0:=by omega
  subst this;simp[ie]⟩
 |n+2=>fun _=>by
  obtain⟨h1,h2⟩:=vC f (n+1) (by omega);rw[ie];split
  ·rename_i c;refine⟨by omega,fun j hj=>?_⟩;by_cases e:j=n+1
   ·subst e;exact⟨Int.le_refl _,fun z=>absurd z (by omega)⟩
   ·have:=(h2 j (by omega)).1;exact⟨by omega,fun _=>by omega⟩
  ·rename_i c;refine⟨by omega,fun j hj=>?_⟩;by_cases e:j=n+1
   ·subst e;exact⟨by omega,fun z=>by omega⟩
   ·exact h2 j (by omega)
def JM f(hi:i<n)(h:∀j,j<n->f i<=f j/\(j<i->f i<f j)):i=ie f n:=by
 obtain⟨h1,h2⟩:=vC f n (by omega);have a:=h _ h1;have b:=h2 i hi;rcases Nat.lt_trichotomy i _ with c|c|c
 ·have:=b.2 c;omega
 ·exact c
 ·have:=a.2 c;omega
section
variable{K:QQq}{C a g:Addr}{H0 H:Hp}{n t sd:D}{ls ss:eU}{cs:List D}{F:Gf}
structure KQ(K:QQq)(C:Addr):Prop where
 net:aW K C "net"
 talk:aW K C "talk"
 len:aW K C "lengths"
 chg:aW K C "changes"
 std:aW K C "stand"
 snc:aW K C "since"
theorem Uv{E:XK}(cl:oZ K C)(bd:Wo K C "due" g)(na:KQ K C)(G:dX K C H0 H a n t ls cs sd ss)(ne:ss≠[])(hs:uX F n t ls ⟨cs,sd,ss⟩=some g')
  (fin:∀H',dX K C H0 H' a n t ls g'.cs g'.sd g'.ss->Q .non H'):uY K C g (jd K) (bA K 4 F.led) (bA K 3 F.stp) (bA K 3 F.snw) [.ref a] H Q E:=by
 refine⟨rfl,?_⟩;unfold uX at hs;split at hs;rotate_left
 ·cases hs
 rename_i hok;rw[QUq]at hok;obtain⟨hok,hfit⟩:=hok;have lp:=List.length_pos_iff.mpr ne;have ok:∀p∈ss,bf p.1 ss=some p.2/\∃j,bf p.1 ls=some j:=fun p hp=>by have:=List.all_eq_true.mp hok p hp;simp only[QUq,beq_iff_eq]at this;exact⟨this.1,Option.isSome_iff_exists.mp this.2⟩
 split at hs
 ·cases hs
 rename_i p ep;obtain⟨sd',e1,hs⟩:=QJq.mp hs;obtain⟨nm,e2,hs⟩:=QJq.mp hs;obtain⟨ss',e3,rfl⟩:=QJz.mp hs;have mp:=QBz ep;obtain⟨o1,j,o2⟩:=ok p mp;have du:fU ls ss (ie (fU ls ss) ss.length)=p.2+j:=by show(match ss[ie _ ss.length]? with|some p=>p.2+(bf p.1 ls).getD 0|none=>0)=_;rw[ep];simp only[o2];rfl
 refine agx rfl G cl bd na.snc na.len lp (fun i q e=>?_) (fun i q e=>?_) fun i q H1 e best k1=>?_
 ·rw[gK,(ok q (QBz e)).1];rfl
 ·obtain⟨j,hj⟩:=(ok q (QBz e)).2;exact⟨j,by rw[gK,hj];rfl⟩
 have hi:i<ss.length:=by
  rcases Nat.lt_or_ge i ss.length with z|z
  ·exact z
  ·rw[List.getElem?_eq_none z]at e;cases e
 have im:=JM _ hi fun j hj=>by have:=best j hj;simp only[Zo]at this;exact this
 have qp:q=p:=by rw[im,ep]at e;exact(QEq e).symm
 subst qp;refine agw rfl rfl (G.mono k1) cl na.snc na.len (by rw[gK,o1];rfl) (by rw[gK,o2];rfl) ?_;have hz:cs.length<sizeLine:=by
  rw[sizeLine_eq];have:cs.length+1<=16777216:=by simpa[fits]using hfit
  omega
 refine agv rfl rfl rfl (G.mono k1) cl na.chg hz fun H2 G2=>?_;have hl:∃qs,F.led [.val n,.val t,.val sd,.val (.str q.1)]=.ok (.val sd') qs:=by
  have e1':=e1;cases h:F.led [.val n,.val t,.val sd,.val _]with
  |bad=>rw[h]at e1';cases e1'
  |exc _ _=>rw[h]at e1';cases e1'
  |ok r qs=>
   rw[h]at e1';cases r with
   |val d=>cases e1';exact⟨qs,rfl⟩
   |_=>cases e1'
 obtain⟨qs,hl⟩:=hl;refine agu rfl rfl G2 cl na.net na.talk na.std hl fun H3 G3=>?_;refine agt rfl rfl G3 cl na.snc (by rw[gK,o1];rfl) (Qi q.1 ss) fun H4 G4=>?_;have hn:if cR sd' then nm=[]else∃qs,F.stp [.val n,.val t,.val sd']=.ok (.new (.lst nm)) qs:=by
  unfold xN at e2;cases h:cR sd' with
  |true=>rw[h]at e2;cases e2;simp
  |false=>
   rw[h]at e2;cases h2:F.stp [.val n,.val t,.val sd']with
   |bad=>rw[h2]at e2;cases e2
   |exc _ _=>rw[h2]at e2;cases e2
   |ok r qs=>
    rw[h2]at e2;cases r with
    |new o=>
     cases o with
     |lst xs=>cases e2;exact⟨qs,rfl⟩
     |_=>cases e2
    |_=>cases e2
 refine ags rfl G4 cl na.net na.talk na.std hn fun pp H5 G5 hp ob k5=>?_;refine agr rfl rfl rfl G5 cl na.snc ?_ ob ?_ (by rw[<-du];exact e3) fun H6 G6=>fin H6 ?_
 ·cases h:H0 pp with
  |none=>rfl
  |some w=>rw[G4.kp _ _ h]at hp;cases hp
 ·intro dx vn vt vs la ca sa e;obtain⟨dx',la',ca',sa',vn',vt',vs',cv,f1,_,_,_,_,f3,_⟩:=G4.ex;rw[k5 _ _ f1]at e;injection e with e;injection e with _ _ e;have:ca'=ca:=by simp[nD]at e;exact e.2.2.2.1
  subst this;exact fun z=>by subst z;rw[hp]at f3;cases f3
 ·rw[du];exact G6
end
def jZ{a C dx:Addr}{u:HO}(e:H a=some (.ins C dx fs)):bz H (upd H a u):=by
 refine⟨fun b xs h=>?_,fun b o u h=>?_⟩
 ·rw[ak (fun z=>by subst z;rw[e]at h;cases h)];exact h
 ·rw[ak (fun z=>by subst z;rw[e]at h;cases h)];exact h
structure Bw(K:QQq)(C:Addr)(H0:Hp)(x dx:Addr)(n t w:D)(vn vt vw:V)(H:Hp)(fs:List (Str×V)):Prop where
 ex:H x=some (.ins C dx fs)
 kp:Kp H0 H
 dn:aL K H n vn
 dt:aL K H t vt
 dw:aL K H w vw
section
variable{K:QQq}{C x dx:Addr}{H0 H H':Hp}{n t w:D}{vn vt vw:V}{fs fs':List (Str×V)}
theorem Bw.mono(I:Bw K C H0 x dx n t w vn vt vw H fs)(k:Kp H H'):Bw K C H0 x dx n t w vn vt vw H' fs:=
 ⟨k _ _ I.ex,I.kp.trans k,I.dn.mono k.pers,I.dt.mono k.pers,I.dw.mono k.pers⟩
def Bw.put(I:Bw K C H0 x dx n t w vn vt vw H fs)(z:H0 x=none):Bw K C H0 x dx n t w vn vt vw (upd H x (.ins C dx fs')) fs':=
 ⟨aq,I.kp.chg z,I.dn.mono (jZ I.ex),I.dt.mono (jZ I.ex),I.dw.mono (jZ I.ex)⟩
def Gk(I:Bw K C H0 x dx n t w vn vt vw H fs):Sat K [.un,.val n,.val t,.val w] [some (.ref x),some vn,some vt,some vw] H:=by
 refine⟨rfl,fun i s e=>?_,fun i j a h=>?_⟩
 ·match i with
  |0=>cases e;trivial
  |1=>cases e;exact⟨_,rfl,I.dn⟩
  |2=>cases e;exact⟨_,rfl,I.dt⟩
  |3=>cases e;exact⟨_,rfl,I.dw⟩
  |i+4=>simp at e
 ·obtain⟨⟨s,o,e1,e2⟩,_⟩:=h;match i with
  |0=>cases e1;cases e2
  |1=>cases e1;cases e2
  |2=>cases e1;cases e2
  |3=>cases e1;cases e2
  |i+4=>simp at e1
def GC{i:Nat}:¬aJ [.un,.val n,.val t,.val w] σ i b:=by
 rintro ⟨⟨s,o,e1,e2⟩,_⟩;match i with
 |0=>cases e1;cases e2
 |1=>cases e1;cases e2
 |2=>cases e1;cases e2
 |3=>cases e1;cases e2
 |i+4=>simp at e1
def Tw{l:eU}(h:Tz r=some l):∃ks vs env,r=.ok (.new (.dct ks vs)) env/\o6 ks vs=some l:=by
 cases r with
 |bad=>cases h
 |exc _ _=>cases h
 |ok r env=>
  cases r with
  |new o=>
   cases o with
   |dct ks vs=>exact⟨ks,vs,env,rfl,h⟩
   |_=>cases h
  |_=>cases h
def Rb{d:D}(h:qY r=some d):∃qs,r=.ok (.val d) qs:=by
 cases r with
 |bad=>cases h
 |exc _ _=>cases h
 |ok r qs=>
  cases r with
  |val d=>cases h;exact⟨qs,rfl⟩
  |_=>cases h
def TV{xs:List D}(h:JN r=some xs):∃qs,r=.ok (.new (.lst xs)) qs:=by
 cases r with
 |bad=>cases h
 |exc _ _=>cases h
 |ok r qs=>
  cases r with
  |new o=>
   cases o with
   |lst xs=>cases h;exact⟨qs,rfl⟩
   |_=>cases h
  |_=>cases h
theorem T9{mz:E}{Q:VK}{E:XK}{sd:D}(cl:oZ K C)(na:KQ K C)(z:H0 x=none)(I:Bw K C H0 x dx n t w vn vt vw H [])
  (h1:Tz (ev c mz [.un,.val n,.val t,.val w])=some ls)(h2:qY (ff [.val n])=some sd)(h3:JN (fs_ [.val n,.val t,.val sd])=some nm)(h4:Od (fw [.val (.lst nm),.bor (.dct [] []),.val (.int 0)])=some ss)
  (fin:∀H',dX K C H0 H' x n t ls [] sd ss->Q .non H'):zm K c mz (bA K 1 ff) (bA K 3 fs_) (bA K 3 fw) [.ref x,vn,vt,vw] H Q E:=by
 obtain⟨ks,vs,env',hm,hl⟩:=Tw h1;obtain⟨q2,h2⟩:=Rb h2;obtain⟨q3,h3⟩:=TV h3;refine⟨rfl,?_⟩;refine⟨vn,rfl,.ref x,rfl,x,C,dx,_,rfl,I.ex,cl,na.net,by simp,?_⟩;have I1:=I.put (fs':=[("net",vn)]) z;refine⟨vt,rfl,.ref x,rfl,x,C,dx,[("net",vn)],rfl,I1.ex,cl,na.talk,by simp,?_⟩;have I2:=I1.put (fs':=[("net",vn),("talk",vt)]) z;show mV K (aN 0) (Vj K c mz) "lengths" _ _ (upd (upd H x (.ins C dx [("net",vn)])) x (.ins C dx [("net",vn),("talk",vt)]));refine⟨[.un,.val n,.val t,.val w],Gk I2,?_⟩;rw[hm];rintro v H3 N ⟨la,rfl,⟨u,hu,kvs,rfl,hk,hd⟩,hla⟩;rw[hk]at hl;have:=wL hl hd;subst this;have k3:=fun b u e=>N.keep b u e fun i=>GC;have I3:=I2.mono k3;have nxl:la≠x:=fun q=>by subst q;rw[I2.ex]at hla;cases hla
 refine⟨.ref x,rfl,x,C,dx,_,rfl,I3.ex,cl,na.len,by simp,?_⟩;have I4:=I3.put (fs':=[("net",vn),("talk",vt),("lengths",.ref la)]) z;have l4:upd H3 x (.ins C dx [("net",vn),("talk",vt),("lengths",.ref la)]) la=some (.dK (ir ls)):=by rw[ak nxl];exact hu
 show mV K (aN 0) (Lw cN) "changes" _ _ (upd H3 x (.ins C dx [("net",vn),("talk",vt),("lengths",.ref la)]));generalize upd H3 x (.ins C dx [("net",vn),("talk",vt),("lengths",.ref la)])=H4 at I4 l4⊢;refine⟨QIq _,fun ca hca=>?_⟩;have k5:Kp H4 (upd H4 ca (.lst [])):=Kp.lay hca;have I5:=I4.mono k5;have nxc:ca≠x:=fun q=>by subst q;rw[I4.ex]at hca;cases hca
 refine⟨.ref x,rfl,x,C,dx,_,rfl,I5.ex,cl,na.chg,by simp,?_⟩;have I6:=I5.put (fs':=[("net",vn),("talk",vt),("lengths",.ref la),("changes",.ref ca)]) z;have c0:H0 ca=none:=by
  cases q:H0 ca with
  |none=>rfl
  |some w=>rw[I4.kp _ _ q]at hca;cases hca
 have l6:upd (upd H4 ca (.lst [])) x (.ins C dx [("net",vn),("talk",vt),("lengths",.ref la),("changes",.ref ca)]) la=some (.dK (ir ls)):=by rw[ak nxl];exact k5 _ _ l4
 have c6:upd (upd H4 ca (.lst [])) x (.ins C dx [("net",vn),("talk",vt),("lengths",.ref la),("changes",.ref ca)]) ca=some (.lst []):=by rw[ak nxc,aq]
 show mV K (aN 0) (gG (bA K 1 ff) [] E0 (aG (aN 1) cN)) "stand" _ _ (upd (upd H4 ca (.lst [])) x (.ins C dx [("net",vn),("talk",vt),("lengths",.ref la),("changes",.ref ca)]));refine⟨vn,rfl,?_⟩;refine lH (E:=E0) (ds:=[n]) (ao.aZ I6.dn ao.dZ) rfl h2 fun v H7 k7 rc=>?_;have hv:=rc;have I7:=I6.mono k7;refine⟨.ref x,rfl,x,C,dx,_,rfl,I7.ex,cl,na.std,by simp,?_⟩;have I8:=I7.put (fs':=[("net",vn),("talk",vt),("lengths",.ref la),("changes",.ref ca),("stand",v)]) z;have l8:upd H7 x (.ins C dx [("net",vn),("talk",vt),("lengths",.ref la),("changes",.ref ca),("stand",v)]) la=some (.dK (ir ls)):=by rw[ak nxl];exact k7 _ _ l6
 have c8:upd H7 x (.ins C dx [("net",vn),("talk",vt),("lengths",.ref la),("changes",.ref ca),("stand",v)]) ca=some (.lst []):=by rw[ak nxc];exact k7 _ _ c6
 have v8:aL K (upd H7 x (.ins C dx [("net",vn),("talk",vt),("lengths",.ref la),("changes",.ref ca),("stand",v)])) sd v:=hv.mono (jZ I7.ex);show mV K (aN 0) (gG (bA K 3 fw) [] E0 (aG (WN (gG (bA K 3 fs_) [] E0 (aG (aN 1) (aG (aN 2) (aG (sf K "stand") cN))))) (aG (Vj K c .emp) (aG (tC (.int 0)) cN)))) "since" _ _ (upd H7 x (.ins C dx [("net",vn),("talk",vt),("lengths",.ref la),("changes",.ref ca),("stand",v)]));generalize upd H7 x (.ins C dx [("net",vn),("talk",vt),("lengths",.ref la),("changes",.ref ca),("stand",v)])=H8 at I8 l8 c8 v8⊢;refine⟨vn,rfl,vt,rfl,.ref x,rfl,x,C,dx,_,v,rfl,I8.ex,cl,na.std,rfl,?_⟩;refine lH (E:=E0) (ds:=[n,t,sd]) (ao.aZ I8.dn (ao.aZ I8.dt (ao.aZ v8 ao.dZ))) rfl h3 fun vl H9 k9 rc=>?_;obtain⟨p,rfl,⟨u9,hu9,ol⟩,hp⟩:=rc;have cu:=ol.n8;refine⟨p,u9,rfl,hu9,cu,fun o=>?_⟩;have nn:∀{b:Addr}{y:HO},H8 b=some y->upd H9 p (.frz o u9) b=some y:=fun{b y}h=>by rw[ak (fun q=>by subst q;rw[hp]at h;cases h)];exact k9 _ _ h
 have dp:aL K (upd H9 p (.frz o u9)) (.lst nm) (.ref p):=(ol.mono (dJ hu9 cu)).den aq;have k10:Kp H8 (upd H9 p (.frz o u9)):=fun b y h=>nn h;have I10:=I8.mono k10;generalize upd H9 p (.frz o u9)=H10 at dp k10 I10;refine⟨[.un,.val n,.val t,.val w],Gk I10,?_⟩;rintro v2 H11 N2 ⟨s0,rfl,⟨u2,hu2,kv2,rfl,hk2,hd2⟩,hs0⟩;have kn:kv2=ir []:=by
  cases kv2 with
  |nil=>rfl
  |cons a b=>cases hk2
 subst kn;have k11:Kp H10 H11:=fun b u e=>N2.keep b u e fun i=>GC;refine zg (E:=E0) (nm:=nm) (ss:=[]) (dp.mono k11.pers) hu2 h4 fun b H12 keep pe hb eb=>?_;have old:∀{c:Addr}{y:HO},H8 c=some y->H12 c=some y:=fun{c y}h=>keep _ _ (k11 _ _ (k10 _ _ h)) fun q=>by subst q;rw[k10 _ _ h]at hs0;cases hs0
 have k12:Kp H8 H12:=fun c y h=>old h;have I12:=I8.mono k12;refine⟨.ref x,rfl,x,C,dx,_,rfl,I12.ex,cl,na.snc,by simp,fin _ ?_⟩;have hpf:ju "since" (.ref b) [("net",vn),("talk",vt),("lengths",.ref la),("changes",.ref ca),("stand",v)]=nD vn vt v la ca b:=rfl;rw[hpf];have nb:∀{c:Addr}{y:HO},H8 c=some y->c≠b:=fun{c y}h q=>by subst q;rw[k11 _ _ (k10 _ _ h)]at hb;cases hb
 have I13:=I12.put (fs':=nD vn vt v la ca b) z;have b0:H0 b=none:=by
  cases q:H0 b with
  |none=>rfl
  |some w=>exact absurd rfl (nb (I8.kp _ _ q))
 refine⟨⟨dx,la,ca,b,vn,vt,v,[],aq,I13.dn,I13.dt,(v8.mono k12.pers).mono (jZ I12.ex),?_,?_,ao.dZ,?_,nb l8,z,c0,b0⟩,I13.kp⟩
 ·rw[ak nxl];exact old l8
 ·rw[ak nxc];exact old c8
 ·rw[ak (Ne.symm (nb I8.ex))];exact eb
end
section
variable{K:QQq}{C g:Addr}{H:Hp}
end
structure MfK(K:QQq)(x qual:Str)(st:Stmt)(f:Addr)(N ps:List Str):Prop where
 fu:∃fd,yH K x qual st f fd/\Binds K fd ps []
 sc:cX N ps (aj st)
 lo:∀y∈N,(aj st).names.lookup y=some .local
section
variable{P:Program}{w:World}{K:QQq}{mg:QZz}{base:Heap}
def adg(P:Program)(w:World)(K:QQq)(mg:QZz)(base:Heap)(k:Nat)(c:Cf)(x:Str)(ix ar:Nat):Prop:=
 ∃f fd ps,bH P w K mg base dU k f fd ps (bA K ar (c.fn ix))/\Binds K fd ps []/\mg x=some (.ref f)/\PySem.W.keepIn K (.ref f)=true
end
def wH{H:Hp}{a:Addr}{u v:HO}:upd (upd H a u) a v=upd H a v:=by
 funext b;by_cases h:b=a
 ·subst h;rw[aq,aq]
 ·rw[ak h,ak h,ak h]
def Wz{H:Hp}{a:Addr}{u:HO}(h:H a=some u):upd H a u=H:=by
 funext b;by_cases e:b=a
 ·subst e;rw[aq,h]
 ·rw[ak e]
def Rf{H:Hp}{a b:Addr}{u v:HO}(ne:a≠b):upd (upd H a u) b v=upd (upd H b v) a u:=by
 funext c;by_cases h1:c=a
 ·subst h1;rw[aq,ak ne,aq]
 ·by_cases h2:c=b
  ·subst h2;rw[aq,ak h1,aq]
  ·rw[ak h2,ak h1,ak h1,ak h2]
def Inv.aer{X:Cx}{γ:QQz}{σ:L2.St}{H:Hp}{s:Shared}{a:Addr}{u:HO}{o:Obj}(I:L2.Inv X γ σ H s)(ha:H a=some (.frz o u))(hu:Fz u)(h0:∀o' w,X.H₀ a≠some (.frz o' w)):L2.Inv X γ σ (upd H a u) s:=by
 have ne:∀{b:Addr}{w:HO},H b=some w->w≠ .frz o u->b≠a:=fun q n z=>by subst z;rw[ha]at q;cases q;exact n rfl
 have no:∀{b:Addr},H b=none->upd H a u b=none:=fun{b}q=>by rw[ak (fun z=>by subst z;rw[ha]at q;cases q)];exact q
 have st:∀{b:Addr}{w:HO},H b=some w->w≠ .frz o u->upd H a u b=some w:=fun q n=>by rw[ak (ne q n)];exact q
 refine {I with base:=⟨I.base.keep,I.base.slot,fun b o' e n x=>no (I.base.free b o' e n x),I.base.there,fun b xs q=>st (I.base.tups b xs q) (by intro z;cases z),fun b o' w q=>?_,fun b ps q=>?_⟩,free:=no I.free,freeC:=fun x c e=>no (I.freeC x c e),pin:=fun p hp=>?_,hok:=fun b w q=>?_}
 ·by_cases e:b=a
  ·subst e;exact absurd q (h0 o' w)
  ·rw[ak e];exact I.base.frzs b o' w q
 ·obtain⟨more,q⟩:=I.base.tbls b ps q;exact⟨more,st q (by intro z;cases z)⟩
 ·obtain⟨p1,p2,p3⟩:=I.pin p hp;exact⟨p1,no p2,p3⟩
 ·have sy:∀{c v},bZ X.prog X.w H s.heap c v->bZ X.prog X.w (upd H a u) s.heap c v:=fun z=>
   z.stay (fun c v _ q=>q) (fun e q=>st q (by intro z;cases z)) fun e xs q=>st q (by intro z;cases z)
  by_cases e:b=a
  ·subst e
   rw[aq]at q
   cases q
   exact sy (I.hok b _ ha).2
  ·rw[ak e]at q
   exact sy (I.hok b w q)
def dO(f:Nat->Int)(n:Nat):List V:=(List.range n).map fun i=>.int (f i)
def DY(f:Nat->Int)(n:Nat):dO f (n+1)=dO f n++[.int (f n)]:=by simp[dO,List.range_succ]
noncomputable def tCK(Z:Hp)(ti te:TE):TE:=fun σ H Q=>ti σ H fun v H1=>∃(sa:Addr)(kvs:List (Key×V))(f:Nat->Int),v=.ref sa/\H1 sa=some (.dK kvs)/\(∀o w,Z sa≠some (.frz o w))/\
 (∀(o:Obj)(i:Nat)(p:Key×V),kvs[i]? =some p->∀H2,Kp (upd H1 sa (.frz o (.dK kvs))) H2->te (some (kV p.1)::σ) H2 fun r H3=>r=.int (f i)/\H3=H2)/\∀D,H1 D=none->Q (.ref D) (upd H1 D (.lst (dO f kvs.length)))
section
variable{X:Cx}{scope:Scope}{x:Str}{np pos:Pos}{ξ ω:Expr}{ti te:TE}
def Eu{cl:List (Str×Addr)}{γ:QQz}{σ:L2.St}{H:Hp}{s:Shared}{it sa:Addr}{o:Obj}{kvs:List (Key×V)}{f:Nat->Int}{tn:Nat->Heap->Prop}{RR:Value->Addr->Result->Shared->Prop}{E:QZq}
  (hc:X.calm=true)(sc:Bt X.env.scope scope [x] X.N)(he:∀(cl:List (Str×Addr))(fp:List Addr)(s₀:Shared)(H₀:Hp),(blk X scope cl (aR [x] X.N) fp s₀ H₀).Ok->PE (blk X scope cl (aR [x] X.N) fp s₀ H₀) ω te)(co:KZ scope X.env cl)
  (I:L2.Inv X γ σ H s)(T:Turn X.prog X.w X.K (.Name x np) (Itk sa o kvs) [it] it tn)(t0:tn 0 s.heap)(hf:∀b∈[it],dB X γ H b)(ha:H sa=some (.frz o (.dK kvs)))(hz:kvs.length<=sizeLine)
  (hte:∀(i:Nat)(p:Key×V),kvs[i]? =some p->∀H2,Kp H H2->te (some (kV p.1)::σ) H2 fun r H3=>r=.int (f i)/\H3=H2)
  (hRR:∀(D C:Addr)(s':Shared)(m:QZz),H D=none->L2.Inv X γ σ (upd H D (.lst (dO f kvs.length))) s'->s'.heap.Ns C m->dB X γ (upd H D (.lst (dO f kvs.length))) C->RR (.ref D) C (.ok .next) s'):
  wpAny (model X.prog X.w) X.A (newList []) (fun acc s₃=>wpAny (model X.prog X.w) X.A (newFunctionEnv scope X.env.globals cl [] X.env.qual none .none (some X.env)) (fun cenv s₄=>codeAny (model X.prog X.w) X.A (.compStart (.ListComp ω [⟨.Name x np,ξ,[],0⟩] scope pos) 0 (.ref it) acc {cenv with scope:=relabel scope X.env}) (RR acc cenv.locals) s₄) E s₃) E s:=by
 have hlt:∀b∈[it],b<s.heap.objs.size:=fun b hb=>by obtain⟨o,e,_⟩:=T.obj 0 _ t0 b hb;exact Qqz e
 refine Qjq (wpAny_newFunctionEnv sc.nocell (by intro y hy;simp at hy) (fun Δ Ω Ψ=>?_) sc.kind);dsimp only at Ω Ψ⊢;generalize hDd:s.heap.objs.size=D at*;have hDn:H D=none:=by rw[<-hDd];exact I.hok.fresh (QVz _)
 have I3:L2.Inv X γ σ (upd H D (.lst [])) {s with heap:=s.heap.push {cls:=.type "list",dict:=none,data:=.seq ([]:List Value).toArray}}:=by have:=I.laid (a:=s.heap.objs.size) (o:=.lst []) (t':=s.toks) (h':=s.heap.push {cls:=.type "list",dict:=none,data:=.seq ([]:List Value).toArray}) (fun b o e=>QWq _ e) (QVz _) ⟨QIq _,[],0,.nil,Qzq _ rfl⟩;rw[hDd]at this;exact this
 obtain⟨s3,hs3⟩:∃s3:Shared,s3={s with heap:=s.heap.push {cls:=.type "list",dict:=none,data:=.seq ([]:List Value).toArray}}:=⟨_,rfl⟩;rw[<-hs3]at I3;have hs3h:s.heap.push {cls:=.type "list",dict:=none,data:=.seq ([]:List Value).toArray}=s3.heap:=by rw[hs3]
 rw[hs3h]at Ω Ψ⊢;have hsz:s3.heap.objs.size=D+1:=by rw[<-hs3h,Heap.size_push,hDd]
 have hk3:∀b o,s3.heap.get? b=some o->Δ.get? b=some o:=fun b o e=>Ψ.extBut b o (Qvz (Qqz e)) (QWq _ e);have hk:∀b o,s.heap.get? b=some o->s3.heap.get? b=some o:=fun b o e=>by rw[<-hs3h];exact QWq _ e
 have hf3:∀b∈[it],dB X γ (upd H D (.lst [])) b:=fun b hb=>⟨by rw[ak (Qvz (hlt b hb))];exact(hf b hb).1,(hf b hb).2⟩
 have hlt3:∀b∈[it],b<s3.heap.objs.size:=fun b hb=>Qvq (hlt b hb) (by rw[hsz];exact Nat.le_succ _);have nsa:sa≠D:=fun z=>by subst z;rw[ha]at hDn;cases hDn
 have ok':(blk X scope cl (aR [x] X.N) [it] s3 (upd H D (.lst []))).Ok:=Ff I3 sc co hf3 hlt3;have hns':Δ.Ns s3.heap.objs.size fun _=>none:=by simpa using Ω
 have nit:∀vs:List V,∀b∈[it],upd H D (.lst vs) b=none:=fun vs b hb=>by rw[ak (Qvz (hlt b hb))];exact(hf b hb).1
 have fpk:∀vs:List V,∀b∈[it],dB (blk X scope cl (aR [x] X.N) [it] s3 (upd H D (.lst []))) [] (upd H D (.lst vs)) b:=fun vs b hb=>⟨nit vs b hb,(ok'.exf b hb).1,ok'.exfs b hb,.inl hb,fun x q e=>(ok'.exf b hb).2 x q e,fun p hp=>absurd (show p∈([]:QQz)from hp) (by simp)⟩
 have loc:∀(cl:List (Str×Addr))(fp:List Addr)(s₀:Shared)(H₀:Hp),(blk X scope cl (aR [x] X.N) fp s₀ H₀).env.scope.names.lookup x=some .local:=fun cl fp s₀ H₀=>lookup_relabel_local (sc.tg x (by simp));have loop:∀s4:Shared,s4={s with heap:=Δ,toks:=s.toks+([]:List (Str×Value)).length}->
   codeAny (model X.prog X.w) X.A (.compLoop (.ListComp ω [⟨.Name x np,ξ,[],0⟩] scope pos) 0 (.ref it) (.ref D) (compEnvC scope cl s3.heap.objs.size X.env)) (RR (.ref D) s3.heap.objs.size) s4:=by
  rintro s4 rfl;have I4:L2.Inv (blk X scope cl (aR [x] X.N) [it] s3 (upd H D (.lst []))) [] (List.replicate 1 none++σ) (upd H D (.lst [])) {s with heap:=Δ,toks:=s.toks+([]:List (Str×Value)).length}:=by have:=HW (t:=s.toks+([]:List (Str×Value)).length) I3 sc co hf3 hlt3 hns' hk3;rw[hs3]at this⊢;exact this
  refine oO (fun n s'=>∃(i:Nat)(a:Option V),n=kvs.length-i/\i<=kvs.length/\L2.Inv (blk X scope cl (aR [x] X.N) [it] s3 (upd H D (.lst []))) [] (a::σ) (upd H D (.lst (dO f i))) s'/\tn i s'.heap) ?_ kvs.length ⟨0,none,rfl,QIq _,I4,T.keep _ _ _ t0 fun b _ o e=>hk3 b o (hk b o e)⟩;rintro n s1 ⟨i,a,rfl,il,I1,t1⟩;have ha1:(upd H D (.lst (dO f i))) sa=some (.frz o (.dK kvs)):=by rw[ak nsa];exact ha
  by_cases hi:i<kvs.length
  ·obtain⟨p,hp⟩:∃p,kvs[i]? =some p:=⟨kvs[i],by simp[hi]⟩;refine bJ (T.item (blk X scope cl (aR [x] X.N) [it] s3 (upd H D (.lst []))) rfl rfl rfl hc i [] s1 (a::σ) (upd H D (.lst (dO f i))) _ I1 (fpk _) t1 ⟨ha1,hi⟩) fun r s2⟨u,hr,h2⟩=>?_;subst hr;refine bJ h2 fun _ s3'⟨y,H2,I2,r2,y2,t2,f2⟩=>?_;obtain⟨rfl,k,z,e1,rfl⟩:=y2;rw[hp]at e1;cases e1;have I2':=I2.pinned (fpk (dO f i)) (T.obj _ _ t2);refine bJ (Gx (X:=blk X scope cl (aR [x] X.N) [it] s3 (upd H D (.lst []))) (i:=0) (show(aR [x] X.N).Nodup from sc.nd) rfl (.inl (loc _ _ _ _)) (.inr (loc _ _ _ _)) _ s3' (a::σ) _ (kV k) u (fun π H'=>π=some (kV k)::σ/\H'=upd H D (.lst (dO f i))) I2' r2 ⟨rfl,rfl⟩) fun _ s4'⟨π,H2',I3',e2,e3⟩=>?_;subst e2 e3;refine QKz ?_;rw[if_pos rfl];refine bJ (he cl [it] s3 (upd H D (.lst [])) ok' _ s4' _ _ _ I3' (hte i (k,z) hp _ (Kp.lay hDn))) fun u5 s5⟨v5,H5,I5,r5,e5,e6⟩=>?_;subst e5 e6;have lv:(dO f i).length<sizeLine:=by simp[dO];omega
   refine bJ (lQ (X:=blk X scope cl (aR [x] X.N) [it] s3 (upd H D (.lst []))) _ s5 _ _ (.ref D) [.int (f i)] (.ref D) [u5] (fun _ H7=>H7=upd (upd H D (.lst (dO f i))) D (.lst (dO f i++[.int (f i)]))) I5 rfl (.cons r5 .nil) ⟨D,_,_,rfl,rfl,aq,lv,rfl⟩) fun _ s7⟨_,H7,I7,_,e7⟩=>?_;subst e7;rw[wH,<-DY]at I7;exact⟨kvs.length- (i+1),by omega,i+1,some (kV k),rfl,hi,I7.dj,T.keep _ _ _ t2 fun b hb o e=>(I7.pin (b,o) (QVq _ (QVq _ (ig hb e)))).1⟩
  ·have e:i=kvs.length:=Nat.le_antisymm il (Nat.le_of_not_lt hi);subst e;refine bJ (T.done (blk X scope cl (aR [x] X.N) [it] s3 (upd H D (.lst []))) rfl rfl rfl hc _ [] s1 (a::σ) _ _ I1 (fpk _) t1 ⟨ha1,QVz _⟩) fun r s2⟨hr,I2⟩=>?_;subst hr;obtain⟨m,hm,_⟩:=I2.loc;have IX:L2.Inv X γ σ (upd H D (.lst (dO f kvs.length))) s2:=Inv.call' I3 I2.os I2.base I2.hok I2.bare fun b hb=>⟨(hf3 b hb).2.2.2.1,(hf3 b hb).2.1,(hf3 b hb).2.2.2.2.1,(hf3 b hb).2.2.2.2.2⟩;exact hRR D s3.heap.objs.size s2 m hDn IX hm (I3.pM (QVz _) I2.free)
 exact codeAny_compStart_list (loop _ rfl) (T.self _ 0 _ _ _ (T.keep _ _ _ t0 fun b _ o e=>hk3 b o (hk b o e)) (loop _ rfl))
def Nr(hc:X.calm=true)(sc:Bt X.env.scope scope [x] X.N)(hi:PE X ξ ti)(hs:∀v,foldedSetIterable ξ X.env v=pure v)
  (he:∀(cl:List (Str×Addr))(fp:List Addr)(s₀:Shared)(H₀:Hp),(blk X scope cl (aR [x] X.N) fp s₀ H₀).Ok->PE (blk X scope cl (aR [x] X.N) fp s₀ H₀) ω te):
  PE X (.ListComp ω [⟨.Name x np,ξ,[],0⟩] scope pos) (tCK X.H₀ ti te):=by
 intro γ s σ H Q I q;obtain⟨cl,co⟩:=sc.cl I;rw[eval_ListComp];refine wpAny_comprehension_free (use:=none) rfl hs co.eq sc.kind sc.locs (bJ (hi γ s σ H _ I q) fun v s1⟨w,H1,I1,gA,sa,kvs,f,ew,hsa,h0,hte,fin⟩=>?_);subst ew;obtain rfl:v=Value.ref sa:=gA;obtain⟨o,I2⟩:=Inv.freeze I1 hsa yr;have hte:=hte o;have ha:(upd H1 sa (.frz o (.dK kvs))) sa=some (.frz o (.dK kvs)):=aq;have hno:∀D,upd H1 sa (.frz o (.dK kvs)) D=none->H1 D=none/\D≠sa:=fun D hD=>by
  have ne:D≠sa:=fun z=>by subst z;rw[aq]at hD;cases hD
  rw[ak ne]at hD;exact⟨hD,ne⟩
 generalize hH2:upd H1 sa (.frz o (.dK kvs))=H2 at*;obtain⟨ho,hz,hS,vs,r,D0⟩:=I2.hok sa _ ha;have hl:kvs.length=vs.length:=Paired.length r;obtain⟨ep,o',es,e1,e2,e3,e4⟩:=D0.dictAt;rw[ho]at e1;cases e1;refine wpAny_pyIter_dict hS ⟨o,es,ho,e2,e3,e4⟩ ?_;rw[<-hl];have T:=yM (P:=X.prog) (w:=X.w) (K:=X.K) (tg:=.Name x np) s1.heap.objs.size sa o es kvs ep e3;refine Eu (te:=te) (f:=f) (RR:=fun acc C=>compPost (model X.prog X.w) X.A X.xe none (EP X γ σ Q) acc C) hc sc he co (I2.kept (t':=s1.toks) fun b o e=>QWq _ e) T ⟨_,Qzq _ rfl,rfl,rfl⟩ (fun b hb=>?_) ha hz hte fun D C s' m hD I' hC fC=>⟨m,hC,fun h' hs'=>?_⟩
 ·have e:b=s1.heap.objs.size:=by simpa using hb
  subst e;exact I2.pM (QVz _) (I2.hok.fresh (QVz _))
 ·obtain⟨d1,d2⟩:=hno D hD;have I3:=Inv.letGo I' fC hs';have I4:=Inv.aer I3 (a:=sa) (by rw[ak d2.symm];exact ha) yr h0;have e:upd (upd H2 D (.lst (dO f kvs.length))) sa (.dK kvs)=upd H1 D (.lst (dO f kvs.length)):=by
   rw[<-hH2,Rf d2.symm,wH];exact Wz (by rw[ak d2.symm];exact hsa)
  rw[e]at I4;exact⟨.ref D,_,I4,rfl,fin D d1⟩
end
abbrev rTp(K:QQq):List V->Hp->VK->Prop:=fun xs H Q=>∃p ys,xs=[.ref p]/\((lC K H p ys/\∀l,H l=none->Q (.ref l) (upd H l (.tup ys)))\/(jM K H p ys/\Q (.ref p) H))
abbrev rLn(K:QQq):List V->Hp->VK->Prop:=fun xs H Q=>∃x n,xs=[x]/\U0 K x H n/\Q (.int n) H
noncomputable def aes(K:QQq)(C:Addr)(Z:Hp)(spT spD:Sp):TS:=
 iJ (o8 (gG spT [] E0 (aG (sf K "changes") (aG (WR (rLn K) (aG (sf K "changes") cN)) cN))) (jO 1))
 (Lr (WR (rTp K) (aG (tCK Z (sf K "since") (aaV (rD C "due" spD [] E0 (aN 1) (aG (aN 0) cN)) (aN 2))) cN)))
abbrev jk:List Str:=["self","time"]
noncomputable def zj(K:QQq)(C:Addr)(spT spD:Sp):Sp:=fun vs H Q _=>vs.length=1/\aes K C H spT spD {nx:=fun _ H'=>Q .non H',rt:=Q} (L2.start jk vs) H
inductive ZG(st:Stmt):Prop
 |mk (sc:Scope) (p1 p2 p3 p4 p5 p6 p7 p8 p9 q1 r1 r2 r3 r4 r5 r6 r7 r8 r9 r10 r11 r12 r13:Pos) (h0_:bY st=[.Assign [.Name "time" q1] (.Call (.Name "time_behind" p1) [.Attribute (.Name "self" p2) "changes" p3,.Call (.Name "len" p4) [.Attribute (.Name "self" p5) "changes" p6] [] p7] [] p8) p9,
   .Return (some (.Call (.Name "tuple" r1) [.ListComp (.BinOp (.Call (.Attribute (.Name "self" r2) "due" r3) [.Name "wire" r4] [] r5) .Sub (.Name "time" r6) r7) [⟨.Name "wire" r8,.Attribute (.Name "self" r9) "since" r10,[],0⟩] sc r11] [] r12)) r13]) (h1_:∀env:Env,∃pl:Sem Bool,eval (.Call (.Attribute (.Name "self" r2) "due" r3) [.Name "wire" r4] [] r5) env=(do
   let ov<-eval (.Name "self" r2) env
   standAt r3.atName
   let (f,first)<-holding [ov] (getMethod ov "due" pl)
   callWith r5 f first (backTo r5 (starEach [.Name "wire" r4] env)) (backToKw r5 (keywordEach [] env)))) (h2_:Vn (aj st) sc ["wire"] jk=true) (h3_:((["self","time","wire"]:List Str).all fun x=>K9 (nY sc (aj st)) x)=true)
section
variable{P:Program}{w:World}{K:QQq}{mg:QZz}{base:Heap}
def WW{qual:Str}{st:Stmt}{f C g ft:Addr}{fd fdD fdT:FuncData}{k:Nat}{psT:List Str}{spD spT:Sp}
  (F:yH K "still" qual st f fd)(S:cX jk ["self"] (aj st))(vi:∀x∈jk,Fw (aj st) x)(lo:Loc (aj st) "time")
  (gl:∀x∈(["time_behind","len","tuple"]:List Str),(aj st).names.lookup x=some .globalImplicit)
  (cl:oZ K C)(me:Meth K C "due" g)(D:bH P w K mg base dU k g fdD ["self","wire"] spD)(bD:Binds K fdD ["self","wire"] [])
  (T:bH P w K mg base dU k ft fdT psT spT)(bT:Binds K fdT psT [])(mT:mg "time_behind"=some (.ref ft))(kT:PySem.W.keepIn K (.ref ft)=true)
  (m1:mg "len"=none)(m2:mg "tuple"=none)(hb:ZG st):
  bH P w K mg base dU (k+1) f fd ["self"] (zj K C spT spD):=by
 obtain⟨sc,p1,p2,p3,p4,p5,p6,p7,p8,p9,q1,r1,r2,r3,r4,r5,r6,r7,r8,r9,r10,r11,r12,r13,hb,hm,hs,hv⟩:=hb;refine F.ok S (fun vs H Q E h=>h.1) fun cdv A outer s H vs Q E hr h=>?_;rw[hb];refine⟨_,?_,h.2⟩;have pv0:∀{p:Pos},PE (eE dU P w K mg base jk qual (aj st) f cdv A outer s H E).nQ (.Name "self" p) (aN 0):=fun{p}=>cA (i:=0) rfl (vi _ (by simp));have pf:∀{p q:Pos}{x:Str},PE (eE dU P w K mg base jk qual (aj st) f cdv A outer s H E).nQ (.Attribute (.Name "self" p) x q) (sf K x):=fun{p q x}=>pB pv0 rfl;refine bj (jX S.nd rfl lo (fX T hr (gl _ (by simp)) mT kT bT .nil gH (aC pf (aC (j0 uh (gl _ (by simp)) m1 rfl (aC pf aU)) aU))) rfl (.inl rfl)) ?_;refine jw (iQ (ji mJ (gl _ (by simp)) m2 PyProof.Rows.boot_tuple (aC (Nr rfl (Cu hs) pf (fun _=>rfl) fun cl' fp s₀ H₀ ok=>?_) aU)));have vis:∀x∈(["self","time","wire"]:List Str),Fw (blk (eE dU P w K mg base jk qual (aj st) f cdv A outer s H E).nQ sc cl' (aR ["wire"] jk) fp s₀ H₀).env.scope x:=fun x hx=>by have:=List.all_eq_true.mp hv x hx;exact BW this
 obtain⟨pl,ht⟩:=hm (blk (eE dU P w K mg base jk qual (aj st) f cdv A outer s H E).nQ sc cl' (aR ["wire"] jk) fp s₀ H₀).env;exact XF (Gy (pl:=pl) (cA (i:=1) rfl (vis _ (by simp))) cl me D hr bD .nil gH (aC (cA (i:=0) rfl (vis _ (by simp))) aU) rfl rfl ht) (cA (i:=2) rfl (vis _ (by simp)))
end
def Kl(H H':Hp):Prop:=∀b u,H b=some u->(∀vs,u≠ .lst vs)->H' b=some u
def Kp.kl{H H':Hp}(k:Kp H H'):Kl H H':=fun b u h _=>k b u h
def Kl.trans{H H1 H2:Hp}(a:Kl H H1)(b:Kl H1 H2):Kl H H2:=fun c u h n=>b c u (a c u h n) n
section
variable{K:QQq}{C a:Addr}{H0 H:Hp}{n t sd:D}{ls ss:eU}{cs cs':List D}{f:List Sl->Res}
theorem Ru{ca:Addr}{cv:List V}{k tm:Int}{Q:VK}{E:XK}(ec:H ca=some (.lst cv))(dc:ao K H cs cv)(hf:uV (f [.bor (.lst cs),.val (.int k)])=some (tm,cs'))
  (fin:∀H' cv',(∀c u,H c=some u->c≠ca->H' c=some u)->bz H H'->H' ca=some (.lst cv')->ao K H' cs' cv'->Q (.int tm) H'):bA K 2 f [.ref ca,.int k] H Q E:=by
 have own:∀i b,aJ [.bor (.lst cs),.val (.int k)] ([V.ref ca,.int k].map some) i b->i=0/\b=ca:=fun i b⟨⟨s,o,e1,e2⟩,e3⟩=>by
  match i with
  |0=>cases e3;exact⟨rfl,rfl⟩
  |1=>cases e1;cases e2
  |i+2=>simp at e1
 refine⟨[.bor (.lst cs),.val (.int k)],rfl,⟨rfl,fun i s e=>?_,fun i j b h1 h2=>(own i b h1).1.trans (own j b h2).1.symm⟩,fun i o e=>?_,?_⟩
 ·match i with
  |0=>cases e;exact⟨_,rfl,_,ec,_,rfl,dc⟩
  |1=>cases e;exact⟨_,rfl,by unfold aL;rfl⟩
  |i+2=>simp at e
 ·match i with
  |0=>cases e
  |1=>cases e
  |i+2=>simp at e
 ·cases hr:f [.bor (.lst cs),.val (.int k)]with
  |bad=>rw[hr]at hf;cases hf
  |exc _ _=>rw[hr]at hf;cases hf
  |ok r qs=>
   rw[hr]at hf;intro v H' z rc;obtain⟨o',b,e1,e2,ob⟩:=z.bor 0 _ rfl;cases e2;unfold uV at hf;split at hf
   ·rename_i q;injection q with q1 q2;subst q1 q2;cases hf;cases e1;obtain⟨u,h1,cv',rfl,d⟩:=ob;have ev:v=.int tm:=by
     have rc':aL K H' (.int tm) v:=rc;unfold aL at rc';exact rc'
    subst ev;exact fin H' cv' (fun c u h ne=>z.keep c u h fun i o=>ne (own i c o).2) z.pers h1 d
   ·cases hf
theorem Az:∀xs:List Int,ao K H (xs.map D.int) (xs.map V.int)
 |[]=>ao.dZ
 |x::xs=>ao.aZ (by unfold aL;rfl) (Az xs)
def DX(tm:Int):dO (fun i=>fU ls ss i-tm) (ir ss).length=(dW ls ss tm).map V.int:=by
 refine List.ext_getElem? fun i=>?_;simp only[dO,dW,ir,QFz,QAq,List.map_map];by_cases h:i<ss.length
 ·rw[List.getElem?_range h,QXq h];simp[fU,QXq h]
 ·rw[List.getElem?_eq_none (by simpa using h),List.getElem?_eq_none (by omega)];rfl
def Rp{g:Addr}{tm:Int}{Q:VK}{E:XK}(cl:oZ K C)(na:KQ K C)(G:dX K C H0 H a n t ls cs sd ss)(ok:NQ ls ss=true)(hf:uV (f [.bor (.lst cs),.val (.int cs.length)])=some (tm,cs'))
  (fin:∀v H',dX K C H0 H' a n t ls cs' sd ss->Kl H H'->bz H H'->aL K H' (.tup ((dW ls ss tm).map .int)) v->Q v H'):zj K C (bA K 2 f) (jd K) [.ref a] H Q E:=by
 obtain⟨⟨dx,la,ca,sa,vn,vt,vs,cv,e1,d1,d2,d3,e2,e3,d4,e4,ne,z1,z2,z3⟩,k0⟩:=G;have hlen:cs.length=cv.length:=d4.length;have oks:∀p∈ss,bf p.1 ss=some p.2/\∃j,bf p.1 ls=some j:=fun p hp=>by have:=List.all_eq_true.mp ok p hp;simp only[QUq,beq_iff_eq]at this;exact⟨this.1,Option.isSome_iff_exists.mp this.2⟩
 refine⟨rfl,.ref a,rfl,a,C,dx,_,.ref ca,rfl,e1,cl,na.chg,rfl,.ref a,rfl,a,C,dx,_,.ref ca,rfl,e1,cl,na.chg,rfl,.ref ca,cv.length,rfl,.inl ⟨cv,.inl (.inl e3),rfl⟩,?_⟩;rw[<-hlen];refine Ru (E:=E0) e3 d4 hf fun H1 cv' keep pe ec dc=>?_;have nac:a≠ca:=fun z=>by subst z;rw[e1]at e3;cases e3
 have nlc:la≠ca:=fun z=>by subst z;rw[e2]at e3;cases e3
 have nsc:sa≠ca:=fun z=>by subst z;rw[e4]at e3;cases e3
 have f1:=keep _ _ e1 nac;have f2:=keep _ _ e2 nlc;have f4:=keep _ _ e4 nsc;have kl1:Kl H H1:=fun b u h nl=>keep b u h fun z=>by subst z;rw[e3]at h;cases h;exact nl cv rfl
 refine⟨.ref a,rfl,a,C,dx,_,.ref sa,rfl,f1,cl,na.snc,rfl,sa,ir ss,fun i=>fU ls ss i-tm,rfl,f4,fun o w z=>(by rw[e4]at z;cases z),fun o i p hp H2 k2=>?_,fun D hD=>?_⟩
 ·have np:∀{b:Addr}{u:HO},b≠sa->H1 b=some u->H2 b=some u:=fun nb h=>k2 _ _ (by rw[ak nb];exact h);have nas:a≠sa:=fun z=>by subst z;rw[e1]at e4;cases e4
  obtain⟨q,eq,rfl⟩:∃q,ss[i]? =some q/\p=(.inr q.1,.int q.2):=by unfold ir at hp;rw[QFz]at hp;obtain⟨q,e,z⟩:=QJz.mp hp;exact⟨q,e,z.symm⟩
  obtain⟨o1,j,o2⟩:=oks q (QBz eq);refine⟨.ref a,rfl,a,dx,_,rfl,np nas f1,rfl,.str q.1,rfl,a,.str q.1,C,dx,_,sa,la,q.2,j,rfl,np nas f1,cl,na.snc,na.len,rfl,rfl,?_,oF (np ne f2) (by rw[gK,o2];rfl),.int tm,rfl,q.2+j,tm,rfl,rfl,?_,rfl⟩
  ·exact .inl ⟨ir ss,.inr q.1,.inr ⟨o,k2 _ _ aq⟩,rfl,by rw[gK,o1];rfl⟩
  ·show V.int (q.2+j-tm)=V.int (fU ls ss i-tm);unfold fU;rw[eq];simp only[o2];rfl
 ·refine⟨D,_,rfl,.inl ⟨.inl (.inl aq),fun l hl=>?_⟩⟩;have k3:Kp H1 (upd H1 D (.lst (dO (fun i=>fU ls ss i-tm) (ir ss).length))):=Kp.lay hD;have k4:=k3.trans (Kp.lay (u:=.tup (dO (fun i=>fU ls ss i-tm) (ir ss).length)) hl);refine fin _ _ ⟨⟨dx,la,ca,sa,vn,vt,vs,cv',k4 _ _ f1,(d1.mono pe).mono k4.pers,(d2.mono pe).mono k4.pers,(d3.mono pe).mono k4.pers,k4 _ _ f2,k4 _ _ ec,dc.mono k4.pers,k4 _ _ f4,ne,z1,z2,z3⟩,fun b u h=>k4 _ _ (keep b u (k0 b u h) fun z=>by subst z;rw[z2]at h;cases h)⟩ (kl1.trans k4.kl) (pe.trans k4.pers) ?_;rw[DX]at*;exact dN (.inl (.inl aq)) (Az _)
end
noncomputable def aa0(K:QQq)(i j:Nat):TT:=fun σ H Q=>∃(x y:D)(v u:V)(k:Bool),σ[i]? =some (some v)/\σ[j]? =some (some u)/\aL K H x v/\dF K H y u/\aK .isin x y=some k/\Q k H
noncomputable def aaZ(K:QQq)(i j:Nat):TE:=fun σ H Q=>∃(d y z:D)(v u:V),σ[i]? =some (some v)/\σ[j]? =some (some u)/\dF K H d v/\aL K H y u/\getD d y=some z/\∀w,aL K H z w->Q w H
section
variable{X:Cx}{a b:Expr}{i j:Nat}{pos:Pos}
def Xx(hu:X.A.units+60<cLine)(hi:PE X a (aN i))(hj:PE X b (aN j))(hm:behindInMarks .In b=false):PT X (.Compare a [.In] [b] pos) (aa0 X.K i j):=by obtain⟨r,hr,rule⟩:=Vq hu;exact PT.imp (xx hr hi hj hm) fun σ H Q⟨x,y,v,u,k,e1,e2,d1,d2,e3,q⟩=>⟨v,e1,u,e2,rule H x y k v u _ d1 d2 e3 ⟨k,rfl,q⟩⟩
def XJ(hu:X.A.units+60<cLine)(hi:PE X a (aN i))(hj:PE X b (aN j))(hs:qR b):PE X (.Subscript a b pos) (aaZ X.K i j):=
 PE.imp (Nj (DN (by omega)) hi hj hs) fun σ H Q⟨d,y,z,v,u,e1,e2,d1,d2,e3,q⟩=>⟨v,e1,u,e2,pL d1 d2 e3 q⟩
end
abbrev gg3(K:QQq)(f:Str):TE:=Rm K (aN 3) f
noncomputable def aet(K:QQq)(C:Addr)(spK spI spS spC spR:Sp):TS:=
 iJ (rE (gG spK [] E0 (aG (aN 0) (aG (aN 1) (aG (aN 2) cN)))))
 (iJ (o8 (Vh C spI [] E0 (aG (aN 0) (aG (aN 1) (aG (aN 2) cN)))) (jO 3))
 (iJ (o8 (fun _ H Q=>∀p,H p=none->Q (.ref p) (upd H p (.dK []))) (jO 4))
 (iJ (Ln (fun σ H Q=>gg3 K "since" σ H fun x H'=>∃k,KJ K x H' k/\Q k H')
  (iJ (o8 (Rh (aG (gg3 K "stand") (aG (rD C "still" spS [] E0 (aN 3) cN) cN))) (jO 5))
  (iJ (aa1 (aa0 K 5 4) (Lr (gG spR [] E0 (aG (aN 0) (aG (WN (gg3 K "changes")) (aG (aaZ K 4 5) cN))))) Vf)
  (iJ (o8 (WR (rLn K) (aG (gg3 K "changes") cN)) (acD (aN 4) (aN 5) (MP K)))
  (rE (rD C "change" spC [] E0 (aN 3) cN))))))
 (Lr (fun _ H Q=>Q .non H)))))
abbrev gh:List Str:=["net","talk","waits","going","heads","rest"]
noncomputable def Ly(K:QQq)(C:Addr)(spK spI spS spC spR:Sp):Sp:=fun vs H Q _=>vs.length=3/\aet K C spK spI spS spC spR {nx:=fun _ H'=>Q .non H',rt:=Q} (L2.start gh vs) H
inductive ZJ(st:Stmt):Prop
 |mk (x1 x2:Nat) (p1 p2 p3 p4 p5 p6 r1 r2 r3 r4 r5 r6 r7 a1 a2 a3 s1 s2 t1 t2 t3 t4 t5 t6 t7 t8 u1 u2 u3 u4 u5 u6 u7 u8 u9 u10 u11 u12 v1 v2 v3 v4 v5 v6 v7 v8 w1 w2 w3 w4 y1 y2 y3 y4:Pos) (h0_:bY st=[.Expr (.Call (.Name "check_waits" p1) [.Name "net" p2,.Name "talk" p3,.Name "waits" p4] [] p5) p6,
   .Assign [.Name "going" r1] (.Call (.Name "Going" r2) [.Name "net" r3,.Name "talk" r4,.Name "waits" r5] [] r6) r7,
   .Assign [.Name "heads" a1] (.Dict [] [] a2) a3,
   .While (.Attribute (.Name "going" s1) "since" s2)
    [.Assign [.Name "rest" t1] (.Tuple [.Attribute (.Name "going" t2) "stand" t3,.Call (.Attribute (.Name "going" t4) "still" t5) [] [] t6] x1 t7) t8,
     .If (.Compare (.Name "rest" u1) [.In] [.Name "heads" u2] u3) [.Return (some (.Call (.Name "round_from" u4) [.Name "net" u5,.Attribute (.Name "going" u6) "changes" u7,.Subscript (.Name "heads" u8) (.Name "rest" u9) u10] [] u11)) u12] [] y1,
     .Assign [.Subscript (.Name "heads" v1) (.Name "rest" v2) v3] (.Call (.Name "len" v4) [.Attribute (.Name "going" v5) "changes" v6] [] v7) v8,
     .Expr (.Call (.Attribute (.Name "going" w1) "change" w2) [] [] w3) w4] [] y2,
   .Return (some (.Constant .none x2 y3)) y4]) (h1_:∀env:Env,∃pl:Sem Bool,eval (.Call (.Attribute (.Name "going" t4) "still" t5) [] [] t6) env=(do
   let ov<-eval (.Name "going" t4) env
   standAt t5.atName
   let (f,first)<-holding [ov] (getMethod ov "still" pl)
   callWith t6 f first (backTo t6 (starEach [] env)) (backToKw t6 (keywordEach [] env)))) (h2_:∀env:Env,∃pl:Sem Bool,eval (.Call (.Attribute (.Name "going" w1) "change" w2) [] [] w3) env=(do
   let ov<-eval (.Name "going" w1) env
   standAt w2.atName
   let (f,first)<-holding [ov] (getMethod ov "change" pl)
   callWith w3 f first (backTo w3 (starEach [] env)) (backToKw w3 (keywordEach [] env))))
section
variable{P:Program}{w:World}{K:QQq}{mg:QZz}{base:Heap}
def XX{qual:Str}{st:Stmt}{f C fk fi fs fc fr:Addr}{fd fdK fdI fdS fdC fdR:FuncData}{k:Nat}{psK psI psS psC psR:List Str}{spK spI spS spC spR:Sp}
  (F:yH K "pace" qual st f fd)(S:cX gh ["net","talk","waits"] (aj st))(lo:∀x∈gh,(aj st).names.lookup x=some .local)
  (gl:∀x∈(["check_waits","Going","len","round_from"]:List Str),(aj st).names.lookup x=some .globalImplicit)
  (cl:oZ K C)(mk:Mk K C fi)(ms:Meth K C "still" fs)(mc:Meth K C "change" fc)
  (A1:bH P w K mg base dU k fk fdK psK spK)(b1:Binds K fdK psK [])(m1:mg "check_waits"=some (.ref fk))(k1:PySem.W.keepIn K (.ref fk)=true)
  (A3:bH P w K mg base dU k fi fdI psI spI)(b3:Binds K fdI psI [])(m3:mg "Going"=some (.ref C))
  (A4:bH P w K mg base dU k fs fdS psS spS)(b4:Binds K fdS psS [])(A5:bH P w K mg base dU k fc fdC psC spC)(b5:Binds K fdC psC [])
  (A6:bH P w K mg base dU k fr fdR psR spR)(b6:Binds K fdR psR [])(m6:mg "round_from"=some (.ref fr))(k6:PySem.W.keepIn K (.ref fr)=true)
  (ml:mg "len"=none)(hb:ZJ st):
  bH P w K mg base dU (k+2) f fd ["net","talk","waits"] (Ly K C spK spI spS spC spR):=by
 obtain⟨x1,x2,p1,p2,p3,p4,p5,p6,r1,r2,r3,r4,r5,r6,r7,a1,a2,a3,s1,s2,t1,t2,t3,t4,t5,t6,t7,t8,u1,u2,u3,u4,u5,u6,u7,u8,u9,u10,u11,u12,v1,v2,v3,v4,v5,v6,v7,v8,w1,w2,w3,w4,y1,y2,y3,y4,hb,hm,hn⟩:=hb;refine F.ok S (fun vs H Q E h=>h.1) fun cdv A outer s H vs Q E hr h=>?_;rw[hb];refine⟨_,?_,h.2⟩;have hr1:=hr.mono (Nat.le_succ k);have hu:(eE dU P w K mg base gh qual (aj st) f cdv A outer s H E).nQ.A.units+60<cLine:=by have:=hr.un;show(A.deeper _).units+60<cLine;omega
 have v:∀x∈gh,Fw (aj st) x:=fun x hx=>.inl (lo x hx);have pv0:∀{p:Pos},PE (eE dU P w K mg base gh qual (aj st) f cdv A outer s H E).nQ (.Name "net" p) (aN 0):=fun{p}=>cA (i:=0) rfl (v _ (by simp));have pv1:∀{p:Pos},PE (eE dU P w K mg base gh qual (aj st) f cdv A outer s H E).nQ (.Name "talk" p) (aN 1):=fun{p}=>cA (i:=1) rfl (v _ (by simp));have pv2:∀{p:Pos},PE (eE dU P w K mg base gh qual (aj st) f cdv A outer s H E).nQ (.Name "waits" p) (aN 2):=fun{p}=>cA (i:=2) rfl (v _ (by simp));have pv3:∀{p:Pos},PE (eE dU P w K mg base gh qual (aj st) f cdv A outer s H E).nQ (.Name "going" p) (aN 3):=fun{p}=>cA (i:=3) rfl (v _ (by simp));have pv4:∀{p:Pos},PE (eE dU P w K mg base gh qual (aj st) f cdv A outer s H E).nQ (.Name "heads" p) (aN 4):=fun{p}=>cA (i:=4) rfl (v _ (by simp));have pv5:∀{p:Pos},PE (eE dU P w K mg base gh qual (aj st) f cdv A outer s H E).nQ (.Name "rest" p) (aN 5):=fun{p}=>cA (i:=5) rfl (v _ (by simp));have pf:∀{p q:Pos}{x:Str},PE (eE dU P w K mg base gh qual (aj st) f cdv A outer s H E).nQ (.Attribute (.Name "going" p) x q) (gg3 K x):=fun{p q x}=>pB pv3 rfl;obtain⟨pl,ht⟩:=hm (eE dU P w K mg base gh qual (aj st) f cdv A outer s H E).nQ.env;obtain⟨pl2,ht2⟩:=hn (eE dU P w K mg base gh qual (aj st) f cdv A outer s H E).nQ.env;refine bj (lK (fX A1 hr1 (gl _ (by simp)) m1 k1 b1 .nil gH (aC pv0 (aC pv1 (aC pv2 aU)))) rfl) ?_;refine bj (jX S.nd rfl (.inl (lo _ (by simp))) (SM mk A3 hr (gl _ (by simp)) m3 b3 .nil gH (aC pv0 (aC pv1 (aC pv2 aU)))) rfl (.inr (lo _ (by simp)))) ?_;refine bj (jX S.nd rfl (.inl (lo _ (by simp))) zM rfl (.inr (lo _ (by simp)))) ?_;refine bj (zJ PassesOwn.never (zH pf (fun _=>rfl)) (bj (jX S.nd rfl (.inl (lo _ (by simp))) (Dg (aC pf (aC (zK (pl:=pl) pv3 cl ms A4 hr1 b4 .nil gH ht) aU))) rfl (.inr (lo _ (by simp))))
  (bj (VF (Xx hu pv5 pv4 rfl) (jw (iQ (fX A6 hr1 (gl _ (by simp)) m6 k6 b6 .nil gH (aC pv0 (aC (Nm pf) (aC (XJ hu pv4 pv5 (fun _ _=>rfl)) aU)))))) Gv)
  (bj (M6 (j0 uh (gl _ (by simp)) ml rfl (aC pf aU)) (Nf pv4 pv5 (Gi (by omega))))
  (jw (lK (zK (pl:=pl2) pv3 cl mc A5 hr1 b5 .nil gH ht2) rfl)))))) ?_
 exact jw (iQ Dh)
end
section
variable{K:QQq}{C a ha:Addr}{H0 H:Hp}{n t sd:D}{ls ss:eU}{cs:List D}{u u':HO}
def Kp.both{H0 H:Hp}(k:Kp H0 H):Kp (upd H0 ha u) (upd H ha u):=fun b w h=>by
 by_cases e:b=ha
 ·subst e;rw[aq]at h⊢;exact h
 ·rw[ak e]at h⊢;exact k b w h
theorem dX.lay(G:dX K C H0 H a n t ls cs sd ss)(hf:H ha=none):dX K C (upd H0 ha u) (upd H ha u) a n t ls cs sd ss:=by
 obtain⟨⟨dx,la,ca,sa,vn,vt,vs,cv,e1,d1,d2,d3,e2,e3,d4,e4,ne,z1,z2,z3⟩,k0⟩:=G;have k:Kp H (upd H ha u):=Kp.lay hf;have no:∀{b:Addr}{w:HO},H b=some w->H0 b=none->upd H0 ha u b=none:=fun h z=>by rw[ak (fun q=>by subst q;rw[hf]at h;cases h)];exact z
 exact⟨⟨dx,la,ca,sa,vn,vt,vs,cv,k _ _ e1,d1.mono k.pers,d2.mono k.pers,d3.mono k.pers,k _ _ e2,k _ _ e3,d4.mono k.pers,k _ _ e4,ne,no e1 z1,no e3 z2,no e4 z3⟩,k0.both⟩
def dX.put(G:dX K C (upd H0 ha u) H a n t ls cs sd ss)(hu:Fz u)(nk:u≠ .dK (ir ls)):dX K C (upd H0 ha u') (upd H ha u') a n t ls cs sd ss:=by
 obtain⟨⟨dx,la,ca,sa,vn,vt,vs,cv,e1,d1,d2,d3,e2,e3,d4,e4,ne,z1,z2,z3⟩,k0⟩:=G;have hh:H ha=some u:=k0 _ _ aq;have pe:bz H (upd H ha u'):=by
  refine⟨fun b xs h=>?_,fun b o w h=>?_⟩
  ·rw[ak (fun z=>by subst z;rw[hh]at h;cases h;exact hu.tup xs rfl)];exact h
  ·rw[ak (fun z=>by subst z;rw[hh]at h;cases h;exact hu.frz o w rfl)];exact h
 have nb:∀{b:Addr},upd H0 ha u b=none->b≠ha:=fun h z=>by subst z;rw[aq]at h;cases h
 have st:∀{b:Addr}{w:HO},b≠ha->H b=some w->upd H ha u' b=some w:=fun q h=>by rw[ak q];exact h
 have no:∀{b:Addr},upd H0 ha u b=none->upd H0 ha u' b=none:=fun h=>by have q:=nb h;rw[ak q]at h⊢;exact h
 refine⟨⟨dx,la,ca,sa,vn,vt,vs,cv,st (nb z1) e1,d1.mono pe,d2.mono pe,d3.mono pe,st (fun z=>?_) e2,st (nb z2) e3,d4.mono pe,st (nb z3) e4,ne,no z1,no z2,no z3⟩,fun b w h=>?_⟩
 ·subst z;rw[hh]at e2;cases e2;exact nk rfl
 ·by_cases e:b=ha
  ·subst e;rw[aq]at h⊢;exact h
  ·rw[ak e]at h⊢;exact k0 b w (by rw[ak e];exact h)
def dX.wide(G:dX K C H0 H a n t ls cs sd ss):∃Hb,dX K C Hb H a n t ls cs sd ss/\Kp H0 Hb/\∀H',Kp Hb H'->bz H H':=by
 obtain⟨⟨dx,la,ca,sa,vn,vt,vs,cv,e1,d1,d2,d3,e2,e3,d4,e4,ne,z1,z2,z3⟩,k0⟩:=G;refine⟨fun b=>if b=a\/b=ca\/b=sa then none else H b,⟨⟨dx,la,ca,sa,vn,vt,vs,cv,e1,d1,d2,d3,e2,e3,d4,e4,ne,if_pos (.inl rfl),if_pos (.inr (.inl rfl)),if_pos (.inr (.inr rfl))⟩,fun b u h=>?_⟩,fun b u h=>?_,fun H' k=>⟨fun b xs h=>k b _ ?_,fun b o w h=>k b _ ?_⟩⟩
 ·by_cases c:b=a\/b=ca\/b=sa
  ·rw[if_pos c]at h;cases h
  ·rw[if_neg c]at h;exact h
 ·have c:¬(b=a\/b=ca\/b=sa):=by
   rintro (rfl|rfl|rfl)
   ·rw[z1]at h;cases h
   ·rw[z2]at h;cases h
   ·rw[z3]at h;cases h
  show(if _ then _ else _)=_
  rw[if_neg c]
  exact k0 b u h
 ·have c:¬(b=a\/b=ca\/b=sa):=by
   rintro (rfl|rfl|rfl)
   ·rw[e1]at h;cases h
   ·rw[e3]at h;cases h
   ·rw[e4]at h;cases h
  show(if _ then _ else _)=_
  rw[if_neg c]
  exact h
 ·have c:¬(b=a\/b=ca\/b=sa):=by
   rintro (rfl|rfl|rfl)
   ·rw[e1]at h;cases h
   ·rw[e3]at h;cases h
   ·rw[e4]at h;cases h
  show(if _ then _ else _)=_
  rw[if_neg c]
  exact h
def dX.narrow{Hb:Hp}(G:dX K C Hb H a n t ls cs sd ss)(k:Kp H0 Hb):dX K C H0 H a n t ls cs sd ss:=by
 obtain⟨⟨dx,la,ca,sa,vn,vt,vs,cv,e1,d1,d2,d3,e2,e3,d4,e4,ne,z1,z2,z3⟩,k0⟩:=G;have no:∀{b:Addr},Hb b=none->H0 b=none:=fun{b}h=>by
  cases q:H0 b with
  |none=>rfl
  |some u=>rw[k b u q]at h;cases h
 exact⟨⟨dx,la,ca,sa,vn,vt,vs,cv,e1,d1,d2,d3,e2,e3,d4,e4,ne,no z1,no z2,no z3⟩,k.trans k0⟩
def hO:List D->List D->Ob
 |[],_=>.dct [] []
 |k::ks,is=>.sdt (k::ks) is
theorem xO(k:D):∀(ks vs:List D),vs.length=ks.length->aP k ks=(aY k ks vs).isSome
 |[],_=>fun _=>rfl
 |x::ks,[]=>fun h=>by cases h
 |x::ks,v::vs=>fun h=>by rw[aP,aY,xO k ks vs (by simpa using h)];cases dM x k<;>simp
def acv{k:D}(hk:cH k=true){ks vs:List D}(hl:vs.length=ks.length):aK .isin k (hO ks vs).d=some (aY k ks vs).isSome:=by
 obtain⟨xs,rfl,_⟩:=jl hk;cases ks with
 |nil=>show(if keyOk (.tup xs)then some (aP (.tup xs) [])else if cH (.tup xs)&&true then some false else none)=_;rw[hk];rfl
 |cons x ks=>show(if cH (.tup xs)then some (aP (.tup xs) (x::ks))else none)=_;rw[hk,xO _ _ _ hl];rfl
def YG{k z:D}(hk:cH k=true){ks vs:List D}(h:aY k ks vs=some z):getD (hO ks vs).d k=some z:=by
 obtain⟨xs,rfl,_⟩:=jl hk;cases ks with
 |nil=>cases h
 |cons x ks=>show(if cH (.tup xs)then aY (.tup xs) (x::ks) vs else none)=_;rw[hk];exact h
theorem YF{k v:D}{ks vs:List D}{p:Addr}{x:V}{Q:Hp->Prop}(hk:cH k=true)(hl:vs.length=ks.length)(no:aY k ks vs=none)(fi:fits (ks.length+1)=true)(hh:H ha=some u)(ob:yG K H (hO ks vs) u)
  (dk:aL K H k (.ref p))(dv:aL K H v x)(q:∀u',(∀H',bz H H'->yG K H' (hO (ks++[k]) (vs++[v])) u')->Q (upd H ha u')):MP K (.ref ha) (.ref p) x H Q:=by
 obtain⟨b,eb,kb⟩:=iK hk dk;cases eb;cases ks with
 |nil=>
  have hv:vs=[]:=by simpa using hl
  subst hv;obtain⟨kvs,rfl,e,_⟩:=ob;have hn:kvs=[]:=by simpa using e.symm
  subst hn;exact .inr (.inr (.inr ⟨ha,p,_,rfl,rfl,hh,kb,q _ fun H' pe=>⟨_,rfl,gO.aH.mpr ⟨_,_,rfl,rfl,hk,dk.mono pe,dv.mono pe,gO.nil⟩⟩⟩))
 |cons y ks=>
  obtain⟨xs,rfl,l⟩:=ob;have g:=l.put hk dk dv;have pd:putD k v (y::ks) vs=((y::ks)++[k],vs++[v]):=by unfold putD;rw[xO _ _ _ hl,no];rfl
  rw[pd]at g;have hf:=fD fi;rw[l.len.1]at hf;exact .inr (.inr (.inl ⟨ha,p,_,xs,rfl,rfl,hh,l.vN,kb,by omega,q _ fun H' pe=>⟨_,rfl,g.mono pe⟩⟩))
def YH{ks vs:List D}(ob:yG K H (hO ks vs) u):Fz u:=ob.n8
def acu{ks vs:List D}(ob:yG K H (hO ks vs) u)(ne:ls≠[]):u≠ .dK (ir ls):=by
 cases ks with
 |nil=>
  obtain⟨kvs,rfl,e,_⟩:=ob;have hn:kvs=[]:=by simpa using e.symm
  subst hn;intro z;injection z with z;cases ls with
  |nil=>exact ne rfl
  |cons p ls=>cases z
 |cons y ks=>obtain⟨xs,rfl,_⟩:=ob;intro z;cases z
def UW(K:QQq)(C:Addr)(T:Br)(U:KH)(c:Cf)(n t:D)(ls:eU)(H:Hp)(vn vt vw:V)(x ha:Addr)(dd:D)(m:Nat)(ζ:L2.St)(H':Hp):Prop:=
 ∃(r:Option V)(u:HO)(ks:List D)(js:List Int)(g1:Gs),ζ=[some vn,some vt,some vw,some (.ref x),some (.ref ha),r]/\(js.map D.int).length=ks.length/\dX K C (upd H ha u) H' x n t ls g1.cs g1.sd g1.ss/\yG K H' (hO ks (js.map .int)) u/\j5 T U c n t ls m ks js g1=some dd
def Zq{v:V}(h:v=.non):aL K H .non v:=by subst h;unfold aL;rfl
theorem S9{T:Br}{U:KH}{c:Cf}{g:Addr}{w d:D}{vn vt vw:V}{qs:List Sl}{Q:VK}{E:XK}(cl:oZ K C)(bd:Wo K C "due" g)(na:KQ K C)
  (dn:aL K H n vn)(dt:aL K H t vt)(dw:aL K H w vw)(hf:gY T U c [.val n,.val t,.val w]=.ok (.val d) qs)
  (fin:∀v H',Kp H H'->aL K H' d v->Q v H'):
  Ly K C (bA K 3 (c.fn T.chk)) (zm K c T.mz (bA K 1 (c.fn T.fst)) (bA K 3 (c.fn T.stp)) (bA K 3 (c.fn T.snw))) (zj K C (bA K 2 (c.fn U.tmb)) (jd K))
   (uY K C g (jd K) (bA K 4 (c.fn T.led)) (bA K 3 (c.fn T.stp)) (bA K 3 (c.fn T.snw))) (bA K 3 (c.fn U.rnd)) [vn,vt,vw] H Q E:=by
 rw[gY]at hf;split at hf;rotate_left
 ·cases hf
 rename_i ok1;obtain⟨d1,q1,c1⟩:∃d q,c.fn T.chk [.val n,.val t,.val w]=.ok (.val d) q:=by
  cases h:c.fn T.chk [.val n,.val t,.val w]with
  |bad=>rw[h]at ok1;cases ok1
  |exc _ _=>rw[h]at ok1;cases ok1
  |ok r q=>
   rw[h]at ok1;cases r with
   |val d=>exact⟨d,q,rfl⟩
   |_=>cases ok1
 split at hf;rotate_left
 ·cases hf
 rename_i dd hG;injection hf with hf _;injection hf with hf;subst hf;obtain⟨⟨ls,g0⟩,hi,hG⟩:=QJq.mp hG;unfold O3 at hi;obtain⟨ls0,h1,hi⟩:=QJq.mp hi;obtain⟨sd,h2,hi⟩:=QJq.mp hi;obtain⟨nm,h3,hi⟩:=QJq.mp hi;obtain⟨ss,h4,hi⟩:=QJz.mp hi;cases hi;refine⟨rfl,?_⟩;refine⟨vn,rfl,vt,rfl,vw,rfl,?_⟩;refine lH (E:=E0) (ds:=[n,t,w]) (ao.aZ dn (ao.aZ dt (ao.aZ dw ao.dZ))) rfl c1 fun _ H2 k02 _=>?_;refine⟨vn,rfl,vt,rfl,vw,rfl,fun x dx hx hdx nx=>?_⟩;have x0:H x=none:=by
  cases q:H x with
  |none=>rfl
  |some u=>rw[k02 _ _ q]at hx;cases hx
 have ka:Kp H2 (upd H2 dx (.own x)):=Kp.lay hdx;have kb:Kp (upd H2 dx (.own x)) (upd (upd H2 dx (.own x)) x (.ins C dx [])):=Kp.lay (by rw[ak (Ne.symm nx)];exact hx);have k3:=(k02.trans ka).trans kb;refine T9 cl na x0 ⟨aq,k3,dn.mono k3.pers,dt.mono k3.pers,dw.mono k3.pers⟩ h1 h2 h3 h4 fun H4 G4=>⟨rfl,?_⟩;intro ha hha;have h0a:H ha=none:=by
  cases q:H ha with
  |none=>rfl
  |some u=>rw[G4.kp _ _ q]at hha;cases hha
 refine⟨UW K C T U c n t ls H vn vt vw x ha dd,⟨_,none,.dK [],[],[],_,rfl,rfl,G4.lay hha,⟨[],rfl,rfl,ao.dZ⟩,hG⟩,?_⟩;rintro m ζ H5 ⟨r,u,ks,js,⟨cs5,sd5,ss5⟩,rfl,hl,G5,ob,hp⟩;cases m with
 |zero=>cases hp
 |succ m=>
  rw[j5]at hp;obtain⟨dx5,la,ca,sa,un,ut,us,cv,e1,f1,f2,f3,e2,e3,f4,e4,ne,z1,z2,z3⟩:=id G5.ex;have hu:=YH ob;have kH:Kp H H5:=(Kp.lay (u:=u) h0a).trans G5.kp;refine⟨.ref x,rfl,x,C,dx5,_,.ref sa,rfl,e1,cl,na.snc,rfl, !(ir ss5).isEmpty,.inr (.inr ⟨_,e4,rfl⟩),?_⟩;cases hs:ss5 with
  |nil=>subst hs;have hd:some D.non=some dd:=hp;cases hd;exact fin _ _ kH (Zq rfl)
  |cons p5 s5=>
   rw[<-hs];have em:(!(ir ss5).isEmpty)=true:=by rw[hs];rfl
   have em2:ss5.isEmpty=false:=by rw[hs];rfl
   have hne:ss5≠[]:=by rw[hs];exact List.cons_ne_nil _ _
   rw[em];refine Eq.mpr (if_pos rfl) ?_;simp only[em2,Qxq,if_false]at hp;obtain⟨⟨tm,cs'⟩,ht,hp⟩:=QJq.mp hp;simp only at hp;split at hp;rotate_left
   ·cases hp
   rename_i hok;rw[QUq,QUq]at hok;obtain⟨⟨ok,hst⟩,hfi⟩:=hok;have lne:ls≠[]:=by intro z;have:=List.all_eq_true.mp ok p5 (by rw[hs];exact QYz);rw[z]at this;simp[bf]at this
   refine⟨UW K C T U c n t ls H vn vt vw x ha dd m,fun ζ H' z=>⟨m,Nat.lt_succ_self m,z⟩,?_⟩;refine⟨.ref x,rfl,x,C,dx5,_,us,rfl,e1,cl,na.std,rfl,.ref x,rfl,x,dx5,_,rfl,e1,rfl,?_⟩;refine Rp (g:=g) (E:=E0) cl na G5 ok ht fun v H6 G6 _ pe6 dv=>⟨by simp[sizeLine_eq],fun p hp7=>?_⟩;have k7:Kp H6 (upd H6 p (.tup [us,v])):=Kp.lay hp7;have G7:=G6.mono k7;have pe7:=pe6.trans k7.pers;have dk:aL K (upd H6 p (.tup [us,v])) (dH sd5 (dW ls ss5 tm)) (.ref p):=dN (.inl (.inl aq)) (ao.aZ (f3.mono pe7) (ao.aZ (dv.mono k7.pers) ao.dZ));have ob7:=ob.mono pe7;generalize upd H6 p (.tup [us,v])=H7 at*;have hh:H7 ha=some u:=G7.kp _ _ aq;refine⟨_,_,.ref p,.ref ha,_,rfl,rfl,dk,.inr ⟨hO ks (js.map .int),ha,rfl,rfl,u,hh,ob7⟩,acv hst hl,?_⟩;obtain⟨dx7,la7,ca7,sa7,un7,ut7,us7,cv7,g1,j1,j2,j3,g2,g3,j4,g4,ne7,y1,y2,y3⟩:=id G7.ex;cases hlk:aY (dH sd5 (dW ls ss5 tm)) ks (js.map .int)with
   |some i=>
    rw[hlk]at hp;refine Eq.mpr (if_pos rfl) ?_;obtain⟨qs,c9⟩:∃qs,c.fn U.rnd [.val n,.val (.lst cs'),.val i]=.ok (.val dd) qs:=by
     have hp':qY (c.fn U.rnd [.val n,.val (.lst cs'),.val i])=some dd:=hp;cases h:c.fn U.rnd [.val n,.val (.lst cs'),.val i]with
     |bad=>rw[h]at hp';cases hp'
     |exc _ _=>rw[h]at hp';cases hp'
     |ok r q=>
      rw[h]at hp';cases r with
      |val d=>cases hp';exact⟨q,rfl⟩
      |_=>cases hp'
    have cu:Fz (.lst cv7):=by constructor<;>(intros;intro z;cases z)
    refine⟨vn,rfl,.ref x,rfl,x,C,dx7,_,.ref ca7,rfl,g1,cl,na.chg,rfl,ca7,_,rfl,g3,cu,fun o=>?_⟩;have pf:=dJ (o:=o) g3 cu;have nhc:ha≠ca7:=fun z=>by subst z;rw[aq]at y2;cases y2
    refine⟨_,_,i,.ref ha,.ref p,rfl,rfl,.inr ⟨hO ks (js.map .int),ha,rfl,rfl,u,by rw[ak nhc];exact hh,ob7.mono pf⟩,dk.mono pf,YG hst hlk,fun vi di=>?_⟩;have dca:aL K (upd H7 ca7 (.frz o (.lst cv7))) (.lst cs') (.ref ca7):=by unfold aL;exact⟨ca7,cv7,rfl,.inl ⟨o,aq⟩,j4.mono pf⟩
    have kca:Kp H (upd H7 ca7 (.frz o (.lst cv7))):=((Kp.lay (u:=u) h0a).trans G7.kp).chg (by rw[ak nhc.symm]at y2;exact y2)
    refine lH (E:=E0) (ds:=[n,.lst cs',i]) (ao.aZ (dn.mono kca.pers) (ao.aZ dca (ao.aZ di ao.dZ))) rfl c9 fun v9 H9 k9 rc=>?_;exact fin _ _ (kca.trans k9) rc
   |none=>
    rw[hlk]at hp;refine Eq.mpr (if_neg (by decide)) ?_;obtain⟨g2',s1,s2⟩:=QJq.mp hp;refine⟨.ref x,rfl,x,C,dx7,_,.ref ca7,rfl,g1,cl,na.chg,rfl,.ref ca7,cv7.length,rfl,.inl ⟨cv7,.inl (.inl g3),rfl⟩,.ref ha,rfl,.ref p,rfl,?_⟩;have hlen:cs'.length=cv7.length:=j4.length;refine YF (v:=.int cv7.length) hst hl hlk hfi hh ob7 dk (by unfold aL;rfl) fun u' ou=>?_;have pe8:bz H7 (upd H7 ha u'):=by
     refine⟨fun b xs h=>?_,fun b o w h=>?_⟩
     ·rw[ak (fun z=>by subst z;rw[hh]at h;cases h;exact hu.tup xs rfl)];exact h
     ·rw[ak (fun z=>by subst z;rw[hh]at h;cases h;exact hu.frz o w rfl)];exact h
    have G8:=G7.put (u':=u') hu (acu ob7 lne);obtain⟨dx8,la8,ca8,sa8,un8,ut8,us8,cv8,i1,_⟩:=id G8.ex;obtain⟨Hb,Gb,kb,pb⟩:=G8.wide;have Z:uY K C g (jd K) (bA K 4 (c.fn T.led)) (bA K 3 (c.fn T.stp)) (bA K 3 (c.fn T.snw)) [.ref x] (upd H7 ha u') (fun _ H'=>UW K C T U c n t ls H vn vt vw x ha dd m [some vn,some vt,some vw,some (.ref x),some (.ref ha),some (.ref p)] H') E0:=
     Uv (F:=⟨c.fn T.led,c.fn T.stp,c.fn T.snw⟩) (Q:=fun _ H'=>UW K C T U c n t ls H vn vt vw x ha dd m [some vn,some vt,some vw,some (.ref x),some (.ref ha),some (.ref p)] H') cl bd na Gb hne s1 fun H9 G9=>⟨some (.ref p),u',ks++[dH sd5 (dW ls ss5 tm)],js++[(cs'.length:Int)],g2',rfl,by simpa using hl,G9.narrow kb,by rw[hlen,List.map_append];exact ou H9 (pe8.trans (pb H9 G9.kp)),s2⟩
    exact⟨.ref x,rfl,x,dx8,_,rfl,i1,rfl,Z⟩
end
noncomputable def nj(ds:List Df)(dR:List Str)(vals:List D)(t:Nat)(sf:Nat->Cf->List Sl->Res):Pg:=
 {fns:=(ds.take t).map fun d=>(fnOf ds dR d).getD {pars:=0,names:=0,body:=.nil},gl:=fun k=>vals[k]?,turns:=4000000,pf:=fun c i=>sf i c}
def pX{sc:Scope}{xs:List Str}(h:(xs.all fun x=>sc.names.lookup x==some k)=true):∀x∈xs,sc.names.lookup x=some k:=fun x hx=>by have:=List.all_eq_true.mp h x hx;simpa using this
noncomputable def fQ(x q:Str)(st:Stmt)(m:Value)(c:Addr):Obj:=⟨.type "function",none,.func (PySem.W.fnOf x q (dg st) (bY st) (aj st) .none .none .none m none (.ref c) .none), #[]⟩
def mfk{K:QQq}{st:Stmt}{m:Value}(l:K.lookup f=some (fQ x q st m c))(cd:PySem.W.codeIn K (.ref c) q=true)
  (b:∀(kV dc pm:Value)(an:Option Addr)(cd ct:Value)(us:List Value),us.length=ps.length->bindArgs (PySem.W.fnOf x q (dg st) (bY st) (aj st) .none kV dc pm an cd ct) ⟨us,[]⟩=pure (ps.zip us))
  (sc:I9 {x:=x,st:=st,N:=N,ps:=ps,fl:=[]}=true)(lo:(N.all fun y=>(aj st).names.lookup y==some .local)=true):MfK K x q st f N ps:=
 let F:=Ei l cd (by unfold PySem.W.keepIn;dsimp only;rw[l];rfl)
 ⟨⟨_,F,F.binds b⟩,wY sc,pX lo⟩
def By(ds:List Df)(t i:Nat)(x:Str)(ar:Nat):Prop:=i<t/\∃d,ds[i]? =some d/\d.x=x/\d.ps.length=ar
section
variable{P:Program}{w:World}{K:QQq}{mg:QZz}{base:Heap}{ds:List Df}{dR:List Str}{vals:List D}{fa:Nat->Addr}{fd:Nat->FuncData}{t:Nat}{sf:Nat->Cf->List Sl->Res}{dI:Df}
structure Gvn(P:Program)(w:World)(K:QQq)(mg:QZz)(base:Heap)(ds:List Df)(dR:List Str)(t:Nat)(dI:Df)(n:Nat)(c:Cf):Prop where
 cal:∀{j:Nat}{x:Str}{ar:Nat},By ds t j x ar->adg P w K mg base n c x j ar
 xok:∀X:Cx,X.prog=P->X.w=w->X.K=K->X.mg=mg->X.base=base->X.calm=true->X.N=dI.N->X.env.scope=aj dI.st->dD n X.A->jn (Bb ds dR dI) X c
theorem M7(hfn:∀i d,ds[i]? =some d->wG K mg d (fa i) (fd i))(hsc:∀d∈ds,cX d.N d.ps (aj d.st))(mF:(ds.take t).all (fun d=>(fnOf ds dR d).isSome)=true)
  (hbi:∀x∈oU,mg x=none)(hgl:∀(k:Nat)x,dR[k]? =some x->∃d v u,vals[k]? =some d/\mg x=some u/\RelV v u/\∀H,aL K H d v)(hdI:dI.N.Nodup)
  (hls:∀(i:Nat)d,t<=i->ds[i]? =some d->∀c sl,sf i c sl=.bad\/sl.length=d.ps.length)
  (hS:∀(n i:Nat)d,t<=i->ds[i]? =some d->Gvn P w K mg base ds dR t dI (5*n) ((nj ds dR vals t sf).cf n)->yH K d.x d.x d.st (fa i) (fd i)->cX d.N d.ps (aj d.st)->bH P w K mg base dU (5*n+5) (fa i) (fd i) d.ps (bA K d.ps.length (sf i ((nj ds dR vals t sf).cf n)))):
  ∀(n i:Nat)d,ds[i]? =some d->bH P w K mg base dU (5*n) (fa i) (fd i) d.ps (bA K d.ps.length ((nj ds dR vals t sf).fn n i)):=by
 have htr:∀(i:Nat)d,i<t->ds[i]? =some d->∃g,(nj ds dR vals t sf).fns[i]? =some g/\fnOf ds dR d=some g:=fun i d hi e=>by
  have e':(ds.take t)[i]? =some d:=by rw[List.getElem?_take_of_lt hi];exact e
  have hs:=List.all_eq_true.mp mF d (QBz e');obtain⟨g,hg⟩:=Option.isSome_iff_exists.mp hs;refine⟨g,?_,hg⟩;show((ds.take t).map fun d=>(fnOf ds dR d).getD {pars:=0,names:=0,body:=.nil})[i]? =some g;rw[QFz,e'];simp[hg]
 have hno:∀i,t<=i->(nj ds dR vals t sf).fns[i]? =none:=fun i hi=>by show((ds.take t).map _)[i]? =none;rw[QFz,List.getElem?_eq_none (by rw[List.length_take];omega)];rfl
 have fnt:∀n i,t<=i->(nj ds dR vals t sf).fn (n+1) i=sf i ((nj ds dR vals t sf).cf n):=fun n i hi=>by funext sl;show(match (nj ds dR vals t sf).fns[i]? with|some g=>gW ((nj ds dR vals t sf).cf n) g sl|none=>sf i ((nj ds dR vals t sf).cf n) sl)=_;rw[hno i hi]
 have len:∀(n i:Nat)d,ds[i]? =some d->∀sl,(nj ds dR vals t sf).fn n i sl=.bad\/sl.length=d.ps.length:=fun n i d e sl=>by
  cases n with
  |zero=>exact .inl rfl
  |succ n=>
   rcases Nat.lt_or_ge i t with hi|hi
   ·obtain⟨g2,hg2,ht2⟩:=htr i d hi e;unfold fnOf at ht2;simp only[QJz]at ht2;obtain⟨b2,hb2,rfl⟩:=ht2;have:(nj ds dR vals t sf).fn (n+1) i sl=gW ((nj ds dR vals t sf).cf n) {pars:=d.ps.length,names:=d.N.length,body:=b2} sl:=by
     show(match (nj ds dR vals t sf).fns[i]? with|some g=>gW ((nj ds dR vals t sf).cf n) g sl|none=>(nj ds dR vals t sf).pf ((nj ds dR vals t sf).cf n) i sl)=_;rw[hg2]
    rw[this];exact Jd _ _ sl
   ·rw[fnt n i hi];exact hls i d hi e _ sl
 have xok:∀(n:Nat)(d:Df)(X:Cx),(∀(g:Nat)d2,ds[g]? =some d2->bH P w K mg base dU (5*n) (fa g) (fd g) d2.ps (bA K d2.ps.length ((nj ds dR vals t sf).fn n g)))->X.prog=P->X.w=w->X.K=K->X.mg=mg->X.base=base->X.N=d.N->X.env.scope=aj d.st->X.calm=true->d.N.Nodup->dD (5*n) X.A->jn (Bb ds dR d) X ((nj ds dR vals t sf).cf n):=fun n d X IH e1 e2 e3 e4 e5 e6 e7 e8 nd hr=>by
  subst e1 e2 e3 e4 e5;refine⟨e6,e7,nd,e8,?_,hbi,fun k x hk=>?_,fun g x fl hk=>?_⟩
  ·have:=hr.un;omega
  ·obtain⟨dd,v,u,h1,h2,h3,h4⟩:=hgl k x hk;exact⟨dd,h1,v,u,h2,h3,h4⟩
  ·have hk':(ds.map fun d=>(d.x,d.fl))[g]? =some (x,fl):=hk;rw[QFz]at hk';cases q:ds[g]? with
   |none=>rw[q]at hk';cases hk'
   |some d2=>rw[q]at hk';simp at hk';obtain⟨rfl,rfl⟩:=hk';have D2:=hfn g d2 q;exact⟨5*n,fa g,fd g,d2.ps,IH g d2 q,hr,D2.at_,D2.fu.kp,D2.bi,len n g d2 q⟩
 intro n;induction n with
 |zero=>
  intro i d e;have no:∀vs H Q E,¬bA K d.ps.length ((nj ds dR vals t sf).fn 0 i) vs H Q E:=fun vs H Q E h=>by obtain⟨_,_,_,_,z⟩:=h;exact z
  exact⟨fun vs H Q E h=>absurd h (no vs H Q E),fun A outer s H args us vs Q E _ _ _ _ h=>absurd h (no vs H Q E)⟩
 |succ n IH=>
  intro i d e;have D:=hfn i d e;have S:=hsc d (QBz e);rcases Nat.lt_or_ge i t with hi|hi
  ·obtain⟨g,hg,ht⟩:=htr i d hi e;unfold fnOf at ht;simp only[QJz]at ht;obtain⟨b,hb,rfl⟩:=ht;have hp:(nj ds dR vals t sf).fn (n+1) i=gW ((nj ds dR vals t sf).cf n) {pars:=d.ps.length,names:=d.N.length,body:=b}:=by
    funext sl;show(match (nj ds dR vals t sf).fns[i]? with|some g=>gW ((nj ds dR vals t sf).cf n) g sl|none=>(nj ds dR vals t sf).pf ((nj ds dR vals t sf).cf n) i sl)=_;rw[hg]
   rw[hp];refine bH.mono (j:=5*n+1) ?_ (by omega);refine Up D.fu S rfl rfl fun cdv A outer s H E hr=>?_;exact(ihS _ 60).ss (Bb ds dR d) _ W0 _ b (xok n d _ IH rfl rfl rfl rfl rfl rfl rfl rfl S.nd hr) (.plain (fun _=>rfl) PassesOwn.never rfl) hb
  ·rw[fnt n i hi];refine hS n i d hi e ⟨fun{j x ar}⟨_,d2,e2,ex,ea⟩=>?_,fun X e1 e2 e3 e4 e5 e6 e7 e8 hr=>xok n dI X IH e1 e2 e3 e4 e5 e7 e8 e6 hdI hr⟩ D.fu S;have D2:=hfn _ d2 e2;have F2:=IH _ d2 e2;rw[ea]at F2;exact⟨_,_,_,F2,D2.bi,ex▸D2.at_,D2.fu.kp⟩
end
section
variable{K:QQq}{h:Heap}{mg:QZz}
def QB{l:PySem.W.OpenLaw}{w:World}{fa:Addr}{ds:List Df}{dR:List Str}{vals:List D}{L n t:Nat}{dL dI:Df}{y:Str}{sf:Nat->Cf->List Sl->Res}(X:K.In h)(G:h.Ns mainGlobals mg)(hfa:mg "law"=some (.ref fa))(hx:dL.x="law")(hy:dL.ps=[y])(hL:ds[L]? =some dL)(b:BJ ds)
  (scp:ds.all I9=true)(mF:(ds.take t).all (fun d=>(fnOf ds dR d).isSome)=true)(A:AllIn K (ds.map fun d=>(d.x,d.st)))(B:qT K dR vals)(Z:Ie K oU)(hdI:dI.N.Nodup)
  (hls:∀(i:Nat)d,t<=i->ds[i]? =some d->∀c sl,sf i c sl=.bad\/sl.length=d.ps.length)
  (hS:∀(base:Heap)(n i:Nat)d(f:Addr)(fd:FuncData),t<=i->ds[i]? =some d->Gvn l.prog w K mg base ds dR t dI (5*n) ((nj ds dR vals t sf).cf n)->yH K d.x d.x d.st f fd->cX d.N d.ps (aj d.st)->bH l.prog w K mg base dU (5*n+5) f fd d.ps (bA K d.ps.length (sf i ((nj ds dR vals t sf).cf n)))):
  ∃fd:FuncData,(∀(s:Shared)(v:Value),BindsTo s fd ⟨[v],[]⟩ [(y,v)])/\∀base:Heap,K.In base->base.Ns mainGlobals mg->bH l.prog w K mg base dU (5*n) fa fd [y] (bA K 1 ((nj ds dR vals t sf).fn n L)):=by
 obtain⟨fs,A,CC⟩:=QG X G ds b A;obtain⟨q,e1,e2,e3⟩:=CC L dL hL;have e:=hfa.symm.trans (hx▸e2.at_);cases e;refine⟨q.2,fun s v=>?_,fun base _ _=>?_⟩
 ·have:=e3 s [v] (by rw[hy];rfl);rw[hy]at this;exact this
 ·have z1:∀(i:Nat)d,ds[i]? =some d->wG K mg d (((fs[i]?).map (·.1)).getD 0) (((fs[i]?).map (·.2)).getD q.2):=fun i d e=>by
   obtain⟨q,e1,e2⟩:=A.at i d e;simp only[e1,Option.map_some,Option.getD_some];exact e2
  have z3:∀(k:Nat)x,dR[k]? =some x->∃d v u,vals[k]? =some d/\mg x=some u/\RelV v u/\∀H,aL K H d v:=fun k x e=>by obtain⟨dd,e1,v,u,z1,z2,z3⟩:=(QF X G dR vals B).at k x e;exact⟨dd,v,u,e1,z1,z2,z3⟩
  have Z:=M7 (P:=l.prog) (w:=w) (K:=K) (base:=base) (vals:=vals) (fa:=fun i=>((fs[i]?).map (·.1)).getD 0) (fd:=fun i=>((fs[i]?).map (·.2)).getD q.2)
   z1 (fun d hd=>wY (List.all_eq_true.mp scp d hd)) mF (QD X G _ Z) z3 hdI hls (fun n i d hi e gv fu sc=>hS base n i d _ _ hi e gv fu sc) n L dL hL
  simp only[e1,Option.map_some,Option.getD_some]at Z
  rw[hy]at Z
  exact Z
end
def Il{l:PySem.W.OpenLaw}{loose:List Str}{YP:World->Heap->Prop}{K:Params->QQq}{p:Pg}{L:Nat}(hn:l.most=some 63)(hdf:d.params.defaults=[])
  (hY:∀(w:World)(h:Heap),YP w h->(K w.params).In h)(math:∀ns:List Int,ns.length<=63->∃qs,p.fn 40 L [.val (.lst (ns.map D.int))]=.ok (.val (.bl true)) qs)
  (F:∀(w:World)(mg:QZz)(fa:Addr)(h:Heap),(K w.params).In h->h.Ns mainGlobals mg->mg d.name=some (.ref fa)->
   ∃fd:FuncData,(∀(s:Shared)(u:Value),BindsTo s fd ⟨[u],[]⟩ [(y,u)])/\∀base:Heap,(K w.params).In base->base.Ns mainGlobals mg->bH l.prog w (K w.params) mg base dU (5*40) fa fd [y] (bA (K w.params) 1 (p.fn 40 L))):
  PySem.W.WalkO q loose XP YP l.row.toRowW d [] (fun f vs=>PySem.call f vs):=
 L2.Q8 hn (by decide) hdf ⟨rfl,by decide,by decide⟩ hY F (fun _ _ a ns hl hO hS=>Xc hO hS (math ns hl) _) fun _ _ _ _ _ z=>z
structure GoQ(K:QQq)(mg:QZz)(ct:Ct)(T:Br)(C fi fu fc fs:Addr)(si su sc ss st:Stmt):Prop where
 cl:oZ K C
 na:KQ K C
 bd:Wo K C "due" fu
 mk_:Mk K C fi
 mc:Meth K C "change" fc
 ms:Meth K C "still" fs
 Mi:MfK K "__init__" "Going.__init__" si fi fJ fJ
 Mu:MfK K "due" "Going.due" su fu ["self","wire"] ["self","wire"]
 Mc:MfK K "change" "Going.change" sc fc j6 ["self"]
 Fs:∃fd,yH K "still" "Going.still" ss fs fd/\Binds K fd ["self"] []
 Ss:cX jk ["self"] (aj ss)
 vs:(jk.all fun x=>K9 (aj ss) x)=true
 ls:z7 (aj ss) "time"=true
 bi:ZK ct T.mz si
 bu:ZL su
 bc:ZM sc
 bs:ZG ss
 bp:ZJ st
 gi:∀x∈(["first_stand","steps_at","since_when"]:List Str),(aj si).names.lookup x=some .globalImplicit
 gc:∀x∈(["min","list","led_to","steps_at","since_when"]:List Str),(aj sc).names.lookup x=some .globalImplicit
 gs:∀x∈(["time_behind","len","tuple"]:List Str),(aj ss).names.lookup x=some .globalImplicit
 gp:∀x∈(["check_waits","Going","len","round_from"]:List Str),(aj st).names.lookup x=some .globalImplicit
 lp:∀x∈gh,(aj st).names.lookup x=some .local
 mG:mg "Going"=some (.ref C)
 mi:mg "min"=none
 ml:mg "list"=none
 mn:mg "len"=none
 mt:mg "tuple"=none
structure ZS(ds:List Df)(t:Nat)(T:Br)(U:KH):Prop where
 chk:By ds t T.chk "check_waits" 3
 fst:By ds t T.fst "first_stand" 1
 stp:By ds t T.stp "steps_at" 3
 led:By ds t T.led "led_to" 4
 snw:By ds t T.snw "since_when" 3
 tmb:By ds t U.tmb "time_behind" 2
 rnd:By ds t U.rnd "round_from" 3
def Jv(T:Br)(U:KH)(c:Cf)(sl:List Sl):gY T U c sl=.bad\/sl.length=3:=by
 unfold gY;split
 ·exact .inr rfl
 ·exact .inl rfl
section
variable{P:Program}{w:World}{K:QQq}{mg:QZz}{base:Heap}
theorem S8{T:Br}{U:KH}{c:Cf}{C g:Addr}{k:Nat}{f:Addr}{fd:FuncData}{ps:List Str}(cl:oZ K C)(bd:Wo K C "due" g)(na:KQ K C)
  (F:bH P w K mg base dU k f fd ps (Ly K C (bA K 3 (c.fn T.chk)) (zm K c T.mz (bA K 1 (c.fn T.fst)) (bA K 3 (c.fn T.stp)) (bA K 3 (c.fn T.snw))) (zj K C (bA K 2 (c.fn U.tmb)) (jd K))
   (uY K C g (jd K) (bA K 4 (c.fn T.led)) (bA K 3 (c.fn T.stp)) (bA K 3 (c.fn T.snw))) (bA K 3 (c.fn U.rnd)))):bH P w K mg base dU k f fd ps (bA K 3 (gY T U c)):=by
 refine F.imp fun vs H Q E h=>?_;obtain⟨sl,hl,S,no,h⟩:=h;have hf:gY T U c sl≠ .bad:=fun z=>by rw[z]at h;exact h
 obtain⟨n,t,w,rfl⟩:∃n t w,sl=[.val n,.val t,.val w]:=by
  unfold gY at hf;split at hf
  ·exact⟨_,_,_,rfl⟩
  ·exact absurd rfl hf
 obtain⟨vn,vt,vw,rfl⟩:∃a b c,vs=[a,b,c]:=by
  match vs,hl with
  |[a,b,c],_=>exact⟨a,b,c,rfl⟩
 obtain⟨_,e1,dn⟩:=S.sl 0 _ rfl;obtain⟨_,e2,dt⟩:=S.sl 1 _ rfl;obtain⟨_,e3,dw⟩:=S.sl 2 _ rfl;cases e1;cases e2;cases e3;obtain⟨d,qs,fv⟩:∃d qs,gY T U c [.val n,.val t,.val w]=.ok (.val d) qs:=by
  rw[gY]at hf⊢;split at hf
  ·rename_i q;rw[if_pos q];split at hf
   ·exact⟨_,_,rfl⟩
   ·exact absurd rfl hf
  ·exact absurd rfl hf
 rw[fv]at h;refine S9 cl bd na dn dt dw fv fun v H' kp dv=>h v H' ⟨fun i o e=>?_,kp.pers,fun b u e _=>kp b u e,fun b e=>?_⟩ dv
 ·match i with
  |0=>cases e
  |1=>cases e
  |2=>cases e
  |i+3=>simp at e
 ·cases q:H b with
  |none=>rfl
  |some u=>rw[kp b u q]at e;cases e
def X3{T:Br}{U:KH}{dI:Df}{ds:List Df}{dR:List Str}{c:Cf}{C fi fu fc fs ft:Addr}{si su sc ss st:Stmt}{fdt:FuncData}{n t:Nat}(G:GoQ K mg (Bb ds dR dI) T C fi fu fc fs si su sc ss st)(TK:ZS ds t T U)(hI:dI.N=fJ)(hIs:dI.st=si)
  (Ft:yH K "pace" "pace" st ft fdt)(St:cX gh ["net","talk","waits"] (aj st))(V:Gvn P w K mg base ds dR t dI n c):
  bH P w K mg base dU (n+5) ft fdt ["net","talk","waits"] (bA K 3 (gY T U c)):=by
 obtain⟨f1,d1,p1,F1,B1,m1,k1⟩:=V.cal TK.chk;obtain⟨f3,d3,p3,F3,B3,m3,k3⟩:=V.cal TK.fst;obtain⟨f4,d4,p4,F4,B4,m4,k4⟩:=V.cal TK.stp;obtain⟨f5,d5,p5,F5,B5,m5,k5⟩:=V.cal TK.led;obtain⟨f6,d6,p6,F6,B6,m6,k6⟩:=V.cal TK.snw;obtain⟨f7,d7,p7,F7,B7,m7,k7⟩:=V.cal TK.tmb;obtain⟨f8,d8,p8,F8,B8,m8,k8⟩:=V.cal TK.rnd;obtain⟨fdi,Fi,Bi_⟩:=G.Mi.fu;obtain⟨fdu,Fu,Bu⟩:=G.Mu.fu;obtain⟨fdc,Fc,Bc⟩:=G.Mc.fu;obtain⟨fds,Fs,Bs⟩:=G.Fs;have vis:∀{x qual:Str}{s:Stmt}{f:Addr}{N ps:List Str},MfK K x qual s f N ps->∀y∈N,Fw (aj s) y:=fun M y hy=>.inl (M.lo y hy);have U_:bH P w K mg base dU (n+1) fu fdu ["self","wire"] (jd K):=Zn Fu G.Mu.sc (vis G.Mu _ (by simp)) (vis G.Mu _ (by simp)) G.bu;have le:n<=n+1:=Nat.le_succ n;have St_:bH P w K mg base dU (n+2) fs fds ["self"] (zj K C (bA K 2 (c.fn U.tmb)) (jd K)):=WW (k:=n+1) Fs G.Ss (fun x hx=>BW (List.all_eq_true.mp G.vs x hx)) (by have:=G.ls;unfold z7 at this;rw[Bool.or_eq_true]at this;exact this.imp (by simp) (by simp)) G.gs G.cl G.bd.me U_ Bu (F7.mono le) B7 m7 k7 G.mn G.mt G.bs
 have Ch:bH P w K mg base dU (n+3) fc fdc ["self"] (uY K C fu (jd K) (bA K 4 (c.fn T.led)) (bA K 3 (c.fn T.stp)) (bA K 3 (c.fn T.snw))):=Zz (k:=n+1) Fc G.Mc.sc G.Mc.lo G.gc G.cl G.bd U_ Bu (F5.mono le) B5 m5 k5 (F4.mono le) B4 m4 k4 (F6.mono le) B6 m6 k6 G.mi G.ml G.bc;have In:bH P w K mg base dU (n+1) fi fdi fJ (zm K c T.mz (bA K 1 (c.fn T.fst)) (bA K 3 (c.fn T.stp)) (bA K 3 (c.fn T.snw))):=Yz Fi G.Mi.sc G.Mi.lo G.gi F3 B3 m3 k3 F4 B4 m4 k4 F6 B6 m6 k6 (fun X e1 e2 e3 e4 e5 e6 e7 e8 hr=>V.xok X e1 e2 e3 e4 e5 e6 (by rw[hI];exact e7) (by rw[hIs];exact e8) hr) G.bi;refine S8 G.cl G.bd G.na ?_;have l3:n<=n+3:=Nat.le_add_right n 3;have l1:n+1<=n+3:=Nat.add_le_add_left (by decide) n;have l2:n+2<=n+3:=Nat.add_le_add_left (by decide) n;exact XX (k:=n+3) Ft St G.lp G.gp G.cl G.mk_ G.ms G.mc (F1.mono l3) B1 m1 k1 (In.mono l1) Bi_ G.mG (St_.mono l2) Bs Ch Bc (F8.mono l3) B8 m8 k8 G.mn G.bp
end
def mfs{K:QQq}{x q:Str}{st:Stmt}{ps:List Str}{m:Value}{f c:Addr}(l:K.lookup f=some (fQ x q st m c))(cd:PySem.W.codeIn K (.ref c) q=true)
  (b:∀(kV dc pm:Value)(an:Option Addr)(cd ct:Value)(us:List Value),us.length=ps.length->bindArgs (PySem.W.fnOf x q (dg st) (bY st) (aj st) .none kV dc pm an cd ct) ⟨us,[]⟩=pure (ps.zip us)):∃fd,yH K x q st f fd/\Binds K fd ps []:=
 let F:=Ei l cd (by unfold PySem.W.keepIn;dsimp only;rw[l];rfl)
 ⟨_,F,F.binds b⟩
def Qz{ds:List Df}{t i:Nat}{dt d:Df}(ht:ds[t]? =some dt)(hn:ds.length=t+1)(hi:t<=i)(e:ds[i]? =some d):d=dt:=by
 obtain⟨l,_⟩:=QCz.mp e;have:i=t:=by omega
 subst this;rw[ht]at e;exact(QEq e).symm
def QC{K:QQq}{h:Heap}{mg:QZz}{l:PySem.W.OpenLaw}{w:World}{fa:Addr}{ds:List Df}{dR:List Str}{vals:List D}{L n t:Nat}{dL dI dt:Df}{y:Str}{T:Br}{U:KH}{C fi fu fc fs:Addr}{si su sc ss st:Stmt}(X:K.In h)(G:h.Ns mainGlobals mg)(hfa:mg "law"=some (.ref fa))(hx:dL.x="law")(hy:dL.ps=[y])(hL:ds[L]? =some dL)(b:BJ ds)
  (scp:ds.all I9=true)(mF:(ds.take t).all (fun d=>(fnOf ds dR d).isSome)=true)(A:AllIn K (ds.map fun d=>(d.x,d.st)))(B:qT K dR vals)(Z:Ie K oU)(ht:ds[t]? =some dt)(hn:ds.length=t+1)(hxt:dt.x="pace")(hst:dt.st=st)(hN:dt.N=gh)(hp:dt.ps=(["net","talk","waits"]:List Str))
  (GQ:GoQ K mg (Bb ds dR dI) T C fi fu fc fs si su sc ss st)(TK:ZS ds t T U)(hI:dI.N=fJ)(hIs:dI.st=si):
  ∃fd:FuncData,(∀(s:Shared)(v:Value),BindsTo s fd ⟨[v],[]⟩ [(y,v)])/\∀base:Heap,K.In base->base.Ns mainGlobals mg->bH l.prog w K mg base dU (5*n) fa fd [y] (bA K 1 ((nj ds dR vals t fun _ c=>gY T U c).fn n L)):=by
 refine QB X G hfa hx hy hL b scp mF A B Z (by rw[hI];decide) (fun i d hi e c sl=>?_) (fun base n i d f fd hi e gv fu sc=>?_)
 ·rw[Qz ht hn hi e,hp];exact Jv T U c sl
 ·have e:=Qz ht hn hi e;subst e;rw[hp,hN,hst]at sc;rw[hxt,hst]at fu;rw[hp];exact X3 GQ TK hI hIs fu sc gv
end Mini
end
section
namespace Tx
open PySem L2 Mini
abbrev d0:Df:=cU "checked" s0 [false]
abbrev d1:Df:=cU "is_net" s1 [false]
abbrev d2:Df:=cU "has_parts" s2 [false]
abbrev d3:Df:=cU "is_tuple" s3 [false,false,false]
abbrev d4:Df:=cU "is_number" s4 [false,false,false]
abbrev d5:Df:=cU "is_name" s5 [false]
abbrev d6:Df:=cU "are_unlike" s6 [false]
abbrev d7:Df:=cU "is_row" s7 [false,false]
abbrev d8:Df:=cU "is_wire" s8 [false,false]
abbrev d9:Df:=cU "are_wires" s9 [false,false,false,false]
abbrev d10:Df:=cU "are_rows" s10 [false,false]
abbrev d11:Df:=cU "is_kind" s11 [false,false,false]
abbrev d12:Df:=cU "is_held" s12 [false,false,false]
abbrev d13:Df:=cU "wire_names" s13 [false]
abbrev d14:Df:=cU "waiting_gates" s14 [false,false]
abbrev d15:Df:=cU "told" s15 [false,false,false]
abbrev d16:Df:=cU "told_held" s16 [false,false,false]
abbrev d17:Df:=cU "checked_talk" s17 [false,false]
abbrev d18:Df:=cU "is_talk" s18 [false,false]
abbrev d19:Df:=cU "is_state" s19 [false,false,false]
abbrev d20:Df:=cU "steps" s20 [false,false,false]
abbrev d21:Df:=cU "stands" s21 [false,false]
abbrev d22:Df:=cU "first_stand" s22 [false]
abbrev d23:Df:=cU "steps_at" s23 [false,false,false]
abbrev d24:Df:=cU "is_unasked" s24 [false,false,false]
abbrev d25:Df:=cU "led_to" s25 [false,false,false,false]
abbrev d26:Df:=cU "changed" s26 [false,false,false]
abbrev d27:Df:=cU "newly_met" s27 [false,false,false,true]
abbrev d28:Df:=cU "fault" s28 [false,false]
abbrev d29:Df:=cU "fault_at" s29 [false,false,false,false]
abbrev d30:Df:=cU "has_out" s30 [false,false]
abbrev d31:Df:=cU "fault_of_step" s31 [false,false,false,false,false]
abbrev d32:Df:=cU "check_waits" s32 [false,false,false]
abbrev d33:Df:=cU "since_when" s33 [false,false,false]
abbrev d34:Df:=cU "round_from" s34 [false,false,false]
abbrev d35:Df:=cU "time_behind" s35 [false,false]
abbrev d36:Df:=cU "_law_cell_at" s36 [false,false]
abbrev d37:Df:=cU "_law_mixed" s37 [false,false,false]
abbrev d38:Df:=cU "_law_next" s38 [false,true,false]
abbrev d39:Df:=cU "_law_ring" s39 [false,true]
abbrev d40:Df:=cU "law" s40 [false]
abbrev d41:Df:=cU "pace" s41 [false,false,false]
abbrev dI:Df:={x:="__init__",st:=s90,N:=fJ,ps:=fJ,fl:=[]}
noncomputable def ds:List Df:=[d0,d1,d2,d3,d4,d5,d6,d7,d8,d9,d10,d11,d12,d13,d14,d15,d16,d17,d18,d19,d20,d21,d22,d23,d24,d25,d26,d27,d28,d29,d30,d31,d32,d33,d34,d35,d36,d37,d38,d39,d40,d41]
noncomputable def dR:List Str:=["LETTERS","LONGEST_NAME","WORDS","MOST_INPUTS","MOST_GATES","MOST_WIRES","MOST_TABLE_WIRES","DEEPEST_HELD","MOST_STATES","LONGEST_WAIT"]
noncomputable def vals:List D:=[.str "abcdefghijklmnopqrstuvwxyz",.int 6,.tup [.str "input",.str "gate",.str "start",.str "out",.str "state",.str "same",.str "not",.str "and",.str "or",.str "both",.str "held",.str "table",.str "on",.str "off"],.int 3,.int 5,.int 4,.int 8,.int 3,.int 12,.int 99]
def tx:Br:=⟨32,4,22,23,25,33,.bi .dict (.zip (.call 13 AAZ) (.var 3)),0⟩
def ty:KH:=⟨35,34⟩
def pg:Pg:=nj ds dR vals 41 fun _ c=>gY tx ty c
def scp:ds.all I9=true:=by decide+kernel
def mF:(ds.take 41).all (fun d=>(fnOf ds dR d).isSome)=true:=by decide+kernel
def bd:BJ ds:=⟨fun _ _ _ _ _ _ us hl=>by obtain⟨_,rfl⟩:=sX hl;rfl,fun _ _ _ _ _ _ us hl=>by obtain⟨_,rfl⟩:=sX hl;rfl,fun _ _ _ _ _ _ us hl=>by obtain⟨_,rfl⟩:=sX hl;rfl,fun _ _ _ _ _ _ us hl=>by obtain⟨_,_,_,rfl⟩:=jR hl;rfl,fun _ _ _ _ _ _ us hl=>by obtain⟨_,_,_,rfl⟩:=jR hl;rfl,fun _ _ _ _ _ _ us hl=>by obtain⟨_,rfl⟩:=sX hl;rfl,fun _ _ _ _ _ _ us hl=>by obtain⟨_,rfl⟩:=sX hl;rfl,fun _ _ _ _ _ _ us hl=>by obtain⟨_,_,rfl⟩:=oE hl;rfl,fun _ _ _ _ _ _ us hl=>by obtain⟨_,_,rfl⟩:=oE hl;rfl,fun _ _ _ _ _ _ us hl=>by obtain⟨_,_,_,_,rfl⟩:=JT hl;rfl,fun _ _ _ _ _ _ us hl=>by obtain⟨_,_,rfl⟩:=oE hl;rfl,fun _ _ _ _ _ _ us hl=>by obtain⟨_,_,_,rfl⟩:=jR hl;rfl,fun _ _ _ _ _ _ us hl=>by obtain⟨_,_,_,rfl⟩:=jR hl;rfl,fun _ _ _ _ _ _ us hl=>by obtain⟨_,rfl⟩:=sX hl;rfl,fun _ _ _ _ _ _ us hl=>by obtain⟨_,_,rfl⟩:=oE hl;rfl,fun _ _ _ _ _ _ us hl=>by obtain⟨_,_,_,rfl⟩:=jR hl;rfl,fun _ _ _ _ _ _ us hl=>by obtain⟨_,_,_,rfl⟩:=jR hl;rfl,fun _ _ _ _ _ _ us hl=>by obtain⟨_,_,rfl⟩:=oE hl;rfl,fun _ _ _ _ _ _ us hl=>by obtain⟨_,_,rfl⟩:=oE hl;rfl,fun _ _ _ _ _ _ us hl=>by obtain⟨_,_,_,rfl⟩:=jR hl;rfl,fun _ _ _ _ _ _ us hl=>by obtain⟨_,_,_,rfl⟩:=jR hl;rfl,fun _ _ _ _ _ _ us hl=>by obtain⟨_,_,rfl⟩:=oE hl;rfl,fun _ _ _ _ _ _ us hl=>by obtain⟨_,rfl⟩:=sX hl;rfl,fun _ _ _ _ _ _ us hl=>by obtain⟨_,_,_,rfl⟩:=jR hl;rfl,fun _ _ _ _ _ _ us hl=>by obtain⟨_,_,_,rfl⟩:=jR hl;rfl,fun _ _ _ _ _ _ us hl=>by obtain⟨_,_,_,_,rfl⟩:=JT hl;rfl,fun _ _ _ _ _ _ us hl=>by obtain⟨_,_,_,rfl⟩:=jR hl;rfl,fun _ _ _ _ _ _ us hl=>by obtain⟨_,_,_,_,rfl⟩:=JT hl;rfl,fun _ _ _ _ _ _ us hl=>by obtain⟨_,_,rfl⟩:=oE hl;rfl,fun _ _ _ _ _ _ us hl=>by obtain⟨_,_,_,_,rfl⟩:=JT hl;rfl,fun _ _ _ _ _ _ us hl=>by obtain⟨_,_,rfl⟩:=oE hl;rfl,fun _ _ _ _ _ _ us hl=>by obtain⟨_,_,_,_,_,rfl⟩:=afw hl;rfl,fun _ _ _ _ _ _ us hl=>by obtain⟨_,_,_,rfl⟩:=jR hl;rfl,fun _ _ _ _ _ _ us hl=>by obtain⟨_,_,_,rfl⟩:=jR hl;rfl,fun _ _ _ _ _ _ us hl=>by obtain⟨_,_,_,rfl⟩:=jR hl;rfl,fun _ _ _ _ _ _ us hl=>by obtain⟨_,_,rfl⟩:=oE hl;rfl,fun _ _ _ _ _ _ us hl=>by obtain⟨_,_,rfl⟩:=oE hl;rfl,fun _ _ _ _ _ _ us hl=>by obtain⟨_,_,_,rfl⟩:=jR hl;rfl,fun _ _ _ _ _ _ us hl=>by obtain⟨_,_,_,rfl⟩:=jR hl;rfl,fun _ _ _ _ _ _ us hl=>by obtain⟨_,_,rfl⟩:=oE hl;rfl,fun _ _ _ _ _ _ us hl=>by obtain⟨_,rfl⟩:=sX hl;rfl,fun _ _ _ _ _ _ us hl=>by obtain⟨_,_,_,rfl⟩:=jR hl;rfl,trivial⟩
noncomputable def nms:List (Str×Stmt):=("checked",s0)::("is_net",s1)::("has_parts",s2)::("is_tuple",s3)::("is_number",s4)::("is_name",s5)::("are_unlike",s6)::("is_row",s7)::("is_wire",s8)::("are_wires",s9)::("are_rows",s10)::("is_kind",s11)::("is_held",s12)::("wire_names",s13)::("waiting_gates",s14)::("told",s15)::("told_held",s16)::("checked_talk",s17)::("is_talk",s18)::("is_state",s19)::("steps",s20)::("stands",s21)::("first_stand",s22)::("steps_at",s23)::("is_unasked",s24)::("led_to",s25)::("changed",s26)::("newly_met",s27)::("fault",s28)::("fault_at",s29)::("has_out",s30)::("fault_of_step",s31)::("check_waits",s32)::("since_when",s33)::("round_from",s34)::("time_behind",s35)::("_law_cell_at",s36)::("_law_mixed",s37)::("_law_next",s38)::("_law_ring",s39)::("law",s40)::("pace",s41)::[]
end Tx
end
section
open PySem
section
open Mini
namespace Tx
def bw{n i:Nat}{g:Fn}{ps us:List Sl}(h:pg.fns[i]? =some g:=by kernel_rfl)(e:us=ps++List.replicate (g.names-g.pars) .un:=by rfl)(l:ps.length=g.pars:=by rfl):pg.fn (n+1) i ps=fin g.pars (ex (pg.cf n) g.body us):=by subst e;refine Eq.trans ?_ (RK _ _ _ l);show(match pg.fns[i]? with|some g=>gW (pg.cf n) g ps|none=>pg.pf (pg.cf n) i ps)=_;rw[h]
noncomputable def pU:Fn:=⟨1,1,(.cons (.ite (.not (.call 1 AAS)) ABZ .nil) (.cons (.ret (.var 0)) .nil))⟩
def Jm(n:Nat)(p0:Sl):pg.fn (n+1) 0 [p0]=fin 1 (ex (pg.cf n) pU.body [p0]):=bw (g:=pU)
noncomputable def uy:Fn:=⟨1,2,(.cons (.ite (.or (.cons (.not (.call 3 (.cons (.var 0) (.cons ABk (.cons ABk .nil))))) (.cons (.not (.call 2 AAS)) .nil))) AAP .nil) (.cons (.set 1 ACG) (.cons (.ite (.or (.cons (.not (.bi .all ABm)) (.cons (.not (.call 6 AAZ)) .nil))) AAP .nil) (.cons (.ret (.and (.cons (.bi .all ABH) (.cons (.call 7 (.cons AAn AAt)) .nil)))) .nil))))⟩
def MN(n:Nat)(p0:Sl):pg.fn (n+1) 1 [p0]=fin 1 (ex (pg.cf n) uy.body [p0,.un]):=bw (g:=uy)
noncomputable def lw:Fn:=⟨1,1,(.cons (.ite (.or (.cons (.not (.call 3 (.cons AAg (.cons AAH (.cons (.glob 3) .nil))))) (.cons (.not (.call 3 (.cons AAc (.cons AAG (.cons (.glob 4) .nil))))) .nil))) AAP .nil) (.cons (.ret (.bi .all (.comp 1 (.name 0) AAc AAL AAi))) .nil))⟩
def zF(n:Nat)(p0:Sl):pg.fn (n+1) 2 [p0]=fin 1 (ex (pg.cf n) lw.body [p0]):=bw (g:=lw)
noncomputable def jJ:Fn:=⟨3,3,(.cons (.ret (.and (.cons (.isi (.var 0) .tup) (.cons (.chain .le .le (.var 1) ABX (.var 2)) .nil)))) .nil)⟩
def rY(n:Nat)(p0 p1 p2:Sl):pg.fn (n+1) 3 [p0,p1,p2]=fin 3 (ex (pg.cf n) jJ.body [p0,p1,p2]):=bw (g:=jJ)
noncomputable def iI:Fn:=⟨3,3,(.cons (.ret (.and (.cons (.isi (.var 0) .int) (.cons (.not (.isi (.var 0) .bool)) (.cons (.chain .le .le (.var 1) (.var 0) (.var 2)) .nil))))) .nil)⟩
def qe(n:Nat)(p0 p1 p2:Sl):pg.fn (n+1) 4 [p0,p1,p2]=fin 3 (ex (pg.cf n) iI.body [p0,p1,p2]):=bw (g:=iI)
noncomputable def wD:Fn:=⟨1,1,(.cons (.ite (.or (.cons (.not (.isi (.var 0) .str)) (.cons (.not (.chain .le .le AAG ABX (.glob 1))) .nil))) AAP .nil) (.cons (.ret (.and (.cons (.bi .all (.comp 1 (.name 0) (.var 0) AAL (.cmp .isin (.var 0) (.glob 0)))) (.cons (.cmp .notin (.var 0) (.glob 2)) .nil)))) .nil))⟩
def aab(n:Nat)(p0:Sl):pg.fn (n+1) 5 [p0]=fin 1 (ex (pg.cf n) wD.body [p0]):=bw (g:=wD)
noncomputable def jK:Fn:=⟨1,1,(.cons (.ret (.bi .all ABT)) .nil)⟩
def xq(n:Nat)(p0:Sl):pg.fn (n+1) 6 [p0]=fin 1 (ex (pg.cf n) jK.body [p0]):=bw (g:=jK)
noncomputable def ux:Fn:=⟨2,2,(.cons (.ret (.and (.cons (.call 3 (.cons (.var 0) (.cons (.var 1) AAZ))) (.cons (.bi .all ABe) .nil)))) .nil)⟩
def MK(n:Nat)(p0 p1:Sl):pg.fn (n+1) 7 [p0,p1]=fin 2 (ex (pg.cf n) ux.body [p0,p1]):=bw (g:=ux)
noncomputable def pO:Fn:=⟨2,2,(.cons (.ret (.and (.cons (.isi (.var 0) .str) (.cons (.cmp .isin (.var 0) (.var 1)) .nil)))) .nil)⟩
def Ji(n:Nat)(p0 p1:Sl):pg.fn (n+1) 8 [p0,p1]=fin 2 (ex (pg.cf n) pO.body [p0,p1]):=bw (g:=pO)
noncomputable def lA:Fn:=⟨4,4,(.cons (.ite (.not (.call 3 (.cons (.var 0) (.cons (.var 2) AAp)))) AAP .nil) (.cons (.ret (.and (.cons (.bi .all ABO) (.cons (.call 6 AAS) .nil)))) .nil))⟩
def zG(n:Nat)(p0 p1 p2 p3:Sl):pg.fn (n+1) 9 [p0,p1,p2,p3]=fin 4 (ex (pg.cf n) lA.body [p0,p1,p2,p3]):=bw (g:=lA)
noncomputable def uz:Fn:=⟨2,2,(.cons (.ite (.or (.cons (.not (.isi (.var 0) .tup)) (.cons (.not (.bi .all (.comp 1 (.name 0) (.var 0) AAL (.call 7 (.cons (.var 0) ABs))))) .nil))) AAP .nil) (.cons (.ret (.bi .all (.comp 2 (.tup [0,1]) (.zip (.var 0) (.slc (.var 0) AAG .noneE)) AAL (.cmp .lt (.var 0) (.var 1))))) .nil))⟩
def Xo(n:Nat)(p0 p1:Sl):pg.fn (n+1) 10 [p0,p1]=fin 2 (ex (pg.cf n) uz.body [p0,p1]):=bw (g:=uz)
noncomputable def lZ:Fn:=⟨3,5,(.cons (.ite (.or (.cons (.not (.call 3 (.cons (.var 0) (.cons AAQ (.cons (.con (.int 4)) .nil))))) (.cons (.not (.isi AAg .str)) .nil))) AAP .nil) (.cons (.set 3 AAg) (.cons (.set 4 ABX) (.cons (.ite (.cmp .isin (.var 3) (.tup (.cons (.con (.str "same")) (.cons (.con (.str "not")) .nil)))) (.cons (.ret (.and (.cons ABp (.cons (.call 8 (.cons AAc AAZ)) .nil)))) .nil) .nil) (.cons (.ite (.cmp .isin (.var 3) (.tup (.cons (.con (.str "and")) (.cons (.con (.str "or")) .nil)))) (.cons (.ret (.and (.cons ABp (.cons (.call 9 (.cons AAc (.cons (.var 1) (.cons AAG (.cons (.glob 5) .nil))))) .nil)))) .nil) .nil) (.cons (.ite (.cmp .eq (.var 3) (.con (.str "both"))) (.cons (.ret (.and (.cons ABp (.cons (.call 9 (.cons AAc (.cons (.var 1) (.cons AAQ (.cons (.glob 5) .nil))))) .nil)))) .nil) .nil) (.cons (.ite ABP (.cons (.ret (.and (.cons (.cmp .eq (.var 4) ABk) (.cons (.call 9 (.cons AAc (.cons (.var 1) (.cons AAG (.cons (.glob 6) .nil))))) (.cons (.call 10 (.cons AAn (.cons (.bi .len AAc) .nil))) .nil))))) .nil) .nil) (.cons (.ite ABQ (.cons (.ret (.and (.cons (.cmp .eq (.var 4) (.con (.int 4))) (.cons (.cmp .lt (.var 2) (.glob 7)) (.cons (.call 12 (.cons (.var 0) (.cons (.var 1) (.cons (.op .add (.var 2) AAG) .nil)))) .nil))))) .nil) .nil) AAP))))))))⟩
def vy(n:Nat)(p0 p1 p2:Sl):pg.fn (n+1) 11 [p0,p1,p2]=fin 3 (ex (pg.cf n) lZ.body [p0,p1,p2,.un,.un]):=bw (g:=lZ)
noncomputable def pQ:Fn:=⟨3,3,(.cons (.ret (.and (.cons (.call 11 (.cons AAc AAR)) (.cons (.call 8 (.cons AAn AAZ)) (.cons (.isi (.idx (.var 0) ABk) .bool) .nil))))) .nil)⟩
def Jk(n:Nat)(p0 p1 p2:Sl):pg.fn (n+1) 12 [p0,p1,p2]=fin 3 (ex (pg.cf n) pQ.body [p0,p1,p2]):=bw (g:=pQ)
noncomputable def jE:Fn:=⟨1,1,(.cons (.ret (.op .add (.bi .list AAg) (.comp 1 (.name 0) AAc AAL AAg))) .nil)⟩
def xg(n:Nat)(p0:Sl):pg.fn (n+1) 13 [p0]=fin 1 (ex (pg.cf n) jE.body [p0]):=bw (g:=jE)
noncomputable def gD:Fn:=⟨2,3,(.cons (.set 2 (.bi .dict ABN)) (.cons (.ret (.comp 2 (.tup [0,1]) AAc AAV (.var 0))) .nil))⟩
def qz(n:Nat)(p0 p1:Sl):pg.fn (n+1) 14 [p0,p1]=fin 2 (ex (pg.cf n) gD.body [p0,p1,.un]):=bw (g:=gD)
noncomputable def Fo:Fn:=⟨3,5,(.cons (.set 3 AAg) (.cons (.ite ABr (.cons (.ret ABi) .nil) .nil) (.cons (.ite ABv (.cons (.ret (.not ABi)) .nil) .nil) (.cons (.ite ABQ ACI .nil) (.cons (.set 4 (.bi .tuple (.comp 1 (.name 0) AAc AAL (.idx (.var 3) (.var 0))))) (.cons (.ite ABw ABu .nil) (.cons (.ite ABx ABt .nil) (.cons (.ite ABP ABn .nil) AAs))))))))⟩
def My(n:Nat)(p0 p1 p2:Sl):pg.fn (n+1) 15 [p0,p1,p2]=fin 3 (ex (pg.cf n) Fo.body [p0,p1,p2,.un,.un]):=bw (g:=Fo)
noncomputable def kZ:Fn:=⟨3,5,(.cons (.set 3 (.call 15 (.cons AAc AAR))) (.cons (.set 4 (.cmp .eq (.idx (.var 2) AAn) (.var 3))) (.cons (.ret (.ite (.cmp .eq (.var 4) (.idx (.var 0) ABk)) (.var 3) (.var 1))) .nil)))⟩
def zA(n:Nat)(p0 p1 p2:Sl):pg.fn (n+1) 16 [p0,p1,p2]=fin 3 (ex (pg.cf n) kZ.body [p0,p1,p2,.un,.un]):=bw (g:=kZ)
noncomputable def iu:Fn:=⟨2,2,(.cons (.ite (.not (.call 18 (.cons (.call 0 AAS) AAZ))) ABZ .nil) (.cons (.ret (.var 1)) .nil))⟩
def rZ(n:Nat)(p0 p1:Sl):pg.fn (n+1) 17 [p0,p1]=fin 2 (ex (pg.cf n) iu.body [p0,p1]):=bw (g:=iu)
noncomputable def pP:Fn:=⟨2,4,(.cons (.ite (.not (.call 3 (.cons (.var 1) (.cons AAQ (.cons AAQ .nil))))) AAP .nil) (.cons (.set 2 (.comp 1 (.name 0) AAc AAL AAg)) (.cons (.ite (.or (.cons (.not (.call 9 (.cons AAw (.cons (.var 2) (.cons AAH (.cons ACH .nil)))))) (.cons (.not (.call 3 (.cons AAx (.cons AAG (.cons (.glob 8) .nil))))) .nil))) AAP .nil) (.cons (.set 3 (.op .add AAg AAw)) (.cons (.ret (.bi .all AAm)) .nil)))))⟩
def Jj(n:Nat)(p0 p1:Sl):pg.fn (n+1) 18 [p0,p1]=fin 2 (ex (pg.cf n) pP.body [p0,p1,.un,.un]):=bw (g:=pP)
noncomputable def nM:Fn:=⟨3,3,(.cons (.ite (.or (.cons (.not (.call 3 (.cons (.var 0) (.cons AAH AAt)))) (.cons (.not (.bi .all ABz)) .nil))) AAP .nil) (.cons (.ite (.not (.call 9 (.cons (.bi .tuple (.comp 1 (.name 0) (.var 0) AAL AAg)) (.cons (.var 1) (.cons AAH AAt))))) AAP .nil) (.cons (.ret (.bi .all AAv)) .nil)))⟩
def CV(n:Nat)(p0 p1 p2:Sl):pg.fn (n+1) 19 [p0,p1,p2]=fin 3 (ex (pg.cf n) nM.body [p0,p1,p2]):=bw (g:=nM)
noncomputable def yw:Fn:=⟨3,3,(.cons (.ret (.call 23 (.cons (.var 0) (.cons AAu ABs)))) .nil)⟩
def R6(n:Nat)(p0 p1 p2:Sl):pg.fn (n+1) 20 [p0,p1,p2]=fin 3 (ex (pg.cf n) yw.body [p0,p1,p2]):=bw (g:=yw)
noncomputable def uw:Fn:=⟨2,4,(.cons (.expr AAu) (.cons ABb (.cons (.set 3 ABy) (.cons (.while_ (.var 3) AAb) (.cons (.ret ABy) .nil)))))⟩
def Mz(n:Nat)(p0 p1:Sl):pg.fn (n+1) 21 [p0,p1]=fin 2 (ex (pg.cf n) uw.body [p0,p1,.un,.un]):=bw (g:=uw)
noncomputable def mK:Fn:=⟨1,1,(.cons (.ret (.tup (.cons AAn (.cons AAH .nil)))) .nil)⟩
def Q4(n:Nat)(p0:Sl):pg.fn (n+1) 22 [p0]=fin 1 (ex (pg.cf n) mK.body [p0]):=bw (g:=mK)
noncomputable def nG:Fn:=⟨3,4,(.cons (.set 3 ABq) (.cons (.ret (.op .add (.comp 1 (.name 0) AAg (.cmp .isin (.var 0) (.var 4)) (.var 0)) ABa)) .nil))⟩
def CP(n:Nat)(p0 p1 p2:Sl):pg.fn (n+1) 23 [p0,p1,p2]=fin 3 (ex (pg.cf n) nG.body [p0,p1,p2,.un]):=bw (g:=nG)
noncomputable def jH:Fn:=⟨3,3,(.cons (.ret (.and (.cons (.cmp .isin (.var 2) AAg) (.cons (.cmp .notin (.var 2) (.bi .dict (.idx AAc AAx))) .nil)))) .nil)⟩
def xn(n:Nat)(p0 p1 p2:Sl):pg.fn (n+1) 24 [p0,p1,p2]=fin 3 (ex (pg.cf n) jH.body [p0,p1,p2]):=bw (g:=jH)
noncomputable def oW:Fn:=⟨4,5,(.cons (.ite (.call 24 ABV) ABM .nil) (.cons (.set 4 ABq) (.cons (.ret (.tup (.cons (.call 26 (.cons (.var 0) (.cons (.idx (.var 2) AAH) AAp))) (.cons (.get2 (.var 4) (.var 3) (.idx (.var 2) AAG)) .nil)))) .nil)))⟩
def MJ(n:Nat)(p0 p1 p2 p3:Sl):pg.fn (n+1) 25 [p0,p1,p2,p3]=fin 4 (ex (pg.cf n) oW.body [p0,p1,p2,p3,.un]):=bw (g:=oW)
noncomputable def pW:Fn:=⟨3,3,(.cons (.ret (.bi .tuple (.comp 2 (.tup [0,1]) ABN AAL (.ite ABh (.not (.var 1)) (.var 1))))) .nil)⟩
def Jo(n:Nat)(p0 p1 p2:Sl):pg.fn (n+1) 26 [p0,p1,p2]=fin 3 (ex (pg.cf n) pW.body [p0,p1,p2]):=bw (g:=pW)
noncomputable def lq:Fn:=⟨4,7,(.cons (.set 4 ABK) (.cons (.for_ (.name 5) (.call 23 ABd) (.cons ABJ (.cons (.ite (.and (.cons (.cmp .notN (.var 6) ABj) ABo)) AAq .nil) .nil))) ABg))⟩
def zB(n:Nat)(p0 p1 p2 p3:Sl):pg.fn (n+1) 27 [p0,p1,p2,p3]=fin 4 (ex (pg.cf n) lq.body [p0,p1,p2,p3,.un,.un,.un]):=bw (g:=lq)
noncomputable def yx:Fn:=⟨2,5,(.cons (.expr AAu) (.cons ABb (.cons (.set 3 ABy) (.cons (.while_ (.var 3) (.cons AAo (.cons (.ite (.cmp .notN (.var 4) ABj) ABg .nil) AAb))) ABM))))⟩
def R7(n:Nat)(p0 p1:Sl):pg.fn (n+1) 28 [p0,p1]=fin 2 (ex (pg.cf n) yx.body [p0,p1,.un,.un,.un]):=bw (g:=yx)
noncomputable def nO:Fn:=⟨4,7,(.cons (.set 4 (.call 23 ABd)) (.cons (.ite (.and (.cons (.not (.var 4)) (.cons (.call 30 AAR) .nil))) (.cons (.ret (.tup (.cons (.con (.str "stuck")) AAp))) .nil) .nil) (.cons (.for_ (.name 5) (.var 4) (.cons AAk (.cons (.ite (.cmp .notN (.var 6) ABj) (.cons (.ret (.var 6)) .nil) .nil) .nil))) ABM)))⟩
def CW(n:Nat)(p0 p1 p2 p3:Sl):pg.fn (n+1) 29 [p0,p1,p2,p3]=fin 4 (ex (pg.cf n) nO.body [p0,p1,p2,p3,.un,.un,.un]):=bw (g:=nO)
noncomputable def pR:Fn:=⟨2,2,(.cons (.ret (.bi .any (.comp 1 (.name 0) (.idx AAc AAx) AAL (.cmp .isin AAg AAw)))) .nil)⟩
def Jl(n:Nat)(p0 p1:Sl):pg.fn (n+1) 30 [p0,p1]=fin 2 (ex (pg.cf n) pR.body [p0,p1]):=bw (g:=pR)
noncomputable def gF:Fn:=⟨5,7,(.cons (.ite (.call 24 ABV) (.cons (.ret (.tup (.cons (.con (.str "unasked")) (.cons (.var 4) .nil)))) .nil) .nil) (.cons (.set 5 (.call 14 (.cons (.var 0) (.cons (.idx (.call 25 (.cons (.var 0) ABV)) AAH) .nil)))) (.cons (.for_ (.name 6) ABa (.cons (.ite ABL ABG .nil) .nil)) ABM)))⟩
def qC(n:Nat)(p0 p1 p2 p3 p4:Sl):pg.fn (n+1) 31 [p0,p1,p2,p3,p4]=fin 5 (ex (pg.cf n) gF.body [p0,p1,p2,p3,p4,.un,.un]):=bw (g:=gF)
noncomputable def iU:Fn:=⟨3,4,(.cons (.expr AAu) (.cons (.set 3 (.bi .len AAn)) (.cons (.ite (.or (.cons ABc (.cons (.not (.bi .all (.comp 1 (.name 0) (.var 2) AAL (.call 4 AAy)))) .nil))) ABZ .nil) .nil)))⟩
def uI(n:Nat)(p0 p1 p2:Sl):pg.fn (n+1) 32 [p0,p1,p2]=fin 3 (ex (pg.cf n) iU.body [p0,p1,p2,.un]):=bw (g:=iU)
noncomputable def jF:Fn:=⟨3,3,(.cons (.ret (.bi .dict (.comp 1 (.name 0) (.var 0) AAL (.tup AAr)))) .nil)⟩
def xj(n:Nat)(p0 p1 p2:Sl):pg.fn (n+1) 33 [p0,p1,p2]=fin 3 (ex (pg.cf n) jF.body [p0,p1,p2]):=bw (g:=jF)
noncomputable def jG:Fn:=⟨3,5,(.cons (.set 4 (.comp 2 (.tup [0,1]) (.slc (.var 1) (.var 2) .noneE) AAL (.var 1))) (.cons ABY (.cons (.ret (.tup (.cons (.var 2) (.cons (.var 3) (.cons (.comp 1 (.name 0) ACG AAL (.count (.var 5) (.var 0))) .nil))))) .nil)))⟩
def xm(n:Nat)(p0 p1 p2:Sl):pg.fn (n+1) 34 [p0,p1,p2]=fin 3 (ex (pg.cf n) jG.body [p0,p1,p2,.un,.un]):=bw (g:=jG)
noncomputable def fY:Fn:=⟨2,2,(.cons (.ret (.ite (.cmp .gt (.var 1) AAH) (.idx (.idx (.var 0) (.op .sub (.var 1) AAG)) AAH) AAH)) .nil)⟩
def mH(n:Nat)(p0 p1:Sl):pg.fn (n+1) 35 [p0,p1]=fin 2 (ex (pg.cf n) fY.body [p0,p1]):=bw (g:=fY)
noncomputable def eF:Fn:=⟨2,2,(.cons (.ite (.cmp .lt (.var 1) ABX) (.cons (.ret (.idx (.var 0) (.var 1))) .nil) .nil) (.cons (.ite (.cmp .eq (.var 0) ABK) (.cons (.ret AAH) .nil) .nil) (.cons (.ret (.op .add (.op .mul (.idx (.var 0) (.op .mod (.var 1) ABX)) (.con (.int 31))) (.var 1))) .nil)))⟩
def iM(n:Nat)(p0 p1:Sl):pg.fn (n+1) 36 [p0,p1]=fin 2 (ex (pg.cf n) eF.body [p0,p1]):=bw (g:=eF)
noncomputable def lu:Fn:=⟨3,4,(.cons (.set 3 (.op .mod (.op .mul (.op .add (.op .add (.call 36 (.cons (.var 0) AAZ)) (.op .mul (.con (.int 7919)) (.var 1))) AAG) (.con (.int 48271))) (.con (.int 2147483647)))) (.cons (.ret (.op .mod (.op .mod (.op .add (.op .add (.op .mul (.var 3) (.var 3)) (.op .mul (.con (.int 7)) (.var 3))) (.var 1)) (.con (.int 2147483629))) (.var 2))) .nil))⟩
def zE(n:Nat)(p0 p1 p2:Sl):pg.fn (n+1) 37 [p0,p1,p2]=fin 3 (ex (pg.cf n) lu.body [p0,p1,p2,.un]):=bw (g:=lu)
noncomputable def nJ:Fn:=⟨3,3,(.cons (.setIx 1 AAH (.op .add AAw AAG)) (.cons (.ret (.call 37 (.cons (.var 0) (.cons AAw ABs)))) .nil))⟩
def CT(n:Nat)(p0 p1 p2:Sl):pg.fn (n+1) 38 [p0,p1,p2]=fin 3 (ex (pg.cf n) nJ.body [p0,p1,p2]):=bw (g:=nJ)
noncomputable def nH:Fn:=⟨2,5,(.cons AAT (.cons (.set 3 ABK) (.cons (.for_ (.name 4) (.range1 ACH) AAf) (.cons (.ret (.tup (.cons (.tup .nil) (.cons (.bi .tuple (.var 3)) (.cons (.bi .tuple (.comp 1 (.name 0) (.var 2) AAL ABR)) .nil))))) .nil))))⟩
def CQ(n:Nat)(p0 p1:Sl):pg.fn (n+1) 39 [p0,p1]=fin 2 (ex (pg.cf n) nH.body [p0,p1,.un,.un,.un]):=bw (g:=nH)
noncomputable def Qw:Fn:=⟨1,8,(.cons AAa (.cons AAj (.cons ABS (.cons (.ite (.cmp .notN (.call 28 AAR) ABj) AAP .nil) (.cons (.set 4 (.bi .tuple (.comp 1 (.name 0) ABl AAL (.op .add AAG AAl)))) (.cons (.set 5 (.bi .len (.comp 1 (.name 0) ABl (.cmp .ne ABW AAz) (.var 0)))) (.cons AAX (.cons (.ite AAh (.cons (.ret (.and (.cons (.cmp .lW (.var 6) ABj) AAd))) .nil) .nil) (.cons (.ite (.cmp .ne (.comp 1 (.name 0) (.call 21 AAR) (.cmp .eq ABI ABK) (.var 0)) ABK) AAP .nil) (.cons ABf (.cons AAe .nil)))))))))))⟩
def abx(n:Nat)(p0:Sl):pg.fn (n+1) 40 [p0]=fin 1 (ex (pg.cf n) Qw.body [p0,.un,.un,.un,.un,.un,.un,.un]):=bw (g:=Qw)
def MF(n:Nat)(ps:List Sl):pg.fn (n+1) 41 ps=gY tx ty (pg.cf n) ps:=by show(match pg.fns[41]? with|some g=>gW (pg.cf n) g ps|none=>pg.pf (pg.cf n) 41 ps)=_;rw[show pg.fns[41]? =none by kernel_rfl];rfl
end Tx
end
end
section
open PySem Mini
namespace Tx
abbrev sc(ns:List Int):D:=.lst (ns.map .int)
def Qy(ns:List Int)(i:Int)(h0:0<=i)(h:i<ns.length):∃r:Int,at? (ns.map D.int) i=some (.int r):=by
 unfold at? ix?;rw[QAq,if_neg (by omega:¬i<0)];rw[if_pos ⟨h0,h⟩];have:i.toNat<ns.length:=by omega
 exact⟨ns[i.toNat],by simp[this]⟩
def zW(ns:List Int):lO (ns.map D.int)=true:=by
 induction ns with
 |nil=>rfl
 |cons i r ih=>simp[lO,nd,ih]
def Ks(ns:List Int):gn (ns.map D.int)=0:=by
 induction ns with
 |nil=>rfl
 |cons i r ih=>simp[gn,dep,ih]
def Qd(ns:List Int):aK .eq (.lst (ns.map .int)) (.lst [])=some ns.isEmpty:=by
 cases ns with
 |nil=>rfl
 |cons i ns=>simp[aK,oK,flat,nd,lO,dep,gn,dM,qI,zW,Ks]
def EY n ns k(hk:0<=k):∃r:Int,pg.fn (n+1) 36 [.val (sc ns),.val (.int k)]=.ok (.val (.int r)) [.val (sc ns),.val (.int k)]:=by
 by_cases h:k<ns.length
 ·obtain⟨r,e⟩:=Qy ns k hk h;exact⟨r,by rw[iM];simp[eF,h,e]⟩
 ·by_cases hn:ns=[]
  ·subst hn;have h0:¬k<0:=by omega
   exact⟨0,by rw[iM];simp[eF,h0,cV,fits,Qd []]⟩
  ·have hl':=List.length_pos_iff.mpr hn;have hl:(0:Int)<ns.length:=by omega
   obtain⟨r,e⟩:=Qy ns (k%ns.length) (Int.emod_nonneg _ (by omega)) (Int.emod_lt_of_pos _ hl);have he:ns.isEmpty=false:=by simpa using hn
   exact⟨r*31+k,by rw[iM];simp[eF,h,e,cV,fits,Qd,he,hl,hl',small]⟩
@[simp]theorem ahB(n:Nat):(pg.cf n).fn=pg.fn n:=rfl
@[simp]theorem ahA(n:Nat):(pg.cf n).gl=pg.gl:=rfl
@[simp]theorem acO(n:Nat):(pg.cf n).turns=4000000:=rfl
def zY n ns k many(hk:0<=k)(hm:0<many):∃r:Int,0<=r/\r<many/\
  pg.fn (n+2) 37 [.val (sc ns),.val (.int k),.val (.int many)]=.ok (.val (.int r)) [.val (sc ns),.val (.int k),.val (.int many)]:=by
 obtain⟨c,e⟩:=EY n ns k hk;have b:∀x:Int,small (x%2147483647)=true:=fun x=>by simp[small];omega
 have s1:small 7919=true:=by decide
 have s2:small 48271=true:=by decide
 refine⟨_,?_,?_,by rw[zE];simp[lu,e,s1,s2,s3,b,hm];rfl⟩
 ·exact Int.emod_nonneg _ (by omega)
 ·exact Int.emod_lt_of_pos _ hm
def nn1{k:Int}(h:0<=k):0<=k+1:=Int.le_trans h (Int.le_add_one (Int.le_refl k))
def GP n ns k many(hk:0<=k)(hm:0<many):∃r:Int,0<=r/\r<many/\
  pg.fn (n+3) 38 [.val (sc ns),.bor (.lst [.int k]),.val (.int many)]=.ok (.val (.int r)) [.val (sc ns),.bor (.lst [.int (k+1)]),.val (.int many)]:=by
 obtain⟨r,h1,h2,e⟩:=zY n ns _ many (nn1 hk) hm;refine⟨r,h1,h2,?_⟩;rw[CT];simp[nJ,at?,ix?,xu,e]
end Tx
end
section
open PySem Mini
namespace Tx
abbrev someσ(ns:List Int)(k:Int)(xs:List D)(least most:Int)(row:List D):Ev:=[.val (sc ns),.bor (.lst [.int k]),.val (.tup xs),.val (.int least),.val (.int most),.own (.lst row)]
end Tx
end
section
open PySem Mini
namespace Tx
def Z1(s:Sl):Prop:=s=.un\/∃d,s=.val d
def LC(h:Z1 s)d(r:Ev):fZ (.name 0) d (s::r)=some (.val d::r):=by rcases h with rfl|⟨e,rfl⟩<;>simp[fZ]
def HH:E:=ABR
def Uu(n:Nat)(ns:List Int)(k:Int)(hk:0<=k)(d:D)(rest:Ev):∃b:Bool,ev (pg.cf (n+3)) HH (.val d:: .val (sc ns):: .bor (.lst [.int k])::rest)=.ok (.val (.bl b)) (.val d:: .val (sc ns):: .bor (.lst [.int (k+1)])::rest):=by obtain⟨r,h1,h2,e⟩:=GP n ns k 2 hk (by omega);exact⟨r==1,by simp[HH,e]⟩
end Tx
end
section
open PySem Mini
namespace Tx
inductive pY(xs:List D):Nat->D->Prop
 |same {n:Nat} {x:D}:x∈xs->pY xs n (.tup [.str "same",x])
 |held {n:Nat} {k x:D} {b:Bool}:pY xs n k->x∈xs->pY xs (n+1) (.tup [.str "held",k,x,.bl b])
end Tx
end
section
open PySem Mini
namespace Tx
theorem Am(n:Nat)(ns:List Int)(rest:Ev):∀(xs acc:List D)(k:Int)(s:Sl),0<=k->Z1 s->∃(bs:List Bool)(k':Int)(s':Sl),bs.length=xs.length/\0<=k'/\Z1 s'/\
  bx (.name 0) (ev (pg.cf (n+3)) AAL) (ev (pg.cf (n+3)) HH) xs acc (s:: .val (sc ns):: .bor (.lst [.int k])::rest)=.ok (acc++bs.map .bl) (s':: .val (sc ns):: .bor (.lst [.int k'])::rest)
 |[]=>fun acc k s hk hs=>⟨[],k,s,rfl,hk,hs,by simp[bx]⟩
 |x::xs=>fun acc k s hk hs=>by
  obtain⟨b,e⟩:=Uu n ns k hk x rest;obtain⟨bs,k',s',a1,a2,a3,a4⟩:=Am n ns rest xs _ _ _ (nn1 hk) (.inr ⟨x,rfl⟩);refine⟨b::bs,k',s',by simp[a1],a2,a3,?_⟩;rw[bx,LC hs];have e1:∀σ,ev (pg.cf (n+3)) AAL σ=.ok (.val (.bl true)) σ:=fun σ=>by simp
  simp only[e1,kY,if_true];rw[e,gU,a4];simp
def hd(h:Nat):List D:=([.str "a",.str "b",.str "come"]:List D).take h
def gA(g:Nat):List D:=([.str "p",.str "q",.str "rr",.str "go",.str "abcdef"]:List D).take g
def nC(h2:h<=2):(hd h).length=h:=List.length_take_of_le (Nat.le_succ_of_le h2)
def fj(g4:g<=5):(gA g).length=g:=List.length_take_of_le g4
noncomputable def cG(h g:Nat)(ks:List D)(ls:List Bool):D:=.tup [.tup (hd h),.tup (cC (gA g) ks),.tup (ls.map .bl)]
structure gr(h g:Nat)(ks:List D)(ls:List Bool):Prop where
 h2:h<=2
 g1:1<=g
 g5:g<=5
 kl:ks.length=g
 kk:∀d∈ks,pY (hd h++gA g) 1 d
 ll:ls.length=h+g
end Tx
end
section
open PySem Mini
namespace Tx
def bG n xs a b(h1:a<=xs.length)(h2:xs.length<=b):pg.fn (n+1) 3 [.val (.tup xs),.val (.int a),.val (.int b)]=.ok (.val (.bl true)) [.val (.tup xs),.val (.int a),.val (.int b)]:=by rw[rY];simp[jJ,h1,h2]
def Wf:E:=.bi .all ABe
def J1 n bs m(h:m=bs.length):pg.fn (n+2) 7 [.val (cF bs),.val (.int m)]=.ok (.val (.bl true)) [.val (cF bs),.val (.int m)]:=by
 subst h;have e:ev (pg.cf (n+1)) Wf [.val (cF bs),.val (.int bs.length)]=.ok (.val (.bl true)) [.val (cF bs),.val (.int bs.length)]:=by refine all1 (r:=.val (cF bs)) (by simp) rfl rfl fun x hx=>?_;obtain⟨b,_,rfl⟩:=QDq.mp hx;simp
 have t:pg.fn _ 3 [.val (cF bs),.val _,.val _]=.ok _ [.val _,.val _,.val _]:=bG n _ bs.length bs.length (by simp) (by simp);rw[MK];have hb:ux=⟨2,2,(.cons (.ret (.and (.cons _ (.cons Wf .nil)))) .nil)⟩:=rfl;rw[hb];simp[t,e]
def dq(xs:List D):Prop:=∀x∈xs,∃s,x=.str s
def jm(h:dq xs):xs.all flat=true:=by rw[List.all_eq_true];intro x hx;obtain⟨s,rfl⟩:=h x hx;rfl
def qM{x:D}(hx:x∈xs)(h:dq xs):aP x xs=true:=by
 induction xs with
 |nil=>cases hx
 |cons y ys ih=>
  unfold aP;rcases QCq.mp hx with rfl|hx
  ·obtain⟨s,rfl⟩:=h x QYz;simp[dM]
  ·simp[ih hx fun z hz=>h z (QYq _ hz)]
def Et(h:dq xs)(nd:xs.Nodup)(hx:x∈xs):aQ x xs=1:=by
 induction xs with
 |nil=>cases hx
 |cons y ys ih=>
  have hys:=fun z hz=>h z (QYq _ hz);obtain⟨s,rfl⟩:=h y QYz;rw[List.nodup_cons]at nd;have zero:∀{zs:List D},dq zs->D.str s∉zs->aQ (.str s) zs=0:=by
   intro zs;induction zs with
   |nil=>intro _ _;rfl
   |cons z zs ihz=>intro hz hn;obtain⟨q,rfl⟩:=hz z QYz;have ne:q≠s:=fun e=>hn (by rw[e];exact QYz);simp[aQ,dM,ne,ihz (fun w hw=>hz w (QYq _ hw)) fun hw=>hn (QYq _ hw)]
  rcases QCq.mp hx with rfl|hx
  ·simp[aQ,dM,zero hys nd.1]
  ·obtain⟨q,rfl⟩:=hys x hx;have ne:s≠q:=fun e=>nd.1 (by rw[e];exact hx);simp[aQ,dM,ne,ih hys nd.2 hx]
def nA n{d:D}(dd:d=.tup xs\/d=.lst xs)(h:dq xs)(hx:x∈xs):pg.fn (n+1) 8 [.val x,.val d]=.ok (.val (.bl true)) [.val x,.val d]:=by
 obtain⟨s,rfl⟩:=h x hx;rw[Ji];have o:jT (.str s) xs=true:=by unfold jT;rw[jm h];rfl
 have e:aK .isin (.str s) d=some true:=by rcases dd with rfl|rfl<;>(show(if jT _ xs then some _ else none)=_;rw[o,qM hx h];rfl)
 simp[pO,e]
def wI:E:=.bi .all ABT
def mO n{d:D}(hd:d=.tup xs\/d=.lst xs)(h:dq xs)(nd:xs.Nodup):pg.fn (n+1) 6 [.val d]=.ok (.val (.bl true)) [.val d]:=by
 have e:ev (pg.cf n) wI [.val d]=.ok (.val (.bl true)) [.val d]:=by
  refine all1 (r:=.val d) (by simp) rfl (by rcases hd with rfl|rfl<;>rfl) fun x hx=>?_;obtain⟨s,rfl⟩:=h x hx;have e1:yq (.tup xs) (.str s)=some (.val (.int 1)):=by simp only[yq];rw[jm h,Et h nd hx];rfl
  have e2:yq (.lst xs) _=some _:=e1;rcases hd with rfl|rfl<;>simp[e1,e2]
 have hb:jK=⟨1,1,(.cons (.ret wI) .nil)⟩:=rfl;rw[xq,hb];have q:wI.aF=none:=rfl;simp[e,q]
def Ko:D->D
 |.tup (a::_)=>a
 |_=>.non
theorem FJ:∀(gs ks:List D),ks.length=gs.length->(cC gs ks).map Ko=gs
 |[],ks=>fun _=>by simp[cC]
 |g::gs,[]=>fun h=>by simp at h
 |g::gs,k::ks=>fun h=>by simp[cC,Ko,FJ gs ks (by simpa using h)]
def PQ(it:E):E:=.comp 1 (.name 0) it AAL AAg
def Aj{σ:Ev}gs ks(hl:ks.length=gs.length)(hi:ev c it σ=.ok (.val (.tup (cC gs ks))) σ):ev c (PQ it) σ=.ok (.new (.lst gs)) σ:=by
 have:=uf (el:=.idx (.var 0) AAH) Ko hi rfl rfl fun y hy=>by rw[fL]at hy;obtain⟨p,_,rfl⟩:=QDq.mp hy;simp[pairD,Ko]
 rw[FJ gs ks hl]at this;exact this
def dY n hs gs ks x(hl:ks.length=gs.length)(hf:hs.length+gs.length<=4000000):
  pg.fn (n+1) 13 [.val (.tup [.tup hs,.tup (cC gs ks),x])]=.ok (.new (.lst (hs++gs))) [.val (.tup [.tup hs,.tup (cC gs ks),x])]:=by
 have f:fits (hs.length+gs.length)=true:=by simp[fits];omega
 have hb:jE=⟨1,1,.cons (.ret (.op .add _ (PQ _))) .nil⟩:=rfl;rw[xg,hb];simp[Aj (c:=pg.cf n) (it:=.idx (.var 0) AAG) (σ:=[.val (.tup [.tup hs,.tup (cC gs ks),x])]) gs ks hl (by simp),f]
end Tx
end
section
open PySem Mini
namespace Tx
@[simp↓]theorem U5:decide (Str.ofString "same"=Str.ofString "same")=true:=rfl
@[simp↓]theorem U9:decide (Str.ofString "held"=Str.ofString "held")=true:=rfl
@[simp]theorem Wq:decide (Str.ofString "same"=Str.ofString "not")=false:=rfl
@[simp]theorem Ws:decide (Str.ofString "same"=Str.ofString "and")=false:=rfl
@[simp]theorem Z4:decide (Str.ofString "same"=Str.ofString "or")=false:=rfl
@[simp]theorem U7:decide (Str.ofString "same"=Str.ofString "both")=false:=rfl
@[simp]theorem Q9:decide (Str.ofString "same"=Str.ofString "table")=false:=rfl
@[simp]theorem U6:decide (Str.ofString "same"=Str.ofString "held")=false:=rfl
@[simp]theorem U8:decide (Str.ofString "held"=Str.ofString "same")=false:=rfl
@[simp]theorem Wu:decide (Str.ofString "held"=Str.ofString "not")=false:=rfl
@[simp]theorem Wv:decide (Str.ofString "held"=Str.ofString "and")=false:=rfl
@[simp]theorem Z5:decide (Str.ofString "held"=Str.ofString "or")=false:=rfl
@[simp]theorem Va:decide (Str.ofString "held"=Str.ofString "both")=false:=rfl
@[simp]theorem Ra:decide (Str.ofString "held"=Str.ofString "table")=false:=rfl
@[simp]theorem V4:aK .isin (.str "same") (.tup [.str "same",.str "not"])=some true:=rfl
@[simp]theorem V5:aK .isin (.str "held") (.tup [.str "same",.str "not"])=some false:=rfl
@[simp]theorem YC:aK .isin (.str "same") (.tup [.str "and",.str "or"])=some false:=rfl
@[simp]theorem YD:aK .isin (.str "held") (.tup [.str "and",.str "or"])=some false:=rfl
def gl7:pg.gl 7=some (.int 3):=rfl
def K7:E:=.bi .all ABO
def oX n{d:D}(dd:d=.tup xs\/d=.lst xs)(h:dq xs)(nd:xs.Nodup)(hs:ys.Sublist xs)a b(h1:a<=ys.length)(h2:ys.length<=b):
  pg.fn (n+2) 9 [.val (.tup ys),.val d,.val (.int a),.val (.int b)]=.ok (.val (.bl true)) [.val (.tup ys),.val d,.val (.int a),.val (.int b)]:=by
 have e:ev (pg.cf (n+1)) K7 [.val (.tup ys),.val d,.val (.int a),.val (.int b)]=.ok (.val (.bl true)) [.val (.tup ys),.val d,.val (.int a),.val (.int b)]:=by refine all1 (r:=.val (.tup ys)) (by simp) rfl rfl fun x hx=>?_;simp[nA n dd h (hs.subset hx)]
 have hb:lA=⟨4,4,(.cons _ (.cons (.ret (.and (.cons K7 _))) .nil))⟩:=rfl;rw[zG,hb];simp[bG n ys a b h1 h2,e,mO n (.inl rfl) (fun z hz=>h z (hs.subset hz)) (hs.nodup nd)]
def ajy xs:cut xs (some 1) none=xs.tail:=by
 cases xs with
 |nil=>rfl
 |cons x xs=>
  have:clip (xs.length+1) 1=1:=by simp[clip];omega
  simp[cut,this]
def afX n k:n+4+2*k=n+2+2*k+1+1:=by omega
def afW n k:n+3+2*k+1=n+4+2*k:=by omega
def afV n k:n+4+2*(k+1)=n+4+2*k+1+1:=by omega
theorem DQ{xs:List D}(h:dq xs)(nd:xs.Nodup):∀{k:Nat}{d:D},pY xs k d->∀(n:Nat)(dp:Int),dp+k<=3->
  pg.fn (n+4+2*k) 11 [.val d,.val (.lst xs),.val (.int dp)]=.ok (.val (.bl true)) [.val d,.val (.lst xs),.val (.int dp)]:=by
 intro k d hk;induction hk with
 | @same k x hx=>intro n dp _;have t:=bG (n+2+2*k) [.str "same",x] 2 4 (by simp) (by simp);have w:=nA (n+2+2*k) (.inr rfl) h hx;rw[afX,vy];simp[lZ,t,w,cV]
 | @held k d x b hk hx ih=>
  intro n dp hd;have t:=bG (n+4+2*k) [.str "held",d,x,.bl b] 2 4 (by simp) (by simp);have i:=ih n (dp+1) (by omega);have w:=nA (n+3+2*k) (.inr rfl) h hx;rw[afW]at w;have hl:pg.fn (n+4+2*k+1) 12 [.val (.tup [.str "held",d,x,.bl b]),.val (.lst xs),.val (.int (dp+1))]=.ok (.val (.bl true)) [.val (.tup [.str "held",d,x,.bl b]),.val (.lst xs),.val (.int (dp+1))]:=by rw[Jk];simp[pQ,i,w]
  have lt:dp<3:=by omega
  rw[afV,vy];simp[lZ,t,hl,cV,gl7,lt]
end Tx
end
section
open PySem Mini
namespace Tx
noncomputable def VJ(h g:Nat):List Str:=(["a","b","come"]:List Str).take h++(["p","q","rr","go","abcdef"]:List Str).take g
def names(h g:Nat):List D:=hd h++gA g
def oA h g:names h g=(VJ h g).map .str:=by simp[names,VJ,hd,gA,List.map_take]
def uK{ss:List Str}(h:ss.Nodup):(ss.map D.str).Nodup:=by
 induction ss with
 |nil=>simp
 |cons s ss ih=>rw[List.nodup_cons]at h;rw[Qyz,List.nodup_cons];exact⟨fun z=>h.1 (by simpa using z),ih h.2⟩
def names_nodup(h2:h<=2)(g1:1<=g)(g4:g<=5):(names h g).Nodup:=by rw[oA];exact uK (((List.take_sublist h _).append (List.take_sublist g _)).nodup (by decide))
def bB h g:dq (names h g):=fun x hx=>by rw[oA]at hx;obtain⟨s,_,rfl⟩:=QDq.mp hx;exact⟨s,rfl⟩
def fP(h2:h<=2)(g4:g<=5):(names h g).length=h+g:=by rw[names,QTq,nC h2,fj g4]
def TQ n s(hs:s∈VJ 3 5):pg.fn (n+1) 5 [.val (.str s)]=.ok (.val (.bl true)) [.val (.str s)]:=by
 have:VJ 3 5=(["a","b","come","p","q","rr","go","abcdef"]:List Str):=by rfl
 rw[this]at hs;simp only[QCq,QAz,or_false]at hs;rcases hs with rfl|rfl|rfl|rfl|rfl|rfl|rfl|rfl<;>kernel_rfl
def GK{s:Str}(hs:s∈VJ h g):s∈VJ 3 5:=by
 unfold VJ at*;rw[QXz]at*;rcases hs with hs|hs
 ·exact .inl (by have:=List.mem_of_mem_take hs;simpa using this)
 ·exact .inr (by have:=List.mem_of_mem_take hs;simpa using this)
def gl3:pg.gl 3=some (.int 3):=rfl
def gl4:pg.gl 4=some (.int 5):=rfl
def Dj:E:=.bi .all (.comp 1 (.name 0) AAc AAL AAi)
def Q7(h:ys.length=xs.length):(cC xs ys).length=xs.length:=by rw[fL];simp[h]
section
def j8(h g:Nat)(ks:List D)(X:D):D:=.tup [.tup (hd h),.tup (cC (gA g) ks),X]
def Af n(O:gr h g ks ls)X:pg.fn (n+2) 2 [.val (j8 h g ks X)]=.ok (.val (.bl true)) [.val (j8 h g ks X)]:=by
 have lg:=fj O.g5;have lh:=nC O.h2;have lz:(cC (gA g) ks).length=g:=by rw[Q7 (by rw[lg,O.kl]),lg]
 have e:ev (pg.cf (n+1)) Dj [.val (j8 h g ks X)]=.ok (.val (.bl true)) [.val (j8 h g ks X)]:=by refine all1 (r:=.val (.tup (cC (gA g) ks))) (by simp[j8]) rfl rfl fun x hx=>?_;rw[fL]at hx;obtain⟨p,_,rfl⟩:=QDq.mp hx;simp[pairD,bG n [p.1,p.2] 2 2 (by simp) (by simp)]
 have hb:lw=⟨1,1,(.cons _ (.cons (.ret Dj) .nil))⟩:=rfl;have q:Dj.aF=none:=rfl;rw[zF,hb];simp only[j8]at*;simp[bG n (hd h) 0 3 (by omega) (by have:=O.h2;omega),bG n (cC (gA g) ks) 1 5 (by have:=O.g1;omega) (by have:=O.g5;omega),gl3,gl4,e,q]
def VM:E:=.bi .all ABm
def V3:E:=.bi .all ABH
def OD n(O:gr h g ks ls)X b(t5:pg.fn (n+6) 7 [.val X,.val (.int (names h g).length)]=.ok (.val (.bl b)) [.val X,.val (.int (names h g).length)]):pg.fn (n+7) 1 [.val (j8 h g ks X)]=.ok (.val (.bl b)) [.val (j8 h g ks X)]:=by
 have lg:=fj O.g5;have lh:=nC O.h2;have T:=bB h g;have Nd:=names_nodup O.h2 O.g1 O.g5;have e1:ev (pg.cf (n+6)) VM [.val (j8 h g ks X),.own (.lst (names h g))]=.ok (.val (.bl true)) [.val (j8 h g ks X),.val (.lst (names h g))]:=by refine all1 (r:=.val (.lst (names h g))) (by simp) rfl rfl fun x hx=>?_;rw[oA]at hx;obtain⟨s,hs,rfl⟩:=QDq.mp hx;simp[TQ (n+5) s (GK hs)]
 have e2:ev (pg.cf (n+6)) V3 [.val (j8 h g ks X),.val (.lst (names h g))]=.ok (.val (.bl true)) [.val (j8 h g ks X),.val (.lst (names h g))]:=by refine all2 (r:=.val (.tup (cC (gA g) ks))) (by simp[j8]) rfl (by show some _=some _;rw[fL]) fun x hx=>?_;simp[DQ T Nd (O.kk x.2 (List.of_mem_zip hx).2) n 0 (by decide)]
 have hb:uy=⟨1,2,(.cons _ (.cons _ (.cons (.ite (.or (.cons (.not VM) _)) _ .nil) (.cons (.ret (.and (.cons V3 _))) .nil))))⟩:=rfl;rw[MN,hb];have nn:hd h++gA g=names h g:=rfl;have g2:getD (j8 h g ks X) (.int 2)=some X:=by simp[j8]
 have t1':pg.fn _ 3 [.val (j8 h g ks X),.val _,.val _]=.ok _ [.val _,.val _,.val _]:=bG (n+5) [.tup (hd h),.tup (cC (gA g) ks),X] 3 3 (by simp) (by simp);have t3':pg.fn _ 13 [.val (j8 h g ks X)]=.ok (.new (.lst (names h g))) [.val _]:=dY (n+5) (hd h) (gA g) ks X (by rw[O.kl,lg]) (by have:=O.h2;have:=O.g5;omega);simp[t1',Af (n+4) O X,t3',e1,mO (n+5) (.inr rfl) T Nd,e2,g2,t5]
def J2 n(O:gr h g ks ls):pg.fn (n+7) 1 [.val (cG h g ks ls)]=.ok (.val (.bl true)) [.val (cG h g ks ls)]:=
 OD n O _ true (J1 _ ls (names h g).length (by rw[fP O.h2 O.g5,O.ll]))
def Ey n(O:gr h g ks ls):pg.fn (n+8) 0 [.val (cG h g ks ls)]=.ok (.val (cG h g ks ls)) [.val (cG h g ks ls)]:=by rw[Jm];simp[pU,J2 n O]
end
end Tx
end
section
open PySem Mini
namespace Tx
def VN(m:D×Nat):D:=.tup [m.1,.int m.2]
def o9(st:List (D×Nat)):D:=.tup (st.map VN)
def bK(os:List D)(sts:List (List (D×Nat))):D:=.tup [.tup os,.tup (sts.map o9)]
structure fV(h g:Nat)(os:List D)(sts:List (List (D×Nat))):Prop where
 ou:os.Sublist (gA g)
 s1:1<=sts.length
 s4:sts.length<=4
 mv:∀st∈sts,(st.map (·.1)).Sublist (hd h++os)/\∀m∈st,m.2<sts.length
section
variable(n:Nat)(ns:List Int)(hs os gs:List D)(x:D)(s3 s5 s6 s7 s8:Sl)
end
end Tx
end
section
open PySem Mini
namespace Tx
def Hi:E:=(.comp 1 (.name 0) (.var 2) AAL HH)
def Ou n ns k(hk:0<=k)xs s3 s4:∃(bs:List Bool)(k':Int),bs.length=xs.length/\0<=k'/\
  ev (pg.cf (n+3)) Hi [.val (sc ns),.bor (.lst [.int k]),.own (.lst xs),s3,s4]=.ok (.new (.lst (bs.map .bl))) [.val (sc ns),.bor (.lst [.int k']),.val (.lst xs),s3,s4]:=by
 obtain⟨bs,k',s',a1,a2,a3,a4⟩:=Am n ns [.val _,s3,s4] xs [] k .un hk (.inl rfl);refine⟨bs,k',a1,a2,?_⟩;have h:ev (pg.cf (n+3)) (.var 2) [.val (sc ns),.bor (.lst [.int k]),.own (.lst xs),s3,s4]=.ok (.val (.lst xs)) [.val (sc ns),.bor (.lst [.int k]),.val (.lst xs),s3,s4]:=by simp
 unfold Hi;rw[BX,h,gU];simp only[items];rw[show List.replicate 1 Sl.un++[.val _,.bor _,.val _,s3,s4]=.un:: .val _:: .bor _::[.val _,s3,s4]from rfl,a4];simp
def Vp:S:=AAf
def rk(a b:String):D:=.tup [.str "held",.tup [.str "same",.str a],.str b,.bl false]
noncomputable def cL:Nat->List D
 |3=>[rk "rr" "q",rk "p" "rr",rk "q" "p"]
 |4=>[rk "go" "q",rk "p" "rr",rk "q" "go",rk "rr" "p"]
 |_=>[rk "abcdef" "q",rk "p" "rr",rk "q" "go",rk "rr" "abcdef",rk "go" "p"]
def Jf c s0 s1 g(hg:g=3\/g=4\/g=5):∃s4,gk (.name 4) (ex c Vp) (cD 0 g) [s0,s1,.own (.lst (gA g)),.own (.lst []),.un]=.next [s0,s1,.own (.lst (gA g)),.own (.lst (cC (gA g) (cL g))),s4]:=by
 refine⟨.val (.int (g-1)),?_⟩;rcases hg with rfl|rfl|rfl;all_goals
  try rfl
def CJ g(hg:g=3\/g=4\/g=5):∀d∈cL g,pY (hd 0++gA g) 1 d:=by intro d h;rcases hg with rfl|rfl|rfl<;>simp only[cL,QCq,QAz,or_false]at h<;>rcases h with rfl|rfl|rfl|rfl|rfl<;>exact .held (.same (by simp[hd,gA])) (by simp[hd,gA])
def RZ(n:Nat)(ns:List Int)(k:Int)(hk:0<=k):∃(g:Nat)(ls:List Bool)(k':Int),(g=3\/g=4\/g=5)/\gr 0 g (cL g) ls/\0<=k'/\pg.fn (n+4) 39 [.val (sc ns),.bor (.lst [.int k])]=.ok (.val (cG 0 g (cL g) ls)) [.val (sc ns),.bor (.lst [.int k'])]:=by
 obtain⟨r,r1,r2,er⟩:=GP n ns k 3 hk (by omega);obtain⟨g,hg,hr⟩:∃g:Nat,(g=3\/g=4\/g=5)/\3+r=g:=⟨(3+r).toNat,by omega,by omega⟩;have lg:(gA g).length=g:=fj (by omega);obtain⟨s4,a⟩:=Jf (pg.cf (n+3)) (.val (sc ns)) (.bor (.lst [.int (k+1)])) g hg;obtain⟨bs,k',b1,b2,b3⟩:=Ou n ns (k+1) (by omega) (gA g) (.own (.lst (cC (gA g) (cL g)))) s4;refine⟨g,bs,k',hg,⟨by omega,by omega,by omega,?_,CJ g hg,by omega⟩,b2,?_⟩
 ·rcases hg with rfl|rfl|rfl<;>rfl
 ·have hb:nH=⟨2,5,(.cons AAT (.cons (.set 3 ABK) (.cons (.for_ (.name 4) (.range1 ACH) Vp) (.cons (.ret (.tup (.cons (.tup .nil) (.cons (.bi .tuple (.var 3)) (.cons (.bi .tuple Hi) .nil))))) .nil))))⟩:=rfl;rw[CQ,hb];have sl:mU (.lst [.str "p",.str "q",.str "rr",.str "go",.str "abcdef"]) none (some (g:Int))=some (.new (.lst (gA g))):=by
   rcases hg with rfl|rfl|rfl<;>rfl
  have fg:fits g=true:=by simp[fits];omega
  have md:Ha (g:Int)=true:=by simp[Ha];omega
  have q:Hi.aF=none:=rfl;simp[er,hr,sl,cV,eZ,E.lW,lg,fg,md,items,a,b3,q,cG,hd]
end Tx
end
section
open PySem Mini
namespace Tx
def JG h g:fV h g [] [[]]:=⟨by simp,by simp,by simp,fun st h=>by cases QDz.mp h;simp⟩
end Tx
end
section
open PySem Mini
namespace Tx
def VP:E:=.bi .all ABz
def Oh:E:=.bi .all AAv
def Zi:E:=.comp 1 (.name 0) (.var 0) AAL AAg
def Ad n(h:dq xs)(nd:xs.Nodup)st(N:Nat)(hs:(st.map (·.1)).Sublist xs)(hn:∀m∈st,m.2<N):
  pg.fn (n+3) 19 [.val (o9 st),.val (.tup xs),.val (.int N)]=.ok (.val (.bl true)) [.val (o9 st),.val (.tup xs),.val (.int N)]:=by
 have ll:=hs.length_le;have e1:ev (pg.cf (n+2)) VP [.val (o9 st),.val (.tup xs),.val (.int N)]=.ok (.val (.bl true)) [.val (o9 st),.val (.tup xs),.val (.int N)]:=by refine all1 (r:=.val (o9 st)) (by simp) rfl rfl fun x hx=>?_;obtain⟨m,_,rfl⟩:=QDq.mp hx;simp[VN,bG (n+1) [m.1,.int m.2] 2 2 (by simp) (by simp)]
 have e2:ev (pg.cf (n+2)) Oh [.val (o9 st),.val (.tup xs),.val (.int N)]=.ok (.val (.bl true)) [.val (o9 st),.val (.tup xs),.val (.int N)]:=by
  refine all1 (r:=.val (o9 st)) (by simp) rfl rfl fun x hx=>?_;obtain⟨m,hm,rfl⟩:=QDq.mp hx;have t:pg.fn (n+2) 4 [.val (.int m.2),.val (.int 0),.val (.int (N-1))]=.ok (.val (.bl true)) [.val (.int m.2),.val (.int 0),.val (.int (N-1))]:=by rw[qe];have:=Int.le_sub_one_of_lt (Int.ofNat_lt.mpr (hn m hm));simp[iI,aep,this]
  simp[VN,t]
 have e3:ev (pg.cf (n+2)) Zi [.val (o9 st),.val (.tup xs),.val (.int N)]=.ok (.new (.lst (st.map (·.1)))) [.val (o9 st),.val (.tup xs),.val (.int N)]:=by
  have:=uf (c:=pg.cf (n+2)) (it:=.var 0) (σ:=[.val (o9 st),.val (.tup xs),.val (.int N)]) (el:=.idx (.var 0) AAH) Ko (r:=.val (o9 st)) (by simp;rfl) rfl rfl fun y hy=>by obtain⟨m,_,rfl⟩:=QDq.mp hy;simp[VN,Ko]
  rw[List.map_map]at this;exact this
 have hb:nM=⟨3,3,(.cons (.ite (.or (.cons _ (.cons (.not VP) .nil))) _ .nil) (.cons (.ite (.not (.call 9 (.cons (.bi .tuple Zi) _))) _ .nil) (.cons (.ret Oh) .nil)))⟩:=rfl;rw[CV,hb];have q1:Zi.aF=none:=rfl;have q2:Oh.aF=none:=rfl;have t1':pg.fn _ 3 [.val (o9 st),.val _,.val _]=.ok _ [.val _,.val _,.val _]:=bG (n+1) (st.map VN) 0 xs.length (by omega) (by simpa using ll);simp[t1',e1,e3,q1,oX n (.inl rfl) h nd hs 0 xs.length (by omega) (by simpa using ll),e2,q2]
def gl8:pg.gl 8=some (.int 12):=rfl
def wQ:E:=.bi .all AAm
section
variable{os:List D}
def fV.sub(T:fV h g os sts):(hd h++os).Sublist (names h g):=(List.Sublist.refl _).append T.ou
def Mg:(gA g).Sublist (names h g):=List.sublist_append_right _ _
def DP n(O:gr h g ks ls)(T:fV h g os sts):pg.fn (n+4) 18 [.val (cG h g ks ls),.val (bK os sts)]=.ok (.val (.bl true)) [.val (cG h g ks ls),.val (bK os sts)]:=by
 have lg:=fj O.g5;have lh:=nC O.h2;have h2:=O.h2;have g5:=O.g5;have s1:=T.s1;have s4:=T.s4;have lo:=T.ou.length_le;have X:=bB h g;have Nd:=names_nodup O.h2 O.g1 O.g5;have t1:pg.fn _ 3 [.val (bK os sts),.val _,.val _]=.ok _ [.val _,.val _,.val _]:=bG (n+2) [.tup os,.tup _] 2 2 (by simp) (by simp);have hb:pP=⟨2,4,(.cons _ (.cons (.set 2 (PQ _)) (.cons _ (.cons _ (.cons (.ret wQ) .nil)))))⟩:=rfl;have q:wQ.aF=none:=rfl;have f:fits ((hd h).length+os.length)=true:=by simp[fits];omega
 have n0:getD (cG h g ks ls) (.int 0)=some (.tup (hd h)):=by simp[cG]
 have m0:getD (bK os sts) (.int 0)=some (.tup os):=by simp[bK]
 have m1:getD (bK os sts) (.int 1)=some (.tup (sts.map o9)):=by simp[bK]
 have e':ev (pg.cf (n+3)) wQ [.val (cG h g ks ls),.val (bK os sts),.val (.lst (gA g)),.val (.tup (hd h++os))]=.ok (.val (.bl true)) [.val (cG h g ks ls),.val (bK os sts),.val (.lst (gA g)),.val (.tup (hd h++os))]:=by refine all1 (r:=.val (.tup (sts.map o9))) (by simp[bK]) rfl rfl fun x hx=>?_;obtain⟨st,hst,rfl⟩:=QDq.mp hx;simp[bK,Ad n (fun x hx=>X x (T.sub.subset hx)) (T.sub.nodup Nd) st sts.length (T.mv st hst).1 (T.mv st hst).2]
 rw[Jj,hb];simp[t1,Aj (c:=pg.cf (n+3)) (it:=.idx (.var 0) AAG) (σ:=[.val (cG h g ks ls),.val (bK os sts),.un,.un]) (gA g) ks (by rw[O.kl,lg]) (by simp[cG]),m0,m1,n0,lg,oX (n+1) (.inr rfl) (fun x hx=>X x (Mg.subset hx)) (Mg.nodup Nd) T.ou 0 g (by omega) (by omega),bG (n+2) (sts.map o9) 1 12 (by simp;omega) (by simp;omega),gl8,f,e',q]
def qJ n(O:gr h g ks ls)(T:fV h g os sts):pg.fn (n+9) 17 [.val (cG h g ks ls),.val (bK os sts)]=.ok (.val (bK os sts)) [.val (cG h g ks ls),.val (bK os sts)]:=by rw[rZ];simp[iu,Ey n O,DP (n+4) O T]
end
end Tx
end
section
open PySem Mini
namespace Tx
noncomputable def lk(x:D):List (D×Nat)->Option Nat
 |[]=>none
 |m::st=>if dM m.1 x then some m.2 else lk x st
abbrev jx(st:List (D×Nat)):List D:=st.map (·.1)
abbrev uG(st:List (D×Nat)):List D:=st.map fun m=>.int m.2
def dcD(st:List (D×Nat)):D:=.dG (jx st) (uG st)
theorem Hc x:∀st,aY x (jx st) (uG st)=(lk x st).map fun j:Nat=>D.int j
 |[]=>rfl
 |m::st=>by
  simp only[Qyz,aY,lk];split
  ·rfl
  ·exact Hc x st
theorem Hd x:∀st,aP x (jx st)=(lk x st).isSome
 |[]=>rfl
 |m::st=>by simp only[Qyz,aP,lk,Hd x st];cases dM m.1 x<;>simp
theorem jA:∀(st:List (D×Nat))(ks vs:List D),dq (ks++jx st)->(ks++jx st).Nodup->dictOf ks vs (st.map VN)=some (ks++jx st,vs++uG st)
 |[]=>fun ks vs _ _=>by simp[dictOf]
 |m::st=>fun ks vs h nd=>by
  obtain⟨s,e⟩:=h m.1 (by simp);have no:aP m.1 ks=false:=by
   rw[e];have hn:=fun hm=>by rw[show jx _=m.1::jx st from rfl,List.nodup_append]at nd;exact nd.2.2 _ hm _ QYz rfl
   rw[e]at hn;have hk:=fun x hx=>h x (QWz _ hx);clear nd h;induction ks with
   |nil=>rfl
   |cons y ys ih=>obtain⟨q,rfl⟩:=hk y QYz;have ne:¬q=s:=fun c=>hn (by rw[c];exact QYz);simp[aP,dM,ne,ih (fun c=>hn (QYq _ c)) fun x hx=>hk x (QYq _ hx)]
  have r:=jA st (ks++[m.1]) (vs++[.int m.2]) (by simpa using h) (by simpa using nd);rw[Qyz,show VN m=.tup [m.1,.int m.2]from rfl,dictOf,if_pos (by rw[e];rfl)];simp only[putD,no];rw[if_neg (by simp),r];simp
def cJ(sts:List (List (D×Nat)))(i:Nat):List (D×Nat):=sts.getD i []
end Tx
end
section
open PySem Mini
namespace Tx
def tL{xs:List D}(h:dq xs)(hn:D.str s∉xs):aP (.str s) xs=false:=by
 induction xs with
 |nil=>rfl
 |cons x xs ih=>obtain⟨q,rfl⟩:=h x QYz;have ne:q≠s:=fun e=>hn (by rw[e];exact QYz);simp[aP,dM,ne,ih (fun z hz=>h z (QYq _ hz)) fun hz=>hn (QYq _ hz)]
theorem Hw:∀(xs ys ks vs:List D),ys.length=xs.length->dq xs->dq ks->(ks++xs).Nodup->dictOf ks vs (cC xs ys)=some (ks++xs,vs++ys)
 |[],ys=>fun ks vs hl _ _ _=>by
  have:ys=[]:=by cases ys<;>simp_all
  subst this;simp[cC,dictOf]
 |x::xs,[]=>fun ks vs hl _ _ _=>by simp at hl
 |x::xs,y::ys=>fun ks vs hl h hk nd=>by
  obtain⟨s,rfl⟩:=h x QYz;have hn:=fun z=>by have:=List.nodup_append.mp nd;exact this.2.2 _ z _ QYz rfl
  have ih:=Hw xs ys (ks++[.str s]) (vs++[y]) (by simpa using hl) (fun z hz=>h z (QYq _ hz)) (fun z hz=>by
   rcases QXz.mp hz with hz|hz
   ·exact hk z hz
   ·simp at hz;exact⟨s,hz⟩) (by simpa using nd)
  simp only[cC,dictOf,keyOk,if_true,putD,tL hk hn,Qxq,if_false];rw[ih];simp
def Ax(hl:ys.length=xs.length)(h:dq xs)(nd:xs.Nodup):dictOf [] [] (cC xs ys)=some (xs,ys):=by have:=Hw xs ys [] [] hl h (fun z hz=>by cases hz) (by simpa using nd);simpa using this
noncomputable def fK(xs:List D)(bs:List Bool)(x:D):Bool:=match aY x xs (bs.map .bl)with
 |some (.bl b)=>b
 |_=>false
theorem vL{x:D}:∀{xs:List D}{bs:List Bool},dq xs->bs.length=xs.length->x∈xs->aY x xs (bs.map .bl)=some (.bl (fK xs bs x))
 |[],_=>fun _ _ hx=>by cases hx
 |y::ys,[]=>fun _ hl _=>by simp at hl
 |y::ys,b::bs=>fun h hl hx=>by
  obtain⟨q,rfl⟩:=h x hx;obtain⟨s,rfl⟩:=h y QYz;by_cases e:s=q
  ·subst e;simp[fK,aY,dM]
  ·have hx':D.str q∈ys:=by
    rcases QCq.mp hx with z|z
    ·cases z;exact absurd rfl e
    ·exact z
   have l:aY (.str q) (.str s::ys) ((b::bs).map .bl)=aY (.str q) ys (bs.map .bl):=by simp[aY,dM,e]
   have v:fK (.str s::ys) (b::bs) (.str q)=fK ys bs (.str q):=by unfold fK;rw[l]
   rw[l,v]
   exact vL (fun z hz=>h z (QYq _ hz)) (by simpa using hl) hx'
def tQ{xs:List D}(h:dq xs)(hl:bs.length=xs.length)(hx:x∈xs):getD (.dG xs (bs.map .bl)) x=some (.bl (fK xs bs x)):=by have e:=vL h hl hx;obtain⟨q,rfl⟩:=h x hx;exact e
end Tx
end
section
open PySem Mini
namespace Tx
def Yp:E:=.comp 1 (.name 0) AAc AAL (.idx (.var 3) (.var 0))
noncomputable def Lh:Fn:=⟨3,5,(.cons (.set 3 AAg) (.cons (.ite ABr (.cons (.ret ABi) .nil) .nil) (.cons (.ite ABv (.cons (.ret (.not ABi)) .nil) .nil) (.cons (.ite ABQ ACI .nil) (.cons (.set 4 (.bi .tuple Yp)) (.cons (.ite ABw ABu .nil) (.cons (.ite ABx ABt .nil) (.cons (.ite ABP ABn .nil) AAs))))))))⟩
def FW:Fo=Lh:=rfl
section
variable{bs:List Bool}
def Agree(xs:List D)(bs:List Bool)(i:Nat)(d:D)(own b:Bool):Prop:=
 pg.fn i 15 [.val d,.val (.bl own),.val (.dG xs (bs.map .bl))]=.ok (.val (.bl b)) [.val d,.val (.bl own),.val (.dG xs (bs.map .bl))]
end
end Tx
end
section
open PySem Mini
namespace Tx
section
def K8:E:=.comp 2 (.tup [0,1]) AAc AAV (.var 0)
end
end Tx
end
section
open PySem Mini
namespace Tx
structure Wt(h g:Nat)(ks:List D)(ls:List Bool)(W:List Bool->List D):Prop where
 sub:∀bs,bs.length=(names h g).length->(W bs).Sublist (gA g)
 pr:∀bs,bs.length=(names h g).length->∀n,pg.fn (n+4) 14 [.val (cG h g ks ls),.val (cF bs)]=.ok (.new (.lst (W bs))) [.val (cG h g ks ls),.val (cF bs)]
def YB{xs:List D}(h:dq xs):aP (.str s) xs=true↔D.str s∈xs:=by
 constructor
 ·intro z;by_cases c:D.str s∈xs
  ·exact c
  ·rw[tL h c]at z;cases z
 ·intro z;exact qM z h
theorem pI x:∀xs ys:List D,aP x (xs++ys)=(aP x xs||aP x ys)
 |[]=>fun ys=>rfl
 |y::xs=>fun ys=>by simp[aP,pI x xs ys,Bool.or_assoc]
abbrev St:=List Bool×Nat
def aB(s:St):D:=.tup [cF s.1,.int s.2]
section
variable{os:List D}{sts:List (List (D×Nat))}
structure Wl(h g:Nat)(sts:List (List (D×Nat)))(s:St):Prop where
 l:s.1.length=(names h g).length
 j:s.2<sts.length
noncomputable def rJ(h:Nat)(sts:List (List (D×Nat)))(W:List Bool->List D)(s:St):List D:=(hd h).filter (fun x=>(lk x (cJ sts s.2)).isSome)++W s.1
def xW h:dq (hd h):=fun x hx=>bB h 0 x (QWz _ hx)
def wZ g:dq (gA g):=fun x hx=>bB 0 g x (QVq _ hx)
def rK(hj:j<sts.length):cJ sts j∈sts:=by simp[cJ,hj]
def wR(hj:j<sts.length):at? (sts.map o9) (j:Int)=some (o9 (cJ sts j)):=by rw[nP _ _ (by simpa using hj)];simp[cJ,hj]
def rH(Wk:Wt h g ks ls W)(S:Wl h g sts s):(rJ h sts W s).Sublist (names h g):=(List.filter_sublist).append (Wk.sub s.1 S.l)
def nU(T:fV h g os sts)(O:gr h g ks ls)(hj:j<sts.length):dq (jx (cJ sts j))/\(jx (cJ sts j)).Nodup:=by have:=(T.mv _ (rK hj)).1;exact⟨fun x hx=>bB h g x (T.sub.subset (this.subset hx)),this.nodup (T.sub.nodup (names_nodup O.h2 O.g1 O.g5))⟩
def stC:E:=.comp 1 (.name 0) AAg (.cmp .isin (.var 0) (.var 4)) (.var 0)
def zc n(O:gr h g ks ls)(T:fV h g os sts)(Wk:Wt h g ks ls W)(S:Wl h g sts s):
  pg.fn (n+5) 23 [.val (cG h g ks ls),.val (bK os sts),.val (aB s)]=.ok (.new (.lst (rJ h sts W s))) [.val (cG h g ks ls),.val (bK os sts),.val (aB s)]:=by
 have K:=nU T O S.j;have d:=jA (cJ sts s.2) [] [] (by simpa using K.1) (by simpa using K.2);have e:ev (pg.cf (n+4)) stC [.val (cG h g ks ls),.val (bK os sts),.val (aB s),.own (.dct (jx (cJ sts s.2)) (uG (cJ sts s.2)))]=.ok (.new (.lst ((hd h).filter fun x=>(lk x (cJ sts s.2)).isSome))) [.val (cG h g ks ls),.val (bK os sts),.val (aB s),.own (.dct (jx (cJ sts s.2)) (uG (cJ sts s.2)))]:=by
  have:=yp (c:=pg.cf (n+4)) (it:=.idx (.var 0) AAH) (co:=.cmp .isin (.var 0) (.var 4)) (el:=.var 0) (σ:=[.val (cG h g ks ls),.val (bK os sts),.val (aB s),.own (.dct (jx (cJ sts s.2)) (uG (cJ sts s.2)))]) (τ:=[.val (cG h g ks ls),.val (bK os sts),.val (aB s),.own (.dct (jx (cJ sts s.2)) (uG (cJ sts s.2)))]) (r:=.val (.tup (hd h))) (fun x=>x) (fun x=>(lk x (cJ sts s.2)).isSome) (by simp[cG]) rfl rfl (fun x hx=>by
   obtain⟨q,rfl⟩:=xW h x hx;have:aK .isin (.str q) (.dG (jx (cJ sts s.2)) (uG (cJ sts s.2)))=some (lk (.str q) (cJ sts s.2)).isSome:=by rw[<-Hd];rfl
   simp[this,Ob.d]) (fun x _ _=>by simp)
  rw[List.map_id']at this;exact this
 have w:=Wk.pr s.1 S.l n;have t1:getD (bK os sts) (.int 1)=some (.tup (sts.map o9)):=by simp[bK]
 have s0:getD (aB s) (.int 0)=some (cF s.1):=by simp[aB]
 have s1:getD (aB s) (.int 1)=some (.int s.2):=by simp[aB]
 have st:=wR S.j;have sl:=(rH Wk S).length_le;have nl:=fP O.h2 O.g5;have h2:=O.h2;have g5:=O.g5;have f:fits (((hd h).filter fun x=>(lk x (cJ sts s.2)).isSome).length+(W s.1).length)=true:=by simp only[rJ,QTq]at sl;simp[fits];omega
 have hb:nG=⟨3,4,(.cons _ (.cons (.ret (.op .add stC _)) .nil))⟩:=rfl;rw[CP,hb];simp[t1,s0,s1,st,o9,d,e,w,f,rJ]
end
end Tx
end
section
open PySem Mini
namespace Tx
section
noncomputable def cZ(xs:List D)(bs:List Bool)(x:D):List Bool:=(xs.zip bs).map fun p=>if dM p.1 x then !p.2 else p.2
def oH{bs:List Bool}(hl:bs.length=xs.length)x:(cZ xs bs x).length=xs.length:=by simp[cZ,hl]
def chF(x:D)(p:D×D):D:=match p.2 with
 |.bl b=>.bl (if dM p.1 x then !b else b)
 |d=>d
theorem HR x:∀(xs:List D)(bs:List Bool),(xs.zip (bs.map D.bl)).map (chF x)=(cZ xs bs x).map .bl
 |[],bs=>by simp[cZ]
 |_::_,[]=>by simp[cZ]
 |y::xs,b::bs=>by have:=HR x xs bs;simp only[cZ]at this⊢;simp[chF,this]
def chC:E:=.comp 2 (.tup [0,1]) ABN AAL (.ite ABh (.not (.var 1)) (.var 1))
def Ez n(O:gr h g ks ls)(hl:bs.length=(names h g).length)(hx:∃s,x=.str s):
  pg.fn (n+2) 26 [.val (cG h g ks ls),.val (cF bs),.val x]=.ok (.val (cF (cZ (names h g) bs x))) [.val (cG h g ks ls),.val (cF bs),.val x]:=by
 obtain⟨q,rfl⟩:=hx;have w:pg.fn _ 13 [.val (cG h g ks ls)]=.ok (.new (.lst (names h g))) [.val _]:=
  dY n (hd h) _ ks _ (by rw[O.kl,fj O.g5]) (by rw[nC O.h2,fj O.g5];have:=O.h2;have:=O.g5;omega)
 have e:ev (pg.cf (n+1)) chC [.val (cG h g ks ls),.val (cF bs),.val (.str q)]=.ok (.new (.lst ((cZ (names h g) bs (.str q)).map .bl))) [.val (cG h g ks ls),.val (cF bs),.val (.str q)]:=by
  have:=Qq (c:=pg.cf (n+1)) (it:=.zip ACG (.var 1)) (el:=.ite ABh (.not (.var 1)) (.var 1)) (σ:=[.val (cG h g ks ls),.val (cF bs),.val (.str q)]) (τ:=[.val (cG h g ks ls),.val (cF bs),.val (.str q)]) (r:=.val (.lst (cC (names h g) (bs.map .bl)))) (chF _) (by
    have z:bF (cF bs)=some _:=rfl;simp[w,z]) rfl (by show some _=some _;rw[fL]) (fun p hp=>by
    obtain⟨u,eu⟩:=bB h g p.1 (List.of_mem_zip hp).1;obtain⟨b,_,eb⟩:=QDq.mp (List.of_mem_zip hp).2;rw[<-eb,eu];have e1:chF (.str q) p=.bl (if decide (u=q)then !b else b):=by unfold chF;rw[<-eb,eu];rfl
    rw[e1];cases c:decide (u=q)<;>simp[c])
  rw[HR]at this;exact this
 have hb:pW=⟨3,3,(.cons (.ret (.bi .tuple chC)) .nil)⟩:=rfl;have qv:chC.aF=none:=rfl;rw[Jo,hb];simp[e,qv];rfl
end
end Tx
end
section
open PySem Mini
namespace Tx
section
variable{os:List D}
def Ac{xs:List D}(t:dq xs):aK .isin (.str q) (.lst xs)=some (aP (.str q) xs)/\aK .isin (.str q) (.tup xs)=some (aP (.str q) xs)/\aK .notin (.str q) (.tup xs)=some (!aP (.str q) xs):=by
 have o:jT (.str q) xs=true:=by unfold jT;rw[jm t];rfl
 refine⟨?_,?_,?_⟩
 ·show(if jT _ xs then some _ else none)=_;rw[o];rfl
 ·show(if jT _ xs then some _ else none)=_;rw[o];rfl
 ·show(if jT _ xs then some _ else none)=_;rw[o];rfl
def O8(O:gr h g ks ls)(hx:x∈hd h):x∉gA g:=fun hs=>by have nd:=names_nodup O.h2 O.g1 O.g5;rw[names,List.nodup_append]at nd;exact nd.2.2 _ hx _ hs rfl
theorem Yn{x:D}:∀{st:List (D×Nat)},dq (jx st)->(∃s,x=.str s)->((lk x st).isSome=true↔x∈jx st)
 |[],_,_=>by simp[lk]
 |m::st,t,⟨s,hs⟩=>by subst hs;rw[<-Hd,YB t]
noncomputable def Dw(h g:Nat)(os:List D)(sts:List (List (D×Nat)))(s:St)(x:D):Option St:=
 if aP x (hd h)||aP x os then(lk x (cJ sts s.2)).map fun j=>(cZ (names h g) s.1 x,j)else some (cZ (names h g) s.1 x,s.2)
def mj:Option St->D
 |none=>.non
 |some s=>aB s
def sdE a(j:Nat):D.tup [cF a,.int j]=aB (a,j):=rfl
def qK(T:fV h g os sts):dq os:=fun x hx=>wZ g x (T.ou.subset hx)
theorem V1{x:D}{N:Nat}:∀{st:List (D×Nat)},(∀m∈st,m.2<N)->∀{j:Nat},lk x st=some j->j<N
 |[],_,_,e=>by cases e
 |m::st,hm,j,e=>by
  simp only[lk]at e;split at e
  ·cases e;exact hm m QYz
  ·exact V1 (fun q hq=>hm q (QYq _ hq)) e
def Yo(T:fV h g os sts)(S:Wl h g sts s)(e:Dw h g os sts s x=some s'):Wl h g sts s':=by
 unfold Dw at e;split at e
 ·obtain⟨j,hj,rfl⟩:=QJz.mp e;exact⟨oH S.l x,V1 (T.mv _ (rK S.j)).2 hj⟩
 ·cases e;exact⟨oH S.l x,S.j⟩
def q9 n(O:gr h g ks ls)(T:fV h g os sts)(S:Wl h g sts s)q:
  pg.fn (n+1) 24 [.val (bK os sts),.val (aB s),.val (.str q)]=.ok (.val (.bl (aP (.str q) os&& !(lk (.str q) (cJ sts s.2)).isSome))) [.val (bK os sts),.val (aB s),.val (.str q)]:=by
 have K:=nU T O S.j;have t0:getD (bK os sts) (.int 0)=some (.tup os):=by simp[bK]
 have t1:getD (bK os sts) (.int 1)=some (.tup (sts.map o9)):=by simp[bK]
 have s1:getD (aB s) (.int 1)=some (.int s.2):=by simp[aB]
 have i:=(Ac (q:=q) (qK T)).2.1;have i2:aK .notin (.str q) (.dG (jx (cJ sts s.2)) (uG (cJ sts s.2)))=some (!(lk (.str q) (cJ sts s.2)).isSome):=by rw[<-Hd];rfl
 rw[xn];cases c:aP _ os<;>rw[c]at i<;>simp[jH,t0,i,t1,s1,wR S.j,o9,jA _ [] [] (by simpa using K.1) (by simpa using K.2),Ob.d,i2]
def Hh(O:gr h g ks ls)(T:fV h g os sts)(Wk:Wt h g ks ls W)(S:Wl h g sts s)(hx:D.str q∈rJ h sts W s):(aP (.str q) os&& !(lk (.str q) (cJ sts s.2)).isSome)=true/\Dw h g os sts s (.str q)=none\/(aP (.str q) os&& !(lk (.str q) (cJ sts s.2)).isSome)=false/\Dw h g os sts s (.str q)=some (cZ (names h g) s.1 (.str q),(lk (.str q) (cJ sts s.2)).getD s.2):=by
 unfold Dw;rcases QXz.mp hx with z|z
 ·obtain⟨z1,z2⟩:=List.mem_filter.mp z;rw[tL (qK T) fun w=>O8 O z1 (T.ou.subset w),qM z1 (xW h)];obtain⟨j,hj⟩:=Option.isSome_iff_exists.mp z2;rw[hj];exact .inr ⟨rfl,rfl⟩
 ·have zr:=(Wk.sub s.1 S.l).subset z;rw[tL (xW h) fun w=>O8 O w zr];cases ho:aP _ os with
  |true=>
   cases hj:lk _ _ with
   |none=>exact .inl ⟨rfl,rfl⟩
   |some j=>exact .inr ⟨rfl,rfl⟩
  |false=>
   have hn:lk (.str q) (cJ sts s.2)=none:=by
    cases hj:lk _ _ with
    |none=>rfl
    |some j=>
     rcases QXz.mp ((T.mv _ (rK S.j)).1.subset ((Yn (nU T O S.j).1 ⟨q,rfl⟩).mp (by rw[hj];rfl)))with w|w
     ·exact absurd zr (O8 O w)
     ·rw[qM w (qK T)]at ho;cases ho
   rw[hn];exact .inr ⟨rfl,rfl⟩
def JV n(O:gr h g ks ls)(T:fV h g os sts)(Wk:Wt h g ks ls W)(S:Wl h g sts s)(hx:x∈rJ h sts W s):
  pg.fn (n+3) 25 [.val (cG h g ks ls),.val (bK os sts),.val (aB s),.val x]=.ok (.val (mj (Dw h g os sts s x))) [.val (cG h g ks ls),.val (bK os sts),.val (aB s),.val x]:=by
 have K:=nU T O S.j;obtain⟨q,rfl⟩:=bB h g x ((rH Wk S).subset hx);have u:=q9 (n+1) O T S q;have t1:getD (bK os sts) (.int 1)=some (.tup (sts.map o9)):=by simp[bK]
 have s0:getD (aB s) (.int 0)=some (cF s.1):=by simp[aB]
 have s1:getD (aB s) (.int 1)=some (.int s.2):=by simp[aB]
 have gt:qu (.dG (jx (cJ sts s.2)) (uG (cJ sts s.2))) (.str q) (.int s.2)=some (.int ((lk (.str q) (cJ sts s.2)).getD s.2)):=by show(if keyOk (.str q)then some _ else none)=_;rw[Hc];cases lk _ _<;>rfl
 rw[MJ];rcases (Hh O T Wk S hx)with ⟨k1,k2⟩|⟨k1,k2⟩
 ·rw[k1]at u;rw[k2];simp[oW,u,mj]
 ·rw[k1]at u;rw[k2];simp[oW,u,t1,s0,s1,wR S.j,o9,jA _ [] [] (by simpa using K.1) (by simpa using K.2),Ob.d,Ez n O S.l ⟨q,rfl⟩,tH,gt,cV,mj,sdE]
end
end Tx
end
section
open PySem Mini
namespace Tx
structure Cs where
 h:Nat
 g:Nat
 ks:List D
 ls:List Bool
 os:List D
 sts:List (List (D×Nat))
 W:List Bool->List D
namespace Cs
variable(C:Cs)
structure Ok:Prop where
 o:gr C.h C.g C.ks C.ls
 t:fV C.h C.g C.os C.sts
 w:Wt C.h C.g C.ks C.ls C.W
def n:D:=cG C.h C.g C.ks C.ls
def t:D:=bK C.os C.sts
abbrev nm:List D:=names C.h C.g
abbrev S(s:St):Prop:=Wl C.h C.g C.sts s
def st(s:St):List D:=rJ C.h C.sts C.W s
def led(s:St)(x:D):Option St:=Dw C.h C.g C.os C.sts s x
end Cs
section
variable{C:Cs}
namespace Cs.Ok
variable(K:C.Ok)
include K
def sub(S:C.S s):(C.st s).Sublist C.nm:=rH K.w S
def WK(S:C.S s):dq (C.st s):=fun x hx=>bB C.h C.g x ((K.sub S).subset hx)
def wtx(S:C.S s):dq (C.W s.1):=fun x hx=>wZ C.g x ((K.w.sub s.1 S.l).subset hx)
def Oq{t:St}(S:C.S s)(e:C.led s x=some t):C.S t:=Yo K.t S e
def bh m(S:C.S s):pg.fn (m+5) 23 [.val C.n,.val C.t,.val (aB s)]=.ok (.new (.lst (C.st s))) [.val C.n,.val C.t,.val (aB s)]:=zc m K.o K.t K.w S
def fB m(S:C.S s)(hx:x∈C.st s):pg.fn (m+3) 25 [.val C.n,.val C.t,.val (aB s),.val x]=.ok (.val (mj (C.led s x))) [.val C.n,.val C.t,.val (aB s),.val x]:=JV m K.o K.t K.w S hx
def checked m:pg.fn (m+9) 17 [.val C.n,.val C.t]=.ok (.val C.t) [.val C.n,.val C.t]:=qJ m K.o K.t
def wpr m(S:C.S s):pg.fn (m+4) 14 [.val C.n,.val (cF s.1)]=.ok (.new (.lst (C.W s.1))) [.val C.n,.val (cF s.1)]:=K.w.pr s.1 S.l m
def unasked m(S:C.S s)(hx:D.str q∈C.st s):pg.fn (m+1) 24 [.val C.t,.val (aB s),.val (.str q)]=.ok (.val (.bl (C.led s (.str q)).isNone)) [.val C.t,.val (aB s),.val (.str q)]:=by have u:=q9 m K.o K.t S q;rcases Hh K.o K.t K.w S hx with ⟨a,b⟩|⟨a,b⟩<;>rw[a]at u<;>rw[Cs.led,b]<;>exact u
end Cs.Ok
def Og:getD C.n (.int 2)=some (cF C.ls):=by simp[Cs.n,cG];rfl
def WM:getD C.t (.int 0)=some (.tup C.os):=by simp[Cs.t,bK]
def aaU:getD C.t (.int 1)=some (.tup (C.sts.map o9)):=by simp[Cs.t,bK]
def aa6 s:getD (aB s) (.int 0)=some (cF s.1):=by simp[aB]
def aeE s:getD (aB s) (.int 1)=some (.int s.2):=by simp[aB]
end
abbrev Rs:=List (St×List D)
def kD(R:Rs):List D:=R.map fun p=>aB p.1
def vD(R:Rs):List D:=R.map fun p=>.lst p.2
def DG R N:kD (R++N)=kD R++kD N:=List.map_append
def Wy R N:vD (R++N)=vD R++vD N:=List.map_append
def sZ R:(kD R).length=R.length:=QAq _
theorem Gp:∀a b:List Bool,qI (a.map .bl) (b.map .bl)=decide (a=b)
 |[],[]=>rfl
 |[],_::_=>rfl
 |_::_,[]=>rfl
 |x::a,y::b=>by simp only[Qyz,qI,dM,Gp a b,List.cons.injEq];by_cases e:x=y<;>by_cases e':a=b<;>simp[e,e']
def wO a b:dM (aB a) (aB b)=decide (a=b):=by obtain⟨a,i⟩:=a;obtain⟨b,j⟩:=b;simp only[aB,cF,dM,qI,Gp,Bool.and_true,Prod.mk.injEq];by_cases e:a=b<;>by_cases e':i=j<;>simp[e,e']<;>omega
theorem O6 t:∀R:Rs,aP (aB t) (kD R)=decide (t∈R.map (·.1))
 |[]=>by simp[kD,aP]
 |p::R=>by
  have:=O6 t R;simp only[kD]at this;simp only[kD,Qyz,aP,wO,this,QCq];by_cases e:p.1=t
  ·simp[e]
  ·have:¬t=p.1:=fun z=>e z.symm;simp[e,this]
def Om(s:St):Rs->Option (List D)
 |[]=>none
 |p::R=>if p.1=s then some p.2 else Om s R
theorem V2 s:∀R:Rs,aY (aB s) (kD R) (vD R)=(Om s R).map D.lst
 |[]=>rfl
 |p::R=>by have:=V2 s R;simp only[kD,vD]at this;simp only[kD,vD,Qyz,aY,wO,this,Om];by_cases e:p.1=s<;>simp[e]
theorem Hf{r:List D}N:∀{R:Rs},Om s R=some r->Om s (R++N)=some r
 |[]=>fun e=>by cases e
 |p::R=>fun e=>by
  simp only[QLq,Om]at e⊢;split
  ·rename_i z;rw[if_pos z]at e;exact e
  ·rename_i z;rw[if_neg z]at e;exact Hf N e
theorem Ds{s:St}{r:List D}:∀{R:Rs}{k:Nat},(R.map (·.1)).Nodup->R[k]? =some (s,r)->Om s R=some r
 |[],_=>fun _ e=>by cases e
 |p::R,0=>fun _ e=>by cases e;simp[Om]
 |p::R,k+1=>fun nd e=>by have e':R[k]? =some (s,r):=e;rw[Qyz,List.nodup_cons]at nd;rw[Om,if_neg (fun z=>nd.1 (by rw[z];exact QTz (QBz e')))];exact Ds nd.2 e'
theorem DK:∀bs:List Bool,J0 (bs.map .bl)=true
 |[]=>rfl
 |b::bs=>by simp[J0,kA,DK bs]
theorem yd:∀bs:List Bool,gn (bs.map .bl)=0
 |[]=>rfl
 |b::bs=>by simp[gn,dep,yd bs]
def kE(s:St):cH (aB s)=true:=by simp[aB,cH,cF,J0,kA,DK,gn,dep,yd]
def Tv t R:aK .notin (aB t) (.iy (kD R) (vD R))=some (!decide (t∈R.map (·.1))):=by show(if cH _ then some _ else none)=_;rw[kE,O6];rfl
def V6{r:List D}(e:Om s R=some r):getD (.iy (kD R) (vD R)) (aB s)=some (.lst r):=by show(if cH _ then aY _ (kD R) (vD R)else none)=_;rw[kE,V2,e];rfl
def abK{r:List D}(e:t∉R.map (·.1))(f:R.length+1<=4000000):xu (aB t) (.lst r) (.sdt (kD R) (vD R))=some (.sdt (kD (R++[(t,r)])) (vD (R++[(t,r)]))):=by
 have f':fits ((kD R).length+1)=true:=by rw[sZ];simp[fits];omega
 show(if cH _&&fits _ then some _ else none)=_;have i:aP (aB t) (kD R)=false:=by rw[O6];simpa using e
 have p:putD (aB t) (.lst r) (kD R) (vD R)=(kD R++[aB t],vD R++[.lst r]):=by unfold putD;rw[i];rfl
 rw[kE,f',p,DG,Wy];rfl
section
variable{C:Cs}
structure Cs.Ro(C:Cs)(R:Rs):Prop where
 nd:(R.map (·.1)).Nodup
 ok:∀p∈R,C.S p.1
 le:∀p∈R,p.2.length<=R.length
 wr:∀p∈R,∀x∈p.2,x∈C.nm
noncomputable def Cs.new(C:Cs)(s:St)(r:List D):List D->Rs->Rs
 |[],_=>[]
 |x::xs,R=>match C.led s x with
  |none=>C.new s r xs R
  |some t=>if t∈R.map (·.1)then C.new s r xs R else(t,r++[x])::C.new s r xs (R++[(t,r++[x])])
def NP(Y:C.Ro R)(S:C.S t)(hr:r.length<=R.length+1)(ht:t∉R.map (·.1))(hw:∀x∈r,x∈C.nm):C.Ro (R++[(t,r)]):=by
 refine⟨?_,fun p hp=>?_,fun p hp=>?_,fun p hp=>?_⟩
 ·rw[List.map_append,List.nodup_append];exact⟨Y.nd,by simp,fun a ha b hb e=>ht (by
   have:b=t:=by simpa using hb
   rw[<-this,<-e];exact ha)⟩
 ·rcases QXz.mp hp with z|z
  ·exact Y.ok p z
  ·rw[QDz.mp z];exact S
 ·rw[QTq];rcases QXz.mp hp with z|z
  ·exact Nat.le_succ_of_le (Y.le p z)
  ·rw[QDz.mp z];exact hr
 ·rcases QXz.mp hp with z|z
  ·exact Y.wr p z
  ·rw[QDz.mp z];exact hw
def K6{x:D}(hw:∀x∈r,x∈C.nm)(hx:x∈C.nm):∀y∈r++[x],y∈C.nm:=fun y hy=>by
 rcases QXz.mp hy with z|z
 ·exact hw y z
 ·rw[QDz.mp z];exact hx
theorem nu(K:C.Ok){s:St}(S:C.S s){r:List D}(hw:∀x∈r,x∈C.nm):∀(xs:List D){R:Rs},(∀x∈xs,x∈C.nm)->C.Ro R->r.length<=R.length->C.Ro (R++C.new s r xs R)
 |[],R,_,Y,_=>by simpa[Cs.new]using Y
 |x::xs,R,hx,Y,hr=>by
  have hx':=fun y hy=>hx y (QYq _ hy);rw[Cs.new];split
  ·exact nu K S hw xs hx' Y hr
  ·rename_i t e;split
   ·exact nu K S hw xs hx' Y hr
   ·rename_i ht;have:=nu K S hw xs hx' (NP Y (K.Oq S e) (by simp;omega) ht (K6 hw (hx x QYz))) (by simp;omega);rw[List.append_assoc]at this;exact this
noncomputable def allB:Nat->List (List Bool)
 |0=>[[]]
 |n+1=>(allB n).map (true:: ·)++(allB n).map (false:: ·)
theorem uD:∀n,(allB n).length=2 ^n
 |0=>rfl
 |n+1=>by rw[allB,QTq,QAq,QAq,uD n,Nat.pow_succ];omega
theorem lB:∀bs:List Bool,bs∈allB bs.length
 |[]=>by simp[allB]
 |b::bs=>by
  rw[QBq,allB,QXz];cases b
  ·exact .inr (QTz (lB bs))
  ·exact .inl (QTz (lB bs))
noncomputable def QK(n:Nat):List St:=(allB n).map (·,0)++((allB n).map (·,1)++((allB n).map (·,2)++(allB n).map (·,3)))
def QJ n:(QK n).length=4*2 ^n:=by simp only[QK,QTq,QAq,uD];omega
def QH(h:s.2<4):s∈QK s.1.length:=by
 obtain⟨bs,j⟩:=s;have m:=lB bs;simp only[QK,QXz,QDq];rcases j with _|_|_|_|j
 ·exact .inl ⟨bs,m,rfl⟩
 ·exact .inr (.inl ⟨bs,m,rfl⟩)
 ·exact .inr (.inr (.inl ⟨bs,m,rfl⟩))
 ·exact .inr (.inr (.inr ⟨bs,m,rfl⟩))
 ·simp at h;omega
theorem zR:∀(l L:List St),l.Nodup->(∀x∈l,x∈L)->l.length<=L.length
 |[]=>fun _ _ _=>QIq _
 |x::l=>fun L nd m=>by rw[List.nodup_cons]at nd;have mx:=m x QYz;have:=zR l (L.erase x) nd.2 fun y hy=>(List.mem_erase_of_ne fun e=>nd.1 (by rw[<-e];exact hy)).mpr (m y (QYq _ hy));rw[List.length_erase_of_mem mx]at this;have:=List.length_pos_of_mem mx;rw[QBq];omega
def Cs.Ro.vK(K:C.Ok)(X:C.Ro R):R.length<=512:=by
 have a:=zR _ (QK (C.nm).length) X.nd fun s hs=>by obtain⟨p,hp,rfl⟩:=QDq.mp hs;have S:=X.ok p hp;rw[<-S.l];exact QH (Qvq S.j K.t.s4)
 rw[QAq,QJ,fP K.o.h2 K.o.g5]at a;have h2:=K.o.h2;have g5:=K.o.g5;have:2 ^(C.h+C.g)<=2 ^7:=Nat.pow_le_pow_right (by omega) (by omega);omega
noncomputable def Cs.ur(C:Cs):Nat->Nat->Rs->Rs
 |0,_,R=>R
 |f+1,k,R=>match R[k]? with
  |none=>R
  |some p=>C.ur f (k+1) (R++C.new p.1 p.2 (C.st p.1) R)
theorem Fg(K:C.Ok):∀(f k:Nat){R:Rs},C.Ro R->C.Ro (C.ur f k R)
 |0,_,_,X=>X
 |f+1,k,R,X=>by
  rw[Cs.ur];split
  ·exact X
  ·rename_i p e;have m:=QBz e;exact Fg K f _ (nu K (X.ok p m) (X.wr p m) _ (fun x hx=>(K.sub (X.ok p m)).subset hx) X (X.le p m))
def sI(ls:List Bool):St:=(ls,0)
def vm(K:C.Ok):C.S (sI C.ls):=⟨by rw[fP K.o.h2 K.o.g5];exact K.o.ll,K.t.s1⟩
def R0(ls:List Bool):Rs:=[(sI ls,[])]
def Bv(K:C.Ok):C.Ro (R0 C.ls):=⟨by simp[R0],fun p hp=>by rw[QDz.mp hp];exact vm K,fun p hp=>by rw[QDz.mp hp];simp,fun p hp=>by rw[QDz.mp hp];simp⟩
end
end Tx
end
section
open PySem Mini
namespace Tx
section
variable{C:Cs}
def vP(s:St):cR (aB s)=false:=rfl
def tR n:pg.fn (n+1) 22 [.val C.n]=.ok (.val (aB (sI C.ls))) [.val C.n]:=by rfl
def VL:S:=(.cons ABJ (.cons (.ite (.and (.cons (.cmp .notN (.var 6) ABU) ABo)) AAq .nil) .nil))
theorem GJ(n:Nat)(K:C.Ok){s:St}(S:C.S s){r:List D}:∀(xs:List D)(R:Rs)(M:List D)(s5 s6:Sl),(∀x∈xs,x∈C.st s)->C.Ro R->Om s R=some r->r.length<=R.length->(∀x∈r,x∈C.nm)->M.length<=R.length->jr s5->jr s6->∃s5' s6',
  gk (.name 5) (ex (pg.cf (n+3)) VL) xs [.val C.n,.val C.t,.val (aB s),.bor (.sdt (kD R) (vD R)),.own (.lst M),s5,s6]=.next [.val C.n,.val C.t,.val (aB s),.bor (.sdt (kD (R++C.new s r xs R)) (vD (R++C.new s r xs R))),.own (.lst (M++kD (C.new s r xs R))),s5',s6']
 |[]=>fun R M s5 s6 _ _ _ _ _ _ _ _=>⟨s5,s6,by simp[gk,Cs.new,kD]⟩
 |x::xs=>fun R M s5 s6 hx X lr rl rw_' ml h5 h6=>by
  have lt:=K.fB n S (hx x QYz);have hx':=fun y hy=>hx y (QYq _ hy);have tt:fZ (.name 5) x [.val C.n,.val C.t,.val (aB s),.bor (.sdt (kD R) (vD R)),.own (.lst M),s5,s6]=some [.val C.n,.val C.t,.val (aB s),.bor (.sdt (kD R) (vD R)),.own (.lst M),.val x,s6]:=by rcases h5 with rfl|⟨d,rfl⟩<;>simp[fZ,f9]
  rw[gk,tt];simp only[Cs.new];have c6:∀d,zq 6 [.val C.n,.val C.t,.val (aB s),.bor (.sdt (kD R) (vD R)),.own (.lst M),.val x,s6] (.val d) (some s6)=some [.val C.n,.val C.t,.val (aB s),.bor (.sdt (kD R) (vD R)),.own (.lst M),.val x,.val d]:=fun d=>by rcases h6 with rfl|⟨d,rfl⟩<;>simp
  cases e:C.led s x with
  |none=>
   rw[e]at lt;have go:ex (pg.cf (n+3)) VL [.val C.n,.val C.t,.val (aB s),.bor (.sdt (kD R) (vD R)),.own (.lst M),.val x,s6]=.next [.val C.n,.val C.t,.val (aB s),.bor (.sdt (kD R) (vD R)),.own (.lst M),.val x,.val .non]:=by simp[VL,lt,c6,mj]
   simp only[go];exact GJ n K S xs R M _ _ hx' X lr rl rw_' ml (.inr ⟨_,rfl⟩) (.inr ⟨_,rfl⟩)
  |some t=>
   rw[e]at lt;have ni:=Tv t R;by_cases ht:t∈R.map (·.1)
   ·have go:ex (pg.cf (n+3)) VL [.val C.n,.val C.t,.val (aB s),.bor (.sdt (kD R) (vD R)),.own (.lst M),.val x,s6]=.next [.val C.n,.val C.t,.val (aB s),.bor (.sdt (kD R) (vD R)),.own (.lst M),.val x,.val (aB t)]:=by
     rw[QFq ht]at ni;simp[VL,lt,c6,mj,vP,ni,Ob.d]
    simp only[go,if_pos ht]
    exact GJ n K S xs R M _ _ hx' X lr rl rw_' ml (.inr ⟨_,rfl⟩) (.inr ⟨_,rfl⟩)
   ·have rb:=X.vK K;have f1:fits (r.length+1)=true:=by simp[fits];omega
    have f2:fits (M.length+1)=true:=by simp[fits];omega
    have go:ex (pg.cf (n+3)) VL [.val C.n,.val C.t,.val (aB s),.bor (.sdt (kD R) (vD R)),.own (.lst M),.val x,s6]=.next [.val C.n,.val C.t,.val (aB s),.bor (.sdt (kD (R++[(t,r++[x])])) (vD (R++[(t,r++[x])]))),.own (.lst (M++[aB t])),.val x,.val (aB t)]:=by rw[QEz ht]at ni;simp[VL,lt,c6,mj,vP,ni,Ob.d,V6 lr,cV,f1,abK (r:=r++[x]) ht (by omega),f2,VH,ql]
    simp only[go,if_neg ht];obtain⟨a,b,z⟩:=GJ n K S xs _ (M++[aB t]) _ _ hx' (NP X (K.Oq S e) (by simp;omega) ht (K6 rw_' ((K.sub S).subset (hx x QYz)))) (Hf _ lr) (by simp;omega) rw_' (by simp;omega) (.inr ⟨_,rfl⟩) (.inr ⟨_,rfl⟩);refine⟨a,b,?_⟩;rw[show(Fl.next [.val C.n,.val C.t,.val _,.bor _,.own _,.val x,.val _]).turn _=_ from z];simp only[List.append_assoc,QLq,List.nil_append];rfl
def zV n(K:C.Ok)(X:C.Ro R){k:Nat}{s:St}(e:R[k]? =some (s,r)):
  pg.fn (n+6) 27 [.val C.n,.val C.t,.val (aB s),.bor (.sdt (kD R) (vD R))]=.ok (.new (.lst (kD (C.new s r (C.st s) R)))) [.val C.n,.val C.t,.val (aB s),.bor (.sdt (kD (R++C.new s r (C.st s) R)) (vD (R++C.new s r (C.st s) R)))]:=by
 have m:=QBz e;have S:=X.ok _ m;obtain⟨a,b,z⟩:=GJ (n+2) K S _ R [] .un .un (fun x hx=>hx) X (Ds X.nd e) (X.le _ m) (X.wr _ m) (QIq _) (.inl rfl) (.inl rfl);have hb:lq=⟨4,7,(.cons _ (.cons (.for_ _ _ VL) _))⟩:=rfl;rw[zB,hb];simp[cV,K.bh n S,items,z,Ob.d]
def HD x xs:cut (x::xs) (some 1) none=xs:=by
 have a:clip (xs.length+1) 1=1:=by unfold clip;simp;intro z;omega
 simp[cut,a]
def Ib x xs:at? (x::xs) 0=some x:=by simp
end
end Tx
end
section
open PySem Mini
namespace Tx
section
variable{C:Cs}
def Oe(t:∀x∈xs,x∈C.nm):lO xs=true/\gn xs=0:=by
 have ok:∀s∈VJ 3 5,sOk s=true:=by decide+kernel
 induction xs with
 |nil=>exact⟨rfl,rfl⟩
 |cons x xs ih=>have m:=t x QYz;rw[Cs.nm,oA]at m;obtain⟨s,hs,rfl⟩:=QDq.mp m;have i:=ih fun y hy=>t y (QYq _ hy);exact⟨by simp[lO,nd,ok s (GK hs),i.1],by simp[gn,dep,i.2]⟩
end
mutual
theorem qP:∀d:D,nd d=true->dM d d=true
 |.non=>fun _=>rfl
 |.bl b=>fun _=>by cases b<;>rfl
 |.int i=>fun _=>by simp[dM]
 |.str s=>fun _=>by simp[dM]
 |.tup xs=>fun h=>by simpa[dM]using tW xs h
 |.lst xs=>fun h=>by simpa[dM]using tW xs h
 |.dG _ _=>fun h=>by simp[nd]at h
 |.iy _ _=>fun h=>by simp[nd]at h
theorem tW:∀xs:List D,lO xs=true->qI xs xs=true
 |[]=>fun _=>rfl
 |x::xs=>fun h=>by simp only[lO,QUq]at h;simp[qI,qP x h.1,tW xs h.2]
end
def acH(h:nd d=true/\dep d<=50):aK .eq d d=some true/\aK .ne d d=some false:=by
 have o:oK d d=true:=by simp[oK,h.1,h.2]
 constructor
 ·show(if oK d d then some _ else none)=_;rw[qP _ h.1,o];rfl
 ·show(if oK d d then some _ else none)=_;rw[qP _ h.1,o];rfl
def W9 s:nd (aB s)=true/\dep (aB s)<=2:=by
 have a:∀bs:List Bool,lO (bs.map .bl)=true/\gn (bs.map .bl)=0:=fun bs=>by
  induction bs with
  |nil=>exact⟨rfl,rfl⟩
  |cons b bs ih=>exact⟨by simp[lO,nd,ih.1],by simp[gn,dep,ih.2]⟩
 obtain⟨a,b⟩:=a s.1;constructor
 ·simp[aB,cF,nd,lO,a]
 ·simp[aB,cF,dep,gn,b]
end Tx
end
section
open PySem Mini
namespace Tx
section
variable{C:Cs}
def Cs.gone(C:Cs)(s t:St)(x:D):List D:=(C.W s.1).filter fun y=> !aP y (C.W t.1++[x])
def Rg(r:List D):List D->D
 |[]=>.non
 |y::_=>.tup [.str "taken",.lst r,y]
noncomputable def Cs.sf(C:Cs)(s:St)(r:List D)(x:D):D:=
 match C.led s x with
 |none=>.tup [.str "unasked",.lst r]
 |some t=>Rg r (C.gone s t x)
def iT(f:D->D):List D->D
 |[]=>.non
 |x::xs=>if cR (f x)then iT f xs else f x
def Dl(os:List D)(st:List (D×Nat)):Bool:=st.any fun m=>aP m.1 os
noncomputable def Cs.flt(C:Cs)(s:St)(r:List D):D:=
 if (C.st s).isEmpty then(if Dl C.os (cJ C.sts s.2)then .tup [.str "stuck",.lst r]else .non)else iT (fun x=>C.sf s (r++[x]) x) (C.st s)
def ahG(s:Sl):Prop:=s=.un\/(∃d,s=.val d)\/∃o,s=.own o
def JF{xs:List D}(t:dq xs):aK .notin (.str q) (.lst xs)=some (!aP (.str q) xs):=by
 have o:jT (.str q) xs=true:=by unfold jT;rw[jm t];rfl
 show(if jT _ xs then some _ else none)=_;rw[o];rfl
def Wa:S:=(.cons (.ite ABL ABG .nil) .nil)
def Ua u q ws:aP (.str u) (ws++[.str q])=(aP (.str u) ws||decide (u=q)):=by
 rw[pI];congr 1;simp[aP,dM];by_cases e:u=q
 ·simp[e]
 ·simp[e];exact fun z=>e z.symm
theorem V9(c:Cf)(a b e:Sl)(q:Str)(r:List D){ws:List D}(tw:dq ws):∀(xs:List D)(s6:Sl),dq xs->jr s6->∃s6',
  gk (.name 6) (ex c Wa) xs [a,b,e,.val (.str q),.val (.lst r),.own (.lst ws),s6]=match xs.filter (fun y=> !aP y (ws++[.str q]))with
   |[]=>.next [a,b,e,.val (.str q),.val (.lst r),.own (.lst ws),s6']
   |y::ys=>.ret (.val (Rg r (y::ys))) [a,b,e,.val (.str q),.val (.lst r),.own (.lst ws),s6']
 |[]=>fun s6 _ _=>⟨s6,rfl⟩
 |x::xs=>fun s6 t h6=>by
  obtain⟨u,rfl⟩:=t x QYz;have tt:fZ (.name 6) (.str u) [a,b,e,.val (.str q),.val (.lst r),.own (.lst ws),s6]=some [a,b,e,.val (.str q),.val (.lst r),.own (.lst ws),.val (.str u)]:=by rcases h6 with rfl|⟨d,rfl⟩<;>simp[fZ,f9]
  obtain⟨s6',z⟩:=V9 c a b e q r tw xs _ (fun y hy=>t y (QYq _ hy)) (.inr ⟨_,rfl⟩);have ni:=JF (q:=u) tw;rw[gk,tt,List.filter_cons,Ua];cases c1:aP _ ws with
  |true=>
   refine⟨s6',?_⟩;rw[c1]at ni;have go:ex c Wa [a,b,e,.val (.str q),.val (.lst r),.own (.lst ws),.val (.str u)]=.next [a,b,e,.val (.str q),.val (.lst r),.own (.lst ws),.val (.str u)]:=by by_cases cq:u=q<;>simp[Wa,cq,ni,Ob.d]
   simp only[go];exact z
  |false=>
   rw[c1]at ni;by_cases cq:u=q
   ·refine⟨s6',?_⟩;have go:ex c Wa [a,b,e,.val (.str q),.val (.lst r),.own (.lst ws),.val (.str u)]=.next [a,b,e,.val (.str q),.val (.lst r),.own (.lst ws),.val (.str u)]:=by
     simp[Wa,cq]
    simp only[go,QFq cq];exact z
   ·refine⟨.val (.str u),?_⟩;have go:ex c Wa [a,b,e,.val (.str q),.val (.lst r),.own (.lst ws),.val (.str u)]=.ret (.val (.tup [.str "taken",.lst r,.str u])) [a,b,e,.val (.str q),.val (.lst r),.own (.lst ws),.val (.str u)]:=by
     simp[Wa,cq,ni,Ob.d,cV]
    simp only[go,QEz cq];rfl
theorem Zk n(K:C.Ok)(S:C.S s)(hx:x∈C.st s)r:
  pg.fn (n+5) 31 [.val C.n,.val C.t,.val (aB s),.val x,.val (.lst r)]=.ok (.val (C.sf s r x)) [.val C.n,.val C.t,.val (aB s),.val x,.val (.lst r)]:=by
 have lt:=K.fB (n+1) S hx;obtain⟨q,rfl⟩:=bB C.h C.g x ((K.sub S).subset hx);have u:=K.unasked (n+3) S hx;have s0:=aa6 s;have hb:gF=⟨5,7,(.cons _ (.cons _ (.cons (.for_ _ _ Wa) _)))⟩:=rfl;rw[qC,hb];unfold Cs.sf;cases e:C.led s _ with
 |none=>rw[e]at u;simp[u,cV]
 |some t=>
  rw[e]at u lt;have St:=K.Oq S e;have w1:=K.wpr n St;have w2:=K.wpr n S;have t0:=aa6 t;obtain⟨s6,z⟩:=V9 (pg.cf (n+4)) (.val C.n) (.val C.t) (.val (aB s)) q r (K.wtx St) _ .un (K.wtx S) (.inl rfl);show _=Res.ok (.val (Rg r ((C.W s.1).filter fun y=> !aP y _))) _;cases hf:(C.W s.1).filter _ with
  |nil=>rw[hf]at z;simp[u,lt,mj,t0,w1,w2,s0,Ob.d,items,z,Rg]
  |cons y ys=>rw[hf]at z;simp[u,lt,mj,t0,w1,w2,s0,Ob.d,items,z]
def hoC:E:=.comp 1 (.name 0) (.idx AAc AAx) AAL (.cmp .isin AAg AAw)
theorem Ec n(K:C.Ok)(S:C.S s):
  pg.fn (n+1) 30 [.val C.t,.val (aB s)]=.ok (.val (.bl (Dl C.os (cJ C.sts s.2)))) [.val C.t,.val (aB s)]:=by
 have st:=wR S.j;have e:=uf (c:=pg.cf n) (it:=.idx AAc AAx) (el:=.cmp .isin AAg AAw) (σ:=[.val C.t,.val (aB s)]) (τ:=[.val C.t,.val (aB s)]) (r:=.val (o9 (cJ C.sts s.2))) (fun d=>match d with|.tup (a::_)=>.bl (aP a C.os)|_=>.non) (by simp[aaU (C:=C),aeE s,st]) rfl rfl (fun x hx=>by obtain⟨m,hm,rfl⟩:=QDq.mp hx;obtain⟨q,eq⟩:=(nU K.t K.o S.j).1 m.1 (QTz hm);simp[VN,WM (C:=C),eq,(Ac (q:=q) (qK K.t)).2.1])
 have e':ev (pg.cf n) hoC [.val C.t,.val (aB s)]=.ok (.new (.lst ((cJ C.sts s.2).map fun m=>.bl (aP m.1 C.os)))) [.val C.t,.val (aB s)]:=by rw[List.map_map]at e;exact e
 have bs:∀st:List (D×Nat),bools (st.map fun m=>D.bl (aP m.1 C.os))=some (st.map fun m=>aP m.1 C.os):=fun st=>by
  induction st with
  |nil=>rfl
  |cons m st ih=>simp only[Qyz,bools,ih,Option.map_some]
 have ba:b1 .any (.lst ((cJ C.sts s.2).map fun m=>D.bl (aP m.1 C.os)))=some (.val (.bl (Dl C.os (cJ C.sts s.2)))):=by show(bools _).map _=_;rw[bs];simp[Dl,List.any_map]
 have hb:pR=⟨2,2,(.cons (.ret (.bi .any hoC)) .nil)⟩:=rfl;have q:hoC.aF=none:=rfl;rw[Jl,hb];simp[q,e',Ob.d,ba]
def faB:S:=(.cons AAk (.cons (.ite (.cmp .notN (.var 6) ABU) (.cons (.ret (.var 6)) .nil) .nil) .nil))
theorem Wb(n:Nat)(K:C.Ok){s:St}(S:C.S s){r:List D}(hr:r.length<=512)(a4:Sl):∀(xs:List D)(s5 s6:Sl),(∀x∈xs,x∈C.st s)->jr s5->jr s6->∃s5' s6',
  gk (.name 5) (ex (pg.cf (n+5)) faB) xs [.val C.n,.val C.t,.val (aB s),.val (.lst r),a4,s5,s6]=if cR (iT (fun x=>C.sf s (r++[x]) x) xs)then .next [.val C.n,.val C.t,.val (aB s),.val (.lst r),a4,s5',s6']
   else .ret (.val (iT (fun x=>C.sf s (r++[x]) x) xs)) [.val C.n,.val C.t,.val (aB s),.val (.lst r),a4,s5',s6']
 |[]=>fun s5 s6 _ _ _=>⟨s5,s6,rfl⟩
 |x::xs=>fun s5 s6 hx h5 h6=>by
  have fo:=Zk n K S (hx x QYz) (r++[x]);have f1:fits (r.length+1)=true:=by simp[fits];omega
  have tt:fZ (.name 5) x [.val C.n,.val C.t,.val (aB s),.val (.lst r),a4,s5,s6]=some [.val C.n,.val C.t,.val (aB s),.val (.lst r),a4,.val x,s6]:=by rcases h5 with rfl|⟨d,rfl⟩<;>simp[fZ,f9]
  have c6:∀d,zq 6 [.val C.n,.val C.t,.val (aB s),.val (.lst r),a4,.val x,s6] (.val d) (some s6)=some [.val C.n,.val C.t,.val (aB s),.val (.lst r),a4,.val x,.val d]:=fun d=>by rcases h6 with rfl|⟨d,rfl⟩<;>simp
  rw[gk,tt];simp only[iT];cases e:cR (C.sf s _ x)with
  |true=>
   have en:C.sf s (r++[x]) x=.non:=by cases he:C.sf s _ x<;>first|rfl|(rw[he]at e;cases e)
   rw[en]at fo;have go:ex (pg.cf (n+5)) faB [.val C.n,.val C.t,.val (aB s),.val (.lst r),a4,.val x,s6]=.next [.val C.n,.val C.t,.val (aB s),.val (.lst r),a4,.val x,.val .non]:=by simp[faB,cV,Ob.d,f1,fo,c6]
   simp only[go,if_true];exact Wb n K S hr a4 xs _ _ (fun y hy=>hx y (QYq _ hy)) (.inr ⟨_,rfl⟩) (.inr ⟨_,rfl⟩)
  |false=>
   refine⟨.val x,.val (C.sf s (r++[x]) x),?_⟩;have go:ex (pg.cf (n+5)) faB [.val C.n,.val C.t,.val (aB s),.val (.lst r),a4,.val x,s6]=.ret (.val (C.sf s (r++[x]) x)) [.val C.n,.val C.t,.val (aB s),.val (.lst r),a4,.val x,.val (C.sf s (r++[x]) x)]:=by simp[faB,cV,Ob.d,f1,fo,c6,e]
   simp only[go,Qxq,if_false,e];rfl
theorem An n(K:C.Ok)(S:C.S s)(hr:r.length<=512):
  pg.fn (n+6) 29 [.val C.n,.val C.t,.val (aB s),.val (.lst r)]=.ok (.val (C.flt s r)) [.val C.n,.val C.t,.val (aB s),.val (.lst r)]:=by
 have st:=K.bh n S;have ho:=Ec (n+4) K S;obtain⟨a,b,z⟩:=Wb n K S hr (.val (.lst (C.st s))) _ .un .un (fun x hx=>hx) (.inl rfl) (.inl rfl);have hb:nO=⟨4,7,(.cons _ (.cons _ (.cons (.for_ _ _ faB) _)))⟩:=rfl;rw[CW,hb];unfold Cs.flt;cases c:(C.st s).isEmpty with
 |true=>
  cases co:Dl C.os _ with
  |true=>rw[co]at ho;simp[st,Ob.d,c,ho,cV]
  |false=>rw[co]at ho;simp[st,Ob.d,ho,List.isEmpty_iff.mp c,items,gk]
 |false=>
  cases cn:cR (iT _ _)with
  |true=>
   have en:iT (fun x=>C.sf s (r++[x]) x) (C.st s)=.non:=by cases he:iT _ _<;>first|rfl|(rw[he]at cn;cases cn)
   rw[cn,if_pos rfl]at z;rw[en];simp[st,Ob.d,c,items,z]
  |false=>rw[cn,if_neg (by simp)]at z;simp[st,Ob.d,c,items,z]
end
end Tx
end
section
open PySem Mini
namespace Tx
section
variable{C:Cs}
def N7(e:cR d=true):d=.non:=by cases d<;>first|rfl|cases e
theorem HY:∀(f k:Nat)(R:Rs),∃Z,C.ur f k R=R++Z
 |0=>fun _ R=>⟨[],by simp[Cs.ur]⟩
 |f+1=>fun k R=>by
  rw[Cs.ur];split
  ·exact⟨[],by simp⟩
  ·rename_i p e;obtain⟨Z,z⟩:=HY f _ _;exact⟨_,by rw[z,List.append_assoc]⟩
def Cs.ff(C:Cs):Rs->D
 |[]=>.non
 |p::R=>if cR (C.flt p.1 p.2)then C.ff R else C.flt p.1 p.2
def ftB:S:=(.cons AAo (.cons (.ite (.cmp .notN (.var 4) ABU) ABg .nil) AAb))
theorem V8(n:Nat)(K:C.Ok):∀(f k:Nat)(R:Rs)(s4:Sl),C.Ro R->k<=R.length->512<f+k->jr s4->∃a b c,
  fW (ev (pg.cf (n+6)) (.var 3)) (ex (pg.cf (n+6)) ftB) f [.val C.n,.val C.t,.own (.sdt (kD R) (vD R)),.own (.lst (kD (R.drop k))),s4]=
   if cR (C.ff ((C.ur f k R).drop k))then .next [.val C.n,.val C.t,a,b,c]else .ret (.val (C.ff ((C.ur f k R).drop k))) [.val C.n,.val C.t,a,b,c]
 |0=>fun k R _ X hk hf _=>by have:=X.vK K;omega
 |f+1=>fun k R s4 X hk hf h4=>by
  by_cases c:k<R.length
  ·obtain⟨p,e⟩:∃p,R[k]? =some p:=⟨_,QXq c⟩;obtain⟨s,r⟩:=p;have m:=QBz e;have S:=X.ok _ m;have fa:=An n K S (Nat.le_trans (X.le _ m) (X.vK K));have ge:=V6 (Ds X.nd e);have dr:kD (R.drop k)=aB s::kD (R.drop (k+1)):=by
    rw[List.drop_eq_getElem_cons c];rw[QXq c]at e;simp only[Option.some.injEq]at e;simp[kD,e]
   have X':=nu K S (X.wr _ m) _ (fun x hx=>(K.sub S).subset hx) X (X.le _ m);have rb':=X'.vK K;simp only[QTq]at rb';have fi:fits ((kD (R.drop (k+1))).length+(kD (C.new s r (C.st s) R)).length)=true:=by rw[sZ,sZ,List.length_drop];simp[fits];omega
   have az:=Ib (aB s) (kD (R.drop (k+1)));have c4:∀d,zq 4 [.val C.n,.val C.t,.own (.sdt (kD R) (vD R)),.val (.lst (aB s::kD (R.drop (k+1)))),s4] (.val d) (some s4)=some [.val C.n,.val C.t,.own (.sdt (kD R) (vD R)),.val (.lst (aB s::kD (R.drop (k+1)))),.val d]:=fun d=>by rcases h4 with rfl|⟨d,rfl⟩<;>simp
   have bd:(C.ur (f+1) k R).drop k=(s,r)::(C.ur f (k+1) (R++C.new s r (C.st s) R)).drop (k+1):=by
    have b1:C.ur (f+1) k R=C.ur f (k+1) (R++C.new s r (C.st s) R):=by simp only[Cs.ur,e]
    obtain⟨Z,z⟩:=HY f _ _;rw[b1,z,List.append_assoc,List.drop_eq_getElem_cons (by simp;omega),List.getElem_append_left c];rw[QXq c]at e;simp only[Option.some.injEq]at e;rw[e]
   rw[bd,dr,fW];simp only[Cs.ff,agi,Mt];cases cn:cR (C.flt s r)with
   |true=>
    have dd:kD ((R++C.new s r (C.st s) R).drop (k+1))=kD (R.drop (k+1))++kD (C.new s r (C.st s) R):=by rw[List.drop_append_of_le_length (by omega),DG]
    rw[N7 cn]at fa;have go:ex (pg.cf (n+6)) ftB [.val C.n,.val C.t,.own (.sdt (kD R) (vD R)),.val (.lst (aB s::kD (R.drop (k+1)))),s4]=.next [.val C.n,.val C.t,.own (.sdt (kD (R++C.new s r (C.st s) R)) (vD (R++C.new s r (C.st s) R))),.own (.lst (kD ((R++C.new s r (C.st s) R).drop (k+1)))),.val .non]:=by rw[dd];simp[ftB,eZ,E.lW,mU,HD,az,zV n K X e,fi,Ob.d,ge,fa,c4]
    obtain⟨a,b,c',z⟩:=V8 n K f (k+1) _ _ X' (by simp;omega) (by omega) (.inr ⟨_,rfl⟩);refine⟨a,b,c',?_⟩;simp only[if_true];rw[<-z];simp[Ob.d,go,Out.BR];rfl
   |false=>
    have go:ex (pg.cf (n+6)) ftB [.val C.n,.val C.t,.own (.sdt (kD R) (vD R)),.val (.lst (aB s::kD (R.drop (k+1)))),s4]=.ret (.val (C.flt s r)) [.val C.n,.val C.t,.own (.sdt (kD R) (vD R)),.val (.lst (aB s::kD (R.drop (k+1)))),.val (C.flt s r)]:=by simp[ftB,az,Ob.d,ge,fa,c4,cn]
    refine⟨.own (.sdt (kD R) (vD R)),.val (.lst (aB s::kD (R.drop (k+1)))),.val (C.flt s r),?_⟩;simp[Ob.d,go,Out.BR,cn];rfl
  ·have dk:R.drop k=[]:=List.drop_eq_nil_of_le (by omega);refine⟨.own (.sdt (kD R) (vD R)),.val (.lst []),s4,?_⟩;rw[fW,Cs.ur,(List.getElem?_eq_none (by omega))];simp[kD,Ob.d,Out.BR,dk,Cs.ff,cR];rfl
theorem Qc n(K:C.Ok):
  pg.fn (n+10) 28 [.val C.n,.val C.t]=.ok (.val (C.ff (C.ur 4000000 0 (R0 C.ls)))) [.val C.n,.val C.t]:=by
 have c:=K.checked n;have f:=tR (n+8) (C:=C);obtain⟨q1,q2,q3,z⟩:=V8 (n+3) K 4000000 0 _ .un (Bv K) (QIq _) (by omega) (.inl rfl);have k0:kD ((R0 C.ls).drop 0)=[aB _]:=rfl;have k1:kD (R0 C.ls)=[aB _]:=rfl;have v1:vD (R0 C.ls)=[.lst []]:=rfl;rw[k0,k1,v1,List.drop_zero]at z;have tn:(pg.cf (n+9)).turns=4000000:=rfl;have ds:Aw [aB (sI C.ls),.lst []]=some (.new (.sdt [aB (sI C.ls)] [.lst []])):=by
  have:Kq [aB (sI C.ls),.lst []]=some (.new (.sdt [aB (sI C.ls)] [.lst []])):=by show(if cH _ then _ else none)=_;rw[kE];rfl
  unfold Aw;rw[this];rfl
 have hb:yx=⟨2,5,(.cons _ (.cons _ (.cons _ (.cons (.while_ _ ftB) _))))⟩:=rfl;have bl:∀ks vs:List D,b1 .list (.iy ks vs)=some _:=fun _ _=>rfl;rw[R7,hb];generalize C.ff _=d at*;cases cn:cR d with
 |true=>rw[cn,if_pos rfl]at z;rw[N7 cn];simp[c,f,cV,ds,bl,Ob.d,tn,z]
 |false=>rw[cn,if_neg (by simp)]at z;simp[c,f,cV,ds,bl,Ob.d,tn,z]
end
end Tx
end
section
open PySem Mini
namespace Tx
noncomputable def rF(xs:List D)(bs:List Bool):D->Bool->Bool
 |.tup [_,.tup [_,a],b,_],own=>if (fK xs bs b==fK xs bs a)==false then fK xs bs a else own
 |_,_=>false
noncomputable def rP(g:Nat)(bs:List Bool)(x:D×D):Bool:= !(rF (names 0 g) bs x.2 (fK (names 0 g) bs x.1)==fK (names 0 g) bs x.1)
def Wr(g:Nat)(bs:List Bool):List D:=(((gA g).zip (cL g)).filter (rP g bs)).map (·.1)
def CG{xs:List D}{bs:List Bool}(h:dq xs)(hl:bs.length=xs.length){a b:D}(ha:a∈xs)(hb:b∈xs)(own:Bool)(n:Nat):
  Agree xs bs (n+3) (.tup [.str "held",.tup [.str "same",a],b,.bl false]) own (rF xs bs (.tup [.str "held",.tup [.str "same",a],b,.bl false]) own):=by
 have ea:=tQ h hl ha;have eb:=tQ h hl hb;have i:pg.fn (n+1) 15 [.val (.tup [.str "same",a]),.val (.bl own),.val (.dG xs (bs.map .bl))]=.ok (.val (.bl (fK xs bs a))) [.val (.tup [.str "same",a]),.val (.bl own),.val (.dG xs (bs.map .bl))]:=by rw[My,FW];simp[Lh,ea]
 have hh:pg.fn (n+2) 16 [.val (.tup [.str "held",.tup [.str "same",a],b,.bl false]),.val (.bl own),.val (.dG xs (bs.map .bl))]=.ok (.val (.bl (if (fK xs bs b==fK xs bs a)==false then fK xs bs a else own))) [.val (.tup [.str "held",.tup [.str "same",a],b,.bl false]),.val (.bl own),.val (.dG xs (bs.map .bl))]:=by rw[zA];cases hc:((fK xs bs b==fK xs bs a)==false)<;>simp[kZ,i,eb,hc]
 rw[Agree,My,FW];simp[Lh,hh,rF]
def Jg{g:Nat}(hg:g=3\/g=4\/g=5):∀d∈cL g,∃a b,a∈names 0 g/\b∈names 0 g/\d=.tup [.str "held",.tup [.str "same",a],b,.bl false]:=by intro d h;rcases hg with rfl|rfl|rfl<;>simp only[cL,QCq,QAz,or_false]at h<;>rcases h with rfl|rfl|rfl|rfl|rfl<;>exact⟨_,_,by simp[names,hd,gA],by simp[names,hd,gA],rfl⟩
def RX{g:Nat}{ls:List Bool}(hg:g=3\/g=4\/g=5)(O:gr 0 g (cL g) ls):Wt 0 g (cL g) ls (Wr g):=by
 have T:=bB 0 g;have Nd:=names_nodup O.h2 O.g1 O.g5;have lg:=fj O.g5;refine⟨fun bs hl=>?_,fun bs hl n=>?_⟩
 ·have s1:((((gA g).zip (cL g)).filter (rP g bs)).map (·.1)).Sublist (((gA g).zip (cL g)).map (·.1)):=(List.filter_sublist).map _;have s2:((gA g).zip (cL g)).map (·.1)=gA g:=List.map_fst_zip (by rw[lg,O.kl];exact QVz _);rw[s2]at s1;exact s1
 have mem:∀x∈(gA g).zip (cL g),x.1∈names 0 g/\x.2∈cL g:=fun x hx=>⟨QVq _ (List.of_mem_zip hx).1,(List.of_mem_zip hx).2⟩;obtain⟨x0,ps,zeq⟩:∃x0 ps,(gA g).zip (cL g)=x0::ps:=by rcases hg with rfl|rfl|rfl<;>exact⟨_,_,rfl⟩
 have dz:dictOf [] [] (cC (names 0 g) (bs.map .bl))=some (names 0 g,bs.map .bl):=Ax (by simpa using hl) T Nd;have w1:pg.fn (n+3) 13 [.val (cG 0 g (cL g) ls)]=.ok (.new (.lst (names 0 g))) [.val (cG 0 g (cL g) ls)]:=
  dY (n+2) (hd 0) (gA g) (cL g) (.tup (ls.map .bl)) (by rw[O.kl,lg]) (by have:=O.g5;have:(hd 0).length=0:=rfl;omega)
 have e1:ev (pg.cf (n+3)) K8 [.val (cG 0 g (cL g) ls),.val (cF bs),.own (.dct (names 0 g) (bs.map .bl))]=.ok (.new (.lst (Wr g bs))) [.val (cG 0 g (cL g) ls),.val (cF bs),.val (.dG (names 0 g) (bs.map .bl))]:=by
  unfold Wr;rw[zeq]at mem⊢;have c0:∀x,x∈x0::ps->∀s:Sl,(s=.own (.dct (names 0 g) (bs.map .bl))\/s=.val (.dG (names 0 g) (bs.map .bl)))->ev (pg.cf (n+3)) AAV [.val x.1,.val x.2,.val (cG 0 g (cL g) ls),.val (cF bs),s]=.ok (.val (.bl (rP g bs x))) [.val x.1,.val x.2,.val (cG 0 g (cL g) ls),.val (cF bs),.val (.dG (names 0 g) (bs.map .bl))]:=fun x hx s hs=>by obtain⟨m1,m2⟩:=mem x hx;have gl:=tQ T hl m1;obtain⟨a,b,ha,hb,e⟩:=Jg hg x.2 m2;have t:=CG T hl ha hb (fK (names 0 g) bs x.1) n;rw[<-e]at t;unfold Agree at t;rcases hs with rfl|rfl<;>simp[gl,t,rP]
  have it:items (.tup (cC (gA g) (cL g)))=some ((x0::ps).map pairD):=by show some _=some _;rw[fL,zeq]
  exact Zv (·.1) (rP g bs) (r:=.val (.tup (cC (gA g) (cL g)))) (τ0:=[.val (cG 0 g (cL g) ls),.val (cF bs),.own (.dct (names 0 g) (bs.map .bl))]) (by simp[cG]) rfl it (c0 x0 QYz _ (.inl rfl)) (fun x hx=>c0 x (QYq _ hx) _ (.inr rfl)) (fun x _ _=>by simp)
 have hb:gD=⟨2,3,(.cons (.set 2 (.bi .dict ABN)) (.cons (.ret K8) .nil))⟩:=rfl;have q:K8.aF=none:=rfl;have z:bF (cF bs)=some (bs.map .bl):=rfl;rw[qz,hb];simp[w1,z,dz,e1,q]
def BK(g k:Nat):D:=(gA g).getD k .non
def bt(bs:List Bool)(k:Nat):Bool:=bs.getD k false
def pv(g k:Nat):Nat:=(k+g-1)%g
def ue(g:Nat)(bs:List Bool)(k:Nat):Bool:=bt bs k !=bt bs (pv g k)
def gB(g:Nat)(bs:List Bool):Nat:=((List.range g).filter (ue g bs)).length
def ib(b:Bool):Nat:=if b then 1 else 0
noncomputable def Ms(g:Nat)(bs:List Bool)(x:D):Bool:=
 (Wr g bs).all (fun y=>dM x y||aP y (Wr g (cZ (names 0 g) bs x)))&&gB g (cZ (names 0 g) bs x)==gB g bs&&((List.range g).all fun k=>bt (cZ (names 0 g) bs x) k==(bt bs k !=dM x (BK g k))&&ib (ue g (cZ (names 0 g) bs x) k)+ib (dM x (BK g k))==ib (ue g bs k)+ib (dM x (BK g (pv g k))))
noncomputable def w5(g:Nat)(bs:List Bool):Bool:=(Wr g bs).all (Ms g bs)&&((gB g bs==0||gB g bs==g)==(Wr g bs).isEmpty)
def zu{g:Nat}(hg:g=3\/g=4\/g=5){bs:List Bool}(hl:bs.length=g):w5 g bs=true:=by
 have m:=lB bs;rw[hl]at m;have z:(allB g).all (w5 g)=true:=by rcases hg with rfl|rfl|rfl<;>decide+kernel
 exact List.all_eq_true.mp z bs m
end Tx
end
section
open PySem Mini
namespace Tx
section
variable{C:Cs}
def stB:S:=AAb
theorem Vm(n:Nat)(K:C.Ok):∀(f k:Nat)(R:Rs),C.Ro R->k<=R.length->512<f+k->
  fW (ev (pg.cf (n+6)) (.var 3)) (ex (pg.cf (n+6)) stB) f [.val C.n,.val C.t,.own (.sdt (kD R) (vD R)),.own (.lst (kD (R.drop k)))]=.next [.val C.n,.val C.t,.own (.sdt (kD (C.ur f k R)) (vD (C.ur f k R))),.val (.lst [])]
 |0=>fun k R X hk hf=>by have:=X.vK K;omega
 |f+1=>fun k R X hk hf=>by
  by_cases c:k<R.length
  ·obtain⟨p,e⟩:∃p,R[k]? =some p:=⟨_,QXq c⟩;obtain⟨s,r⟩:=p;have nw:=zV n K X e;have dr:kD (R.drop k)=aB s::kD (R.drop (k+1)):=by
    rw[List.drop_eq_getElem_cons c];rw[QXq c]at e;simp only[Option.some.injEq]at e;simp[kD,e]
   have m:=QBz e;have X':=nu K (X.ok _ m) (X.wr _ m) _ (fun x hx=>(K.sub (X.ok _ m)).subset hx) X (X.le _ m);have rb':=X'.vK K;simp only[QTq]at rb';have fi:fits ((kD (R.drop (k+1))).length+(kD (C.new s r (C.st s) R)).length)=true:=by rw[sZ,sZ,List.length_drop];simp[fits];omega
   have go:ex (pg.cf (n+6)) stB [.val C.n,.val C.t,.own (.sdt (kD R) (vD R)),.val (.lst (aB s::kD (R.drop (k+1))))]=.next [.val C.n,.val C.t,.own (.sdt (kD (R++C.new s r (C.st s) R)) (vD (R++C.new s r (C.st s) R))),.own (.lst (kD ((R++C.new s r (C.st s) R).drop (k+1))))]:=by
    have dd:kD ((R++C.new s r (C.st s) R).drop (k+1))=kD (R.drop (k+1))++kD (C.new s r (C.st s) R):=by rw[List.drop_append_of_le_length (by omega),DG]
    rw[dd];have az:=Ib (aB s) (kD (R.drop (k+1)));simp[stB,eZ,E.lW,mU,HD,az,nw,fi,Ob.d]
   rw[dr,fW];have tr:iY (.lst (aB s::kD (R.drop (k+1))))=some true:=rfl;simp[tr,Ob.d,go,Out.BR];rw[Vm n K f _ _ X' (by simp;omega) (by omega)];simp only[Cs.ur,e]
  ·have dk:R.drop k=[]:=List.drop_eq_nil_of_le (by omega);have ge:R[k]? =none:=List.getElem?_eq_none (by omega);have tr:iY (.lst [])=some false:=rfl;rw[dk,fW,Cs.ur,ge];simp[kD,Ob.d,tr,Out.BR]
def Iw n(K:C.Ok):
  pg.fn (n+10) 21 [.val C.n,.val C.t]=.ok (.new (.lst (kD (C.ur 4000000 0 (R0 C.ls))))) [.val C.n,.val C.t]:=by
 have c:=K.checked n;have f:=tR (n+8) (C:=C);have z:=Vm (n+3) K 4000000 0 (R0 C.ls) (Bv K) (QIq _) (by omega);have k0:kD ((R0 C.ls).drop 0)=[aB (sI C.ls)]:=rfl;have k1:kD (R0 C.ls)=[aB (sI C.ls)]:=rfl;have v1:vD (R0 C.ls)=[.lst []]:=rfl;rw[k0,k1,v1]at z;have tn:(pg.cf (n+9)).turns=4000000:=rfl;have ds:Aw [aB (sI C.ls),.lst []]=some (.new (.sdt [aB (sI C.ls)] [.lst []])):=by
  have:Kq [aB (sI C.ls),.lst []]=some (.new (.sdt [aB (sI C.ls)] [.lst []])):=by show(if cH (aB (sI C.ls))then _ else none)=_;rw[kE];rfl
  unfold Aw;rw[this];rfl
 have hb:uw=⟨2,4,(.cons _ (.cons _ (.cons _ (.cons (.while_ (.var 3) stB) _))))⟩:=rfl;have q:(E.bi .list (.var 2)).aF=none:=rfl;have bl:∀ks vs:List D,b1 .list (.iy ks vs)=some _:=fun _ _=>rfl;rw[Mz,hb];simp[c,f,cV,ds,bl,Ob.d,tn,z,q]
def zb(n:Nat)(K:C.Ok){s:St}(S:C.S s):
  pg.fn (n+10) 20 [.val C.n,.val C.t,.val (aB s)]=.ok (.new (.lst (C.st s))) [.val C.n,.val C.t,.val (aB s)]:=by
 have c:=K.checked n;have st:=K.bh (n+4) S;rw[R6];simp[yw,c,st]
def Cr(g:Nat)(ls:List Bool):Cs:=⟨0,g,cL g,ls,[],[[]],Wr g⟩
end
section
variable{g:Nat}{ls bs:List Bool}{s:St}
def acM(hg:g=3\/g=4\/g=5)(O:gr 0 g (cL g) ls):(Cr g ls).Ok:=⟨O,JG 0 g,RX hg O⟩
def acL(s:St):(Cr g ls).st s=Wr g s.1:=rfl
def Qn(s:St)(x:D):(Cr g ls).led s x=some (cZ (names 0 g) s.1 x,s.2):=rfl
def lJ(hg:g=3\/g=4\/g=5)(hl:bs.length=g){x:D}(hx:x∈Wr g bs):(∀y∈Wr g bs,(dM x y||aP y (Wr g (cZ (names 0 g) bs x)))=true)/\gB g (cZ (names 0 g) bs x)=gB g bs/\
  ∀k,k<g->bt (cZ (names 0 g) bs x) k=(bt bs k !=dM x (BK g k))/\ib (ue g (cZ (names 0 g) bs x) k)+ib (dM x (BK g k))=ib (ue g bs k)+ib (dM x (BK g (pv g k))):=by
 have z:=zu hg hl;simp only[w5,QUq,List.all_eq_true]at z;have y:=z.1 x hx;simp only[Ms,QUq,List.all_eq_true,beq_iff_eq,List.mem_range]at y;exact⟨y.1.1,y.1.2,fun k hk=>y.2 k hk⟩
def mX(hg:g=3\/g=4\/g=5)(hl:bs.length=g):(gB g bs==0||gB g bs==g)=(Wr g bs).isEmpty:=by have z:=zu hg hl;simp only[w5,QUq,beq_iff_eq]at z;exact z.2
theorem tU{f:D->D}:∀{xs:List D},(∀x∈xs,f x=.non)->iT f xs=.non
 |[]=>fun _=>rfl
 |x::xs=>fun h=>by rw[iT,h x QYz,if_pos (show cR .non=true from rfl)];exact tU fun y hy=>h y (QYq _ hy)
def names0(hg:g=3\/g=4\/g=5):(names 0 g).length=g:=(fP (by omega) (by omega)).trans (Nat.zero_add g)
def Mr(hg:g=3\/g=4\/g=5)(S:(Cr g ls).S s)(r:List D):(Cr g ls).flt s r=.non:=by
 have l:s.1.length=g:=S.l.trans (names0 hg);have so:cJ [[]] s.2=[]:=by unfold cJ;cases s.2<;>rfl
 unfold Cs.flt;split
 ·rw[show Dl (Cr g ls).os (cJ (Cr g ls).sts s.2)=false by show Dl [] (cJ [[]] s.2)=false;rw[so];rfl];rfl
 ·refine tU fun x hx=>?_;have z:=(lJ hg l hx).1;unfold Cs.sf;rw[Qn];have e:(Cr g ls).gone s (cZ (names 0 g) s.1 x,s.2) x=[]:=by
   refine List.filter_eq_nil_iff.mpr fun y hy=>?_;have:=z y hy;rw[pI];simp only[aP,Bool.or_false,Bool.not_eq_true',Bool.not_eq_false];rw[Bool.or_comm];exact this
  simp only[e];rfl
theorem Qa(hg:g=3\/g=4\/g=5):∀{R:Rs},(∀p∈R,(Cr g ls).S p.1)->(Cr g ls).ff R=.non
 |[]=>fun _=>rfl
 |p::R=>fun h=>by rw[Cs.ff,Mr hg (h p QYz),if_pos (show cR .non=true from rfl)];exact Qa hg fun q hq=>h q (QYq _ hq)
theorem FQ(hg:g=3\/g=4\/g=5)(K:(Cr g ls).Ok){u:Nat}:∀(f k:Nat){R:Rs},(Cr g ls).Ro R->(∀p∈R,gB g p.1.1=u)->∀p∈(Cr g ls).ur f k R,gB g p.1.1=u
 |0,_,_,_,h=>h
 |f+1,k,R,X,h=>by
  rw[Cs.ur];split
  ·exact h
  ·rename_i p e;have m:=QBz e;have S:=X.ok p m;have nw:∀(xs:List D)(Q:Rs),(∀x∈xs,x∈Wr g p.1.1)->∀q∈(Cr g ls).new p.1 p.2 xs Q,gB g q.1.1=u:=by
    intro xs;induction xs with
    |nil=>intro Q _ q hq;cases hq
    |cons x xs ih=>
     intro Q hx q hq;have hx':∀y∈xs,y∈Wr g p.1.1:=fun y hy=>hx y (QYq _ hy);rw[Cs.new,Qn]at hq;simp only at hq;split at hq
     ·exact ih Q hx' q hq
     ·rcases QCq.mp hq with z|z
      ·rw[z];exact((lJ hg (S.l.trans (names0 hg)) (hx x QYz)).2.1).trans (h p m)
      ·exact ih _ hx' q z
   exact FQ hg K f (k+1) (nu K S (X.wr p m) _ (fun x hx=>(K.sub S).subset hx) X (X.le p m)) fun q hq=>by
    rcases QXz.mp hq with z|z
    ·exact h q z
    ·exact nw _ _ (fun x hx=>hx) q z
end
end Tx
end
section
open PySem Mini
namespace Tx
inductive ZX(g:Nat)(a:List Bool):List D->List Bool->Prop
 |nil:ZX g a [] a
 |snoc {xs:List D} {b:List Bool} {x:D}:ZX g a xs b->x∈Wr g b->ZX g a (xs++[x]) (cZ (names 0 g) b x)
theorem nF(y x:D):∀xs,aQ y (xs++[x])=aQ y xs+ib (dM x y)
 |[]=>by simp[aQ,ib]
 |z::xs=>by rw[QLq,aQ,aQ,nF y x xs,Nat.add_assoc]
section
variable{g:Nat}{a b:List Bool}{xs:List D}
def NZ(p:Bool)(c:Nat)(e:Bool):((p !=decide (c%2=1)) !=e)=(p !=decide ((c+ib e)%2=1)):=by
 cases e
 ·rw[show ib false=0 from rfl,Nat.add_zero];cases p<;>cases decide (c%2=1)<;>rfl
 ·have:(c+1)%2=1↔ ¬c%2=1:=by omega
  simp only[ib,if_true,this];cases p<;>by_cases z:c%2=1<;>simp[z]
theorem Xv(hg:g=3\/g=4\/g=5)(ha:a.length=g)(p:ZX g a xs b):b.length=g/\gB g b=gB g a/\(∀x∈xs,x∈gA g)/\
  ∀k,k<g->bt b k=(bt a k !=decide (aQ (BK g k) xs%2=1))/\ib (ue g b k)+aQ (BK g k) xs=ib (ue g a k)+aQ (BK g (pv g k)) xs:=by
 have n0:=names0 hg;induction p with
 |nil=>exact⟨ha,rfl,(fun x hx=>by cases hx),fun k _=>⟨by simp[aQ],by simp[aQ]⟩⟩
 | @snoc xs b x p hx ih=>
  obtain⟨i1,i2,i3,i4⟩:=ih;obtain⟨_,s2,s3⟩:=lJ hg i1 hx;have hr:x∈gA g:=by obtain⟨q,hq,rfl⟩:=QDq.mp hx;exact(List.of_mem_zip (List.mem_filter.mp hq).1).1
  refine⟨(oH (i1.trans n0.symm) x).trans n0,s2.trans i2,fun y hy=>?_,fun k hk=>?_⟩
  ·rcases QXz.mp hy with z|z
   ·exact i3 y z
   ·rw[QDz.mp z];exact hr
  ·obtain⟨e1,e2⟩:=i4 k hk;obtain⟨e3,e4⟩:=s3 k hk;rw[nF,nF];exact⟨by rw[e3,e1,NZ],by omega⟩
theorem vZ{x:D}(e:dM x x=true):∀{xs:List D},x∈xs->0<aQ x xs
 |[]=>fun h=>by cases h
 |y::xs=>fun h=>by
  rw[aQ];rcases QCq.mp h with rfl|h
  ·rw[e];simp;omega
  ·have:=vZ e h;omega
def Jq(hg:g=3\/g=4\/g=5)(ha:a.length=g)(p:ZX g a xs a)(ne:xs≠[]):∃c:Nat,0<c/\c%2=0/\∀y∈gA g,aQ y xs=c:=by
 obtain⟨_,_,m,f⟩:=Xv hg ha p;have lg:(gA g).length=g:=fj (by omega);have all:∀k,k<g->aQ (BK g k) xs=aQ (BK g 0) xs:=by
  intro k;induction k with
  |zero=>intro _;rfl
  |succ k ih=>
   intro hk;have e:=(f (k+1) hk).2;have pk:pv g (k+1)=k:=by unfold pv;rw[show k+1+g-1=k+g by omega,Nat.add_mod_right,Nat.mod_eq_of_lt (by omega)]
   rw[pk]at e;rw[<-ih (by omega)];omega
 have at_:∀y∈gA g,aQ y xs=aQ (BK g 0) xs:=fun y hy=>by obtain⟨k,hk,e⟩:=List.mem_iff_getElem.mp hy;rw[lg]at hk;rw[<-all k hk];congr 1;rw[<-e];simp[BK,List.getD,lg,hk]
 refine⟨aQ (BK g 0) xs,?_,?_,at_⟩
 ·obtain⟨x,hx⟩:=List.exists_mem_of_ne_nil xs ne;rw[<-at_ x (m x hx)];obtain⟨s,rfl⟩:=wZ g x (m x hx);exact vZ (by simp[dM]) hx
 ·have e:=(f 0 (by omega)).1;have h:aQ (BK g 0) xs%2=0\/aQ (BK g 0) xs%2=1:=by omega
  rcases h with h|h
  ·exact h
  ·rw[h]at e;cases bt a 0<;>simp at e
end
noncomputable def uC:Nat->List (List Int)
 |0=>[[]]
 |n+1=>[]::(([0,1,2,3,4,5,6]:List Int).flatMap fun d=>(uC n).map (d:: ·))
theorem Bp:∀n,(uC n).length+1<=2*8 ^n
 |0=>by simp[uC]
 |n+1=>by have:=Bp n;simp[uC,List.flatMap];omega
theorem Bo:∀(n:Nat)(ws:List Int),ws.length<=n->(∀w∈ws,0<=w/\w<=6)->ws∈uC n
 |0,[]=>fun _ _=>by simp[uC]
 |n+1,[]=>fun _ _=>by simp[uC]
 |0,_::_=>fun h _=>by simp at h
 |n+1,w::ws=>fun h hw=>by have:=Bo n ws (by simpa using h) fun v hv=>hw v (QYq _ hv);have b:=hw w QYz;rw[uC];refine QYq _ (List.mem_flatMap.mpr ⟨w,?_,QDq.mpr ⟨ws,this,rfl⟩⟩);simp only[QCq,QAz,or_false];omega
abbrev Ky:=List Bool×List Int
theorem vB:∀(l L:List Ky),l.Nodup->(∀x∈l,x∈L)->l.length<=L.length
 |[]=>fun _ _ _=>QIq _
 |x::l=>fun L nd m=>by rw[List.nodup_cons]at nd;have mx:=m x QYz;have:=vB l (L.erase x) nd.2 fun y hy=>(List.mem_erase_of_ne fun e=>nd.1 (by rw[<-e];exact hy)).mpr (m y (QYq _ hy));rw[List.length_erase_of_mem mx]at this;have:=List.length_pos_of_mem mx;rw[QBq];omega
def UL(g:Nat):List Ky:=(allB g).flatMap fun b=>(uC g).map (b,·)
def QM{g:Nat}(hg:g=3\/g=4\/g=5):(UL g).length<=2097152:=by
 have h:∀l:List (List Bool),(l.flatMap fun b=>(uC g).map (b,·)).length=l.length*(uC g).length:=fun l=>by
  induction l with
  |nil=>simp
  |cons b l ih=>rw[List.flatMap_cons,QTq,ih,QAq,QBq,Nat.succ_mul,Nat.add_comm]
 rw[UL,h,uD];have:=Bp g;rcases hg with rfl|rfl|rfl<;>omega
def QL{g:Nat}{b:List Bool}{ws:List Int}(hb:b.length=g)(hl:ws.length<=g)(hw:∀w∈ws,0<=w/\w<=6):(b,ws)∈UL g:=
 List.mem_flatMap.mpr ⟨b,hb▸lB b,QDq.mpr ⟨ws,Bo g ws hl hw,rfl⟩⟩
end Tx
end
section
open PySem Mini
namespace Tx
theorem GX f:∀n,0<n->ie f n<n
 |0=>fun h=>absurd h (Nat.lt_irrefl 0)
 |n+1=>fun _=>by
  rw[ie];split
  ·omega
  ·cases n with
   |zero=>simp[ie]
   |succ n=>have:=GX f (n+1) (by omega);omega
def Gn:D->Str
 |.str x=>x
 |_=>""
def sS(nm:List D)(ss:eU)(tm:Int):eU:=nm.map fun x=>(Gn x,(bf (Gn x) ss).getD tm)
def scT(t:Int)(ls:eU):eU:=ls.map fun p=>(p.1,p.2*t)
theorem yO(F:D->Int):∀{nm:List D},dq nm->o6 nm (nm.map fun x=>.int (F x))=some (nm.map fun x=>(Gn x,F x))
 |[]=>fun _=>rfl
 |x::nm=>fun h=>by obtain⟨q,rfl⟩:=h x QYz;simp[o6,yO F fun y hy=>h y (QYq _ hy),Gn]
theorem Ga x:∀ss:eU,aY (.str x) (o7 ss) (Cg ss)=(bf x ss).map D.int
 |[]=>rfl
 |p::ss=>by have:=Ga x ss;simp only[o7,Cg]at this;simp only[o7,Cg,Qyz,aY,bf,dM];by_cases c:p.1=x<;>simp[c,this]
theorem uc(F:D->D):∀(xs ks vs:List D),dq (ks++xs)->(ks++xs).Nodup->dictOf ks vs (xs.map fun x=>.tup [x,F x])=some (ks++xs,vs++xs.map F)
 |[]=>fun ks vs _ _=>by simp[dictOf]
 |x::xs=>fun ks vs h nd=>by
  obtain⟨s,e⟩:=h x (by simp);have no:aP x ks=false:=by rw[e];refine tL (fun y hy=>h y (QWz _ hy)) fun hm=>?_;rw[List.nodup_append]at nd;exact nd.2.2 _ hm _ QYz e.symm
  have r:=uc F xs (ks++[x]) (vs++[F x]) (by simpa using h) (by simpa using nd);have kk:keyOk x=true:=by rw[e];rfl
  rw[Qyz,dictOf,if_pos kk];simp only[putD,no];rw[if_neg (by simp),r];simp
def swC:E:=.comp 1 (.name 0) (.var 0) AAL (.tup AAr)
def Lz(n:Nat){xs:List D}(ss:eU)(t:Int)(tx:dq xs)(nd:xs.Nodup):
  pg.fn (n+1) 33 [.val (.lst xs),.bor (.dct (o7 ss) (Cg ss)),.val (.int t)]=.ok (.new (.dct xs (xs.map fun x=>.int ((bf (Gn x) ss).getD t)))) [.val (.lst xs),.bor (.dct (o7 ss) (Cg ss)),.val (.int t)]:=by
 have e:=uf (c:=pg.cf n) (it:=.var 0) (el:=.tup AAr) (σ:=[.val (.lst xs),.bor (.dct (o7 ss) (Cg ss)),.val (.int t)]) (τ:=[.val (.lst xs),.bor (.dct (o7 ss) (Cg ss)),.val (.int t)]) (d:=.lst xs) (xs:=xs) (r:=.val (.lst xs)) (fun x=>.tup [x,.int ((bf (Gn x) ss).getD t)]) (by simp) rfl rfl (fun x hx=>by
  obtain⟨q,rfl⟩:=tx x hx;have g:qu (.dG (o7 ss) (Cg ss)) (.str q) (.int t)=some (.int ((bf q ss).getD t)):=by show(if keyOk (.str q)then some ((aY (.str q) (o7 ss) (Cg ss)).getD (.int t))else none)=_;rw[if_pos (show keyOk (.str q)=true from rfl),Ga];cases bf q ss<;>rfl
  simp[cV,g,Gn,Ob.d])
 have e':ev (pg.cf n) swC [.val (.lst xs),.bor (.dct (o7 ss) (Cg ss)),.val (.int t)]=_:=e;have d:=uc (fun x=>.int ((bf (Gn x) ss).getD t)) xs [] [] (by simpa using tx) (by simpa using nd);have b:b1 .dict (.lst (xs.map fun x=>.tup [x,.int ((bf (Gn x) ss).getD t)]))=some (.new (.dct xs (xs.map fun x=>.int ((bf (Gn x) ss).getD t)))):=by show((dictOf [] [] _).map _).or _=_;rw[d];rfl
 have q:swC.aF=none:=rfl;have hb:jF=⟨3,3,(.cons (.ret (.bi .dict swC)) .nil)⟩:=rfl;rw[xj,hb];simp[-Uy,q,e',Ob.d,b]
def uZ n ss t(tx_:dq xs)(nd:xs.Nodup):rO (tx.gf (pg.cf (n+1))) xs ss t=some (sS xs ss t):=by have e:rO (tx.gf (pg.cf (n+1))) xs ss t=Od (pg.fn _ 33 [.val _,.bor _,.val _]):=rfl;rw[e,Lz n ss t tx_ nd];exact yO _ tx_
end Tx
end
section
open PySem Mini
namespace Tx
structure Ps where
 cs:List (Int×Str)
 o:Option St
 ss:eU
def jU(cs:List (Int×Str)):List D:=cs.map fun p=>.tup [.int p.1,.str p.2]
def Ps.gs(g:Ps):Gs:=⟨jU g.cs,mj g.o,g.ss⟩
def Cs.Vl(C:Cs):Option St->List D
 |some s=>C.st s
 |none=>[]
def Cs.next(C:Cs)(g:Ps)(x:Str):Option St:=g.o.bind fun s=>C.led s (.str x)
def j7(ls ss:eU):Nat:=ie (fU ls ss) ss.length
def gJ(ls ss:eU):Str:=((ss[j7 ls ss]?).map (·.1)).getD ""
noncomputable def Cs.stp(C:Cs)(ls:eU)(g:Ps):Ps:=
 ⟨g.cs++[(fU ls g.ss (j7 ls g.ss),gJ ls g.ss)],C.next g (gJ ls g.ss),sS (C.Vl (C.next g (gJ ls g.ss))) (g.ss.filter fun q=>decide (q.1≠gJ ls g.ss)) (fU ls g.ss (j7 ls g.ss))⟩
noncomputable def Cs.go(C:Cs)(ls:eU)(k:Nat):Nat->Ps->Ps
 |0,g=>g
 |m+1,g=>if !g.ss.isEmpty&&decide (g.cs.length<k)then C.go ls k m (C.stp ls g)else g
def Cs.ini(C:Cs):Ps:=⟨[],some (sI C.ls),sS (C.st (sI C.ls)) [] 0⟩
structure Cs.Pk(C:Cs)(g:Ps):Prop where
 o:∀s,g.o=some s->C.S s
 k:o7 g.ss=C.Vl g.o
def Oc(h:dq nm)ss t:o7 (sS nm ss t)=nm:=by simp only[o7,sS,List.map_map];refine(List.map_congr_left fun x hx=>?_).trans (List.map_id nm);obtain⟨q,rfl⟩:=h x hx;rfl
theorem pK{x:Str}{i:Int}:∀{ss:eU},(o7 ss).Nodup->(x,i)∈ss->bf x ss=some i
 |[]=>fun _ h=>by cases h
 |p::ss=>fun nd h=>by
  have nd':D.str p.1∉o7 ss/\(o7 ss).Nodup:=List.nodup_cons.mp nd;rcases QCq.mp h with e|e
  ·subst e;simp[bf]
  ·have ne:¬p.1=x:=fun z=>nd'.1 (by rw[z];exact QDq.mpr ⟨(x,i),e,rfl⟩);simp[bf,ne,pK nd'.2 e]
section
variable{C:Cs}{ls:eU}
def lG(K:C.Ok)(h:∀s,o=some s->C.S s):(C.Vl o).Nodup/\dq (C.Vl o)/\∀x∈C.Vl o,x∈C.nm:=by
 cases o with
 |none=>exact⟨List.nodup_nil,(fun x hx=>by cases hx),(fun x hx=>by cases hx)⟩
 |some s=>exact⟨(K.sub (h s rfl)).nodup (names_nodup K.o.h2 K.o.g1 K.o.g5),K.WK (h s rfl),fun x hx=>(K.sub (h s rfl)).subset hx⟩
def Vk(K:C.Ok)(P:C.Pk g):C.Pk (C.stp ls g):=by
 have h:∀s,C.next g (gJ ls g.ss)=some s->C.S s:=fun s e=>by obtain⟨s0,e0,e1⟩:=QJq.mp e;exact K.Oq (P.o s0 e0) e1
 exact⟨h,Oc (lG K h).2.1 _ _⟩
def acq(K:C.Ok):C.Pk C.ini:=⟨fun s e=>by cases e;exact vm K,Oc (K.WK (vm K)) _ _⟩
def Z0(C:Cs)(ls:eU):Prop:=∀x:Str,D.str x∈C.nm->(bf x ls).isSome=true
def GR{g:Ps}(ne:g.ss≠[]):∃p,g.ss[j7 ls g.ss]? =some p/\p∈g.ss/\gJ ls g.ss=p.1:=by have l:j7 ls g.ss<g.ss.length:=GX _ _ (List.length_pos_iff.mpr ne);have e:=QXq l;exact⟨_,e,List.getElem_mem l,by rw[gJ,e];rfl⟩
def Rr n(K:C.Ok)(P:C.Pk g)(hl:Z0 C ls)(ne:g.ss≠[])(hc:g.cs.length<=4000000):uX (tx.gf (pg.cf (n+5))) C.n C.t ls g.gs=some (C.stp ls g).gs:=by
 obtain⟨nd,tx_,sub⟩:=lG K P.o;rw[<-P.k]at nd tx_ sub;have ok:NQ ls g.ss=true:=by unfold NQ;rw[List.all_eq_true];intro p hp;rw[pK nd hp,hl p.1 (sub _ (QDq.mpr ⟨p,hp,rfl⟩))];simp
 have f1:fits ((jU g.cs).length+1)=true:=by simp[jU,fits];omega
 obtain⟨p,e,hp,en⟩:=GR (ls:=ls) ne;obtain⟨s,hs⟩:∃s,g.o=some s:=by
  cases q:g.o with
  |some s=>exact⟨s,rfl⟩
  |none=>have:=P.k;rw[q]at this;exact absurd (List.map_eq_nil_iff.mp this) ne
 have S:=P.o s hs;have hx:D.str p.1∈C.st s:=by have:=P.k;rw[hs]at this;rw[show C.st s=o7 g.ss from this.symm];exact QDq.mpr ⟨p,hp,rfl⟩
 have lt:=K.fB (n+2) S hx;have nx:C.next g (gJ ls g.ss)=C.led s (.str p.1):=by rw[en,Cs.next,hs];rfl
 have P':=Vk (ls:=ls) K P;have sn:=lG K P'.o;have nm:xN (tx.gf (pg.cf (n+5))) C.n C.t (mj (C.led s (.str p.1)))=some (C.Vl (C.led s (.str p.1))):=by
  cases q:C.led s (.str p.1)with
  |none=>rfl
  |some s'=>have e:xN (tx.gf (pg.cf (n+5))) C.n C.t (mj (some s'))=JN (pg.fn (n+5) 23 [.val C.n,.val C.t,.val (aB s')]):=rfl;rw[e,K.bh n (K.Oq S q)];rfl
 have si:=uZ (n+4) (xs:=C.Vl (C.led s (.str p.1))) (g.ss.filter fun q=>decide (q.1≠p.1)) (fU ls g.ss (j7 ls g.ss)) (nx▸sn.2.1) (nx▸sn.1);unfold uX;show(if NQ ls g.ss&&fits ((jU g.cs).length+1)then match g.ss[j7 ls g.ss]? with|none=>none|some p=>_ else none)=_;have lt':qY ((tx.gf (pg.cf (n+5))).led [.val C.n,.val C.t,.val g.gs.sd,.val (.str p.1)])=some (mj (C.led s (.str p.1))):=by have e:(tx.gf (pg.cf (n+5))).led [.val C.n,.val C.t,.val g.gs.sd,.val (.str p.1)]=pg.fn (n+5) 25 [.val C.n,.val C.t,.val (mj g.o),.val (.str p.1)]:=rfl;rw[e,hs];show qY (pg.fn (n+2+3) 25 [.val C.n,.val C.t,.val (aB s),.val (.str p.1)])=_;rw[lt];rfl
 rw[ok,f1,e];simp only[lt',nm,QHq,Bool.and_self,if_true];have si':rO (tx.gf (pg.cf (n+5))) (C.Vl (C.led s (.str p.1))) (g.gs.ss.filter fun q=>decide (q.1≠p.1)) (fU ls g.gs.ss (ie (fU ls g.gs.ss) g.gs.ss.length))=_:=si;rw[si'];have nx2:C.next g p.1=C.led s (.str p.1):=by rw[<-en];exact nx.trans (by rw[en])
 simp only[Option.map_some,Cs.stp,Ps.gs,en,nx2,jU,List.map_append,Qyz,List.map_nil];rfl
def jN(nm:List D)(ws:List Int):eU:=(nm.zip ws).map fun p=>(Gn p.1,p.2)
theorem yN:∀{nm:List D}{ws:List Int},dq nm->ws.length=nm.length->o6 nm (ws.map .int)=some (jN nm ws)
 |[],[]=>fun _ _=>rfl
 |[],_::_=>fun _ h=>by simp at h
 |_::_,[]=>fun _ h=>by simp at h
 |x::nm,w::ws=>fun h hl=>by obtain⟨q,rfl⟩:=h x QYz;have:=yN (fun y hy=>h y (QYq _ hy)) (by simpa using hl);simp[o6,this,jN,Gn]
theorem vJ:∀{nm:List D}{ws:List Int},dq nm->ws.length=nm.length->∀x:Str,D.str x∈nm->(bf x (jN nm ws)).isSome=true
 |[],_=>fun _ _ x hx=>by cases hx
 |_::_,[]=>fun _ h _ _=>by simp at h
 |y::nm,w::ws=>fun h hl x hx=>by
  obtain⟨q,rfl⟩:=h y QYz;have:=vJ (fun y hy=>h y (QYq _ hy)) (by simpa using hl) x;simp only[jN,List.zip_cons_cons,Qyz,bf,Gn];by_cases c:q=x
  ·simp[c]
  ·rw[if_neg c];rcases QCq.mp hx with z|z
   ·cases z;exact absurd rfl c
   ·exact this z
def JD n k a b:pg.fn (n+1) 4 [.val (.int k),.val (.int a),.val (.int b)]=.ok (.val (.bl (decide (a<=k)&&decide (k<=b)))) [.val (.int k),.val (.int a),.val (.int b)]:=by rw[qe];by_cases c:a<=k<;>simp[iI,c,tB]
def Wts(C:Cs)(ws:List Int):Prop:=ws.length=C.nm.length/\∀w∈ws,1<=w/\w<=99
abbrev iZ(ws:List Int):D:=.tup (ws.map .int)
def cwC:E:=.comp 1 (.name 0) (.var 2) AAL (.call 4 AAy)
def Be n(K:C.Ok)(H:Wts C ws):pg.fn (n+10) 32 [.val C.n,.val C.t,.val (iZ ws)]=.ok (.val .non) [.val C.n,.val C.t,.val (iZ ws)]:=by
 have ck:=K.checked n;have ll:C.ls.length=C.nm.length:=by rw[fP K.o.h2 K.o.g5];exact K.o.ll
 have n2:getD C.n (.int 2)=some (cF C.ls):=Og;have le:b1 .len (cF C.ls)=some (.val (.int C.nm.length)):=by simp[cF,b1,Aa,ll]
 have tu:pg.fn (n+9) 3 [.val (iZ ws),.val (.int C.nm.length),.val (.int C.nm.length)]=.ok (.val (.bl true)) [.val (iZ ws),.val (.int C.nm.length),.val (.int C.nm.length)]:=by rw[rY];simp[jJ,tB,H.1]
 have e:ev (pg.cf (n+9)) cwC [.val C.n,.val C.t,.val (iZ ws),.val (.int C.nm.length)]=.ok (.new (.lst ((ws.map fun _=>true).map .bl))) [.val C.n,.val C.t,.val (iZ ws),.val (.int C.nm.length)]:=by
  have:=uf (c:=pg.cf (n+9)) (it:=.var 2) (el:=.call 4 AAy) (σ:=[.val C.n,.val C.t,.val (iZ ws),.val (.int C.nm.length)]) (τ:=[.val C.n,.val C.t,.val (iZ ws),.val (.int C.nm.length)]) (r:=.val (iZ ws)) (fun _=>.bl true) (by simp) rfl rfl (fun x hx=>by obtain⟨w,hw,rfl⟩:=QDq.mp hx;have:=JD (n+8) w 1 99;have b:=H.2 w hw;have g9:pg.gl 9=some (.int 99):=rfl;simp[this,b.1,b.2,g9])
  rw[List.map_map]at this⊢;exact this
 have bb:=Bg (ws.map fun _=>true);have al:(ws.map fun _=>true).all id=true:=by simp
 generalize (ws.map fun _=>true)=row at e bb al;have q:cwC.aF=none:=rfl;have hb:iU=⟨3,4,(.cons (.expr AAu) (.cons (.set 3 (.bi .len AAn)) (.cons (.ite (.or (.cons ABc (.cons (.not (.bi .all cwC)) .nil))) ABZ .nil) .nil)))⟩:=rfl;rw[uI,hb];simp[ck,n2,le,tu,q,e,Ob.d,bb,al]
def Dt n(K:C.Ok)(H:Wts C ws):Tz (ev (pg.cf (n+10)) tx.mz [.un,.val C.n,.val C.t,.val (iZ ws)])=some (jN C.nm ws):=by
 have w:pg.fn _ 13 [.val C.n]=.ok (.new (.lst C.nm)) [.val C.n]:=
  dY (n+9) _ _ C.ks _ (by rw[K.o.kl,fj K.o.g5]) (by rw[nC K.o.h2,fj K.o.g5];have:=K.o.h2;have:=K.o.g5;omega)
 have dz:dictOf [] [] _=some (C.nm,ws.map .int):=Ax (by simpa using H.1) (bB _ _) (names_nodup K.o.h2 K.o.g1 K.o.g5);have z:bF (iZ ws)=some _:=rfl;have e:ev (pg.cf (n+10)) tx.mz [.un,.val C.n,.val C.t,.val (iZ ws)]=.ok (.new (.dct C.nm (ws.map .int))) [.un,.val C.n,.val C.t,.val (iZ ws)]:=by simp[tx,w,z,dz,Ob.d]
 rw[e];exact yN (bB _ _) H.1
def ai2(g:Ps):D:=if g.o.isNone then .str "unasked" else if g.ss.isEmpty then .str "end" else .str "on"
end
end Tx
end
section
open PySem Mini
namespace Tx
section
variable{c:Cf}{σ τ0 τ:Ev}{it el:E}{r:Rv}{d:D}
def Zx{x0:D}{xs:List D}(f:D->D)(hi:ev c it σ=.ok r τ0)(hr:r.kO=some d)(hd:items d=some (x0::xs))(h0:ev c el (.val x0::τ0)=.ok (.val (f x0)) (.val x0::τ))(he:∀x∈xs,ev c el (.val x::τ)=.ok (.val (f x)) (.val x::τ)):
  ev c (.comp 1 (.name 0) it AAL el) σ=.ok (.new (.lst ((x0::xs).map f))) τ:=by
 rw[BX,hi];have b:∀{β:Type}(g:D->Ev->Out β),(Out.ok r τ0).au g=g d τ0:=fun g=>by cases r<;>simp[Rv.kO]at hr<;>subst hr<;>rfl
 rw[b];simp only[hd];rw[show List.replicate 1 Sl.un++τ0=.un::τ0 from rfl,bx,vd (.inl rfl)];simp only;rw[yo,kY,if_pos rfl,h0,gU];obtain⟨s',_,a⟩:=go1 (cond:=ev c AAL) (elt:=ev c el) (f:=f) (p:=fun _=>true) (τ:=τ) xs ([]++[f x0]) (.val x0) (.inr ⟨_,rfl⟩) (fun x _=>yo c _ _) (fun x hx _=>he x hx);rw[a,filter_tt];simp
end
def Ce(cs:List (Int×Str)):Int:=match cs.getLast? with
 |some p=>p.1
 |none=>0
def uJ(cs:List (Int×Str)):List D:=cs.map fun p=>.str p.2
def FZ(cs:List (Int×Str))(p:Int×Str):Ce (cs++[p])=p.1:=by simp[Ce]
def oN(cs:List (Int×Str)):(jU cs).length=cs.length:=by simp[jU]
theorem wK(n:Nat)(cs:List (Int×Str)){k:Nat}(hk:k<=cs.length){s:Sl}(hs:s=.bor (.lst (jU cs))\/s=.val (.lst (jU cs))):
  pg.fn (n+1) 35 [s,.val (.int k)]=.ok (.val (.int (Ce (cs.take k)))) [s,.val (.int k)]:=by
 cases k with
 |zero=>rw[mH];rcases hs with rfl|rfl<;>simp[fY,Ce]
 |succ k=>
  have h:k<cs.length:=hk;have a:at? (jU cs) (k:Int)=some (.tup [.int cs[k].1,.str cs[k].2]):=by rw[nP _ _ (by rw[oN];exact h)];simp[jU,h]
  have e:Ce (cs.take (k+1))=cs[k].1:=by rw[List.take_succ_eq_append_getElem h,FZ]
  have p:(0:Int)< (k:Int)+1:=by omega
  have e1:(k:Int)+1-1=k:=by omega
  rw[mH,e];rcases hs with rfl|rfl<;>simp[fY,p,e1,a,Ob.d]
def Zu{xs:List D}{i:Nat}(h:i<=xs.length):cut xs (some (i:Int)) none=xs.drop i:=by
 have a:clip xs.length (i:Int)=i:=by
  unfold clip;have h1:¬((i:Int)<0):=by omega
  have h2:¬((i:Int)>xs.length):=by omega
  simp[h1,h2]
 simp[cut,a]
def wiC:E:=.comp 2 (.tup [0,1]) (.slc (.var 1) (.var 2) .noneE) AAL (.var 1)
def cnC:E:=.comp 1 (.name 0) ACG AAL (.count (.var 5) (.var 0))
section
variable{C:Cs}
theorem Mp(n:Nat)(K:C.Ok)(cs:List (Int×Str)){i:Nat}(hi:i<=cs.length)(hf:cs.length<=3000000):∃t:Int,
  pg.fn (n+2) 34 [.val C.n,.val (.lst (jU cs)),.val (.int i)]=.ok (.val (.tup [.int i,.int t,.lst (C.nm.map fun x=>.int (aQ x ((uJ cs).drop i)))])) [.val C.n,.val (.lst (jU cs)),.val (.int i)]:=by
 refine⟨Ce (cs.take cs.length)-Ce (cs.take i),?_⟩;have t1:=wK n cs (QVz _) (s:=.val (.lst (jU cs))) (.inr rfl);have t2:=wK n cs hi (s:=.val (.lst (jU cs))) (.inr rfl);have sl:mU (.lst (jU cs)) (some (i:Int)) none=some (.new (.lst ((jU cs).drop i))):=by show some (Rv.new (.lst (cut (jU cs) (some (i:Int)) none)))=_;rw[Zu (by rw[oN];exact hi)]
 have it:items (.lst ((jU cs).drop i))=some (((cs.drop i).map fun p=>(D.int p.1,D.str p.2)).map pairD):=by show some _=some _;rw[List.map_map,jU,<-List.map_drop];rfl
 have e1:∀s3 s4:Sl,ev (pg.cf (n+1)) wiC [.val C.n,.val (.lst (jU cs)),.val (.int i),s3,s4]=.ok (.new (.lst ((uJ cs).drop i))) [.val C.n,.val (.lst (jU cs)),.val (.int i),s3,s4]:=fun s3 s4=>by have:=Qq (c:=pg.cf (n+1)) (it:=.slc (.var 1) (.var 2) .noneE) (el:=.var 1) (σ:=[.val C.n,.val (.lst (jU cs)),.val (.int i),s3,s4]) (τ:=[.val C.n,.val (.lst (jU cs)),.val (.int i),s3,s4]) (d:=.lst ((jU cs).drop i)) (r:=.new (.lst ((jU cs).drop i))) (·.2) (by simp[eZ,E.lW,sl]) rfl it (fun p _=>by simp);rw[List.map_map]at this;rw[wiC,this,uJ,<-List.map_drop];rfl
 have w:pg.fn (n+1) 13 [.val C.n]=.ok (.new (.lst C.nm)) [.val C.n]:=
  dY n (hd C.h) (gA C.g) C.ks (.tup (C.ls.map .bl)) (by rw[K.o.kl,fj K.o.g5]) (by rw[nC K.o.h2,fj K.o.g5];have:=K.o.h2;have:=K.o.g5;omega)
 obtain⟨x0,xs,nm⟩:∃x0 xs,C.nm=x0::xs:=by
  cases q:C.nm with
  |nil=>have:=fP (h:=C.h) K.o.h2 K.o.g5;have:=K.o.g1;rw[show names C.h C.g=[]from q]at*;simp at*;omega
  |cons x xs=>exact⟨x,xs,rfl⟩
 have tN:∀x∈(uJ cs).drop i,∃s,x=.str s:=fun x hx=>by obtain⟨p,_,rfl⟩:=QDq.mp (List.mem_of_mem_drop hx);exact⟨_,rfl⟩
 have fl:((uJ cs).drop i).all flat=true:=jm tN;have cn:∀x∈C.nm,yq (.lst ((uJ cs).drop i)) x=some (.val (.int (aQ x ((uJ cs).drop i)))):=fun x hx=>by obtain⟨s,rfl⟩:=bB _ _ x hx;simp[yq,fl,flat]
 have e2:∀s3:Sl,ev (pg.cf (n+1)) cnC [.val C.n,.val (.lst (jU cs)),.val (.int i),s3,.own (.lst ((uJ cs).drop i))]=.ok (.new (.lst (C.nm.map fun x=>.int (aQ x ((uJ cs).drop i))))) [.val C.n,.val (.lst (jU cs)),.val (.int i),s3,.val (.lst ((uJ cs).drop i))]:=fun s3=>by rw[nm]at cn⊢;exact Zx (fun x=>.int (aQ x ((uJ cs).drop i))) (r:=.new (.lst (x0::xs))) (d:=.lst (x0::xs)) (τ0:=[.val C.n,.val (.lst (jU cs)),.val (.int i),s3,.own (.lst ((uJ cs).drop i))]) (by simp[w,nm]) rfl rfl (by simp[cn x0 QYz,Ob.d]) (fun x hx=>by simp[cn x (QYq _ hx)])
 have hb:jG=⟨3,5,(.cons (.set 4 wiC) (.cons ABY (.cons (.ret (.tup (.cons (.var 2) (.cons (.var 3) (.cons cnC .nil))))) .nil)))⟩:=rfl;have q1:wiC.aF=none:=rfl;have q2:cnC.aF=none:=rfl;have ln:b1 .len (.lst (jU cs))=some (.val (.int cs.length)):=by simp[jU]
 rw[xm,hb];simp[e1,q1,q2,oN,t1,t2,e2,cV,Ob.d]
end
end Tx
end
section
open PySem Mini
namespace Tx
theorem GZ(f:Nat->Int):∀n,0<n->∀j,j<n->f (ie f n)<=f j
 |0=>fun h _ _=>absurd h (Nat.lt_irrefl 0)
 |1=>fun _ j hj=>by
  have:j=0:=by omega
  subst this;simp[ie]
 |n+2=>fun _ j hj=>by
  have h:=GZ f (n+1) (by omega);rw[ie];split
  ·by_cases e:j=n+1
   ·subst e;exact Int.le_refl _
   ·have:=h j (by omega);omega
  ·by_cases e:j=n+1
   ·subst e;omega
   ·exact h j (by omega)
def Q3(ls:eU)(x:Str):Int:=(bf x ls).getD 0
def Ur{ls:eU}{g:Ps}{q:Str×Int}(hq:q∈g.ss):fU ls g.ss (j7 ls g.ss)<=q.2+Q3 ls q.1:=by
 obtain⟨j,hj,e⟩:=List.mem_iff_getElem.mp hq;have:=GZ (fU ls g.ss) g.ss.length (by omega) j hj;have d:fU ls g.ss j=q.2+Q3 ls q.1:=by unfold fU Q3;rw[QXq hj,e]
 rw[d]at this;exact this
def Em{ls:eU}{g:Ps}{p:Str×Int}(e:g.ss[j7 ls g.ss]? =some p):fU ls g.ss (j7 ls g.ss)=p.2+Q3 ls p.1:=by show(match g.ss[j7 ls g.ss]? with|some p=>p.2+(bf p.1 ls).getD 0|none=>0)=_;rw[e];rfl
theorem Li{x:Str}{v:Int}:∀{ss:eU},bf x ss=some v->(x,v)∈ss
 |[]=>fun e=>by cases e
 |p::ss=>fun e=>by
  rw[bf]at e;split at e
  ·rename_i z;cases e;rw[<-z];exact QYz
  ·exact QYq _ (Li e)
def zU{nm:List D}{ss:eU}{tm:Int}{q:Str×Int}(h:q∈sS nm ss tm):q.2=tm\/bf q.1 ss=some q.2:=by
 obtain⟨x,_,rfl⟩:=QDq.mp h;cases e:bf (Gn x) ss with
 |none=>exact .inl rfl
 |some v=>exact .inr rfl
def ZW(L:eU):Prop:=∀x v,bf x L=some v->1<=v/\v<=6
def BV{L:eU}(h:ZW L)(x:Str):0<=Q3 L x/\Q3 L x<=6:=by
 unfold Q3;cases e:bf x L with
 |none=>simp
 |some v=>have:=h x v e;simp;omega
def gm(C:Cs)(L:eU):Nat->Ps
 |0=>C.ini
 |m+1=>C.stp L (gm C L m)
def bO(P:Ps):List Bool:=match P.o with
 |some s=>s.1
 |none=>[]
structure Rk(g:Nat)(ls:List Bool)(L:eU)(m:Nat)(P:Ps):Prop where
 pk:(Cr g ls).Pk P
 o:P.o=some (bO P,0)
 l:(bO P).length=g
 u:gB g (bO P)=gB g ls
 c:P.cs.length=m
 t:∀p∈P.ss,p.2<=Ce P.cs/\Ce P.cs<=p.2+Q3 L p.1
section
variable{g m:Nat}{ls:List Bool}{L:eU}{P:Ps}
theorem Rk.k(R:Rk g ls L m P):o7 P.ss=Wr g (bO P):=by have:=R.pk.k;rw[R.o]at this;exact this
def Mq(hg:g=3\/g=4\/g=5)(R:Rk g ls L m P)(u0:0<gB g ls)(u1:gB g ls<g):P.ss≠[]:=fun e=>by have k:=R.k;rw[e]at k;have z:=mX hg R.l;rw[<-k,R.u]at z;simp[o7]at z;omega
def Gq(hg:g=3\/g=4\/g=5)(K:(Cr g ls).Ok)(S6:ZW L)(R:Rk g ls L m P)(ne:P.ss≠[]):
  Rk g ls L (m+1) ((Cr g ls).stp L P)/\D.str (gJ L P.ss)∈Wr g (bO P)/\bO ((Cr g ls).stp L P)=cZ (names 0 g) (bO P) (.str (gJ L P.ss)):=by
 obtain⟨p,e,hp,en⟩:=GR (ls:=L) ne;have mem:D.str (gJ L P.ss)∈Wr g (bO P):=by rw[<-R.k,en];exact QDq.mpr ⟨p,hp,rfl⟩
 have nx:(Cr g ls).next P (gJ L P.ss)=some (cZ (names 0 g) (bO P) (.str (gJ L P.ss)),0):=by
  unfold Cs.next
  rw[R.o];rfl
 have so:((Cr g ls).stp L P).o=some (cZ (names 0 g) (bO P) (.str (gJ L P.ss)),0):=nx;have b':bO ((Cr g ls).stp L P)=cZ (names 0 g) (bO P) (.str (gJ L P.ss)):=by rw[show bO ((Cr g ls).stp L P)=(match ((Cr g ls).stp L P).o with|some s=>s.1|none=>[])from rfl,so]
 have n0:=names0 hg;have tm:Ce ((Cr g ls).stp L P).cs=p.2+Q3 L p.1:=by show Ce (P.cs++[_])=_;rw[FZ,Em e]
 have tp:=R.t p hp;refine⟨⟨Vk K R.pk,by rw[b'];exact so,by rw[b'];exact(oH (R.l.trans n0.symm) _).trans n0,by rw[b',(lJ hg R.l mem).2.1];exact R.u,by show(P.cs++[_]).length=_;rw[QTq,R.c];rfl,fun q hq=>?_⟩,mem,b'⟩;rw[tm];have w:=BV S6 q.1;rcases zU hq with z|z
 ·rw[Em e]at z;omega
 ·have hm:=(List.mem_filter.mp (Li z)).1;have:=R.t _ hm;have d:=Ur (ls:=L) hm;rw[Em e]at d;simp only at this d;omega
theorem jt(hg:g=3\/g=4\/g=5)(K:(Cr g ls).Ok)(S6:ZW L)(u0:0<gB g ls)(u1:gB g ls<g):∀m,Rk g ls L m (gm (Cr g ls) L m)
 |0=>⟨acq K,rfl,(vm K).l.trans (names0 hg),rfl,rfl,fun q hq=>by
   have w:=BV S6 q.1;rcases zU hq with z|z
   ·rw[z];show(0:Int)<=0/\(0:Int)<=0+_;omega
   ·cases z⟩
 |m+1=>(Gq hg K S6 (jt hg K S6 u0 u1 m) (Mq hg (jt hg K S6 u0 u1 m) u0 u1)).1
theorem Pr(hg:g=3\/g=4\/g=5)(K:(Cr g ls).Ok)(S6:ZW L)(u0:0<gB g ls)(u1:gB g ls<g)(i:Nat):∀d,ZX g (bO (gm (Cr g ls) L i)) ((uJ (gm (Cr g ls) L (i+d)).cs).drop i) (bO (gm (Cr g ls) L (i+d)))
 |0=>by have c:=(jt hg K S6 u0 u1 i).c;rw[show(uJ (gm (Cr g ls) L (i+0)).cs).drop i=[]from List.drop_eq_nil_of_le (by rw[uJ,QAq];exact Nat.le_of_eq c)];exact .nil
 |d+1=>by
  have R:=jt hg K S6 u0 u1 (i+d);obtain⟨_,m,b⟩:=Gq hg K S6 R (Mq hg R u0 u1);have e:(uJ (gm (Cr g ls) L (i+(d+1))).cs).drop i=(uJ (gm (Cr g ls) L (i+d)).cs).drop i++[.str (gJ L (gm (Cr g ls) L (i+d)).ss)]:=by show(uJ ((gm (Cr g ls) L (i+d)).cs++[_])).drop i=_;rw[uJ,List.map_append,List.drop_append_of_le_length (by rw[QAq,R.c];omega)];rfl
  rw[e];show ZX g _ _ (bO ((Cr g ls).stp L (gm (Cr g ls) L (i+d))));rw[b];exact .snoc (Pr hg K S6 u0 u1 i d) m
def Lx(L:eU)(P:Ps):List Int:=dW L P.ss (Ce P.cs)
def rst(L:eU)(P:Ps):D:=dH (mj P.o) (Lx L P)
def WX(hg:g=3\/g=4\/g=5)(K:(Cr g ls).Ok)(S6:ZW L)(R:Rk g ls L m P):(Lx L P).length<=g/\∀w∈Lx L P,0<=w/\w<=6:=by
 constructor
 ·have a:=(K.w.sub (bO P) (R.l.trans (names0 hg).symm)).length_le;have k:(o7 P.ss).length=_:=congrArg List.length R.k;rw[o7,QAq]at k;rw[Lx,dW,QAq,k];exact Nat.le_trans a (Nat.le_of_eq (fj (by show g<=5;omega)))
 ·intro w hw;obtain⟨p,hp,rfl⟩:=QDq.mp hw;have:=R.t p hp;have z:=BV S6 p.1;unfold Q3 at this z;omega
theorem Hj:∀ws:List Int,J0 (ws.map .int)=true/\gn (ws.map .int)=0
 |[]=>⟨rfl,rfl⟩
 |w::ws=>by have:=Hj ws;exact⟨by simp[J0,kA,this.1],by simp[gn,dep,this.2]⟩
def Xh(s:St)(ws:List Int):cH (dH (aB s) ws)=true:=by have a:=Hj ws;simp[dH,aB,cH,cF,J0,kA,DK,gn,dep,yd,a.1,a.2]
def Mm(s:St)(ws:List Int):dM (dH (aB s) ws) (dH (aB s) ws)=true:=by refine qP _ ?_;have a:=(W9 s).1;have b:=zW ws;simp[dH,nd,lO,a,b]
def Xi{s t:St}{vs ws:List Int}(h:dM (dH (aB s) vs) (dH (aB t) ws)=true):s=t:=by simp only[dH,dM,qI,wO,QUq,QUz]at h;exact h.1
theorem vG{ι:Type}{r f:ι->D}{d v:D}:∀{l:List ι},aY d (l.map r) (l.map f)=some v->∃i∈l,v=f i/\dM (r i) d=true
 |[]=>fun e=>by cases e
 |i::l=>fun e=>by
  simp only[Qyz,aY]at e;split at e
  ·rename_i z;cases e;exact⟨i,QYz,rfl,z⟩
  ·obtain⟨j,hj,z⟩:=vG e;exact⟨j,QYq _ hj,z⟩
theorem vH{ι:Type}{r f:ι->D}{d:D}:∀{l:List ι},aY d (l.map r) (l.map f)=none->∀i∈l,dM (r i) d=false
 |[]=>fun _ _ h=>by cases h
 |i::l=>fun e j h=>by
  simp only[Qyz,aY]at e;split at e
  ·cases e
  ·rename_i z;rcases QCq.mp h with rfl|h
   ·simpa using z
   ·exact vH e j h
def ky(L:eU)(P:Ps):Ky:=(bO P,Lx L P)
def Yj{C:Cs}(K:C.Ok)(P':C.Pk P)(hl:Z0 C L):NQ L P.ss=true:=by obtain⟨nd,tx_,sub⟩:=lG K P'.o;rw[<-P'.k]at nd tx_ sub;unfold NQ;rw[List.all_eq_true];intro p hp;rw[pK nd hp,hl p.1 (sub _ (QDq.mpr ⟨p,hp,rfl⟩))];simp
def Jt{T:Br}{U:KH}{c:Cf}{n t:D}{f:Nat}{ks:List D}{is:List Int}{G:Gs}{tm:Int}(h0:G.ss.isEmpty=false)(h1:uV (c.fn U.tmb [.bor (.lst G.cs),.val (.int G.cs.length)])=some (tm,G.cs))(h2:(NQ L G.ss&&cH (dH G.sd (dW L G.ss tm))&&fits (ks.length+1))=true):
  j5 T U c n t L (f+1) ks is G=match aY (dH G.sd (dW L G.ss tm)) ks (is.map .int)with
   |some i=>qY (c.fn U.rnd [.val n,.val (.lst G.cs),.val i])
   |none=>(uX (T.gf c) n t L G).bind (j5 T U c n t L f (ks++[dH G.sd (dW L G.ss tm)]) (is++[(G.cs.length:Int)])):=by
 rw[j5,h0,if_neg (by decide),h1];simp only[QHq];exact(if_pos h2).trans rfl
theorem vA(n:Nat)(hg:g=3\/g=4\/g=5)(K:(Cr g ls).Ok)(hl:Z0 (Cr g ls) L)(S6:ZW L)(u0:0<gB g ls)(u1:gB g ls<g):∀(f m:Nat),2097152<f+m->((List.range m).map fun i=>ky L (gm (Cr g ls) L i)).Nodup->
  ∃i j,i<j/\j<=2097152/\bO (gm (Cr g ls) L i)=bO (gm (Cr g ls) L j)/\j5 tx ty (pg.cf (n+5)) (Cr g ls).n (Cr g ls).t L f ((List.range m).map fun i=>rst L (gm (Cr g ls) L i)) ((List.range m).map fun i:Nat=>(i:Int)) (gm (Cr g ls) L m).gs=qY (pg.fn (n+5) 34 [.val (Cr g ls).n,.val (.lst (jU (gm (Cr g ls) L j).cs)),.val (.int i)])
 |f,m,hf,nd=>by
  have mb:m<=2097152:=by
   have:=vB _ (UL g) nd fun x hx=>by obtain⟨i,_,rfl⟩:=QDq.mp hx;have R:=jt hg K S6 u0 u1 i;have b:=WX hg K S6 R;exact QL R.l b.1 b.2
   rw[QAq,List.length_range]at this;exact Nat.le_trans this (QM hg)
  cases f with
  |zero=>omega
  |succ f=>
   have R:=jt hg K S6 u0 u1 m;have ne:=Mq hg R u0 u1;have sd:∀i,(gm (Cr g ls) L i).gs.sd=aB (bO (gm (Cr g ls) L i),0):=fun i=>by show mj (gm (Cr g ls) L i).o=_;rw[(jt hg K S6 u0 u1 i).o];rfl
   have re:∀i,rst L (gm (Cr g ls) L i)=dH (aB (bO (gm (Cr g ls) L i),0)) (Lx L (gm (Cr g ls) L i)):=fun i=>by rw[<-sd i];rfl
   have h0:(gm (Cr g ls) L m).gs.ss.isEmpty=false:=by
    cases q:(gm (Cr g ls) L m).ss with
    |nil=>exact absurd q ne
    |cons a b=>show(gm (Cr g ls) L m).ss.isEmpty=false;rw[q];rfl
   have h1:uV ((pg.cf (n+5)).fn ty.tmb [.bor (.lst (gm (Cr g ls) L m).gs.cs),.val (.int (gm (Cr g ls) L m).gs.cs.length)])=some (Ce (gm (Cr g ls) L m).cs,(gm (Cr g ls) L m).gs.cs):=by have t:=wK (n+4) (gm (Cr g ls) L m).cs (QVz _) (s:=.bor (.lst (jU (gm (Cr g ls) L m).cs))) (.inl rfl);rw[List.take_length]at t;have e:(pg.cf (n+5)).fn ty.tmb [.bor (.lst (gm (Cr g ls) L m).gs.cs),.val (.int (gm (Cr g ls) L m).gs.cs.length)]=pg.fn (n+4+1) 35 [.bor (.lst (jU (gm (Cr g ls) L m).cs)),.val (.int ((jU (gm (Cr g ls) L m).cs).length:Int))]:=rfl;rw[e,oN,t];rfl
   have rs:dH (gm (Cr g ls) L m).gs.sd (dW L (gm (Cr g ls) L m).gs.ss (Ce (gm (Cr g ls) L m).cs))=rst L (gm (Cr g ls) L m):=rfl;have h2:(NQ L (gm (Cr g ls) L m).gs.ss&&cH (dH (gm (Cr g ls) L m).gs.sd (dW L (gm (Cr g ls) L m).gs.ss (Ce (gm (Cr g ls) L m).cs)))&&fits (((List.range m).map fun i=>rst L (gm (Cr g ls) L i)).length+1))=true:=by rw[rs,re m,Xh,show NQ L (gm (Cr g ls) L m).gs.ss=true from Yj K R.pk hl,QAq,List.length_range];simp[fits];omega
   rw[Jt h0 h1 h2,rs,List.map_map];cases lo:aY (rst L (gm (Cr g ls) L m)) ((List.range m).map fun i=>rst L (gm (Cr g ls) L i)) ((List.range m).map (D.int∘fun i:Nat=>(i:Int)))with
   |some v=>obtain⟨i,hi,rfl,e⟩:=vG lo;rw[List.mem_range]at hi;rw[re i,re m]at e;exact⟨i,m,hi,mb,congrArg Prod.fst (Xi e),rfl⟩
   |none=>
    have no:=vH lo;have st:=Rr n K R.pk hl ne (by rw[R.c];omega);simp only;rw[st,QHq];have rg:∀{β:Type}(F:Nat->β),(List.range m).map F++[F m]=(List.range (m+1)).map F:=fun F=>by rw[List.range_succ,List.map_append];rfl
    have cl:((gm (Cr g ls) L m).gs.cs.length:Int)=(m:Int):=by show((jU _).length:Int)=_;rw[oN,R.c]
    rw[cl,rg fun i=>rst L (gm (Cr g ls) L i),rg fun i:Nat=>(i:Int)];refine vA n hg K hl S6 u0 u1 f (m+1) (by omega) ?_;rw[<-rg fun i=>ky L (gm (Cr g ls) L i),List.nodup_append];refine⟨nd,by simp,fun a ha b hb e=>?_⟩;obtain⟨i,hi,rfl⟩:=QDq.mp ha;rw[QDz.mp hb]at e;have z:=no i hi;have e1:bO (gm (Cr g ls) L i)=bO (gm (Cr g ls) L m):=congrArg Prod.fst e;have e2:Lx L (gm (Cr g ls) L i)=Lx L (gm (Cr g ls) L m):=congrArg Prod.snd e;rw[re i,re m,e1,e2]at z;have y:=Mm (bO (gm (Cr g ls) L m),0) (Lx L (gm (Cr g ls) L m));have z':dM (dH (aB (bO (gm (Cr g ls) L m),0)) (Lx L (gm (Cr g ls) L m))) (dH (aB (bO (gm (Cr g ls) L m),0)) (Lx L (gm (Cr g ls) L m)))=false:=z;rw[y]at z';cases z'
end
end Tx
end
section
open PySem Mini
namespace Tx
section
variable{g:Nat}{ls:List Bool}
def zO{T:Br}{U:KH}{c:Cf}{n t w d:D}{q:eU×Gs}(h1:Hl (c.fn T.chk [.val n,.val t,.val w])=true)(h3:O3 T c n t w=some q)(h4:j5 T U c n t q.1 c.turns [] [] q.2=some d):
  gY T U c [.val n,.val t,.val w]=.ok (.val d) [.val n,.val t,.val w]:=by
 rw[gY];simp only[h1,h3,h4,QHq,if_true]
def O2{C:Cs}(n:Nat)(K:C.Ok){ws:List Int}(H:Wts C ws):O3 tx (pg.cf (n+10)) C.n C.t (iZ ws)=some (jN C.nm ws,C.ini.gs):=by
 have S:=vm K;unfold O3;have e1:qY ((pg.cf (n+10)).fn tx.fst [.val C.n])=some (aB (sI C.ls)):=by have e:(pg.cf (n+10)).fn tx.fst [.val C.n]=pg.fn (n+10) 22 [.val C.n]:=rfl;rw[e,tR];rfl
 have e2:JN ((pg.cf (n+10)).fn tx.stp [.val C.n,.val C.t,.val (aB (sI C.ls))])=some (C.st (sI C.ls)):=by have e:(pg.cf (n+10)).fn tx.stp [.val C.n,.val C.t,.val (aB (sI C.ls))]=pg.fn (n+5+5) 23 [.val C.n,.val C.t,.val (aB (sI C.ls))]:=rfl;rw[e,K.bh (n+5) S];rfl
 have e3:=uZ (n+9) (xs:=C.st (sI C.ls)) [] 0 (K.WK S) ((K.sub S).nodup (names_nodup K.o.h2 K.o.g1 K.o.g5));simp only[Dt n K H,e1,e2,QHq];rw[e3];rfl
def Ju{T:Br}{U:KH}{c:Cf}{n t:D}{L:eU}{f:Nat}{G:Gs}(h0:G.ss=[]):j5 T U c n t L (f+1) [] [] G=some .non:=by rw[j5,h0];rfl
def Nu(n:Nat)(K:(Cr g ls).Ok){ws:List Int}(H:Wts (Cr g ls) ws)(he:Wr g ls=[]){N:Nat}(hN:pg.turns=N+1):
  pg.fn (n+11) 41 [.val (Cr g ls).n,.val (Cr g ls).t,.val (iZ ws)]=.ok (.val .non) [.val (Cr g ls).n,.val (Cr g ls).t,.val (iZ ws)]:=by
 rw[MF];have i1:Hl ((pg.cf (n+10)).fn tx.chk [.val (Cr g ls).n,.val (Cr g ls).t,.val (iZ ws)])=true:=by have e:(pg.cf (n+10)).fn tx.chk [.val (Cr g ls).n,.val (Cr g ls).t,.val (iZ ws)]=pg.fn (n+10) 32 [.val (Cr g ls).n,.val (Cr g ls).t,.val (iZ ws)]:=rfl;rw[e,Be n K H];rfl
 refine zO i1 (O2 n K H) ?_;rw[show(pg.cf (n+10)).turns=N+1 from hN];refine Ju ?_;show sS ((Cr g ls).st (sI ls)) [] 0=[];rw[acL,show(sI ls).1=ls from rfl,he];rfl
theorem xR{x:Str}{v:Int}:∀{nm:List D}{ws:List Int},bf x (jN nm ws)=some v->v∈ws
 |[],_=>fun e=>by cases e
 |_::_,[]=>fun e=>by cases e
 |y::nm,w::ws=>fun e=>by
  simp only[jN,List.zip_cons_cons,Qyz,bf]at e;split at e
  ·cases e;exact QYz
  ·exact QYq _ (xR e)
def S7(n:Nat)(hg:g=3\/g=4\/g=5)(K:(Cr g ls).Ok){ws:List Int}(H:Wts (Cr g ls) ws)(h6:∀w∈ws,w<=6)(u0:0<gB g ls)(u1:gB g ls<g){N:Nat}(hN:pg.turns=N)(bN:2097152<N):
  ∃(i t:Int)(c:Nat),0<c/\c%2=0/\pg.fn (n+11) 41 [.val (Cr g ls).n,.val (Cr g ls).t,.val (iZ ws)]=.ok (.val (.tup [.int i,.int t,.lst (List.replicate g (.int c))])) [.val (Cr g ls).n,.val (Cr g ls).t,.val (iZ ws)]:=by
 have i1:Hl ((pg.cf (n+10)).fn tx.chk [.val (Cr g ls).n,.val (Cr g ls).t,.val (iZ ws)])=true:=by have e:(pg.cf (n+10)).fn tx.chk [.val (Cr g ls).n,.val (Cr g ls).t,.val (iZ ws)]=pg.fn (n+10) 32 [.val (Cr g ls).n,.val (Cr g ls).t,.val (iZ ws)]:=rfl;rw[e,Be n K H];rfl
 have S6:ZW (jN (Cr g ls).nm ws):=fun x v e=>⟨(H.2 v (xR e)).1,h6 v (xR e)⟩;obtain⟨i,j,hij,hj,hb,e⟩:=vA (n+5) hg K (vJ (bB _ _) H.1) S6 u0 u1 N 0 (by omega) (by simp);have R:=jt hg K S6 u0 u1 j;have Ri:=jt hg K S6 u0 u1 i;obtain⟨t,er⟩:=Mp (n+8) K (gm (Cr g ls) (jN (Cr g ls).nm ws) j).cs (i:=i) (by rw[R.c];omega) (by rw[R.c];omega);have p:=Pr hg K S6 u0 u1 i (j-i);rw[show i+(j-i)=j by omega,<-hb]at p;obtain⟨c,c1,c2,c3⟩:=Jq hg Ri.l p fun z=>by have:=List.drop_eq_nil_iff.mp z;rw[uJ,QAq,R.c]at this;omega
 refine⟨i,t,c,c1,c2,?_⟩;have cs:((Cr g ls).nm.map fun x=>D.int (aQ x ((uJ (gm (Cr g ls) (jN (Cr g ls).nm ws) j).cs).drop i)))=List.replicate g (.int c):=by have l:(Cr g ls).nm.length=g:=names0 hg;refine List.eq_replicate_iff.mpr ⟨by rw[QAq,l],fun d hd=>?_⟩;obtain⟨x,hx,rfl⟩:=QDq.mp hd;rw[c3 x hx]
 rw[cs]at er;rw[MF];refine zO i1 (O2 n K H) ?_;rw[show(pg.cf (n+10)).turns=N from hN];refine e.trans ?_;have er':pg.fn (n+5+5) 34 [.val (Cr g ls).n,.val (.lst (jU (gm (Cr g ls) (jN (Cr g ls).nm ws) j).cs)),.val (.int i)]=_:=er;rw[er'];rfl
end
end Tx
end
section
open PySem Mini
namespace Tx
theorem vq:∀(n:Nat)(lo:Nat),cD lo n=(List.range' lo n).map fun i:Nat=>.int i
 |0=>fun _=>rfl
 |n+1=>fun lo=>by rw[cD,List.range'_succ,Qyz,show(lo:Int)+1=((lo+1:Nat):Int)from rfl,vq n (lo+1)]
def xf(n:Nat):cD 0 n=(List.range n).map fun i:Nat=>.int i:=by rw[List.range_eq_range'];exact vq n 0
def lwC:E:=.comp 1 (.name 0) ABl AAL (.op .add AAG AAl)
def unC:E:=.comp 1 (.name 0) ABl (.cmp .ne ABW AAz) (.var 0)
def snC:E:=.comp 1 (.name 0) (.call 21 AAR) (.cmp .eq ABI ABK) (.var 0)
def yJ{g:Nat}(g8:g<=8)(ns:List Int):∃ws:List Int,ws.length=g/\(∀w∈ws,1<=w/\w<=6)/\∀s1 s2 s4 s5 s6 s7:Sl,ev (pg.cf 39) lwC [.val (sc ns),s1,s2,.val (.int g),s4,s5,s6,s7]=.ok (.new (.lst (ws.map .int))) [.val (sc ns),s1,s2,.val (.int g),s4,s5,s6,s7]:=by
 have ex_:∀j:Nat,∃r:Int,0<=r/\r<6/\pg.fn 39 37 [.val (sc ns),.val (.int j),.val (.int 6)]=.ok (.val (.int r)) [.val (sc ns),.val (.int j),.val (.int 6)]:=fun j=>zY 37 ns j 6 (by omega) (by omega);obtain⟨F,hF⟩:=Classical.skolem.mp ex_;refine⟨(List.range g).map fun i=>1+F i,by simp,fun w hw=>?_,fun s1 s2 s4 s5 s6 s7=>?_⟩
 ·obtain⟨i,_,rfl⟩:=QDq.mp hw;have:=hF i;omega
 ·have f1:fits g=true:=by simp[fits];omega
  have f2:Ha (g:Int)=true:=by simp[Ha];omega
  let f:D->D:=fun d=>match d with|.int j=>.int (1+F j.toNat)|_=>.non
  have:=uf (c:=pg.cf 39) (it:=.range1 (.var 3)) (el:=.op .add AAG AAl) (σ:=[.val (sc ns),s1,s2,.val (.int g),s4,s5,s6,s7]) (τ:=[.val (sc ns),s1,s2,.val (.int g),s4,s5,s6,s7]) (d:=.lst (cD 0 g)) (xs:=cD 0 g) (r:=.val (.lst (cD 0 g))) f (by simp[f1,f2]) rfl rfl (fun x hx=>by rw[xf]at hx;obtain⟨i,_,rfl⟩:=QDq.mp hx;have e:=(hF i).2.2;simp[e,f])
  rw[lwC,this,xf,List.map_map,List.map_map];rfl
def Cy{ls:List Bool}{j:Nat}(h:j<ls.length):at? (ls.map D.bl) (j:Int)=some (.bl (bt ls j)):=by rw[nP _ _ (by simpa using h)];simp[bt,List.getD,h]
def Xj{g:Nat}{ls:List Bool}{j:Nat}(hl:ls.length=g)(h:j<g):at? (ls.map D.bl) ((j:Int)-1)=some (.bl (bt ls (pv g j))):=by
 cases j with
 |zero=>
  have p:pv g 0=g-1:=by unfold pv;rw[Nat.zero_add,Nat.mod_eq_of_lt (by omega)]
  have e:at? (ls.map D.bl) ((0:Nat)-1:Int)=at? (ls.map D.bl) ((g-1:Nat):Int):=by
   unfold at? ix?;rw[QAq,hl];have a:((0:Nat):Int)-1<0:=by omega
   have b:¬(((g-1:Nat):Int)<0):=by omega
   rw[if_pos a,if_neg b,show((0:Nat):Int)-1+(g:Int)=((g-1:Nat):Int) by omega]
  rw[e,p];exact Cy (by omega)
 |succ j=>
  have p:pv g (j+1)=j:=by unfold pv;rw[show j+1+g-1=j+g by omega,Nat.add_mod_right,Nat.mod_eq_of_lt (by omega)]
  rw[p,show((j+1:Nat):Int)-1=(j:Int) by omega];exact Cy (by omega)
def Io{g:Nat}{ls:List Bool}(g8:g<=8)(hl:ls.length=g):∃ys:List D,ys.length=gB g ls/\∀s0 s2 s4 s5 s6 s7:Sl,ev (pg.cf 39) unC [s0,.val (Cr g ls).n,s2,.val (.int g),s4,s5,s6,s7]=.ok (.new (.lst ys)) [s0,.val (Cr g ls).n,s2,.val (.int g),s4,s5,s6,s7]:=by
 have f1:fits g=true:=by simp[fits];omega
 have f2:Ha (g:Int)=true:=by simp[Ha];omega
 have n2:=Og (C:=Cr g ls);let p:D->Bool:=fun d=>match d with|.int j=>ue g ls j.toNat|_=>false
 refine⟨((cD 0 g).filter p).map id,?_,fun s0 s2 s4 s5 s6 s7=>?_⟩
 ·rw[List.map_id,xf,List.filter_map,QAq];rfl
 exact yp (c:=pg.cf 39) (it:=.range1 (.var 3)) (co:=.cmp .ne ABW AAz) (el:=.var 0) (σ:=[s0,.val (Cr g ls).n,s2,.val (.int g),s4,s5,s6,s7]) (τ:=[s0,.val (Cr g ls).n,s2,.val (.int g),s4,s5,s6,s7]) (d:=.lst (cD 0 g)) (xs:=cD 0 g) (r:=.val (.lst (cD 0 g))) id p (by simp[f1,f2]) rfl rfl (fun x hx=>by rw[xf]at hx;obtain⟨i,hi,rfl⟩:=QDq.mp hx;rw[List.mem_range]at hi;have a:=Cy (ls:=ls) (j:=i) (by omega);have b:=Xj hl hi;have ga:getD (cF (Cr g ls).ls) (.int i)=some (.bl (bt ls i)):=a;have gb:getD (cF (Cr g ls).ls) (.int ((i:Int)-1))=some (.bl (bt ls (pv g i))):=b;simp[n2,ga,gb,p,ue];cases bt ls i<;>cases bt ls (pv g i)<;>rfl) (fun x _ _=>by simp)
def Xa{g:Nat}{ls:List Bool}(K:(Cr g ls).Ok){s:St}(S:(Cr g ls).S s):aK .eq (.lst (Wr g s.1)) (.lst [])=some (Wr g s.1).isEmpty:=by
 have q:=Oe (C:=Cr g ls) (xs:=Wr g s.1) fun x hx=>(K.sub S).subset hx;cases e:Wr g s.1 with
 |nil=>rfl
 |cons x xs=>
  rw[e]at q;have o:oK (.lst (x::xs)) (.lst [])=true:=by
   have q1:nd x=true/\lO xs=true:=by simpa[lO]using q.1
   have q2:max (dep x) (gn xs)=0:=q.2;simp only[oK,nd,dep,lO,gn,q1.1,q1.2,q2];simp
  show(if oK (.lst (x::xs)) (.lst [])then some (dM (.lst (x::xs)) (.lst []))else none)=_;rw[o];rfl
def Iz{g:Nat}{ls:List Bool}(hg:g=3\/g=4\/g=5)(K:(Cr g ls).Ok)(u0:0<gB g ls)(u1:gB g ls<g)(s0 s3 s4 s5 s6 s7:Sl):ev (pg.cf 39) snC [s0,.val (Cr g ls).n,.val (Cr g ls).t,s3,s4,s5,s6,s7]=.ok (.new (.lst [])) [s0,.val (Cr g ls).n,.val (Cr g ls).t,s3,s4,s5,s6,s7]:=by
 have a:=Iw 29 K;have X:=Fg K 4000000 0 (Bv K);have un:=FQ hg K 4000000 0 (Bv K) (u:=gB g ls) fun p hp=>by rw[QDz.mp hp];rfl
 generalize (Cr g ls).ur 4000000 0 (R0 (Cr g ls).ls)=R at*;have:=yp (c:=pg.cf 39) (it:=.call 21 AAR) (co:=.cmp .eq ABI ABK) (el:=.var 0) (σ:=[s0,.val (Cr g ls).n,.val (Cr g ls).t,s3,s4,s5,s6,s7]) (τ:=[s0,.val (Cr g ls).n,.val (Cr g ls).t,s3,s4,s5,s6,s7]) (d:=.lst (kD R)) (xs:=kD R) (r:=.new (.lst (kD R))) id (fun _=>false) (by simp[a]) rfl rfl (fun x hx=>by
  obtain⟨p,hp,rfl⟩:=QDq.mp hx;have S:=X.ok p hp;have st:=zb 29 K S;have l:p.1.1.length=g:=S.l.trans (names0 hg);have z:=mX hg l;rw[un p hp]at z;have e:=Xa K S;have zf:(Wr g p.1.1).isEmpty=false:=by rw[<-z];simp;omega
  rw[zf]at e;have st':pg.fn 39 20 [.val (Cr g ls).n,.val (Cr g ls).t,.val (aB p.1)]=.ok (.new (.lst (Wr g p.1.1))) [.val (Cr g ls).n,.val (Cr g ls).t,.val (aB p.1)]:=st;simp[st',e,cV,Ob.d]) (fun x _ h=>by cases h)
 rw[show(kD R).filter (fun _=>false)=[]from List.filter_eq_nil_iff.mpr fun _ _=>by simp]at this;exact this
def math(ns:List Int)(hl:ns.length<=63):∃qs,pg.fn 40 40 [.val (.lst (ns.map .int))]=.ok (.val (.bl true)) qs:=by
 obtain⟨g,ls,k',hg,O,hk,er⟩:=RZ 35 ns 5 (by omega);have K:=acM hg O;have g8:g<=8:=by omega
 have ll:ls.length=g:=O.ll.trans (Nat.zero_add g);obtain⟨ws,w1,w2,w3⟩:=yJ g8 ns;have H:Wts (Cr g ls) ws:=⟨w1.trans (names0 hg).symm,fun w hw=>by have:=w2 w hw;omega⟩;obtain⟨ys,y1,y2⟩:=Io g8 ll;have fa:pg.fn 39 28 [.val (Cr g ls).n,.val (Cr g ls).t]=.ok (.val .non) [.val (Cr g ls).n,.val (Cr g ls).t]:=by rw[Qc 29 K,Qa hg (Fg K 4000000 0 (Bv K)).ok]
 have er':pg.fn 39 39 [.val (.lst (ns.map .int)),.bor (.lst [.int 5])]=.ok (.val (Cr g ls).n) [.val (.lst (ns.map .int)),.bor (.lst [.int k'])]:=er;have n2:=Og (C:=Cr g ls);have te:D.tup [.tup [],.tup [.tup []]]=(Cr g ls).t:=rfl;have le:b1 .len (cF (Cr g ls).ls)=some (.val (.int g)):=by show b1 .len (cF ls)=_;simp[cF,b1,Aa,ll]
 have q1:lwC.aF=none:=rfl;have q2:unC.aF=none:=rfl;have q3:snC.aF=none:=rfl;have hb:Qw=⟨1,8,(.cons AAa (.cons AAj (.cons ABS (.cons (.ite (.cmp .notN (.call 28 AAR) ABU) AAP .nil) (.cons (.set 4 (.bi .tuple lwC)) (.cons (.set 5 (.bi .len unC)) (.cons AAX (.cons (.ite AAh (.cons (.ret (.and (.cons (.cmp .lW (.var 6) ABU) AAd))) .nil) .nil) (.cons (.ite (.cmp .ne snC ABK) AAP .nil) (.cons ABf (.cons AAe .nil)))))))))))⟩:=rfl;have r1:∀t,ex (pg.cf 39) (.cons AAa t) [.val (.lst (ns.map .int)),.un,.un,.un,.un,.un,.un,.un]=ex (pg.cf 39) t [.val (.lst (ns.map .int)),.val (Cr g ls).n,.un,.un,.un,.un,.un,.un]:=fun t=>by simp[er',cV,Ob.d]
 have r2:∀t,ex (pg.cf 39) (.cons AAj t) [.val (.lst (ns.map .int)),.val (Cr g ls).n,.un,.un,.un,.un,.un,.un]=ex (pg.cf 39) t [.val (.lst (ns.map .int)),.val (Cr g ls).n,.val (Cr g ls).t,.un,.un,.un,.un,.un]:=fun t=>by simp[cV,te]
 have r3:∀t,ex (pg.cf 39) (.cons ABS t) [.val (.lst (ns.map .int)),.val (Cr g ls).n,.val (Cr g ls).t,.un,.un,.un,.un,.un]=ex (pg.cf 39) t [.val (.lst (ns.map .int)),.val (Cr g ls).n,.val (Cr g ls).t,.val (.int g),.un,.un,.un,.un]:=fun t=>by simp[n2,le]
 have r4:∀t,ex (pg.cf 39) (.cons (.ite (.cmp .notN (.call 28 AAR) ABU) AAP .nil) t) [.val (.lst (ns.map .int)),.val (Cr g ls).n,.val (Cr g ls).t,.val (.int g),.un,.un,.un,.un]=ex (pg.cf 39) t [.val (.lst (ns.map .int)),.val (Cr g ls).n,.val (Cr g ls).t,.val (.int g),.un,.un,.un,.un]:=fun t=>by simp[fa,cR]
 have r5:∀t,ex (pg.cf 39) (.cons (.set 4 (.bi .tuple lwC)) t) [.val (.lst (ns.map .int)),.val (Cr g ls).n,.val (Cr g ls).t,.val (.int g),.un,.un,.un,.un]=ex (pg.cf 39) t [.val (.lst (ns.map .int)),.val (Cr g ls).n,.val (Cr g ls).t,.val (.int g),.val (iZ ws),.un,.un,.un]:=fun t=>by simp[q1,w3]
 have r6:∀t,ex (pg.cf 39) (.cons (.set 5 (.bi .len unC)) t) [.val (.lst (ns.map .int)),.val (Cr g ls).n,.val (Cr g ls).t,.val (.int g),.val (iZ ws),.un,.un,.un]=ex (pg.cf 39) t [.val (.lst (ns.map .int)),.val (Cr g ls).n,.val (Cr g ls).t,.val (.int g),.val (iZ ws),.val (.int (gB g ls)),.un,.un]:=fun t=>by simp[q2,y2,y1]
 have ul:gB g ls<=g:=by have:=List.length_filter_le (ue g ls) (List.range g);rw[List.length_range]at this;exact this
 rw[show(40:Nat)=39+1 from rfl,abx,hb,r1,r2,r3,r4,r5,r6];by_cases c:gB g ls=0\/gB g ls=g
 ·have z:=mX hg ll;have we:Wr g ls=[]:=by
   have:(Wr g ls).isEmpty=true:=by rw[<-z];rcases c with c|c<;>simp[c]
   simpa using this
  have pa:=Nu 28 K H we (N:=3999999) rfl;have st:=zb 29 K (vm K);have st':pg.fn 39 20 [.val (Cr g ls).n,.val (Cr g ls).t,.val (.tup [cF ls,.int 0])]=.ok (.new (.lst [])) [.val (Cr g ls).n,.val (Cr g ls).t,.val (.tup [cF ls,.int 0])]:=by have:(Cr g ls).st (sI (Cr g ls).ls)=[]:=we;rw[this]at st;exact st
  have n2':getD (Cr g ls).n (.int 2)=some (cF ls):=n2;have r7:∀t,ex (pg.cf 39) (.cons AAX t) [.val (.lst (ns.map .int)),.val (Cr g ls).n,.val (Cr g ls).t,.val (.int g),.val (iZ ws),.val (.int (gB g ls)),.un,.un]=ex (pg.cf 39) t [.val (.lst (ns.map .int)),.val (Cr g ls).n,.val (Cr g ls).t,.val (.int g),.val (iZ ws),.val (.int (gB g ls)),.val .non,.un]:=fun t=>by simp[pa]
  have r8:∀t,ex (pg.cf 39) (.cons (.ite AAh (.cons (.ret (.and (.cons (.cmp .lW (.var 6) ABU) AAd))) .nil) .nil) t) [.val (.lst (ns.map .int)),.val (Cr g ls).n,.val (Cr g ls).t,.val (.int g),.val (iZ ws),.val (.int (gB g ls)),.val .non,.un]=.ret (.val (.bl true)) [.val (.lst (ns.map .int)),.val (Cr g ls).n,.val (Cr g ls).t,.val (.int g),.val (iZ ws),.val (.int (gB g ls)),.val .non,.un]:=fun t=>by
   have en:aK .eq (.lst []) (.lst [])=some true:=rfl;rcases c with c|c
   ·simp[c,n2',st',cV,cR,en]
   ·have g0:((g:Int)==0)=false:=by simp;omega
    simp[c,g0,n2',st',cV,cR,en]
  rw[r7,r8];exact⟨_,rfl⟩
 ·have u0:0<gB g ls:=by omega
  have u1:gB g ls<g:=by omega
  obtain⟨i,t,n,c1,c2,pa⟩:=S7 28 hg K H (fun w hw=>(w2 w hw).2) u0 u1 (N:=4000000) rfl (by omega);have sn:=Iz hg K u0 u1;generalize hf:D.tup [.int i,.int t,.lst (List.replicate g (.int n))]=fd at pa;have f2:getD fd (.int 2)=some (.lst (List.replicate g (.int n))):=by rw[<-hf];rfl
  have r7:∀t,ex (pg.cf 39) (.cons AAX t) [.val (.lst (ns.map .int)),.val (Cr g ls).n,.val (Cr g ls).t,.val (.int g),.val (iZ ws),.val (.int (gB g ls)),.un,.un]=ex (pg.cf 39) t [.val (.lst (ns.map .int)),.val (Cr g ls).n,.val (Cr g ls).t,.val (.int g),.val (iZ ws),.val (.int (gB g ls)),.val fd,.un]:=fun t=>by simp[pa]
  have r8:∀t,ex (pg.cf 39) (.cons (.ite AAh (.cons (.ret (.and (.cons (.cmp .lW (.var 6) ABU) AAd))) .nil) .nil) t) [.val (.lst (ns.map .int)),.val (Cr g ls).n,.val (Cr g ls).t,.val (.int g),.val (iZ ws),.val (.int (gB g ls)),.val fd,.un]=ex (pg.cf 39) t [.val (.lst (ns.map .int)),.val (Cr g ls).n,.val (Cr g ls).t,.val (.int g),.val (iZ ws),.val (.int (gB g ls)),.val fd,.un]:=fun t=>by
   have a0:((gB g ls:Int)==0)=false:=by simp;omega
   have a1:((gB g ls:Int)==(g:Int))=false:=by simp;omega
   simp[a0,a1]
  have r9:∀t,ex (pg.cf 39) (.cons (.ite (.cmp .ne snC ABK) AAP .nil) t) [.val (.lst (ns.map .int)),.val (Cr g ls).n,.val (Cr g ls).t,.val (.int g),.val (iZ ws),.val (.int (gB g ls)),.val fd,.un]=ex (pg.cf 39) t [.val (.lst (ns.map .int)),.val (Cr g ls).n,.val (Cr g ls).t,.val (.int g),.val (iZ ws),.val (.int (gB g ls)),.val fd,.un]:=fun t=>by have en:aK .ne (.lst []) (.lst [])=some false:=rfl;simp[sn,q3,en,cV,Ob.d]
  have r10:∀t,ex (pg.cf 39) (.cons ABf t) [.val (.lst (ns.map .int)),.val (Cr g ls).n,.val (Cr g ls).t,.val (.int g),.val (iZ ws),.val (.int (gB g ls)),.val fd,.un]=ex (pg.cf 39) t [.val (.lst (ns.map .int)),.val (Cr g ls).n,.val (Cr g ls).t,.val (.int g),.val (iZ ws),.val (.int (gB g ls)),.val fd,.val (.lst (List.replicate g (.int n)))]:=fun t=>by simp[f2]
  have r11:∀t,ex (pg.cf 39) (.cons AAe t) [.val (.lst (ns.map .int)),.val (Cr g ls).n,.val (Cr g ls).t,.val (.int g),.val (iZ ws),.val (.int (gB g ls)),.val fd,.val (.lst (List.replicate g (.int n)))]=.ret (.val (.bl true)) [.val (.lst (ns.map .int)),.val (Cr g ls).n,.val (Cr g ls).t,.val (.int g),.val (iZ ws),.val (.int (gB g ls)),.val fd,.val (.lst (List.replicate g (.int n)))]:=fun t=>by
   have a0:getD (.lst (List.replicate g (.int n))) (.int 0)=some (.int n):=by rcases hg with rfl|rfl|rfl<;>rfl
   have nd_:lO (List.replicate g (D.int n))=true/\gn (List.replicate g (D.int n))=0:=by rcases hg with rfl|rfl|rfl<;>simp[List.replicate,lO,nd,gn,dep]
   have en:=(acH (d:=.lst (List.replicate g (.int n))) ⟨nd_.1,by show gn _+1<=50;rw[nd_.2];omega⟩).1;have b0:(0:Int)<g/\(g:Int)<=8:=by omega
   have b1_:(0:Int)<n:=by omega
   have b2:(n:Int)%2=0:=by omega
   have b3:0<g:=by omega
   simp[a0,en,b0.1,b0.2,b3,g8,c1,b1_,b2,cV,Ob.d]
  rw[r7,r8,r9,r10,r11];exact⟨_,rfl⟩
end Tx
end
namespace Tx
open PySem PySem.W L2 Mini
def cW{K:QQq}{x:Str}{st:Stmt}(m:Value)(f c:Addr)(a:PySem.W.nsIn K mainGlobals x=some (some (.ref f)):=by kernel_rfl)(l:K.lookup f=some (fO x st m c):=by kernel_rfl)(q:PySem.W.codeIn K (.ref c) x=true:=by kernel_rfl):QZ K x st:=Mini.dIn a l q (by unfold PySem.W.keepIn;dsimp only;rw[l];rfl)
def bI:ZK (Bb ds dR dI) tx.mz s90:=⟨_,_,_,_,_,_,_,_,_,_,_,_,_,_,_,_,_,_,_,_,_,_,_,_,_,_,_,_,_,_,_,_,_,_,_,_,rfl,fun _ _=>rfl,by kernel_rfl⟩
def bU:ZL s91:=⟨_,_,_,_,_,_,_,_,_,_,rfl⟩
def bC:ZM s92:=⟨_,_,_,_,_,_,_,_,_,_,_,_,_,_,_,_,_,_,_,_,_,_,_,_,_,_,_,_,_,_,_,_,_,_,_,_,_,_,_,_,_,_,_,_,_,_,_,_,_,_,_,_,_,_,_,_,_,_,_,_,_,_,_,_,_,_,_,_,_,_,rfl,fun _=>⟨_,rfl⟩,rfl,rfl⟩
def bS:ZG s93:=⟨_,_,_,_,_,_,_,_,_,_,_,_,_,_,_,_,_,_,_,_,_,_,_,_,rfl,fun _=>⟨_,rfl⟩,by kernel_rfl,by kernel_rfl⟩
def bP:ZJ s41:=⟨_,_,_,_,_,_,_,_,_,_,_,_,_,_,_,_,_,_,_,_,_,_,_,_,_,_,_,_,_,_,_,_,_,_,_,_,_,_,_,_,_,_,_,_,_,_,_,_,_,_,_,_,_,_,_,_,rfl,fun _=>⟨_,rfl⟩,fun _=>⟨_,rfl⟩⟩
def gok{P:Params}{mg:QZz}(m1:mg "Going"=some (.ref 337))(m2:mg "min"=none)(m3:mg "list"=none)(m4:mg "len"=none)(m5:mg "tuple"=none):GoQ (Kf P) mg (Bb ds dR dI) tx 337 308 315 322 327 s90 s91 s92 s93 s41:=
 ⟨⟨by kernel_rfl,by kernel_rfl,by kernel_rfl,by kernel_rfl⟩,⟨by unfold aW;kernel_rfl,by unfold aW;kernel_rfl,by unfold aW;kernel_rfl,by unfold aW;kernel_rfl,by unfold aW;kernel_rfl,by unfold aW;kernel_rfl⟩,⟨⟨by kernel_rfl,by kernel_rfl,by kernel_rfl⟩,by kernel_rfl,by kernel_rfl,by kernel_rfl⟩,⟨by kernel_rfl,by kernel_rfl,by kernel_rfl,by kernel_rfl⟩,⟨by kernel_rfl,by kernel_rfl,by kernel_rfl⟩,⟨by kernel_rfl,by kernel_rfl,by kernel_rfl⟩,mfk (m:=yE) (c:=307) (by kernel_rfl) (by kernel_rfl) (fun _ _ _ _ _ _ us hl=>by obtain⟨_,_,_,_,rfl⟩:=JT hl;rfl) (by decide+kernel) (by decide+kernel),mfk (m:=yE) (c:=314) (by kernel_rfl) (by kernel_rfl) (fun _ _ _ _ _ _ us hl=>by obtain⟨_,_,rfl⟩:=oE hl;rfl) (by decide+kernel) (by decide+kernel),mfk (m:=yE) (c:=321) (by kernel_rfl) (by kernel_rfl) (fun _ _ _ _ _ _ us hl=>by obtain⟨_,rfl⟩:=sX hl;rfl) (by decide+kernel) (by decide+kernel),mfs (m:=yE) (c:=326) (by kernel_rfl) (by kernel_rfl) (fun _ _ _ _ _ _ us hl=>by obtain⟨_,rfl⟩:=sX hl;rfl),wY (d:={x:="still",st:=s93,N:=jk,ps:=["self"],fl:=[]}) (by decide+kernel),by decide+kernel,by decide+kernel,bI,bU,bC,bS,bP,pX (by decide+kernel),pX (by decide+kernel),pX (by decide+kernel),pX (by decide+kernel),pX (by decide+kernel),m1,m2,m3,m4,m5⟩
def aeo:ZS ds 41 tx ty:=⟨⟨by decide,_,rfl,rfl,by kernel_rfl⟩,⟨by decide,_,rfl,rfl,by kernel_rfl⟩,⟨by decide,_,rfl,rfl,by kernel_rfl⟩,⟨by decide,_,rfl,rfl,by kernel_rfl⟩,⟨by decide,_,rfl,rfl,by kernel_rfl⟩,⟨by decide,_,rfl,rfl,by kernel_rfl⟩,⟨by decide,_,rfl,rfl,by kernel_rfl⟩⟩
end Tx
open PySem PySem.W PyProof.Rows
theorem PySem.Challenge.cw_anywait_k18_whole_ring_holds : PySem.Challenge.rw_anywait_k18_whole_ring.Holds := by
 w_on;refine PySem.W.holds_law Tx.w0w fun said => ?_;refine PySem.W.holds_open (q := Tx.qV) (loose := Tx.lo) (Xt := fun s => recOk [] s) (XP := fun _ _ => True) (Yf := Hook.obs Tx.Kh) (Ya := Hook.val Tx.Kh) (YP := Hook.says Tx.Kh) (N := 5316) Tx.hl (Hook.of Tx.Kh) (Hook.keeps Tx.Kh) (fun _ _ => trivial) (fun _ _ _ _ _ => trivial) (by rfl) (by rfl) (by rfl) (fun s e => recFacts_of e) (by rfl) said (by decide +kernel) ⟨rfl, rfl, rfl, rfl, rfl, by decide +kernel⟩ ?hw ?hc
 case hw => w_witness2
 case hc =>
  refine Mini.Il (p := Tx.pg) (L := 40) (y := "_law_script") (l := PySem.Challenge.rw_anywait_k18_whole_ring) rfl rfl (fun w h Y => PySem.W.kIn_of Y) Tx.math ?qF;intro w mg fa h KX G hmg;refine Mini.QC (dL := Tx.d40) (dt := Tx.d41) (dI := Tx.dI) (T := Tx.tx) (U := Tx.ty) KX G hmg rfl rfl rfl Tx.bd Tx.scp Tx.mF ?qA ?qB ?qZ rfl rfl rfl rfl (by kernel_rfl) (by kernel_rfl) (Tx.gok (PySem.W.mg_of KX G (by kernel_rfl)) (PySem.W.mg_none_of KX G (by kernel_rfl)) (PySem.W.mg_none_of KX G (by kernel_rfl)) (PySem.W.mg_none_of KX G (by kernel_rfl)) (PySem.W.mg_none_of KX G (by kernel_rfl))) Tx.aeo rfl rfl
  case qA =>show Mini.AllIn _ Tx.nms;exact ⟨Tx.cW Tx.lR 78 77, Tx.cW Tx.lR 83 82, Tx.cW Tx.lR 88 87, Tx.cW Tx.lR 95 94, Tx.cW Tx.lR 102 101, Tx.cW Tx.lR 107 106, Tx.cW Tx.lR 112 111, Tx.cW Tx.lR 117 116, Tx.cW Tx.lR 124 123, Tx.cW Tx.lR 129 128, Tx.cW Tx.lR 134 133, Tx.cW Tx.lR 141 140, Tx.cW Tx.lR 148 147, Tx.cW Tx.lR 153 152, Tx.cW Tx.lR 158 157, Tx.cW Tx.lR 163 162, Tx.cW Tx.lR 170 169, Tx.cW Tx.mo3 177 176, Tx.cW Tx.mo3 182 181, Tx.cW Tx.mo3 187 186, Tx.cW Tx.BL 194 193, Tx.cW Tx.BL 201 200, Tx.cW Tx.BL 208 207, Tx.cW Tx.BL 213 212, Tx.cW Tx.BL 220 219, Tx.cW Tx.BL 227 226, Tx.cW Tx.BL 232 231, Tx.cW Tx.BL 239 238, Tx.cW Tx.VR 246 245, Tx.cW Tx.VR 253 252, Tx.cW Tx.VR 258 257, Tx.cW Tx.VR 265 264, Tx.cW Tx.yE 277 276, Tx.cW Tx.yE 282 281, Tx.cW Tx.yE 287 286, Tx.cW Tx.yE 294 293, Tx.cW Tx.Q5 348 347, Tx.cW Tx.Q5 355 354, Tx.cW Tx.Q5 362 361, Tx.cW Tx.Q5 367 366, Tx.cW Tx.Q5 372 371, Tx.cW Tx.yE 272 271, trivial⟩
  case qB => exact ⟨.v (u := .str "abcdefghijklmnopqrstuvwxyz" 264) (by kernel_rfl) (by decide +kernel), .v (u := .int 6 266) (by kernel_rfl) (by decide +kernel), .t (a := 71) (o := Tx.o71) (by kernel_rfl) (by kernel_rfl) (by decide +kernel), .v (u := .int 3 283) (by kernel_rfl) (by decide +kernel), .v (u := .int 5 285) (by kernel_rfl) (by decide +kernel), .v (u := .int 4 287) (by kernel_rfl) (by decide +kernel), .v (u := .int 8 289) (by kernel_rfl) (by decide +kernel), .v (u := .int 3 291) (by kernel_rfl) (by decide +kernel), .v (u := .int 12 419) (by kernel_rfl) (by decide +kernel), .v (u := .int 99 561) (by kernel_rfl) (by decide +kernel), trivial⟩
  case qZ => exact ⟨by kernel_rfl, by kernel_rfl, by kernel_rfl, by kernel_rfl, by kernel_rfl, by kernel_rfl, by kernel_rfl, by kernel_rfl, by kernel_rfl, by kernel_rfl, by kernel_rfl, by kernel_rfl, by kernel_rfl, by kernel_rfl, trivial⟩