import PyProof.Rows.All
import Wide.All
import OpenK.AllK
import Wide.FinOn
import PySem.Syntax
import Lean
import PyProof.EqAt
import PyProof.EqKinds
import PyProof.TupleCall
import KE.KSortAsk
import PyProof.ListMulAny
import PyProof.FactsAll.tuple_2
import PyProof.NeData
import PyProof.P3In
import KE.KSortTup
import PyProof.DictUpdate
import PyProof.DictCopy
import PyProof.CompFree
import PyProof.Rows.CatchOwn
import OpenK.KRaise
import PyProof.ExcBaseAll.ValueError
import PyProof.ExcAttrAll.ValueError
import PyProof.IsiH_tuple
import PyProof.StrOps2
import PySem.Challenge.RW_anywait_k05_runs
set_option linter.all false
set_option Elab.async false
set_option maxRecDepth 100000
set_option maxHeartbeats 0
abbrev QQq:=PySem.W.Frag
abbrev QQz:=List (PySem.Addr×PySem.Obj)
abbrev QZq:=PySem.Value→PySem.Shared→Prop
abbrev QZz:=PySem.Str→Option PySem.Value
def QJq:=@Option.bind_eq_some_iff
def QJz:=@Option.map_eq_some_iff
def QYq:=@List.mem_cons_of_mem
def QYz:=@List.mem_cons_self
def QXq:=@List.getElem?_eq_getElem
def QXz:=@PySem.Heap.get?_push_of_some
def QWq:=@List.mem_append_left
def QWz:=@List.mem_append_right
def QVq:=@Nat.le_refl
def QVz:=@Bool.and_eq_true
def QUq:=@decide_eq_true_eq
def QUz:=@List.length_append
def QTq:=@List.mem_map_of_mem
section
namespace L2
open PySem
def dG(s:Stmt):Arguments:=match s with
 |.FunctionDef _ a _ _ _ _ _ _ _ _=>a
 |_=>{posonlyargs:=[],args:=[],vararg:=none,kwonlyargs:=[],kw_defaults:=[],kwarg:=none,defaults:=[]}
def cJ(s:Stmt):List Stmt:=match s with
 |.FunctionDef _ _ b _ _ _ _ _ _ _=>b
 |_=>[]
def aF(s:Stmt):Scope:=match s with
 |.FunctionDef _ _ _ _ _ _ sc _ _ _=>sc
 |_=>{kind:=.function,names:=[],isGenerator:=false,isCoroutine:=false}
end L2
end
section
namespace Tx
open PySem PySem.W L2 PyProof.Rows
def top(i:Nat):Stmt:=PySem.Challenge.pw_anywait_k05_runs.main.body.getD i (.Pass ⟨0,0,0,0⟩)
abbrev s0:Stmt:=top 14
abbrev s1:Stmt:=top 15
abbrev s2:Stmt:=top 16
abbrev s3:Stmt:=top 17
abbrev s4:Stmt:=top 18
abbrev s5:Stmt:=top 19
abbrev s6:Stmt:=top 20
abbrev s7:Stmt:=top 21
abbrev s8:Stmt:=top 22
abbrev s9:Stmt:=top 23
abbrev rO:Stmt:=top 24
abbrev yH:Stmt:=top 25
abbrev s12:Stmt:=top 26
abbrev s13:Stmt:=top 27
abbrev s14:Stmt:=top 28
abbrev s15:Stmt:=top 29
abbrev s16:Stmt:=top 30
abbrev s17:Stmt:=top 33
abbrev s18:Stmt:=top 34
abbrev s19:Stmt:=top 35
abbrev s20:Stmt:=top 37
abbrev s21:Stmt:=top 38
abbrev s22:Stmt:=top 39
abbrev s23:Stmt:=top 40
abbrev s24:Stmt:=top 41
abbrev s25:Stmt:=top 42
abbrev s26:Stmt:=top 44
abbrev s27:Stmt:=top 45
abbrev s28:Stmt:=top 46
abbrev s29:Stmt:=top 47
abbrev s30:Stmt:=top 48
abbrev s31:Stmt:=top 49
abbrev s32:Stmt:=top 50
abbrev s33:Stmt:=top 51
abbrev s34:Stmt:=top 52
abbrev s35:Stmt:=top 53
abbrev s36:Stmt:=top 54
abbrev s37:Stmt:=top 55
abbrev s38:Stmt:=top 56
abbrev s39:Stmt:=top 57
abbrev s40:Stmt:=top 58
abbrev s41:Stmt:=top 59
abbrev s42:Stmt:=top 60
abbrev s43:Stmt:=top 61
abbrev s44:Stmt:=top 62
abbrev s45:Stmt:=top 63
abbrev s46:Stmt:=top 64
abbrev s47:Stmt:=top 65
def gE(P:Params)(x:Str)(i:Nat)(v:Value):DictEntry:=⟨PyData.keyHash P x,.str x i,v⟩
def fO(x:Str)(st:Stmt)(m:Value)(c:Addr):Obj:=⟨.type "function",none,.func (PySem.W.fnOf x x (dG st) (cJ st) (aF st) .none .none .none m none (.ref c) .none), #[]⟩
def cO(x:Str)(a:Nat)(l n:Int)(r s:Nat)(u v:Value)(t:Nat)(q:Int)(z:Nat):Obj:=⟨.type "code",none,.fields #[.str x a,.str x (a+1),.str "/claim/cut.py" (a+2),.int l 0,.int n 0,.int 0 0,.int 0 0,.int 3 0,.ref r,.bool true,.int 181 0,.ref s,.none,u,v,.ref t,.int q 0,.int l 0,.str "/claim/cut.py" z], #[]⟩
def jQ:Value:=.str "anywait.nets" 255
def Gd:Value:=.str "anywait.stands" 434
def W4:Value:=.str "anywait.talks" 410
def gF:Value:=.str "law_anywait_k05_runs" 486
def o64:Obj:=⟨.type "tuple",none,.seq #[.str "input" 261,.str "gate" 262,.str "start" 263,.str "out" 264,.str "state" 265,.str "same" 266,.str "not" 267,.str "and" 268,.str "or" 269,.str "both" 270,.str "held" 271,.str "table" 272,.str "on" 273,.str "off" 274], #[]⟩
def o24:Obj:=excClassObj "WaitError" "WaitError" 24 23 [.type "ValueError"] [.type "ValueError",.type "Exception",.type "BaseException",.type "object"] true [] [.ref 37,.ref 49,.ref 61] false none none (some (.ref 15)) none (some (.str "WaitError" 189)) (some (.str "WaitError" 197)) (some (.bool true)) "ValueError.__new__"
def e23(P:Params):Array DictEntry:= #[gE P "__module__" 196 (.str "anywait.errors" 187),gE P "__firstlineno__" 200 (.int 2 199),gE P "__static_attributes__" 201 (.ref 22),gE P "__weakref__" 203 (.ref 25),gE P "__doc__" 204 .none]
def o61:Obj:=excClassObj "NoRun" "NoRun" 61 60 [.ref 24] [.ref 24,.type "ValueError",.type "Exception",.type "BaseException",.type "object"] true [] [] false none none (some (.ref 52)) none (some (.str "NoRun" 239)) (some (.str "NoRun" 247)) (some (.bool true)) "ValueError.__new__"
def e60(P:Params):Array DictEntry:= #[gE P "__module__" 246 (.str "anywait.errors" 187),gE P "__firstlineno__" 250 (.int 8 249),gE P "__static_attributes__" 251 (.ref 59),gE P "__doc__" 252 .none]
def o37:Obj:=excClassObj "NoNet" "NoNet" 37 36 [.ref 24] [.ref 24,.type "ValueError",.type "Exception",.type "BaseException",.type "object"] true [] [] false none none (some (.ref 28)) none (some (.str "NoNet" 207)) (some (.str "NoNet" 215)) (some (.bool true)) "ValueError.__new__"
def e36(P:Params):Array DictEntry:= #[gE P "__module__" 214 (.str "anywait.errors" 187),gE P "__firstlineno__" 218 (.int 4 217),gE P "__static_attributes__" 219 (.ref 35),gE P "__doc__" 220 .none]
def Kf(P:Params):QQq:=[(3,⟨.type "dict",none,.dict #[gE P "__name__" 165 (.str "law_anywait_k05_runs" 486),gE P "__doc__" 166 .none,gE P "__package__" 167 .none,gE P "__loader__" 168 (.builtin "__main__.__loader__#opaque"),gE P "__spec__" 169 .none,gE P "__annotations__" 170 (.ref 6),gE P "__builtins__" 171 (.ref 4),gE P "__file__" 173 (.str "/claim/cut.py" 172),gE P "__cached__" 174 .none,gE P "WaitError" 206 (.ref 24),gE P "NoNet" 222 (.ref 37),gE P "NoTalk" 238 (.ref 49),gE P "NoRun" 254 (.ref 61),gE P "LETTERS" 258 (.str "abcdefghijklmnopqrstuvwxyz" 257),gE P "LONGEST_NAME" 260 (.int 6 259),gE P "WORDS" 275 (.ref 64),gE P "MOST_INPUTS" 277 (.int 3 276),gE P "MOST_GATES" 279 (.int 5 278),gE P "MOST_WIRES" 281 (.int 4 280),gE P "MOST_TABLE_WIRES" 283 (.int 8 282),gE P "DEEPEST_HELD" 285 (.int 3 284),gE P "checked" 292 (.ref 71),gE P "is_net" 298 (.ref 76),gE P "has_parts" 304 (.ref 81),gE P "is_tuple" 313 (.ref 88),gE P "is_number" 322 (.ref 95),gE P "is_name" 328 (.ref 100),gE P "are_unlike" 334 (.ref 105),gE P "is_row" 340 (.ref 110),gE P "is_wire" 348 (.ref 117),gE P "are_wires" 354 (.ref 122),gE P "are_rows" 360 (.ref 127),gE P "is_kind" 371 (.ref 134),gE P "is_held" 380 (.ref 141),gE P "wire_names" 386 (.ref 146),gE P "waiting_gates" 392 (.ref 151),gE P "told" 398 (.ref 156),gE P "told_held" 409 (.ref 163),gE P "MOST_STATES" 413 (.int 12 412),gE P "checked_talk" 421 (.ref 170),gE P "is_talk" 427 (.ref 175),gE P "is_state" 433 (.ref 180),gE P "stand_behind" 446 (.ref 187),gE P "first_stand" 453 (.ref 194),gE P "steps_at" 459 (.ref 199),gE P "is_unasked" 468 (.ref 206),gE P "led_to" 479 (.ref 213),gE P "changed" 485 (.ref 218),gE P "_law_cell_at" 495 (.ref 225),gE P "_law_mixed" 505 (.ref 232),gE P "_law_next" 514 (.ref 239),gE P "_law_some" 526 (.ref 246),gE P "_law_table" 532 (.ref 251),gE P "_law_kind" 544 (.ref 258),gE P "_law_net" 550 (.ref 263),gE P "_law_talk" 556 (.ref 268),gE P "_law_ring" 562 (.ref 273),gE P "_law_chain" 576 (.ref 280),gE P "_law_meeting" 590 (.ref 287),gE P "_law_spoilt_kind" 596 (.ref 292),gE P "_law_case" 608 (.ref 299),gE P "_law_names" 614 (.ref 304),gE P "_law_tells" 620 (.ref 309),gE P "_law_waiting" 626 (.ref 314),gE P "_law_steps" 632 (.ref 319),gE P "_law_led" 638 (.ref 324),gE P "_law_drawn_run" 656 (.ref 331),gE P "_law_due" 667 (.ref 338),gE P "_law_told" 677 (.ref 345),gE P "law" 693 (.ref 352)] 70, #[]⟩),
 (71,fO "checked" s0 jQ 70),
 (70,cO "checked" 286 19 1 65 66 (.ref 67) (.ref 68) 69 290 291),
 (76,fO "is_net" s1 jQ 75),
 (75,cO "is_net" 293 23 1 72 73 .none .none 74 296 297),
 (81,fO "has_parts" s2 jQ 80),
 (80,cO "has_parts" 299 30 1 77 78 .none .none 79 302 303),
 (88,fO "is_tuple" s3 jQ 87),
 (87,cO "is_tuple" 305 34 3 82 83 (.ref 84) (.ref 85) 86 311 312),
 (95,fO "is_number" s4 jQ 94),
 (94,cO "is_number" 314 36 3 89 90 (.ref 91) (.ref 92) 93 320 321),
 (100,fO "is_name" s5 jQ 99),
 (99,cO "is_name" 323 38 1 96 97 .none .none 98 326 327),
 (105,fO "are_unlike" s6 jQ 104),
 (104,cO "are_unlike" 329 42 1 101 102 .none .none 103 332 333),
 (110,fO "is_row" s7 jQ 109),
 (109,cO "is_row" 335 44 2 106 107 .none .none 108 338 339),
 (117,fO "is_wire" s8 jQ 116),
 (116,cO "is_wire" 341 46 2 111 112 (.ref 113) (.ref 114) 115 346 347),
 (122,fO "are_wires" s9 jQ 121),
 (121,cO "are_wires" 349 48 4 118 119 .none .none 120 352 353),
 (127,fO "are_rows" rO jQ 126),
 (126,cO "are_rows" 355 52 2 123 124 .none .none 125 358 359),
 (134,fO "is_kind" yH jQ 133),
 (133,cO "is_kind" 361 56 3 128 129 (.ref 130) (.ref 131) 132 369 370),
 (141,fO "is_held" s12 jQ 140),
 (140,cO "is_held" 372 72 3 135 136 (.ref 137) (.ref 138) 139 378 379),
 (146,fO "wire_names" s13 jQ 145),
 (145,cO "wire_names" 381 74 1 142 143 .none .none 144 384 385),
 (151,fO "waiting_gates" s14 jQ 150),
 (150,cO "waiting_gates" 387 76 2 147 148 .none .none 149 390 391),
 (156,fO "told" s15 jQ 155),
 (155,cO "told" 393 79 3 152 153 .none .none 154 396 397),
 (163,fO "told_held" s16 jQ 162),
 (162,cO "told_held" 399 95 3 157 158 (.ref 159) (.ref 160) 161 407 408),
 (170,fO "checked_talk" s17 W4 169),
 (169,cO "checked_talk" 414 101 2 164 165 (.ref 166) (.ref 167) 168 419 420),
 (175,fO "is_talk" s18 W4 174),
 (174,cO "is_talk" 422 105 2 171 172 .none .none 173 425 426),
 (180,fO "is_state" s19 W4 179),
 (179,cO "is_state" 428 113 3 176 177 .none .none 178 431 432),
 (187,fO "stand_behind" s20 Gd 186),
 (186,cO "stand_behind" 436 120 3 181 182 (.ref 183) (.ref 184) 185 444 445),
 (194,fO "first_stand" s21 Gd 193),
 (193,cO "first_stand" 447 132 1 188 189 (.ref 190) (.ref 191) 192 451 452),
 (199,fO "steps_at" s22 Gd 198),
 (198,cO "steps_at" 454 134 3 195 196 .none .none 197 457 458),
 (206,fO "is_unasked" s23 Gd 205),
 (205,cO "is_unasked" 460 137 3 200 201 (.ref 202) (.ref 203) 204 466 467),
 (213,fO "led_to" s24 Gd 212),
 (212,cO "led_to" 469 139 4 207 208 (.ref 209) (.ref 210) 211 477 478),
 (218,fO "changed" s25 Gd 217),
 (217,cO "changed" 480 144 3 214 215 .none .none 216 483 484),
 (225,fO "_law_cell_at" s26 gF 224),
 (224,cO "_law_cell_at" 488 147 2 219 220 (.ref 221) (.ref 222) 223 493 494),
 (232,fO "_law_mixed" s27 gF 231),
 (231,cO "_law_mixed" 496 153 3 226 227 (.ref 228) (.ref 229) 230 503 504),
 (239,fO "_law_next" s28 gF 238),
 (238,cO "_law_next" 506 156 3 233 234 (.ref 235) (.ref 236) 237 512 513),
 (246,fO "_law_some" s29 gF 245),
 (245,cO "_law_some" 515 159 5 240 241 (.ref 242) (.ref 243) 244 524 525),
 (251,fO "_law_table" s30 gF 250),
 (250,cO "_law_table" 527 164 3 247 248 .none .none 249 530 531),
 (258,fO "_law_kind" s31 gF 257),
 (257,cO "_law_kind" 533 170 4 252 253 (.ref 254) (.ref 255) 256 542 543),
 (263,fO "_law_net" s32 gF 262),
 (262,cO "_law_net" 545 180 4 259 260 .none .none 261 548 549),
 (268,fO "_law_talk" s33 gF 267),
 (267,cO "_law_talk" 551 186 4 264 265 .none .none 266 554 555),
 (273,fO "_law_ring" s34 gF 272),
 (272,cO "_law_ring" 557 194 2 269 270 .none .none 271 560 561),
 (280,fO "_law_chain" s35 gF 279),
 (279,cO "_law_chain" 563 200 2 274 275 (.ref 276) (.ref 277) 278 574 575),
 (287,fO "_law_meeting" s36 gF 286),
 (286,cO "_law_meeting" 577 211 2 281 282 (.ref 283) (.ref 284) 285 588 589),
 (292,fO "_law_spoilt_kind" s37 gF 291),
 (291,cO "_law_spoilt_kind" 591 225 3 288 289 .none .none 290 594 595),
 (299,fO "_law_case" s38 gF 298),
 (298,cO "_law_case" 597 231 2 293 294 (.ref 295) (.ref 296) 297 606 607),
 (304,fO "_law_names" s39 gF 303),
 (303,cO "_law_names" 609 251 1 300 301 .none .none 302 612 613),
 (309,fO "_law_tells" s40 gF 308),
 (308,cO "_law_tells" 615 253 3 305 306 .none .none 307 618 619),
 (314,fO "_law_waiting" s41 gF 313),
 (313,cO "_law_waiting" 621 271 2 310 311 .none .none 312 624 625),
 (319,fO "_law_steps" s42 gF 318),
 (318,cO "_law_steps" 627 274 3 315 316 .none .none 317 630 631),
 (324,fO "_law_led" s43 gF 323),
 (323,cO "_law_led" 633 278 4 320 321 .none .none 322 636 637),
 (331,fO "_law_drawn_run" s44 gF 330),
 (330,cO "_law_drawn_run" 639 287 5 325 326 (.ref 327) (.ref 328) 329 654 655),
 (338,fO "_law_due" s45 gF 337),
 (337,cO "_law_due" 657 301 3 332 333 (.ref 334) (.ref 335) 336 665 666),
 (345,fO "_law_told" s46 gF 344),
 (344,cO "_law_told" 668 312 3 339 340 (.ref 341) (.ref 342) 343 675 676),
 (352,fO "law" s47 gF 351),
 (351,cO "law" 678 317 1 346 347 (.ref 348) (.ref 349) 350 691 692),
 (64,o64),
 (24,o24),
 (23,⟨.type "dict",none,.dict (e23 P) 3, #[]⟩),
 (61,o61),
 (60,⟨.type "dict",none,.dict (e60 P) 2, #[]⟩),
 (37,o37),
 (36,⟨.type "dict",none,.dict (e36 P) 2, #[]⟩)]
def Ka:List Addr:=[3,71,70,76,75,81,80,88,87,95,94,100,99,105,104,110,109,117,116,122,121,127,126,134,133,141,140,146,145,151,150,156,155,163,162,170,169,175,174,180,179,187,186,194,193,199,198,206,205,213,212,218,217,225,224,232,231,239,238,246,245,251,250,258,257,263,262,268,267,273,272,280,279,287,286,292,291,299,298,304,303,309,308,314,313,319,318,324,323,331,330,338,337,345,344,352,351,64,24,23,61,60,37,36]
theorem Ke(P:Params):Ka=(Kf P).map (·.1):=rfl
abbrev Kh:PySem.W.Hook:=PySem.W.kHook Kf Ka Ke
def lo:List Str:="__name__"::"WaitError"::"NoNet"::"NoTalk"::"NoRun"::"LETTERS"::"LONGEST_NAME"::"WORDS"::"MOST_INPUTS"::"MOST_GATES"::"MOST_WIRES"::"MOST_TABLE_WIRES"::"DEEPEST_HELD"::"checked"::"is_net"::"has_parts"::"is_tuple"::"is_number"::"is_name"::"are_unlike"::"is_row"::"is_wire"::"are_wires"::"are_rows"::"is_kind"::"is_held"::"wire_names"::"waiting_gates"::"told"::"told_held"::"MOST_STATES"::"checked_talk"::"is_talk"::"is_state"::"stand_behind"::"first_stand"::"steps_at"::"is_unasked"::"led_to"::"changed"::"_law_cell_at"::"_law_mixed"::"_law_next"::"_law_some"::"_law_table"::"_law_kind"::"_law_net"::"_law_talk"::"_law_ring"::"_law_chain"::"_law_meeting"::"_law_spoilt_kind"::"_law_case"::"_law_names"::"_law_tells"::"_law_waiting"::"_law_steps"::"_law_led"::"_law_drawn_run"::"_law_due"::"_law_told"::[]
def qV:Program:=view PySem.Challenge.pw_anywait_k05_runs [65]
theorem hl:LeftO PySem.Challenge.pw_anywait_k05_runs qV lo (fun s=>recOk [] s) (Hook.obs Kh) (Hook.val Kh) 4874:=fun w=>by
 rw[PySem.W.Fast.te4187177175401517315,PySem.W.Fast.te5923862056798008813,PySem.W.Fast.te14364793385576792824]
 kernel_rfl
end Tx
end
section
namespace L2
open PySem PySem.Spec PyProof.Rows
abbrev Key:=Sum Int Str
def ut:Key->Value->Bool
 |.inl k,v=>Value.isInt k v
 |.inr x,v=>Value.isStrOf x v
def adS(w:World):Key->Int
 |.inl k=>hashInt k
 |.inr x=>hashStr w x
theorem bV:∀{k:Key}{v:Value},ut k v=true->(∃i t,k=Sum.inl i/\v=Value.int i t)\/(∃x t,k=Sum.inr x/\v=Value.str x t)
 |.inl i,v,h=>by
  obtain⟨t,e⟩:=Value.isInt_shape (k:=i) (v:=v) h
  exact .inl ⟨i,t,rfl,e⟩
 |.inr x,v,h=>by
  obtain⟨t,e⟩:=Value.isStrOf_shape (x:=x) (v:=v) h
  exact .inr ⟨x,t,rfl,e⟩
theorem Ey(i:Int)(t:Tok):ut (.inl i) (.int i t)=true:=by simp[ut,Value.isInt]
theorem Ex(x:Str)(t:Tok):ut (.inr x) (.str x t)=true:=by simp[ut,Value.isStrOf]
theorem UL(a b:Int):decide ((Sum.inl a:Key)=Sum.inl b)=(a==b):=by
 by_cases e:a=b
 ·subst e;simp
 ·have h:¬(Sum.inl a:Key)=Sum.inl b:=fun q=>e (Sum.inl.inj q)
  rw[decide_eq_false h]
  exact(beq_eq_false_iff_ne.mpr e).symm
theorem Uz(a b:Str):decide ((Sum.inr a:Key)=Sum.inr b)=decide (a=b):=by
 by_cases e:a=b
 ·subst e;simp
 ·have h:¬(Sum.inr a:Key)=Sum.inr b:=fun q=>e (Sum.inr.inj q)
  rw[decide_eq_false h,decide_eq_false e]
theorem UJ(a:Int)(b:Str):decide ((Sum.inl a:Key)=Sum.inr b)=false:=decide_eq_false (fun q=>nomatch q)
theorem UG(a:Str)(b:Int):decide ((Sum.inr a:Key)=Sum.inl b)=false:=decide_eq_false (fun q=>nomatch q)
def bO(prog:Program)(w:World):PySem.KeyKind prog w Key where
 is:=ut
 hash:=adS w
 inj:=fun v a b ha hb=>by
  rcases bV ha with ⟨i,t,rfl,rfl⟩|⟨x,t,rfl,rfl⟩
  ·rcases bV hb with ⟨j,u,rfl,e⟩|⟨y,u,rfl,e⟩
   ·injection e with e1 _;rw[e1]
   ·exact nomatch e
  ·rcases bV hb with ⟨j,u,rfl,e⟩|⟨y,u,rfl,e⟩
   ·exact nomatch e
   ·injection e with e1 _;rw[e1]
 byValue:=fun k v h=>by
  rcases bV h with ⟨i,t,rfl,rfl⟩|⟨x,t,rfl,rfl⟩<;>rfl
 pyHash:=fun hv h=>by
  rcases bV hv with ⟨i,t,rfl,rfl⟩|⟨x,t,rfl,rfl⟩
  ·exact wpAny_pyHash_int h
  ·exact wpAny_pyHash_str h
 eqBool:=fun hu hv h=>by
  rcases bV hu with ⟨i,t,rfl,rfl⟩|⟨x,t,rfl,rfl⟩
  ·rcases bV hv with ⟨j,u,rfl,rfl⟩|⟨y,u,rfl,rfl⟩
   ·rw[UL]at h;exact wpAny_eqBool_int h
   ·rw[UJ]at h;exact SeqAt.EqAt.int_str i t y u _ _ _ _ h
  ·rcases bV hv with ⟨j,u,rfl,rfl⟩|⟨y,u,rfl,rfl⟩
   ·rw[UG]at h;exact SeqAt.EqAt.str_int x t j u _ _ _ _ h
   ·rw[Uz]at h;exact wpAny_eqBool_str h
 «strs»:=fun k x t v h=>by
  rcases bV h with ⟨i,u,rfl,e⟩|⟨y,u,rfl,e⟩
  ·exact nomatch e
  ·injection e with e1 _
   subst e1
   cases v<;>rfl
theorem xN(prog:Program)(w:World)(i:Int)(t:Tok):(bO prog w).is (.inl i) (.int i t)=true:=Ey i t
theorem xM(prog:Program)(w:World)(x:Str)(t:Tok):(bO prog w).is (.inr x) (.str x t)=true:=Ex x t
end L2
namespace L2
open PySem PySem.Spec PyProof.Rows
inductive V where
 |non|bl (b:Bool)|int (i:Int)|str (x:Str)|byt (b:Array UInt8)|flt (b:UInt64)|ref (a:Addr)|ty (n:String)
 deriving DecidableEq
def RelV:V->Value->Prop
 |.non,u=>u=Value.none
 |.bl b,u=>u=Value.bool b
 |.int i,u=>∃t,u=Value.int i t
 |.str x,u=>∃t,u=Value.str x t
 |.byt b,u=>∃t,u=Value.bytes b t
 |.flt b,u=>∃t,u=Value.float b t
 |.ref a,u=>u=Value.ref a
 |.ty n,u=>u=Value.type n
abbrev Vals:List V->List Value->Prop:=Paired RelV
theorem Vals.length{xs:List V}{us:List Value}(r:Vals xs us):xs.length=us.length:=Paired.length r
theorem Vals.get:∀{xs:List V}{us:List Value}{i:Nat}{x:V},Vals xs us->xs[i]? =some x->∃u,us[i]? =some u/\RelV x u
 |_,_,_,_,.nil=>fun e=>by simp at e
 |_,_,0,_,.cons r _=>fun e=>by simp at e;subst e;exact⟨_,rfl,r⟩
 |_,_,i+1,x,.cons _ t=>fun e=>by
  obtain⟨u,h1,h2⟩:=Vals.get (i:=i) (x:=x) t (by simpa using e)
  exact⟨u,by simpa using h1,h2⟩
theorem Vals.set{x:V}{u:Value}(r:RelV x u):∀{xs:List V}{us:List Value}(i:Nat),Vals xs us->Vals (xs.set i x) (us.set i u)
 |_,_,_,.nil=>.nil
 |_,_,0,.cons _ t=>.cons r t
 |_,_,i+1,.cons q t=>.cons q (Vals.set r i t)
theorem Vals.append:∀{xs ys:List V}{us ws:List Value},Vals xs us->Vals ys ws->Vals (xs++ys) (us++ws)
 |_,_,_,_,.nil=>fun s=>s
 |_,_,_,_,.cons r t=>fun s=>.cons r (Vals.append t s)
theorem Vals.take:∀{xs:List V}{us:List Value}(n:Nat),Vals xs us->Vals (xs.take n) (us.take n)
 |_,_,0,_=>.nil
 |_,_,_+1,.nil=>.nil
 |_,_,n+1,.cons r t=>.cons r (Vals.take n t)
theorem Vals.drop:∀{xs:List V}{us:List Value}(n:Nat),Vals xs us->Vals (xs.drop n) (us.drop n)
 |_,_,0,r=>r
 |_,_,_+1,.nil=>.nil
 |_,_,n+1,.cons _ t=>Vals.drop n t
def oW:Option V->Option Value->Prop
 |some v,some u=>RelV v u
 |none,none=>True
 |_,_=>False
def KV{κ:Type}:List (κ×V)->List (κ×Value)->Prop:=Paired fun(p:κ×V)(q:κ×Value)=>p.1=q.1/\RelV p.2 q.2
def kV:Key->V
 |.inl i=>.int i
 |.inr x=>.str x
inductive HO where
 |lst (xs:List V)
 |tup (xs:List V)
 |dK (kvs:List (Key×V))|dT (kvs:List (List Key×V))
 |set (S:Int->Bool) (n:Nat)
 |ins (C dx:Addr) (fs:List (Str×V))
 |own (x:Addr)
 |xd (fs:List (Str×V))
 |met (f x:Addr)
 |rng (lo hi:Int)
 |frz (o:Obj) (u:HO)
 |tbl (ps:Array Value)
 |ext (φ:Heap->Prop)
abbrev Hp:=Addr->Option HO
def upd(H:Hp)(a:Addr)(o:HO):Hp:=fun b=>if b=a then some o else H b
theorem aQ{H:Hp}{a:Addr}{o:HO}:upd H a o a=some o:=by unfold upd;rw[if_pos rfl]
theorem aC{H:Hp}{a b:Addr}{o:HO}(h:b≠a):upd H a o b=H b:=by unfold upd;rw[if_neg h]
theorem ZV{H:Hp}{a b:Addr}{o u:HO}(h:H a=some o)(h':H b=some u)(d:o≠u):a≠b:=by
 intro e;subst e;rw[h]at h';exact d (Option.some.inj h')
theorem fZ{H:Hp}{a b:Addr}{o:HO}(h:H a=some o)(h':H b=none):a≠b:=by
 intro e;subst e;rw[h]at h';cases h'
def TupOk(h:Heap)(a:Addr)(items:Array Value):Prop:=∃o,h.get? a=some o/\o.cls=.type "tuple"/\o.dict=none/\∃n,o.data=.seq items n
theorem TupOk.is{h:Heap}{a:Addr}{items:Array Value}(x:TupOk h a items):IsTup h a items:=let ⟨o,e,c,_,d⟩:=x;⟨o,e,c,d⟩
theorem TupOk.new(h:Heap)(items:Array Value):TupOk (h.push {cls:=.type "tuple",data:=.seq items}) h.objs.size items:=⟨_,Heap.get?_push_size _ rfl,rfl,rfl,_,rfl⟩
section
variable(P:Program)(w:World)
def b8(H:Hp)(h:Heap)(a:Addr):HO->Prop
 |.lst xs=>xs.length<=sizeLine/\∃(its:List Value)(n:Nat),Vals xs its/\h.get? a=some {cls:=.type "list",data:=.seq its.toArray n}
 |.tup xs=>xs.length<=sizeLine/\∃its:List Value,Vals xs its/\TupOk h a its.toArray
 |.dK kvs=>kvs.length<=sizeLine/\(a==sysModules)=false/\∃vs,KV kvs vs/\h.DictOf (bO P w) a vs
 |.dT kvs=>kvs.length<=sizeLine/\(a==sysModules)=false/\∃xs:List (List Key×Addr×Value),
   Paired (fun(p:List Key×V)(q:List Key×Addr×Value)=>p.1=q.1/\H q.2.1=some (.tup (p.1.map kV))/\RelV p.2 q.2.2) kvs xs/\
   ∃o es ep,h.get? a=some o/\o.ExactDict/\o.data=.dict es ep/\es.toList=xs.map (entryOfKey (tupleKind (bO P w)))/\(xs.map (·.1)).Nodup
 |.set S n=>h.SetOf (intKind P w) a S n
 |.ins C dx fs=>H dx=some (.own a)/\fs.length<=1000/\dx≠a/\h.get? a=some (PySem.W.instObj C dx)/\
   ∃mA,h.Ns1 dx mA/\(∀f,oW (fs.lookup f) (mA f))/\PySem.Within mA (fs.map (·.1))
 |.own _=>∃o,h.get? a=some o
 |.xd fs=>∃mA,h.Ns1 a mA/\∀f,oW (fs.lookup f) (mA f)
 |.rng lo hi=>∃t u v,h.get? a=some {cls:=.type "range",data:=.fields #[.int lo t,.int hi u,.int 1 v]}
 |.frz o u=>h.get? a=some o/\b8 H h a u
 |.tbl ps=>h.get? a=some {cls:=.none,data:=.fields ps}
 |.met f x=>h.get? a=some (PySem.W.methodObj (.ref f) (.ref x))
 |.ext φ=>φ h/\(∃o,h.get? a=some o)/\∀h1 h2:Heap,φ h1->(∀o,h1.get? a=some o->h2.get? a=some o)->φ h2
def ju(H:Hp)(h:Heap):Prop:=∀a o,H a=some o->b8 P w H h a o
end
section
variable{P:Program}{w:World}{H H':Hp}{h h':Heap}{a:Addr}{o:HO}
theorem b8.lt(x:b8 P w H h a o):a<h.objs.size:=by
 cases o with
 |lst xs=>obtain⟨_,_,_,_,e⟩:=x;exact Heap.lt_size e
 |tup xs=>obtain⟨_,_,_,p⟩:=x;exact p.is.lt
 |dK kvs=>obtain⟨_,_,_,_,o,_,_,e,_⟩:=x;exact Heap.lt_size e
 |dT kvs=>obtain⟨_,_,_,_,o,_,_,e,_⟩:=x;exact Heap.lt_size e
 |set S n=>obtain⟨o,_,_,_,e,_⟩:=x;exact Heap.lt_size e
 |ins C dx fs=>obtain⟨_,_,_,e,_⟩:=x;exact Heap.lt_size e
 |own y=>obtain⟨_,e⟩:=x;exact Heap.lt_size e
 |xd fs=>obtain⟨_,⟨_,_,_,e,_⟩,_⟩:=x;exact Heap.lt_size e
 |rng lo hi=>obtain⟨_,_,_,e⟩:=x;exact Heap.lt_size e
 |frz ob u=>obtain⟨e,_⟩:=x;exact Heap.lt_size e
 |tbl ps=>exact Heap.lt_size (show h.get? a=some _ from x)
 |met f y=>exact Heap.lt_size (show h.get? a=some _ from x)
 |ext φ=>obtain⟨_,⟨_,e⟩,_⟩:=x;exact Heap.lt_size e
theorem Paired.Uv{α β:Type}{F G:α->β->Prop}:∀{l₁:List α}{l₂:List β},Paired F l₁ l₂->(∀a b,F a b->G a b)->Paired G l₁ l₂
 |_,_,.nil=>fun _=>.nil
 |_,_,.cons r t=>fun f=>.cons (f _ _ r) (Paired.Uv t f)
theorem b8.stay(x:b8 P w H h a o)(k:∀b u,(b=a\/H b=some (.own a))->h.get? b=some u->h'.get? b=some u)
  (ho:∀b,H b=some (.own a)->H' b=some (.own a))(ht:∀b xs,H b=some (.tup xs)->H' b=some (.tup xs)):b8 P w H' h' a o:=by
 induction o with
 |lst xs=>obtain⟨z,its,n,r,e⟩:=x;exact⟨z,its,n,r,k _ _ (.inl rfl) e⟩
 |tup xs=>obtain⟨z,its,r,ob,e,c⟩:=x;exact⟨z,its,r,ob,k _ _ (.inl rfl) e,c⟩
 |dK kvs=>obtain⟨z,y,vs,r,ob,es,ep,e,c⟩:=x;exact⟨z,y,vs,r,ob,es,ep,k _ _ (.inl rfl) e,c⟩
 |dT kvs=>
  obtain⟨z,y,xs,r,ob,es,ep,e,c⟩:=x
  exact⟨z,y,xs,Paired.Uv r fun p q z=>⟨z.1,ht _ _ z.2.1,z.2.2⟩,ob,es,ep,k _ _ (.inl rfl) e,c⟩
 |set S n=>obtain⟨ob,es,ep,t,e,c⟩:=x;exact⟨ob,es,ep,t,k _ _ (.inl rfl) e,c⟩
 |ins C dx fs=>
  obtain⟨d,z,ne,e,mA,⟨od,es,ep,e2,c⟩,r⟩:=x
  exact⟨ho _ d,z,ne,k _ _ (.inl rfl) e,mA,⟨od,es,ep,k _ _ (.inr d) e2,c⟩,r⟩
 |own y=>obtain⟨ob,e⟩:=x;exact⟨ob,k _ _ (.inl rfl) e⟩
 |xd fs=>obtain⟨mA,⟨od,es,ep,e,c⟩,r⟩:=x;exact⟨mA,⟨od,es,ep,k _ _ (.inl rfl) e,c⟩,r⟩
 |rng lo hi=>obtain⟨t,u,v,e⟩:=x;exact⟨t,u,v,k _ _ (.inl rfl) e⟩
 |frz ob u ih=>obtain⟨e,q⟩:=x;exact⟨k _ _ (.inl rfl) e,ih q⟩
 |tbl ps=>
  have e:h.get? a=some {cls:=.none,data:=.fields ps}:=x
  show h'.get? a=some {cls:=.none,data:=.fields ps}
  exact k a _ (.inl rfl) e
 |met f y=>
  have e:h.get? a=some (PySem.W.methodObj (.ref f) (.ref y)):=x
  show h'.get? a=some (PySem.W.methodObj (.ref f) (.ref y))
  exact k a _ (.inl rfl) e
 |ext φ=>obtain⟨p,⟨o,e⟩,st⟩:=x;exact⟨st _ _ p fun o q=>k _ _ (.inl rfl) q,⟨o,k _ _ (.inl rfl) e⟩,st⟩
theorem ju.lt(x:ju P w H h)(e:H a=some o):a<h.objs.size:=(x a o e).lt
theorem ju.fresh(x:ju P w H h)(e:h.objs.size<=a):H a=none:=by
 cases q:H a with
 |none=>rfl
 |some u=>exact absurd (Nat.lt_of_lt_of_le (x.lt q) e) (Nat.lt_irrefl _)
theorem ju.kept(x:ju P w H h)(k:∀b u,h.get? b=some u->h'.get? b=some u):ju P w H h':=fun a o e=>
 (x a o e).stay (fun b u _ q=>k b u q) (fun _ q=>q) fun _ _ q=>q
theorem ju.laid(x:ju P w H h)(k:∀b u,h.get? b=some u->h'.get? b=some u)(hp:h.objs.size<=a)(new:b8 P w (upd H a o) h' a o):ju P w (upd H a o) h':=fun b u e=>by
 have hn:=x.fresh hp
 by_cases hb:b=a
 ·subst hb;rw[aQ]at e;cases e;exact new
 ·rw[aC hb]at e
  exact(x b u e).stay (fun c v _ q=>k c v q) (fun c q=>by rw[aC (fZ q hn)];exact q) fun c xs q=>by rw[aC (fZ q hn)];exact q
end
def Rd(H:Hp)(a:Addr)(u:HO):Prop:=H a=some u\/∃o,H a=some (.frz o u)
theorem Rd.ok{P:Program}{w:World}{H:Hp}{h:Heap}{a:Addr}{u:HO}(r:Rd H a u)(x:ju P w H h):b8 P w H h a u:=by
 rcases r with r|⟨o,r⟩
 ·exact x a u r
 ·obtain⟨_,q⟩:=x a _ r
  exact q
def Mut:Option HO->Prop
 |some (.lst _)=>True
 |some (.dK _)=>True
 |some (.dT _)=>True
 |some (.set _ _)=>True
 |some (.ins _ _ _)=>True
 |some (.ext _)=>True
 |_=>False
section
variable{P:Program}{w:World}{H:Hp}{h h':Heap}{x e:Addr}{o':HO}
theorem ju.write(ok:ju P w H h)(mu:Mut (H x))(he:e=x\/H e=some (.own x))(k:∀b u,b≠e->h.get? b=some u->h'.get? b=some u)(heo:∃u,h'.get? e=some u)
  (new:b8 P w (upd H x o') h' x o'):ju P w (upd H x o') h':=fun b u q=>by
 have nown:∀c y,H c=some (.own y)->c≠x:=fun c y r z=>by subst z;rw[r]at mu;exact mu
 have ntup:∀c xs,H c=some (.tup xs)->c≠x:=fun c xs r z=>by subst z;rw[r]at mu;exact mu
 by_cases hb:b=x
 ·subst hb;rw[aQ]at q;cases q;exact new
 ·rw[aC hb]at q
  by_cases hbe:b=e
  ·have q':H b=some (.own x):=by
    rcases he with z|z
    ·exact absurd (hbe.trans z) hb
    ·rw[hbe];exact z
   rw[q]at q';cases q'
   obtain⟨v,hv⟩:=heo
   exact⟨v,by rw[hbe];exact hv⟩
  ·refine(ok b u q).stay (fun c v hc r=>k c v ?_ r) (fun c r=>by rw[aC (nown c b r)];exact r) fun c xs r=>by rw[aC (ntup c xs r)];exact r
   rcases hc with rfl|hc
   ·exact hbe
   ·rintro rfl
    rcases he with z|z
    ·exact nown c b hc z
    ·rw[hc]at z;cases z;exact hb rfl
end
structure Un(fs ex:List Addr)(H H':Hp)(h h':Heap):Prop where
 keep:∀b o,h.get? b=some o->H b=none->b∉fs->b∉ex->h'.get? b=some o
 slot:∀b o,h.get? b=some o->H b=none->b∈fs->b∉ex->∃sl,h'.get? b=some {o with slots:=sl}
 free:∀b o,h.get? b=some o->H b=none->b∉ex->H' b=none
 there:∀b o,h.get? b=some o->b∉ex->∃o',h'.get? b=some o'
 tups:∀b xs,H b=some (.tup xs)->H' b=some (.tup xs)
 frzs:∀b o u,H b=some (.frz o u)->H' b=some (.frz o u)
 tbls:∀b ps,H b=some (.tbl ps)->∃more,H' b=some (.tbl (ps++more))
section
variable{fs fs' ex ex':List Addr}{H H1 H2:Hp}{h h1 h2 h':Heap}{a x e:Addr}{o:HO}
theorem Un.any(u:Un fs ex H H1 h h1){b:Addr}{ob:Obj}(q:h.get? b=some ob)(n:H b=none)(hx:b∉ex):∃sl,h1.get? b=some {ob with slots:=sl}:=by
 by_cases hb:b∈fs
 ·exact u.slot b ob q n hb hx
 ·exact⟨ob.slots,u.keep b ob q n hb hx⟩
theorem Un.trans(a:Un fs ex H H1 h h1)(b:Un fs ex H1 H2 h1 h2):Un fs ex H H2 h h2 where
 keep:=fun c ob q n hc hx=>b.keep c ob (a.keep c ob q n hc hx) (a.free c ob q n hx) hc hx
 slot:=fun c ob q n hc hx=>by
  obtain⟨sl,e1⟩:=a.slot c ob q n hc hx
  obtain⟨sl',e2⟩:=b.slot c _ e1 (a.free c ob q n hx) hc hx
  exact⟨sl',e2⟩
 free:=fun c ob q n hx=>by
  obtain⟨o',e1⟩:=a.there c ob q hx
  exact b.free c o' e1 (a.free c ob q n hx) hx
 there:=fun c ob q hx=>by
  obtain⟨o',e1⟩:=a.there c ob q hx
  exact b.there c o' e1 hx
 tups:=fun c xs q=>b.tups c xs (a.tups c xs q)
 frzs:=fun c ob xs q=>b.frzs c ob xs (a.frzs c ob xs q)
 tbls:=fun c ps q=>by
  obtain⟨m1,e1⟩:=a.tbls c ps q
  obtain⟨m2,e2⟩:=b.tbls c _ e1
  exact⟨m1++m2,by rw[e2,Array.append_assoc]⟩
theorem Un.kept(k:∀b u,h.get? b=some u->h'.get? b=some u):Un fs ex H H h h':=
 ⟨fun b ob q _ _ _=>k b ob q,fun b ob q _ _ _=>⟨ob.slots,k b ob q⟩,fun _ _ _ n _=>n,fun b ob q _=>⟨ob,k b ob q⟩,fun _ _ q=>q,fun _ _ _ q=>q,fun _ ps q=>⟨#[],by rw[q];simp⟩⟩
theorem Un.refl:Un fs ex H H h h:=Un.kept fun _ _ q=>q
theorem Un.laid(k:∀b u,h.get? b=some u->h'.get? b=some u)(hp:h.objs.size<=a)(hn:H a=none):Un fs ex H (upd H a o) h h' where
 keep:=fun b u q _ _ _=>k b u q
 slot:=fun b u q _ _ _=>⟨u.slots,k b u q⟩
 free:=fun b u q n _=>by rw[aC (Nat.ne_of_lt (Nat.lt_of_lt_of_le (Heap.lt_size q) hp))];exact n
 there:=fun b u q _=>⟨u,k b u q⟩
 tups:=fun b xs q=>by rw[aC (fZ q hn)];exact q
 frzs:=fun b u xs q=>by rw[aC (fZ q hn)];exact q
 tbls:=fun b ps q=>⟨#[],by rw[aC (fZ q hn),q];simp⟩
theorem Un.write(mu:Mut (H x))(he:e=x\/H e=some (.own x))(k:∀b u,b≠e->h.get? b=some u->h'.get? b=some u)(heo:∃u,h'.get? e=some u):Un fs ex H (upd H x o) h h':=by
 have hx:∀b,H b=none->b≠x:=fun b n z=>by subst z;rw[n]at mu;exact mu
 have hb:∀b,H b=none->b≠e:=fun b n z=>by
  subst z
  rcases he with r|r
  ·exact hx b n r
  ·rw[n]at r;cases r
 have hm:∀b u,H b=some u->¬Mut (some u)->b≠x:=fun b u q nm z=>by subst z;rw[q]at mu;exact nm mu
 refine⟨fun b u q n _ _=>k b u (hb b n) q,fun b u q n _ _=>⟨u.slots,k b u (hb b n) q⟩,fun b u q n _=>by rw[aC (hx b n)];exact n,fun b u q _=>?_,
  fun b xs q=>by rw[aC (hm b _ q fun z=>z)];exact q,fun b u xs q=>by rw[aC (hm b _ q fun z=>z)];exact q,fun b ps q=>⟨#[],by rw[aC (hm b _ q fun z=>z),q];simp⟩⟩
 by_cases hbe:b=e
 ·subst hbe;exact heo
 ·exact⟨u,k b u hbe q⟩
end
def trk(h:Heap)(H:Hp):List Addr:=(List.range h.objs.size).filter fun a=>(H a).isSome
def vR(h:Heap)(H:Hp):Heap:=PySem.W.hideAll h (trk h H)
theorem Fe(h:Heap)(H:Hp):(vR h H).objs.size=h.objs.size:=PySem.W.hideAll_size _ _
theorem Jx{h:Heap}{H:Hp}{b:Addr}{o:Obj}(e:h.get? b=some o)(n:H b=none):(vR h H).get? b=some o:=
 PySem.W.hideAll_get _ e fun hm=>by
  have q:(H b).isSome=true:=(List.mem_filter.mp hm).2
  rw[n]at q;simp at q
theorem NQ{h:Heap}{H:Hp}{b:Addr}{o:Obj}(e:(vR h H).get? b=some o):h.get? b=some o/\H b=none:=by
 have e':h.get? b=some o:=PySem.W.of_hideAll (trk h H) e
 refine⟨e',?_⟩
 cases q:H b with
 |none=>rfl
 |some x=>
  have hm:b∈trk h H:=List.mem_filter.mpr ⟨List.mem_range.mpr (Heap.lt_size e'),by simp[q]⟩
  have z:(vR h H).get? b=none:=PySem.W.hideAll_none (trk h H) hm
  rw[z]at e;cases e
def PN(g h:Heap)(L:Addr):List (Addr×Obj):=(List.range h.objs.size).filterMap fun a=>if a=L\/(g.get? a).isSome=true then none else(h.get? a).map fun o=>(a,o)
def rest(g h:Heap)(L d:Addr):List (Addr×Obj):=(PN g h L).filter fun p=>decide (p.1≠d)
end L2
namespace L2
open PySem PySem.Spec PyProof.Rows
structure Mod(K:QQq)(mg:QZz)(base:Heap):Prop where
 kin:K.In base
 glob:base.Ns mainGlobals mg
 blt:∃mb,base.Ns builtinsNs mb/\∀x:Str,x≠"__name__"->mb x=bootBuiltins x
 nolimit:base.NoLimit
structure Cx where
 prog:Program
 w:World
 K:QQq
 mg:Str->Option Value
 base:Heap
 A:Around
 N:List Str
 s₀:Shared
 H₀:Hp
 env:Env
 outer:List Env
 stack:List Env
 ex:List Addr
 fn:Str->Bool
 calm:Bool
 pn:List (Addr×Obj)
 xe:Value->Shared->Prop
def frs(l:List Env):List Addr:=l.filterMap (·.frame)
abbrev Cx.fs(X:Cx):List Addr:=frs X.outer
def Wh(sc:Scope)(x:Str):Prop:=sc.names.lookup x=some .local\/sc.names.lookup x=some .cell\/sc.names.lookup x=some .free
def Loc(sc:Scope)(x:Str):Prop:=sc.names.lookup x=some .local\/sc.names.lookup x=some .cell
def Look(env:Env)(h:Heap)(m:QZz)(x:Str)(u:Value):Prop:=
 (env.kindOf x=some .local/\m x=some u)\/((env.kindOf x=some .cell\/env.kindOf x=some .free)/\∃c,env.cells.lookup x=some c/\h.IsCell c (some u))
structure Cx.Ok(X:Cx):Prop where
 mod:Mod X.K X.mg X.base
 kind:X.env.scope.kind=.function
 glob:X.env.globals=mainGlobals
 blt:X.env.builtins=builtinsNs
 above:X.s₀.heap.objs.size<=X.env.locals
 inj:∀x y c,X.env.cells.lookup x=some c->X.env.cells.lookup y=some c->x=y
 has:∀x,(X.env.kindOf x=some .cell\/X.env.kindOf x=some .free)->∃c,X.env.cells.lookup x=some c
 cab:∀x c,X.fn x=true->X.env.cells.lookup x=some c->X.s₀.heap.objs.size<=c
 hd:X.calm=true->X.A.handled=none
 frames:X.A.frames=some X.stack
 stk:X.stack=X.outer\/(X.stack=X.env::X.outer/\X.env.frame=some X.env.locals)
 exf:∀b∈X.ex,b≠X.env.locals/\∀x c,X.env.cells.lookup x=some c->c≠b
 bs:∀b o,X.base.get? b=some o->X.s₀.heap.get? b=some o/\X.H₀ b=none
 bsz:X.base.objs.size<=X.s₀.heap.objs.size
 noex:∀b o,X.base.get? b=some o->b∉X.ex
 exfs:∀b∈X.ex,b∉X.fs
 j4:X.s₀.heap.FunFrames X.base X.outer
 frf:∀b∈X.fs,X.H₀ b=none
structure Inv(X:Cx)(QTz:QQz)(σ:List (Option V))(H:Hp)(s:Shared):Prop where
 ok:X.Ok
 os:s.os=X.s₀.os
 bare:AllBare s.gens
 base:Un X.fs X.ex X.H₀ H X.s₀.heap s.heap
 loc:∃m,s.heap.Ns X.env.locals m/\∀(i:Nat)(x:Str)(v:V),X.N[i]? =some x->σ[i]? =some (some v)->Wh X.env.scope x->∃u,RelV v u/\Look X.env s.heap m x u
 cell:∀x c,X.env.cells.lookup x=some c->∃v,s.heap.IsCell c v
 free:H X.env.locals=none
 freeC:∀x c,X.env.cells.lookup x=some c->H c=none
 pin:∀p∈X.pn++QTz,s.heap.get? p.1=some p.2/\H p.1=none/\p.1≠X.env.locals/\p.1∉X.fs/\∀v,p.2.data≠ .cell v
 hok:ju X.prog X.w H s.heap
 len:σ.length=X.N.length
section
variable{X:Cx}{QTz:QQz}{σ:List (Option V)}{H H':Hp}{s:Shared}{h':Heap}
theorem Cx.Ok.adO(ok:X.Ok){b:Addr}{o:Obj}(e:X.base.get? b=some o):b∉X.fs:=fun hb=>by
 have:=(ok.j4.mem hb).1
 rw[e]at this;cases this
theorem Inv.bs(I:Inv X QTz σ H s):∀b o,X.base.get? b=some o->s.heap.get? b=some o/\H b=none:=fun b o e=>
 ⟨I.base.keep b o (I.ok.bs b o e).1 (I.ok.bs b o e).2 (I.ok.adO e) (I.ok.noex b o e),I.base.free b o (I.ok.bs b o e).1 (I.ok.bs b o e).2 (I.ok.noex b o e)⟩
theorem Inv.bk(I:Inv X QTz σ H s):∀b o,X.base.get? b=some o->s.heap.get? b=some o:=fun b o e=>(I.bs b o e).1
theorem Inv.mod(I:Inv X QTz σ H s):Mod X.K X.mg X.base:=I.ok.mod
theorem Inv.zM(I:Inv X QTz σ H s):X.K.In s.heap:=I.ok.mod.kin.keeps I.bk
theorem Inv.fr(I:Inv X QTz σ H s):∃m,Fr X.base X.env.locals s.heap m:=
 let ⟨m,hn,_⟩:=I.loc
 ⟨m,hn,I.bk,Nat.le_trans I.ok.bsz I.ok.above⟩
theorem Inv.lt(I:Inv X QTz σ H s):X.env.locals<s.heap.objs.size:=let ⟨_,hn,_⟩:=I.loc;hn.lt
theorem Inv.sz(I:Inv X QTz σ H s):X.s₀.heap.objs.size<=s.heap.objs.size:=Nat.le_trans I.ok.above (Nat.le_of_lt I.lt)
theorem Inv.adN(I:Inv X QTz σ H s){a:Addr}(h:s.heap.objs.size<=a):a∉X.fs:=fun hb=>by
 obtain⟨_,o,ho,_⟩:=I.ok.j4.mem hb
 exact absurd (Nat.lt_of_lt_of_le (Heap.lt_size ho) (Nat.le_trans I.sz h)) (Nat.lt_irrefl _)
theorem Inv.Rw(I:Inv X QTz σ H s):∀x c,X.env.cells.lookup x=some c->c≠X.env.locals:=fun x c e z=>by
 obtain⟨v,o,ho,hd⟩:=I.cell x c e
 obtain⟨m,⟨o',es,ep,ho',hd',_⟩,_⟩:=I.loc
 rw[z,ho']at ho;cases ho;rw[hd']at hd;cases hd
theorem Inv.j4(I:Inv X QTz σ H s):s.heap.FunFrames X.base X.outer:=by
 have all:∀(l:List Env),(∀b∈frs l,b∈X.fs)->X.s₀.heap.FunFrames X.base l->s.heap.FunFrames X.base l:=by
  intro l
  induction l with
  |nil=>intro _ _;trivial
  |cons env r ih=>
   intro hs hl
   obtain⟨hk,⟨L,o,hf,hn,ho,hd⟩,hr⟩:=hl
   have hL:L∈X.fs:=hs L (by unfold frs;rw[List.filterMap_cons,hf];exact QYz)
   obtain⟨sl,e⟩:=I.base.slot L o ho (I.ok.frf L hL) hL fun z=>I.ok.exfs L z hL
   exact⟨hk,⟨L,_,hf,hn,e,hd⟩,ih (fun b hb=>hs b (by unfold frs;rw[List.filterMap_cons,hf];exact QYq _ hb)) hr⟩
 exact all X.outer (fun _ hb=>hb) I.ok.j4
theorem Inv.stack(I:Inv X QTz σ H s):s.heap.FunFrames X.base X.stack:=by
 rcases I.ok.stk with e|⟨e,hf⟩
 ·rw[e];exact I.j4
 ·rw[e]
  obtain⟨m,hn,_⟩:=I.loc
  refine .cons (by rw[I.ok.kind];decide) hf hn ?_ I.j4
  exact Heap.get?_none_of_le (Nat.le_trans I.ok.bsz I.ok.above)
theorem Inv.yQ(I:Inv X QTz σ H s):∀b∈frs X.stack,b∈X.env.locals::X.fs:=fun b hb=>by
 rcases I.ok.stk with e|⟨e,hf⟩
 ·rw[e]at hb;exact QYq _ hb
 ·rw[e]at hb
  unfold frs at hb
  rw[List.filterMap_cons,hf]at hb
  exact hb
theorem Inv.oX(I:Inv X QTz σ H s):∀b∈frs X.stack,H b=none:=fun b hb=>by
 rcases List.mem_cons.mp (I.yQ b hb)with e|hb
 ·rw[e];exact I.free
 ·obtain⟨_,o,ho,_⟩:=I.ok.j4.mem hb
  exact I.base.free b o ho (I.ok.frf b hb) fun z=>I.ok.exfs b z hb
theorem Inv.step{g':Array GenState}{t':Nat}{d':Drawn}{ch:List Addr}(I:Inv X QTz σ H s)
  (hch:∀b∈ch,(b∈X.ex\/X.s₀.heap.objs.size<=b)/\b≠X.env.locals/\(∀x c,X.env.cells.lookup x=some c->c≠b)/\∀p∈X.pn++QTz,p.1≠b)
  (keep:∀b o,b≠X.env.locals->b∉X.fs->b∉ch->s.heap.get? b=some o->H b=none->h'.get? b=some o)
  (slot:∀b o,b≠X.env.locals->b∈X.fs->b∉ch->s.heap.get? b=some o->H b=none->∃sl,h'.get? b=some {o with slots:=sl})(free:∀b o,b∉ch->s.heap.get? b=some o->H b=none->H' b=none)
  (there:∀b o,b∉ch->s.heap.get? b=some o->∃o',h'.get? b=some o')
  (tups:∀b xs,H b=some (.tup xs)->H' b=some (.tup xs))(frzs:∀b o u,H b=some (.frz o u)->H' b=some (.frz o u))(tbls:∀b ps,H b=some (.tbl ps)->∃more,H' b=some (.tbl (ps++more)))
  (ns:∀m,s.heap.Ns X.env.locals m->h'.Ns X.env.locals m)(hok:ju X.prog X.w H' h')(hg:AllBare g'):
  Inv X QTz σ H' {s with heap:=h',gens:=g',drawn:=d',toks:=t'}:=by
 have neL:∀b o,X.s₀.heap.get? b=some o->b≠X.env.locals:=fun b o e=>Nat.ne_of_lt (Nat.lt_of_lt_of_le (Heap.lt_size e) I.ok.above)
 have neC:∀b o,X.s₀.heap.get? b=some o->b∉X.ex->b∉ch:=fun b o e hx hb=>by
  rcases (hch b hb).1 with z|z
  ·exact hx z
  ·exact absurd (Nat.lt_of_lt_of_le (Heap.lt_size e) z) (Nat.lt_irrefl _)
 have cellK:∀x c,X.env.cells.lookup x=some c->∀v,s.heap.IsCell c v->h'.IsCell c v:=fun x c e v⟨o,ho,hd⟩=>by
  have nch:c∉ch:=fun z=>(hch c z).2.2.1 x c e rfl
  by_cases hc:c∈X.fs
  ·obtain⟨sl,q⟩:=slot c o (I.Rw x c e) hc nch ho (I.freeC x c e)
   exact⟨_,q,hd⟩
  ·exact⟨o,keep c o (I.Rw x c e) hc nch ho (I.freeC x c e),hd⟩
 refine⟨I.ok,I.os,hg,⟨fun b o e n hb hx=>?_,fun b o e n hb hx=>?_,fun b o e n hx=>?_,fun b o e hx=>?_,fun b xs e=>tups b xs (I.base.tups b xs e),fun b o xs e=>frzs b o xs (I.base.frzs b o xs e),fun b ps e=>?_⟩,?_,fun x c e=>?_,?_,fun x c e=>?_,fun p hp=>?_,hok,I.len⟩
 ·exact keep b o (neL b o e) hb (neC b o e hx) (I.base.keep b o e n hb hx) (I.base.free b o e n hx)
 ·obtain⟨sl,e1⟩:=I.base.slot b o e n hb hx
  obtain⟨sl',e2⟩:=slot b _ (neL b o e) hb (neC b o e hx) e1 (I.base.free b o e n hx)
  exact⟨sl',e2⟩
 ·obtain⟨o',e1⟩:=I.base.there b o e hx
  exact free b o' (neC b o e hx) e1 (I.base.free b o e n hx)
 ·obtain⟨o',e1⟩:=I.base.there b o e hx
  exact there b o' (neC b o e hx) e1
 ·obtain⟨m1,e1⟩:=I.base.tbls b ps e
  obtain⟨m2,e2⟩:=tbls b _ e1
  exact⟨m1++m2,by rw[e2,Array.append_assoc]⟩
 ·obtain⟨m,hn,hl⟩:=I.loc
  refine⟨m,ns m hn,fun i x v e1 e2 e3=>?_⟩
  obtain⟨u,r,l⟩:=hl i x v e1 e2 e3
  refine⟨u,r,?_⟩
  rcases l with l|⟨k,c,e,z⟩
  ·exact .inl l
  ·exact .inr ⟨k,c,e,cellK x c e _ z⟩
 ·obtain⟨v,z⟩:=I.cell x c e
  exact⟨v,cellK x c e v z⟩
 ·obtain⟨m,⟨o,_,_,ho,_⟩,_⟩:=I.loc
  exact free _ o (fun z=>(hch _ z).2.1 rfl) ho I.free
 ·obtain⟨v,o,ho,hd⟩:=I.cell x c e
  exact free c o (fun z=>(hch c z).2.2.1 x c e rfl) ho (I.freeC x c e)
 ·obtain⟨e,n,ne,nf,d⟩:=I.pin p hp
  have nch:p.1∉ch:=fun z=>(hch p.1 z).2.2.2 p hp rfl
  exact⟨keep p.1 p.2 ne nf nch e n,free p.1 p.2 nch e n,ne,nf,d⟩
theorem Inv.un{t':Nat}(I:Inv X QTz σ H s)(u:Un X.fs [] H H' s.heap h')(hok:ju X.prog X.w H' h'):Inv X QTz σ H' {s with heap:=h',toks:=t'}:=by
 obtain⟨m,⟨o,es,ep,ho,r⟩,_⟩:=id I.loc
 obtain⟨sl,hL⟩:=u.any ho I.free (by simp)
 exact I.step (g':=s.gens) (d':=s.drawn) (ch:=[]) (fun _ z=>nomatch z) (fun b o _ hb _ e n=>u.keep b o e n hb (by simp)) (fun b o _ hb _ e n=>u.slot b o e n hb (by simp)) (fun b o _ e n=>u.free b o e n (by simp)) (fun b o _ e=>u.there b o e (by simp)) u.tups u.frzs u.tbls (fun m' hm=>by
  obtain⟨o',es',ep',ho',r'⟩:=hm
  rw[ho]at ho';cases ho'
  exact⟨_,es',ep',hL,r'⟩) hok I.bare
theorem Inv.call{g':Array GenState}{t':Nat}{d':Drawn}{ch:List Addr}(I:Inv X QTz σ H s)(u:Un (frs X.stack) ch H H' s.heap h')(hok:ju X.prog X.w H' h')(hg:AllBare g')
  (hch:∀b∈ch,(b∈X.ex\/X.s₀.heap.objs.size<=b)/\b≠X.env.locals/\(∀x c,X.env.cells.lookup x=some c->c≠b)/\∀p∈X.pn++QTz,p.1≠b):
  Inv X QTz σ H' {s with heap:=h',gens:=g',drawn:=d',toks:=t'}:=by
 obtain⟨m,⟨o,es,ep,ho,r⟩,_⟩:=id I.loc
 obtain⟨sl,hL⟩:=u.any ho I.free fun z=>(hch _ z).2.1 rfl
 exact I.step (ch:=ch) hch (fun b o hL hb hc e n=>u.keep b o e n (fun z=>(List.mem_cons.mp (I.yQ b z)).elim hL hb) hc) (fun b o _ _ hc e n=>u.any e n hc) (fun b o hc e n=>u.free b o e n hc) (fun b o hc e=>u.there b o e hc) u.tups u.frzs u.tbls (fun m' hm=>by
  obtain⟨o',es',ep',ho',r'⟩:=hm
  rw[ho]at ho';cases ho'
  exact⟨_,es',ep',hL,r'⟩) hok hg
theorem Inv.turned{t':Nat}{it:Addr}(I:Inv X QTz σ H s)(k:∀b o,b≠it->s.heap.get? b=some o->h'.get? b=some o)(hn:H it=none)(hL:it≠X.env.locals)
  (h1:it∈X.ex\/X.s₀.heap.objs.size<=it)(h2:∀x c,X.env.cells.lookup x=some c->c≠it)(h3:∀p∈X.pn++QTz,p.1≠it):Inv X QTz σ H {s with heap:=h',toks:=t'}:=by
 have nit:∀b u,H b=some u->b≠it:=fun b u e z=>by rw[z,hn]at e;cases e
 refine I.step (g':=s.gens) (d':=s.drawn) (ch:=[it]) (fun b hb=>?_) (fun b o _ _ hc e _=>k b o (fun z=>hc (by simp[z])) e) (fun b o _ _ hc e _=>⟨o.slots,k b o (fun z=>hc (by simp[z])) e⟩) (fun _ _ _ _ n=>n)
  (fun b o hc e=>⟨o,k b o (fun z=>hc (by simp[z])) e⟩) (fun _ _ e=>e) (fun _ _ _ e=>e) (fun b ps e=>⟨#[],by rw[e];simp⟩) (fun m hm=>?_) (fun b u e=>?_) I.bare
 ·have e:b=it:=by simpa using hb
  subst e
  exact⟨h1,hL,h2,h3⟩
 ·obtain⟨o,es,ep,ho,r⟩:=hm
  exact⟨o,es,ep,k _ o (Ne.symm hL) ho,r⟩
 ·refine(I.hok b u e).stay (fun c v hc q=>k c v ?_ q) (fun _ q=>q) fun _ _ q=>q
  rcases hc with z|z
  ·rw[z];exact nit b u e
  ·exact nit c _ z
theorem Inv.tok(I:Inv X QTz σ H s)(t:Nat):Inv X QTz σ H {s with toks:=t}:=I.un (h':=s.heap) (t':=t) Un.refl I.hok
theorem Inv.kept{t':Nat}(I:Inv X QTz σ H s)(k:∀b u,s.heap.get? b=some u->h'.get? b=some u):Inv X QTz σ H {s with heap:=h',toks:=t'}:=I.un (Un.kept k) (I.hok.kept k)
theorem Inv.laid{a:Addr}{o:HO}{t':Nat}(I:Inv X QTz σ H s)(k:∀b u,s.heap.get? b=some u->h'.get? b=some u)(hp:s.heap.objs.size<=a)(new:b8 X.prog X.w (upd H a o) h' a o):
  Inv X QTz σ (upd H a o) {s with heap:=h',toks:=t'}:=I.un (Un.laid k hp (I.hok.fresh hp)) (I.hok.laid k hp new)
theorem Inv.write{x e:Addr}{o:HO}{t':Nat}(I:Inv X QTz σ H s)(mu:Mut (H x))(he:e=x\/H e=some (.own x))(k:∀b u,b≠e->s.heap.get? b=some u->h'.get? b=some u)(heo:∃u,h'.get? e=some u)
  (new:b8 X.prog X.w (upd H x o) h' x o):Inv X QTz σ (upd H x o) {s with heap:=h',toks:=t'}:=I.un (Un.write mu he k heo) (I.hok.write mu he k heo new)
theorem Inv.Bo{pins':QQz}(I:Inv X QTz σ H s)(h:∀p∈pins',s.heap.get? p.1=some p.2/\H p.1=none/\p.1≠X.env.locals/\p.1∉X.fs/\∀v,p.2.data≠ .cell v):Inv X pins' σ H s:=
 ⟨I.ok,I.os,I.bare,I.base,I.loc,I.cell,I.free,I.freeC,fun p hp=>(List.mem_append.mp hp).elim (fun z=>I.pin p (QWq _ z)) (h p),I.hok,I.len⟩
theorem xK{N:List Str}(hN:N.Nodup){i j:Nat}{x:Str}(a:N[i]? =some x)(b:N[j]? =some x):i=j:=by
 obtain⟨h1,e1⟩:=List.getElem?_eq_some_iff.mp a
 obtain⟨h2,e2⟩:=List.getElem?_eq_some_iff.mp b
 exact(List.getElem_inj hN).mp (e1.trans e2.symm)
theorem sX{M:Model}{A:Around}{E:QZq}{i:Nat}{x:Str}{v:V}{u:Value}{Q:Unit->Shared->Prop}(I:Inv X QTz σ H s)(hN:X.N.Nodup)(hi:X.N[i]? =some x)(hx:Loc X.env.scope x)(r:RelV v u)
  (h:∀s',Inv X QTz (σ.set i (some v)) H s'->(∃a,Heap.SameBut a s.heap s'.heap/\(a=X.env.locals\/X.env.cells.lookup x=some a))->Q () s')(hf:X.fn x=true\/X.env.scope.names.lookup x=some .local:=by first|exact .inl rfl|exact .inr rfl|assumption):wpAny M A (storeName X.env x u) Q E s:=by
 obtain⟨m,hn,hl⟩:=id I.loc
 have hcls:(X.env.scope.kind== .class||(X.env.scope.kind== .module&&X.env.locals !=X.env.globals))=false:=by rw[I.ok.kind];rfl
 have hiσ:i<σ.length:=by rw[I.len];exact(List.getElem?_eq_some_iff.mp hi).1
 have Rw:=I.Rw
 have tracked:∀{a:Addr}{h':Heap},(∃o,s.heap.get? a=some o/\H a=none)->Heap.SameBut a s.heap h'->ju X.prog X.w H h':=fun{a h'}ha hs b ob e=>by
  obtain⟨_,_,hfree⟩:=ha
  refine(I.hok b ob e).stay (fun c w' hc q=>(hs.2 c ?_).trans q) (fun _ q=>q) fun _ _ q=>q
  rintro rfl
  rcases hc with rfl|hc
  ·rw[hfree]at e;cases e
  ·rw[hfree]at hc;cases hc
 rcases hx with hk|hk
 ·refine wpAny_storeName_local hk hn (fun h' hn' hs=>?_) hcls
  obtain⟨oL,_,_,hoL,_⟩:=id hn
  refine h _ ⟨I.ok,I.os,I.bare,⟨fun b o e n hb hx=>?_,fun b o e n hb hx=>?_,I.base.free,fun b o e hx=>?_,I.base.tups,I.base.frzs,I.base.tbls⟩,⟨_,hn',fun j y v' e1 e2 e3=>?_⟩,fun y c e=>?_,I.free,I.freeC,fun p hp=>?_,tracked ⟨oL,hoL,I.free⟩ hs,by simpa using I.len⟩ ⟨_,hs,.inl rfl⟩
  ·exact(hs.2 b (Nat.ne_of_lt (Nat.lt_of_lt_of_le (Heap.lt_size e) I.ok.above))).trans (I.base.keep b o e n hb hx)
  ·obtain⟨sl,e1⟩:=I.base.slot b o e n hb hx
   exact⟨sl,(hs.2 b (Nat.ne_of_lt (Nat.lt_of_lt_of_le (Heap.lt_size e) I.ok.above))).trans e1⟩
  ·obtain⟨o',e1⟩:=I.base.there b o e hx
   exact⟨o',(hs.2 b (Nat.ne_of_lt (Nat.lt_of_lt_of_le (Heap.lt_size e) I.ok.above))).trans e1⟩
  ·by_cases hj:j=i
   ·subst hj
    rw[hi]at e1;cases e1
    rw[List.getElem?_set_self hiσ]at e2
    cases e2
    exact⟨u,r,.inl ⟨hk,by simp⟩⟩
   ·rw[List.getElem?_set_ne (Ne.symm hj)]at e2
    obtain⟨u',r',q⟩:=hl j y v' e1 e2 e3
    refine⟨u',r',?_⟩
    rcases q with ⟨k,e⟩|⟨k,c,e,z⟩
    ·refine .inl ⟨k,?_⟩
     have:y≠x:=fun e=>hj (xK hN e1 (e▸hi))
     simp[this,e]
    ·exact .inr ⟨k,c,e,z.sameBut hs (Rw y c e)⟩
  ·obtain⟨w',z⟩:=I.cell y c e
   exact⟨w',z.sameBut hs (Rw y c e)⟩
  ·obtain⟨e,n,ne,nf,d⟩:=I.pin p hp
   exact⟨(hs.2 p.1 ne).trans e,n,ne,nf,d⟩
 ·have hfn:X.fn x=true:=by
   rcases hf with z|z
   ·exact z
   ·rw[z]at hk;cases hk
  obtain⟨c,hc⟩:=I.ok.has x (.inl hk)
  obtain⟨w',z⟩:=I.cell x c hc
  refine wpAny_storeName_cell I.ok.kind hk hc z (fun h' hc' hs=>?_)
  obtain⟨oc,hoc,hocd⟩:=id z
  refine h {s with heap:=h'} ⟨I.ok,I.os,I.bare,⟨fun b o e n hb hx=>?_,fun b o e n hb hx=>?_,I.base.free,fun b o e hx=>?_,I.base.tups,I.base.frzs,I.base.tbls⟩,⟨m,hn.sameBut hs (Ne.symm (Rw x c hc)),fun j y v' e1 e2 e3=>?_⟩,fun y c' e=>?_,I.free,I.freeC,fun p hp=>?_,tracked ⟨oc,hoc,I.freeC x c hc⟩ hs,by simpa using I.len⟩ ⟨c,hs,.inr hc⟩
  ·exact(hs.2 b (Nat.ne_of_lt (Nat.lt_of_lt_of_le (Heap.lt_size e) (I.ok.cab x c hfn hc)))).trans (I.base.keep b o e n hb hx)
  ·obtain⟨sl,e1⟩:=I.base.slot b o e n hb hx
   exact⟨sl,(hs.2 b (Nat.ne_of_lt (Nat.lt_of_lt_of_le (Heap.lt_size e) (I.ok.cab x c hfn hc)))).trans e1⟩
  ·obtain⟨o',e1⟩:=I.base.there b o e hx
   exact⟨o',(hs.2 b (Nat.ne_of_lt (Nat.lt_of_lt_of_le (Heap.lt_size e) (I.ok.cab x c hfn hc)))).trans e1⟩
  ·by_cases hj:j=i
   ·subst hj
    rw[hi]at e1;cases e1
    rw[List.getElem?_set_self hiσ]at e2
    cases e2
    exact⟨u,r,.inr ⟨.inl hk,c,hc,hc'⟩⟩
   ·rw[List.getElem?_set_ne (Ne.symm hj)]at e2
    obtain⟨u',r',q⟩:=hl j y v' e1 e2 e3
    refine⟨u',r',?_⟩
    rcases q with q|⟨k,c',e,z'⟩
    ·exact .inl q
    ·refine .inr ⟨k,c',e,z'.sameBut hs ?_⟩
     rintro rfl
     exact hj (xK hN e1 (I.ok.inj _ _ _ e hc▸hi))
  ·by_cases hcc:c'=c
   ·subst hcc;exact⟨_,hc'⟩
   ·obtain⟨w2,z2⟩:=I.cell y c' e
    exact⟨w2,z2.sameBut hs hcc⟩
  ·obtain⟨e,n,ne,nf,d⟩:=I.pin p hp
   refine⟨(hs.2 p.1 ?_).trans e,n,ne,nf,d⟩
   intro q
   rw[q,hoc]at e
   have q':oc=p.2:=Option.some.inj e
   exact d w' (by rw[<-q'];exact hocd)
theorem pH{M:Model}{A:Around}{E:QZq}{i:Nat}{x:Str}{v:V}{u:Value}{Q:Unit->Shared->Prop}(I:Inv X QTz σ H s)(hN:X.N.Nodup)(hi:X.N[i]? =some x)(hx:Loc X.env.scope x)(r:RelV v u)
  (h:∀s',Inv X QTz (σ.set i (some v)) H s'->Q () s')(hf:X.fn x=true\/X.env.scope.names.lookup x=some .local:=by first|exact .inl rfl|exact .inr rfl|assumption):wpAny M A (storeName X.env x u) Q E s:=
 sX I hN hi hx r (fun s' I' _=>h s' I') hf
theorem Inv.call'{s':Shared}{ch:List Addr}(I:Inv X QTz σ H s)(ho:s'.os=s.os)(u:Un (frs X.stack) ch H H' s.heap s'.heap)(hok:ju X.prog X.w H' s'.heap)(hg:AllBare s'.gens)
  (hch:∀b∈ch,(b∈X.ex\/X.s₀.heap.objs.size<=b)/\b≠X.env.locals/\(∀x c,X.env.cells.lookup x=some c->c≠b)/\∀p∈X.pn++QTz,p.1≠b):Inv X QTz σ H' s':=by
 obtain⟨h',g',d',t',o'⟩:=s'
 have e:o'=s.os:=ho
 subst e
 exact I.call (g':=g') (t':=t') (d':=d') u hok hg hch
end
abbrev XK:=Value->Option Addr->Hp->Prop
abbrev St:=List (Option V)
abbrev VK:=V->Hp->Prop
abbrev TE:=St->Hp->VK->Prop
abbrev TT:=St->Hp->(Bool->Hp->Prop)->Prop
abbrev TA:=St->Hp->(List V->Hp->Prop)->Prop
structure Ends where
 nx:St->Hp->Prop
 rt:VK
 bk:St->Hp->Prop:=fun _ _=>False
 ct:St->Hp->Prop:=fun _ _=>False
abbrev TS:=Ends->St->Hp->Prop
def EP(X:Cx)(QTz:QQz)(σ:St)(Q:VK)(u:Value)(s':Shared):Prop:=∃v H',Inv X QTz σ H' s'/\RelV v u/\Q v H'
def TP(X:Cx)(QTz:QQz)(σ:St)(Q:Bool->Hp->Prop)(b:Bool)(s':Shared):Prop:=∃H',Inv X QTz σ H' s'/\Q b H'
def AP(X:Cx)(QTz:QQz)(σ:St)(Q:List V->Hp->Prop)(us:List Value)(s':Shared):Prop:=∃vs H',Inv X QTz σ H' s'/\Vals vs us/\Q vs H'
def SP(X:Cx)(QTz:QQz)(D:Ends)(f:Flow)(s':Shared):Prop:=
 match f with
 |.next=>∃σ' H',Inv X QTz σ' H' s'/\D.nx σ' H'
 |.brk=>∃σ' H',Inv X QTz σ' H' s'/\D.bk σ' H'
 |.cont=>∃σ' H',Inv X QTz σ' H' s'/\D.ct σ' H'
 |.ret u=>∃v σ' H',Inv X QTz σ' H' s'/\RelV v u/\D.rt v H'
def PE(X:Cx)(e:Expr)(t:TE):Prop:=
 ∀(QTz:QQz)(s:Shared)(σ:St)(H:Hp)(Q:VK),Inv X QTz σ H s->t σ H Q->wpAny (model X.prog X.w) X.A (eval e X.env) (EP X QTz σ Q) X.xe s
def PT(X:Cx)(e:Expr)(t:TT):Prop:=
 ∀(QTz:QQz)(s:Shared)(σ:St)(H:Hp)(Q:Bool->Hp->Prop),Inv X QTz σ H s->t σ H Q->wpAny (model X.prog X.w) X.A (isTrue e X.env (eval e X.env)) (TP X QTz σ Q) X.xe s
def PW(X:Cx)(e:Expr)(t:TT):Prop:=
 ∀(whole:Sem Value)(QTz:QQz)(s:Shared)(σ:St)(H:Hp)(Q:Bool->Hp->Prop),Inv X QTz σ H s->t σ H Q->wpAny (model X.prog X.w) X.A (isTrue e X.env whole) (TP X QTz σ Q) X.xe s
theorem PW.pt{X:Cx}{e:Expr}{t:TT}(h:PW X e t):PT X e t:=h _
def PA(X:Cx)(es:List Expr)(t:TA):Prop:=
 ∀(pos:Pos)(QTz:QQz)(s:Shared)(σ:St)(H:Hp)(Q:List V->Hp->Prop),Inv X QTz σ H s->t σ H Q->wpAny (model X.prog X.w) X.A (spliced (backTo pos (starEach es X.env))) (AP X QTz σ Q) X.xe s
def PS(X:Cx)(st:Stmt)(t:TS):Prop:=
 ∀(QTz:QQz)(s:Shared)(σ:St)(H:Hp)(D:Ends),Inv X QTz σ H s->t D σ H->wpAny (model X.prog X.w) X.A (exec st X.env) (SP X QTz D) X.xe s
def uY(X:Cx)(st:List Stmt)(t:TS):Prop:=
 ∀(QTz:QQz)(s:Shared)(σ:St)(H:Hp)(D:Ends),Inv X QTz σ H s->t D σ H->wpAny (model X.prog X.w) X.A (execs st X.env) (SP X QTz D) X.xe s
theorem cB{α:Type}{t:Sem α}{Q Q':α->Shared->Prop}{M:Model}{A:Around}{E:QZq}{s:Shared}(h:wpAny M A t Q E s)(hQ:∀a s,Q a s->Q' a s):wpAny M A t Q' E s:=wpAny_mono h hQ fun _ _ x=>x
end L2
namespace L2
open PySem PySem.Spec PyProof.Rows
section
variable{X:Cx}
theorem bin{a b:Expr}{ta tb:TE}(ha:PE X a ta)(hb:PE X b tb){QTz:QQz}{s:Shared}{σ:St}{H:Hp}{R:V->V->Hp->Prop}(I:Inv X QTz σ H s)(h:ta σ H fun x H1=>tb σ H1 fun y H2=>R x y H2)
  {α:Type}{Q:α->Shared->Prop}{f:Value->Value->Sem α}
  (hf:∀v u s2 x y H2,Inv X QTz σ H2 s2->RelV x v->RelV y u->R x y H2->wpAny (model X.prog X.w) X.A (f v u) Q X.xe s2):
  wpAny (model X.prog X.w) X.A (eval a X.env) (fun v s₁=>wpAny (model X.prog X.w) X.A (eval b X.env) (fun u s₂=>wpAny (model X.prog X.w) X.A (f v u) Q X.xe s₂) X.xe s₁) X.xe s:=by
 refine cB (ha QTz s σ H _ I h) fun v s1⟨x,H1,I1,r1,q1⟩=>?_
 refine cB (hb QTz s1 σ H1 _ I1 q1) fun u s2⟨y,H2,I2,r2,q2⟩=>?_
 exact hf v u s2 x y H2 I2 r1 r2 q2
def Dl(i:Nat):TE:=fun σ H Q=>∃v,σ[i]? =some (some v)/\Q v H
def tC(v:V):TE:=fun _ H Q=>Q v H
theorem zx{i:Nat}{x:Str}{pos:Pos}(hN:X.N[i]? =some x)(hv:Wh X.env.scope x)(hd:(x==("__debug__":Str))=false:=by decide)(hcd:(x==("__classdict__":Str))=false:=by decide):PE X (.Name x pos) (Dl i):=by
 intro QTz s σ H Q I h
 obtain⟨v,e,h⟩:=h
 obtain⟨m,hn,hl⟩:=I.loc
 obtain⟨u,r,l⟩:=hl i x v hN e hv
 have fin:EP X QTz σ Q u s:=⟨v,H,I,r,h⟩
 rcases l with ⟨hk,hm⟩|⟨hk,c,hc,hcell⟩
 ·exact wpAny_Name (wpAny_loadName_local I.ok.kind hk hn hm fin) hd
 ·rcases hk with hk|hk
  ·exact wpAny_Name (wpAny_loadName_cell I.ok.kind hk hc hcell fin) hd
  ·exact wpAny_Name (wpAny_loadName_free I.ok.kind hk hc hcell fin hcd) hd
theorem HQ{i j pos}:PE X (.Constant (.int i) j pos) (tC (.int i)):=fun _ _ _ H _ I h=>wpAny_Constant_int ⟨.int i,H,I.tok _,⟨_,rfl⟩,h⟩
theorem Zy{b j pos}:PE X (.Constant (.bool b) j pos) (tC (.bl b)):=fun _ _ _ H _ I h=>Constant_bool ⟨.bl b,H,I,rfl,h⟩
theorem HH{j pos}:PE X (.Constant .none j pos) (tC .non):=fun _ _ _ H _ I h=>Constant_none ⟨.non,H,I,rfl,h⟩
theorem T9{x j pos}:PE X (.Constant (.str x) j pos) (tC (.str x)):=fun _ _ _ H _ I h=>Calls.Constant_str ⟨.str x,H,I.tok _,⟨_,rfl⟩,h⟩
def Gl(X:Cx)(x:Str):Prop:=X.env.kindOf x=some .globalImplicit
theorem jT{E:QZq}{QTz:QQz}{s:Shared}{σ:St}{H:Hp}{x:Str}{u:Value}{pos:Pos}{Q:QZq}(I:Inv X QTz σ H s)(hg:Gl X x)(hm:X.mg x=some u)(h:Q u s)
  (hd:(x==("__debug__":Str))=false:=by decide):wpAny (model X.prog X.w) X.A (eval (.Name x pos) X.env) Q E s:=
 Calls.Name_function_global I.ok.kind hg (Calls.loadGlobal_global (by rw[I.ok.glob];exact I.mod.glob.keeps I.bk) hm h) hd
theorem jD{E:QZq}{QTz:QQz}{s:Shared}{σ:St}{H:Hp}{x:Str}{u:Value}{pos:Pos}{Q:QZq}(I:Inv X QTz σ H s)(hg:Gl X x)(hm:X.mg x=none)(hv:bootBuiltins x=some u)(h:Q u s)
  (hn:x≠"__name__":=by decide)(hd:(x==("__debug__":Str))=false:=by decide):wpAny (model X.prog X.w) X.A (eval (.Name x pos) X.env) Q E s:=by
 obtain⟨mb,h1,h2⟩:=I.mod.blt
 exact Calls.Name_function_global I.ok.kind hg (Calls.loadGlobal_builtin (by rw[I.ok.glob];exact I.mod.glob.keeps I.bk) hm (by rw[I.ok.blt];exact h1.keeps I.bk) ((h2 x hn).trans hv) h) hd
theorem Bp{x:Str}{v:V}{u:Value}{pos:Pos}(hg:Gl X x)(hm:X.mg x=some u)(r:RelV v u)(hd:(x==("__debug__":Str))=false:=by decide):PE X (.Name x pos) (tC v):=
 fun _ _ _ H _ I h=>jT I hg hm ⟨v,H,I,r,h⟩ hd
theorem Bq{x:Str}{v:V}{u:Value}{pos:Pos}(hg:Gl X x)(hm:X.mg x=none)(hv:bootBuiltins x=some u)(r:RelV v u)(hn:x≠"__name__":=by decide)(hd:(x==("__debug__":Str))=false:=by decide):PE X (.Name x pos) (tC v):=
 fun _ _ _ H _ I h=>jD I hg hm hv ⟨v,H,I,r,h⟩ hn hd
variable{a b:Expr}{ta tb:TE}{pos:Pos}
variable{tA tB':TT}{rest:List Expr}
def acX(t u:TT):TT:=fun σ H Q=>t σ H fun c H1=>if c=true then u σ H1 Q else Q false H1
def tOr(t u:TT):TT:=fun σ H Q=>t σ H fun c H1=>if c=true then Q true H1 else u σ H1 Q
def acS(t:TT):TT:=fun σ H Q=>t σ H fun c H1=>Q (!c) H1
theorem M3(ha:PT X a tA):PW X (.BoolOp .And [a] pos) tA:=by
 intro wh QTz s σ H Q I h
 refine isTrue_and (cB (ha QTz s σ H Q I h) fun c s1 e=>?_)
 cases c with
 |true=>exact isTrue_and_nil e
 |false=>exact e
theorem TV(ha:PT X a tA):PW X (.BoolOp .Or [a] pos) tA:=by
 intro wh QTz s σ H Q I h
 refine isTrue_or (cB (ha QTz s σ H Q I h) fun c s1 e=>?_)
 cases c with
 |false=>exact isTrue_or_nil e
 |true=>exact e
theorem TX(ha:PT X a tA)(hb:PW X (.BoolOp .And (b::rest) pos) tB'):PW X (.BoolOp .And (a::b::rest) pos) (acX tA tB'):=by
 intro wh QTz s σ H Q I h
 refine isTrue_and (cB (ha QTz s σ H _ I h) fun c s1⟨H1,I1,q1⟩=>?_)
 cases c with
 |true=>exact hb wh QTz s1 σ H1 Q I1 q1
 |false=>exact⟨H1,I1,q1⟩
theorem Zr(ha:PT X a tA)(hb:PW X (.BoolOp .Or (b::rest) pos) tB'):PW X (.BoolOp .Or (a::b::rest) pos) (tOr tA tB'):=by
 intro wh QTz s σ H Q I h
 refine isTrue_or (cB (ha QTz s σ H _ I h) fun c s1⟨H1,I1,q1⟩=>?_)
 cases c with
 |true=>exact⟨H1,I1,q1⟩
 |false=>exact hb wh QTz s1 σ H1 Q I1 q1
theorem TY(ha:PT X a tA):PT X (.UnaryOp .Not a pos) (acS tA):=by
 intro QTz s σ H Q I h
 exact isTrue_not (ha QTz s σ H (fun c H1=>Q (!c) H1) I h)
def Yy(ta tb:TE):TE:=fun σ H Q=>ta σ H fun x H1=>∃c,x=.bl c/\if c=true then tb σ H1 Q else Q (.bl false) H1
def acR(ta tb:TE):TE:=fun σ H Q=>ta σ H fun x H1=>∃c,x=.bl c/\if c=true then Q (.bl true) H1 else tb σ H1 Q
theorem zy{op}{t:TE}(h:PE X a t):PE X (.BoolOp op [a] pos) t:=fun QTz s σ H Q I hw=>BoolOp_one (h QTz s σ H Q I hw)
theorem HX(ha:PE X a ta)(hb:PE X (.BoolOp .And (b::rest) pos) tb):PE X (.BoolOp .And (a::b::rest) pos) (Yy ta tb):=by
 intro QTz s σ H Q I h
 refine BoolOp_and (cB (ha QTz s σ H _ I h) fun v s1⟨x,H1,I1,r1,q1⟩=>?_)
 obtain⟨c,rfl,q1⟩:=q1
 cases r1
 refine wpAny_truthy_bool ?_
 cases c with
 |true=>exact hb QTz s1 σ H1 Q I1 q1
 |false=>exact⟨.bl false,H1,I1,rfl,q1⟩
theorem Zw(ha:PE X a ta)(hb:PE X (.BoolOp .Or (b::rest) pos) tb):PE X (.BoolOp .Or (a::b::rest) pos) (acR ta tb):=by
 intro QTz s σ H Q I h
 refine BoolOp_or (cB (ha QTz s σ H _ I h) fun v s1⟨x,H1,I1,r1,q1⟩=>?_)
 obtain⟨c,rfl,q1⟩:=q1
 cases r1
 refine wpAny_truthy_bool ?_
 cases c with
 |false=>exact hb QTz s1 σ H1 Q I1 q1
 |true=>exact⟨.bl true,H1,I1,rfl,q1⟩
def tIf(t:TT)(ta tb:TE):TE:=fun σ H Q=>t σ H fun c H1=>if c=true then ta σ H1 Q else tb σ H1 Q
theorem HR{c:Expr}(hc:PT X c tA)(ha:PE X a ta)(hb:PE X b tb):PE X (.IfExp c a b pos) (tIf tA ta tb):=by
 intro QTz s σ H Q I h
 refine wpAny_IfExp (cB (hc QTz s σ H _ I h) fun d s1⟨H1,I1,q1⟩=>?_)
 cases d with
 |true=>exact ha QTz s1 σ H1 Q I1 q1
 |false=>exact hb QTz s1 σ H1 Q I1 q1
end
end L2
namespace L2
open PySem PySem.Spec PyProof.Rows
def jK(K:QQq)(H:Hp)(a:Addr)(xs:List V):Prop:=
 Rd H a (.lst xs)\/
  ∃(o:Obj)(its:Array Value)(n:Nat),K.lookup a=some o/\o.cls=.type "list"/\o.dict=none/\o.data=.seq its n/\its.size<=sizeLine/\Vals xs its.toList
def jl(K:QQq)(H:Hp)(a:Addr)(xs:List V):Prop:=
 Rd H a (.tup xs)\/
  ∃(o:Obj)(its:Array Value)(n:Nat),K.lookup a=some o/\o.cls=.type "tuple"/\o.dict=none/\o.data=.seq its n/\its.size<=sizeLine/\Vals xs its.toList
def aeJ:Value->Option V
 |.none=>some .non
 |.bool b=>some (.bl b)
 |.int i _=>some (.int i)
 |.str x _=>some (.str x)
 |.bytes b _=>some (.byt b)
 |.float b _=>some (.flt b)
 |.ref a=>some (.ref a)
 |.type n=>some (.ty n)
 |_=>none
theorem RelV.abs{x:V}{u:Value}(r:RelV x u):aeJ u=some x:=by
 cases x with
 |non=>cases r;rfl
 |bl _=>cases r;rfl
 |int _=>obtain⟨t,rfl⟩:=r;rfl
 |str _=>obtain⟨t,rfl⟩:=r;rfl
 |byt _=>obtain⟨t,rfl⟩:=r;rfl
 |flt _=>obtain⟨t,rfl⟩:=r;rfl
 |ref _=>cases r;rfl
 |ty _=>cases r;rfl
theorem RelV.inj{x y:V}{u:Value}(r:RelV x u)(q:RelV y u):x=y:=Option.some.inj (r.abs.symm.trans q.abs)
theorem Vals.inj:∀{xs ys:List V}{us:List Value},Vals xs us->Vals ys us->xs=ys
 |_,_,_,.nil,.nil=>rfl
 |_,_,_,.cons r t,.cons r' t'=>by rw[r.inj r',Vals.inj t t']
section
variable{X:Cx}{QTz:QQz}{σ:St}{H:Hp}{s:Shared}{a:Addr}{xs ys:List V}
theorem Inv.list(I:Inv X QTz σ H s)(h:jK X.K H a xs):∃its:List Value,Vals xs its/\PlainL s.heap a its.toArray/\xs.length<=sizeLine:=by
 rcases h with h|⟨o,its,n,hk,hc,hd,hs,hz,r⟩
 ·obtain⟨z,its,n,r,e⟩:=h.ok I.hok
  exact⟨its,r,⟨_,n,e,rfl,rfl,rfl⟩,z⟩
 ·refine⟨its.toList,r,⟨o,n,I.zM a o hk,hc,hd,by simpa using hs⟩,?_⟩
  have e:=r.length
  simp only[Array.length_toList]at e
  omega
theorem Inv.yN(I:Inv X QTz σ H s)(h:jl X.K H a xs):∃its:List Value,Vals xs its/\TupOk s.heap a its.toArray/\xs.length<=sizeLine:=by
 rcases h with h|⟨o,its,n,hk,hc,hn,hs,hz,r⟩
 ·obtain⟨z,its,r,p⟩:=h.ok I.hok
  exact⟨its,r,p,z⟩
 ·refine⟨its.toList,r,⟨o,I.zM a o hk,hc,hn,n,by simpa using hs⟩,?_⟩
  have e:=r.length
  simp only[Array.length_toList]at e
  omega
theorem Inv.tuple(I:Inv X QTz σ H s)(h:jl X.K H a xs):∃its:List Value,Vals xs its/\IsTup s.heap a its.toArray/\xs.length<=sizeLine:=by
 obtain⟨its,r,p,z⟩:=I.yN h
 exact⟨its,r,p.is,z⟩
theorem Inv.xQ(I:Inv X QTz σ H s)(h:jK X.K H a xs)(h':jK X.K H a ys):xs=ys:=by
 obtain⟨its,r,⟨o,n,e,_,_,d⟩,_⟩:=I.list h
 obtain⟨its',r',⟨o',n',e',_,_,d'⟩,_⟩:=I.list h'
 rw[e]at e';cases e'
 rw[d]at d'
 injection d' with d1 _
 have:its=its':=by simpa using congrArg Array.toList d1
 subst this
 exact r.inj r'
theorem Inv.sU(I:Inv X QTz σ H s)(h:jl X.K H a xs)(h':jl X.K H a ys):xs=ys:=by
 obtain⟨its,r,⟨o,e,_,n,d⟩,_⟩:=I.tuple h
 obtain⟨its',r',⟨o',e',_,n',d'⟩,_⟩:=I.tuple h'
 rw[e]at e';cases e'
 rw[d]at d'
 injection d' with d1 _
 have:its=its':=by simpa using congrArg Array.toList d1
 subst this
 exact r.inj r'
end
abbrev Cx.wish(X:Cx)(E:QZq):Cx:={X with xe:=E}
abbrev Cx.QW(X:Cx):Cx:=X.wish fun _ _=>False
theorem Cx.Ok.wish{X:Cx}(ok:X.Ok)(E:QZq):(X.wish E).Ok:=
 ⟨ok.mod,ok.kind,ok.glob,ok.blt,ok.above,ok.inj,ok.has,ok.cab,ok.hd,ok.frames,ok.stk,ok.exf,ok.bs,ok.bsz,ok.noex,ok.exfs,ok.j4,ok.frf⟩
theorem Cx.Ok.iI{X:Cx}{E:QZq}(ok:(X.wish E).Ok):X.Ok:=
 ⟨ok.mod,ok.kind,ok.glob,ok.blt,ok.above,ok.inj,ok.has,ok.cab,ok.hd,ok.frames,ok.stk,ok.exf,ok.bs,ok.bsz,ok.noex,ok.exfs,ok.j4,ok.frf⟩
section
variable{X:Cx}{QTz:QQz}{σ:St}{H:Hp}{s:Shared}{E:QZq}
theorem Inv.wish(I:Inv X QTz σ H s)(E:QZq):Inv (X.wish E) QTz σ H s:=⟨I.ok.wish E,I.os,I.bare,I.base,I.loc,I.cell,I.free,I.freeC,I.pin,I.hok,I.len⟩
theorem Inv.iI(I:Inv (X.wish E) QTz σ H s):Inv X QTz σ H s:=⟨I.ok.iI,I.os,I.bare,I.base,I.loc,I.cell,I.free,I.freeC,I.pin,I.hok,I.len⟩
theorem SP.iI{D:Ends}{f:Flow}{s':Shared}(h:SP (X.wish E) QTz D f s'):SP X QTz D f s':=by
 cases f with
 |next=>obtain⟨σ',H',I,q⟩:=h;exact⟨σ',H',I.iI,q⟩
 |brk=>obtain⟨σ',H',I,q⟩:=h;exact⟨σ',H',I.iI,q⟩
 |cont=>obtain⟨σ',H',I,q⟩:=h;exact⟨σ',H',I.iI,q⟩
 |ret u=>obtain⟨v,σ',H',I,r,q⟩:=h;exact⟨v,σ',H',I.iI,r,q⟩
theorem uY.QW{st:List Stmt}{t:TS}(h:uY X.QW st t):uY X st t:=fun QTz s σ H D I hw=>
 wpAny_mono (h QTz s σ H D (I.wish _) hw) (fun _ _ q=>q.iI) fun _ _ z=>False.elim z
end
section
variable{X:Cx}{st:Stmt}{rest:List Stmt}{t u:TS}{e:Expr}{te:TE}{pos:Pos}
def Ys:TS:=fun D σ H=>D.nx σ H
def Ym(t u:TS):TS:=fun D σ H=>t {D with nx:=u D} σ H
theorem M6:uY X [] Ys:=fun _ _ σ H _ I h=>wpAny_execs_nil ⟨σ,H,I,h⟩
theorem Hv(h1:PS X st t)(h2:uY X rest u):uY X (st::rest) (Ym t u):=by
 intro QTz s σ H D I h
 refine wpAny_execs_cons (cB (h1 QTz s σ H {D with nx:=u D} I h) fun f s1 q=>?_)
 cases f with
 |next=>
  obtain⟨σ',H',I',q⟩:=q
  exact h2 QTz s1 σ' H' D I' q
 |ret v=>exact q
 |brk=>exact q
 |cont=>exact q
theorem M5(h1:PS X st t):uY X [st] t:=by
 intro QTz s σ H D I h
 refine wpAny_execs_cons (cB (h1 QTz s σ H D I h) fun f s1 q=>?_)
 cases f with
 |next=>exact wpAny_execs_nil q
 |ret v=>exact q
 |brk=>exact q
 |cont=>exact q
theorem Inv.quiet{QTz:QQz}{σ:St}{H:Hp}{s:Shared}(I:Inv X QTz σ H s):interactive X.env=false:=by simp[interactive,I.ok.kind]
def Yv(te:TE):TS:=fun D σ H=>te σ H fun _ H1=>D.nx σ H1
theorem Bm(he:PE X e te)(hs:swapsWith e none pos.line X.env=pure false:=by rfl):PS X (.Expr e pos) (Yv te):=by
 intro QTz s σ H D I h
 exact wpAny_Expr_any (cB (he QTz s σ H _ I h) fun v s1⟨x,H1,I1,r1,q1⟩=>⟨σ,H1,I1,q1⟩) I.quiet hs
def Yo(te:TE):TS:=fun D σ H=>te σ H D.rt
theorem kZ(he:PE X e te):PS X (.Return (some e) pos) (Yo te):=by
 intro QTz s σ H D I h
 exact wpAny_Return_some (cB (he QTz s σ H _ I h) fun v s1⟨x,H1,I1,r1,q1⟩=>⟨x,σ,H1,I1,r1,q1⟩)
def Yn:TS:=fun D _ H=>D.rt .non H
theorem M7:PS X (.Return none pos) Yn:=fun _ _ σ H _ I h=>wpAny_Return_none ⟨.non,σ,H,I,rfl,h⟩
def acU(c:TT)(t u:TS):TS:=fun D σ H=>c σ H fun b H1=>if b=true then t D σ H1 else u D σ H1
theorem Zu{c:Expr}{a b:List Stmt}{tc:TT}(hc:PT X c tc)(ha:uY X a t)(hb:uY X b u):PS X (.If c a b pos) (acU tc t u):=by
 intro QTz s σ H D I h
 refine wpAny_If (cB (hc QTz s σ H _ I h) fun d s1⟨H1,I1,q1⟩=>?_)
 cases d with
 |true=>exact ha QTz s1 σ H1 D I1 q1
 |false=>exact hb QTz s1 σ H1 D I1 q1
end
abbrev TG:=V->St->Hp->(St->Hp->Prop)->Prop
abbrev Wl:=List V->St->Hp->(St->Hp->Prop)->Prop
def PG(X:Cx)(target:Expr)(t:TG):Prop:=
 ∀(QTz:QQz)(s:Shared)(σ:St)(H:Hp)(v:V)(u:Value)(Q:St->Hp->Prop),Inv X QTz σ H s->RelV v u->t v σ H Q->
  wpAny (model X.prog X.w) X.A (assign target X.env u) (fun _ s'=>∃σ' H',Inv X QTz σ' H' s'/\Q σ' H') X.xe s
def PGs(X:Cx)(ts:List Expr)(t:Wl):Prop:=
 ∀(QTz:QQz)(s:Shared)(σ:St)(H:Hp)(vs:List V)(us:List Value)(Q:St->Hp->Prop),Inv X QTz σ H s->Vals vs us->t vs σ H Q->
  wpAny (model X.prog X.w) X.A (assignInOrder ((assignEach ts X.env).map (·.2)) us) (fun _ s'=>∃σ' H',Inv X QTz σ' H' s'/\Q σ' H') X.xe s
abbrev Wj:=V->V->V->Hp->(Hp->Prop)->Prop
def Qa(X:Cx)(t:Wj):Prop:=
 ∀(QTz:QQz)(s:Shared)(σ:St)(H:Hp)(o i v:V)(ov iv u:Value)(Q:Hp->Prop),Inv X QTz σ H s->RelV o ov->RelV i iv->RelV v u->t o i v H Q->
  wpAny (model X.prog X.w) X.A (setItem ov iv u) (fun _ s'=>∃H',Inv X QTz σ H' s'/\Q H') X.xe s
section
variable{X:Cx}{pos:Pos}
def Rm(i:Nat):TG:=fun v σ H Q=>Q (σ.set i (some v)) H
theorem Nf{i:Nat}{x:Str}(hN:X.N.Nodup)(hi:X.N[i]? =some x)(hx:Loc X.env.scope x)(hf:X.fn x=true\/X.env.scope.names.lookup x=some .local:=by first|exact .inl rfl|exact .inr rfl|assumption):PG X (.Name x pos) (Rm i):=by
 intro QTz s σ H v u Q I r h
 exact wpAny_assign_Name (pH I hN hi hx r (fun s' I'=>⟨_,H,I',h⟩) hf)
def ael:Wl:=fun vs σ H Q=>vs=[]/\Q σ H
def aaH(t:TG)(u:Wl):Wl:=fun vs σ H Q=>∃v r,vs=v::r/\t v σ H fun σ' H'=>u r σ' H' Q
theorem Nb:PGs X [] ael:=by
 intro QTz s σ H vs us Q I r h
 obtain⟨e,h⟩:=h
 subst e
 cases r
 exact assignInOrder_nil ⟨σ,H,I,h⟩
theorem HB{e:Expr}{es:List Expr}{t:TG}{u:Wl}(h1:PG X e t)(h2:PGs X es u)
  (hs:(assignEach (e::es) X.env).map (·.2)=assign e X.env::(assignEach es X.env).map (·.2):=by rfl):PGs X (e::es) (aaH t u):=by
 intro QTz s σ H vs us Q I r h
 obtain⟨v,vr,e1,h⟩:=h
 subst e1
 cases r with
 |cons r rr=>
  rw[hs]
  refine assignInOrder_cons (cB (h1 QTz s σ H _ _ _ I r h) fun _ s1⟨σ1,H1,I1,q1⟩=>?_)
  exact h2 QTz s1 σ1 H1 _ _ Q I1 rr q1
def aej(K:QQq)(n:Nat)(t:Wl):TG:=fun v σ H Q=>∃a xs,v=.ref a/\jl K H a xs/\xs.length=n/\t xs σ H Q
theorem T5{es:List Expr}{k:Nat}{t:Wl}{n:Nat}(hc:X.calm=true)(h:PGs X es t)
  (hn:(assignEach es X.env).length=n:=by rfl)(hst:(assignEach es X.env).findIdx? (·.1)=none:=by rfl):PG X (.Tuple es k pos) (aej X.K n t):=by
 intro QTz s σ H v u Q I r hw
 obtain⟨a,xs,e1,hq,hl,hw⟩:=hw
 subst e1
 cases r
 obtain⟨its,rv,ht,hz⟩:=I.tuple hq
 refine assign_Tuple_tuple (I.ok.hd hc) ht (by simp[hn,<-hl,rv.length]) hst fun h' hx=>?_
 have I1:Inv X QTz σ H {s with heap:=h'}:=I.kept (t':=s.toks) fun b o e=>hx b o (Nat.ne_of_lt (Heap.lt_size e)) e
 exact h QTz _ σ H xs _ Q I1 (by simpa using rv) hw
def aek(to ti:TE)(t:Wj):TG:=fun v σ H Q=>to σ H fun o H1=>ti σ H1 fun i H2=>t o i v H2 fun H3=>Q σ H3
theorem T6{o i:Expr}{to ti:TE}{t:Wj}(ho:PE X o to)(hi:PE X i ti)(hs:Qa X t)
  (ha:∀v,assign (.Subscript o i pos) X.env v=(do
   let ov<-holding [v] (eval o X.env)
   let iv<-holding [v,ov] (eval i X.env)
   standAt pos
   holding [v,ov,iv] (setItem ov iv v)
   release [v,ov,iv] []):=by intro _;rfl):PG X (.Subscript o i pos) (aek to ti t):=by
 intro QTz s σ H v u Q I r h
 rw[ha]
 refine wpAny_bind (wpAny_holding (cB (ho QTz s σ H _ I h) fun ov s1⟨x,H1,I1,r1,q1⟩=>?_))
 refine wpAny_bind (wpAny_holding (cB (hi QTz s1 σ H1 _ I1 q1) fun iv s2⟨y,H2,I2,r2,q2⟩=>?_))
 refine wpAny_bind (wpAny_standAt (wpAny_bind (wpAny_holding (cB (hs QTz s2 σ H2 x y v ov iv u _ I2 r1 r2 r q2) fun _ s3⟨H3,I3,q3⟩=>?_))))
 exact wpAny_release ⟨σ,H3,I3,q3⟩
def Yx(te:TE)(g:TG):TS:=fun D σ H=>te σ H fun x H1=>g x σ H1 D.nx
theorem Hx{tg e:Expr}{te:TE}{g:TG}(he:PE X e te)(hg:PG X tg g)(hs:swapsWithSole [tg] e pos.line X.env=pure false:=by rfl)(hw:swappedStores [tg] e X.env=pure none:=by rfl)
  (h1:(assignEach [tg] X.env).map (·.2)=[assign tg X.env]:=by rfl):PS X (.Assign [tg] e pos) (Yx te g):=by
 intro QTz s σ H D I h
 refine wpAny_Assign_stores (cB (he QTz s σ H _ I h) fun v s1⟨x,H1,I1,r1,q1⟩=>?_) hs hw
 rw[h1]
 exact cB (hg QTz s1 σ H1 x v _ I1 r1 q1) fun _ s2 q=>q
theorem T3{i:Nat}{x:Str}{e:Expr}{te:TE}{pos':Pos}(hN:X.N.Nodup)(hi:X.N[i]? =some x)(hx:Loc X.env.scope x)(he:PE X e te)(hs:swapsWith e (some (.Name x pos')) pos.line X.env=pure false:=by rfl)(hf:X.fn x=true\/X.env.scope.names.lookup x=some .local:=by first|exact .inl rfl|exact .inr rfl|assumption):
  PS X (.Assign [.Name x pos'] e pos) (Yx te (Rm i)):=by
 intro QTz s σ H D I h
 refine wpAny_Assign_Name (cB (he QTz s σ H _ I h) fun v s1⟨y,H1,I1,r1,q1⟩=>?_) hs
 exact pH I1 hN hi hx r1 (fun s2 I2=>⟨_,H1,I2,q1⟩) hf
end
section
variable{X:Cx}{pos:Pos}
def Sy(c:TT)(tb:TS):TS:=fun D σ H=>∃W:Nat->St->Hp->Prop,(∃m,W m σ H)/\∀m σ H,W m σ H->
 c σ H fun b H1=>if b=true then∃N:St->Hp->Prop,(∀σ' H',N σ' H'->∃m',m'<m/\W m' σ' H')/\tb {D with nx:=N,ct:=N,bk:=D.nx} σ H1 else D.nx σ H1
theorem Hw{c:Expr}{body:List Stmt}{tc:TT}{tb:TS}(hp:PassesOwn (model X.prog X.w) X.A X.env X.xe)(hc:PT X c tc)(hb:uY X body tb):PS X (.While c body [] pos) (Sy tc tb):=by
 intro QTz s σ H D I h
 obtain⟨W,⟨m0,w0⟩,turn⟩:=h
 refine wpAny_While (codeAny_whileLoop (fun n s'=>∃σ' H',Inv X QTz σ' H' s'/\W n σ' H') ?_ m0 ⟨σ,H,I,w0⟩)
 rintro n s1 ⟨σ1,H1,I1,w1⟩
 refine wpAny_passesOwn hp (cB (hc QTz s1 σ1 H1 _ I1 (turn n σ1 H1 w1)) fun b s2⟨H2,I2,q2⟩=>?_)
 cases b with
 |true=>
  obtain⟨N,hN,q2⟩:=q2
  rw[if_pos rfl]
  refine wpAny_passesOwn hp (cB (hb QTz s2 σ1 H2 _ I2 q2) fun f s3 q3=>?_)
  cases f with
  |next=>
   obtain⟨σ3,H3,I3,n3⟩:=q3
   obtain⟨m',hm,w3⟩:=hN σ3 H3 n3
   exact⟨m',hm,σ3,H3,I3,w3⟩
  |cont=>
   obtain⟨σ3,H3,I3,n3⟩:=q3
   obtain⟨m',hm,w3⟩:=hN σ3 H3 n3
   exact⟨m',hm,σ3,H3,I3,w3⟩
  |brk=>exact q3
  |ret v=>exact q3
 |false=>
  rw[if_neg Bool.false_ne_true]
  exact wpAny_execs_nil ⟨σ1,H2,I2,q2⟩
end
structure It where
 go:Nat->Hp->Prop
 yld:Nat->Hp->V->Hp->Prop
 stop:Nat->Hp->Prop
def gB(X:Cx)(QTz:QQz)(H:Hp)(b:Addr):Prop:=
 H b=none/\b≠X.env.locals/\b∉X.fs/\(b∈X.ex\/X.s₀.heap.objs.size<=b)/\(∀x c,X.env.cells.lookup x=some c->c≠b)/\∀p∈X.pn++QTz,p.1≠b
theorem Inv.ym{X:Cx}{QTz:QQz}{σ:St}{H H':Hp}{s:Shared}{b:Addr}(I:Inv X QTz σ H s)(hb:s.heap.objs.size<=b)(hn:H' b=none):gB X QTz H' b:=by
 refine⟨hn,Nat.ne_of_gt (Nat.lt_of_lt_of_le I.lt hb),I.adN hb,.inr (Nat.le_trans I.sz hb),fun x c e z=>?_,fun p hp z=>?_⟩
 ·obtain⟨v,q⟩:=I.cell x c e
  exact absurd (Nat.lt_of_lt_of_le q.lt (by rw[z];exact hb)) (Nat.lt_irrefl _)
 ·exact absurd (Nat.lt_of_lt_of_le (Heap.lt_size (I.pin p hp).1) (by rw[z];exact hb)) (Nat.lt_irrefl _)
structure Turn(P:Program)(w:World)(K:QQq)(tg:Expr)(J:It)(fp:List Addr)(it:Addr)(tn:Nat->Heap->Prop):Prop where
 mem:it∈fp
 obj:∀i h,tn i h->∀b∈fp,∃o,h.get? b=some o/\∀v,o.data≠ .cell v
 keep:∀i h h',tn i h->(∀b∈fp,∀o,h.get? b=some o->h'.get? b=some o)->tn i h'
 item:∀(X:Cx),X.prog=P->X.w=w->X.K=K->X.calm=true->∀(i:Nat)(QTz:QQz)(s:Shared)(σ:St)(H:Hp)(E:QZq),Inv X QTz σ H s->(∀b∈fp,gB X QTz H b)->tn i s.heap->J.go i H->
  wpAny (model P w) X.A (pyNext (.ref it)) (fun r s1=>∃u,r=some u/\
   wpAny (model P w) X.A (letOwnedTupleGo tg (.ref it) u) (fun _ s2=>∃x H',Inv X QTz σ H' s2/\RelV x u/\J.yld i H x H'/\tn (i+1) s2.heap/\∀b∈fp,H' b=none) E s1) E s
 done:∀(X:Cx),X.prog=P->X.w=w->X.K=K->X.calm=true->∀(i:Nat)(QTz:QQz)(s:Shared)(σ:St)(H:Hp)(E:QZq),Inv X QTz σ H s->(∀b∈fp,gB X QTz H b)->tn i s.heap->J.stop i H->
  wpAny (model P w) X.A (pyNext (.ref it)) (fun r s1=>r=none/\Inv X QTz σ H s1) E s
 self:∀(A:Around)(i:Nat)(s:Shared)(Q:QZq)(E:QZq),tn i s.heap->Q (.ref it) s->wpAny (model P w) A (pyIter (.ref it)) Q E s
abbrev TI:=St->Hp->(It->Hp->Prop)->Prop
def PIE(X:Cx)(QTz:QQz)(σ:St)(tg:Expr)(R:It->Hp->Prop)(itv:Value)(s2:Shared):Prop:=
 ∃(it:Addr)(fp:List Addr)(tn:Nat->Heap->Prop)(J:It)(H':Hp),itv=.ref it/\Inv X QTz σ H' s2/\Turn X.prog X.w X.K tg J fp it tn/\tn 0 s2.heap/\(∀b∈fp,gB X QTz H' b)/\R J H'
def PI(X:Cx)(tg iter:Expr)(wi:TI):Prop:=
 ∀(QTz:QQz)(s:Shared)(σ:St)(H:Hp)(R:It->Hp->Prop),Inv X QTz σ H s->wi σ H R->
  wpAny (model X.prog X.w) X.A (eval iter X.env) (fun v s1=>wpAny (model X.prog X.w) X.A (pyIter v) (PIE X QTz σ tg R) X.xe s1) X.xe s
theorem yg {M : Model} {A : Around} {E : QZq} {s : Shared} {tg : Expr} {it : Addr} {u : Value} {o : Obj} {n : String} {vs : Array Value} {Q : Unit -> Shared -> Prop} (ho : s.heap.get? it = some o) (hc : o.cls = .type n) (hd : o.data = .fields vs)
    (hn : ["enumerate", "zip", "dict_itemiterator", "dict_reverseitemiterator", "odict_iterator", "itertools.zip_longest", "itertools.pairwise"].contains n = false) (hQ : Q () s) : wpAny M A (letOwnedTupleGo tg (.ref it) u) Q E s := by
  unfold letOwnedTupleGo
  cases tg <;> first
    | exact wpAny_pure hQ
    | (cases u <;> first
        | exact wpAny_pure hQ
        | (refine wpAny_bind (wpAny_load ho ?_)
           rw [hc, hd]
           show wpAny M A (if (["enumerate", "zip", "dict_itemiterator", "dict_reverseitemiterator", "odict_iterator", "itertools.zip_longest", "itertools.pairwise"].contains n && vs[0]? == some (rawInt _)) = true then _ else _) Q E s
           rw [if_neg (by intro h; rw [hn, Bool.false_and] at h; cases h)]
           exact wpAny_pure hQ))
def Itl(K:QQq)(a:Addr):It:=
 ⟨fun i H=>∃xs x,jK K H a xs/\xs[i]? =some x,fun i H x H'=>H'=H/\∀xs,jK K H a xs->xs[i]? =some x,fun i H=>∃xs,jK K H a xs/\xs.length<=i⟩
def Itt(K:QQq)(a:Addr):It:=
 ⟨fun i H=>∃xs x,jl K H a xs/\xs[i]? =some x,fun i H x H'=>H'=H/\∀xs,jl K H a xs->xs[i]? =some x,fun i H=>∃xs,jl K H a xs/\xs.length<=i⟩
def Itr(lo:Int)(n:Nat):It:=⟨fun i _=>i<n,fun i H x H'=>H'=H/\x=.int (lo+i),fun i _=>n<=i⟩
theorem Di{P:Program}{w:World}{K:QQq}{tg:Expr}(a it:Addr):Turn P w K tg (Itl K a) [it] it (fun i h=>h.IsListIter it a i) where
 mem:=by simp
 obj:=fun i h st b hb=>by
  have e:b=it:=by simpa using hb
  subst e
  obtain⟨o,e,c,d⟩:=st
  exact⟨o,e,fun v z=>by rw[d]at z;cases z⟩
 keep:=fun i h h' st k=>st.at fun o e=>k it (by simp) o e
 item:=by
  intro X hP hw hK hc i QTz s σ H E I hf st hg
  subst hP hw hK
  obtain⟨xs,x,hq,hx⟩:=hg
  obtain⟨its,rv,p,hz⟩:=I.list hq
  obtain⟨u,hu,ru⟩:=rv.get hx
  obtain⟨f0,f1,f2,f3,f4,f5⟩:=hf it (by simp)
  refine wpAny_pyNext_list_item st p.isList (x:=u) (by simpa using hu) fun h' st' sb=>?_
  have I1:Inv X QTz σ H {s with heap:=h'}:=I.turned (t':=s.toks) (fun b o hb e=>(sb.2 b hb).trans e) f0 f1 f3 f4 f5
  obtain⟨o,e,c,d⟩:=id st'
  exact⟨u,rfl,yg (s:={s with heap:=h'}) e c d (by decide) ⟨x,H,I1,ru,⟨rfl,fun ys hy=>by rw[I.xQ hy hq];exact hx⟩,st',fun b hb=>(hf b hb).1⟩⟩
 done:=by
  intro X hP hw hK hc i QTz s σ H E I hf st hg
  subst hP hw hK
  obtain⟨xs,hq,hx⟩:=hg
  obtain⟨its,rv,p,hz⟩:=I.list hq
  obtain⟨f0,f1,f2,f3,f4,f5⟩:=hf it (by simp)
  have hl:=rv.length
  exact wpAny_pyNext_list_end (I.ok.hd hc) st p.isList (by simp;omega) fun h' eb=>⟨rfl,I.turned (t':=s.toks) (fun b o hb e=>eb b o hb e) f0 f1 f3 f4 f5⟩
 self:=fun _ _ _ _ _ st h=>wpAny_pyIter_listiter st h
theorem yL{P:Program}{w:World}{K:QQq}{tg:Expr}(a it:Addr):Turn P w K tg (Itt K a) [it] it (fun i h=>h.IsTupleIter it a i) where
 mem:=by simp
 obj:=fun i h st b hb=>by
  have e:b=it:=by simpa using hb
  subst e
  obtain⟨o,e,c,d⟩:=st
  exact⟨o,e,fun v z=>by rw[d]at z;cases z⟩
 keep:=fun i h h' st k=>st.at fun o e=>k it (by simp) o e
 item:=by
  intro X hP hw hK hc i QTz s σ H E I hf st hg
  subst hP hw hK
  obtain⟨xs,x,hq,hx⟩:=hg
  obtain⟨its,rv,p,hz⟩:=I.tuple hq
  obtain⟨u,hu,ru⟩:=rv.get hx
  obtain⟨f0,f1,f2,f3,f4,f5⟩:=hf it (by simp)
  refine wpAny_pyNext_tuple_item st (show s.heap.IsTuple a its.toArray from p) (x:=u) (by simpa using hu) fun h' st' sb=>?_
  have I1:Inv X QTz σ H {s with heap:=h'}:=I.turned (t':=s.toks) (fun b o hb e=>(sb.2 b hb).trans e) f0 f1 f3 f4 f5
  obtain⟨o,e,c,d⟩:=id st'
  exact⟨u,rfl,yg (s:={s with heap:=h'}) e c d (by decide) ⟨x,H,I1,ru,⟨rfl,fun ys hy=>by rw[I.sU hy hq];exact hx⟩,st',fun b hb=>(hf b hb).1⟩⟩
 done:=by
  intro X hP hw hK hc i QTz s σ H E I hf st hg
  subst hP hw hK
  obtain⟨xs,hq,hx⟩:=hg
  obtain⟨its,rv,p,hz⟩:=I.tuple hq
  obtain⟨f0,f1,f2,f3,f4,f5⟩:=hf it (by simp)
  have hl:=rv.length
  exact wpAny_pyNext_tuple_end (I.ok.hd hc) st (show s.heap.IsTuple a its.toArray from p) (by simp;omega) fun h' eb=>⟨rfl,I.turned (t':=s.toks) (fun b o hb e=>eb b o hb e) f0 f1 f3 f4 f5⟩
 self:=fun _ _ _ _ _ st h=>wpAny_pyIter_tupleiter st h
theorem yM{P:Program}{w:World}{K:QQq}{tg:Expr}(it:Addr)(lo:Int)(n:Nat):Turn P w K tg (Itr lo n) [it] it (fun i h=>IsRangeIter h it (lo+(i:Nat)*1) ((n:Int)- (i:Nat)) 1) where
 mem:=by simp
 obj:=fun i h st b hb=>by
  have e:b=it:=by simpa using hb
  subst e
  exact⟨_,st,fun v z=>by
   have z':Data.fields _=Data.cell v:=z
   cases z'⟩
 keep:=fun i h h' st k=>k it (by simp) _ st
 item:=by
  intro X hP hw hK hc i QTz s σ H E I hf st hg
  subst hP hw hK
  obtain⟨f0,f1,f2,f3,f4,f5⟩:=hf it (by simp)
  have W:=Walks.range (prog:=X.prog) (w:=X.w) (I.ok.hd hc) it lo 1 n
  refine W.item i s _ _ hg st fun v h' tk hv st' kk=>?_
  obtain⟨t,rfl⟩:=hv
  have I1:Inv X QTz σ H {s with heap:=h',toks:=tk}:=I.turned (fun b o hb e=>kk b o (by simpa using hb) e) f0 f1 f3 f4 f5
  refine⟨_,rfl,yg (s:={s with heap:=h',toks:=tk}) (n:="range_iterator") st' rfl rfl (by decide) ⟨.int (lo+i),H,I1,⟨t,?_⟩,⟨rfl,rfl⟩,st',fun b hb=>(hf b hb).1⟩⟩
  rw[Int.mul_one]
 done:=by
  intro X hP hw hK hc i QTz s σ H E I hf st hg
  subst hP hw hK
  obtain⟨f0,f1,f2,f3,f4,f5⟩:=hf it (by simp)
  exact wpAny_pyNext_range_end (I.ok.hd hc) st (by have:n<=i:=hg;omega) fun h' eb=>⟨rfl,I.turned (t':=s.toks) (fun b o hb e=>eb b o hb e) f0 f1 f3 f4 f5⟩
 self:=fun _ _ _ _ _ st h=>wpAny_pyIter_rangeiter st h
end L2
namespace L2
open PySem PySem.Spec PyProof.Rows
section
variable{X:Cx}{tg:Expr}
theorem Hl{QTz:QQz}{σ:St}{H:Hp}{s:Shared}{R:It->Hp->Prop}{E:QZq}{lo hi:Int}{t u v:Tok}{tk:Nat}(I:Inv X QTz σ H s)(h1: -(2 ^62)<=lo)(h2:lo<2 ^62)(h3: -(2 ^62)<=hi)(h4:hi<2 ^62)
  (q:R (Itr lo (hi-lo).toNat) H):wpAny (model X.prog X.w) X.A (pyIter (.ref s.heap.objs.size)) (PIE X QTz σ tg R) E {s with heap:=s.heap.push {cls:=.type "range",data:=.fields #[.int lo t,.int hi u,.int 1 v]},toks:=tk}:=by
 refine wpAny_pyIter_range (IsRange.new ..) (small_one h1 h2 h3 h4) ?_
 have I1:Inv X QTz σ H {s with heap:=s.heap.push {cls:=.type "range",data:=.fields #[.int lo t,.int hi u,.int 1 v]},toks:=tk}:=I.kept fun b o e=>QXz _ e
 refine⟨(s.heap.push {cls:=.type "range",data:=.fields #[.int lo t,.int hi u,.int 1 v]}).objs.size,[(s.heap.push {cls:=.type "range",data:=.fields #[.int lo t,.int hi u,.int 1 v]}).objs.size],_,_,H,rfl,
  I1.kept (t':=tk) fun b o e=>QXz _ e,yM _ lo (hi-lo).toNat,?_,fun b hb=>?_,q⟩
 ·have e1:lo+((0:Nat):Int)*1=lo:=by simp
  have e2:(((hi-lo).toNat:Nat):Int)- ((0:Nat):Int)=Builtin.Range.rangeSize lo hi 1:=by rw[rangeSize_one];split<;>omega
  show IsRangeIter _ _ (lo+((0:Nat):Int)*1) ((((hi-lo).toNat:Nat):Int)- ((0:Nat):Int)) 1
  rw[e1,e2]
  exact Heap.get?_push_size _ rfl
 ·have e:b=(s.heap.push {cls:=.type "range",data:=.fields #[.int lo t,.int hi u,.int 1 v]}).objs.size:=by simpa using hb
  subst e
  exact I1.ym (QVq _) (I1.hok.fresh (QVq _))
def aaz(ta:TA):TI:=fun σ H R=>ta σ H fun vs H1=>∃j:Int,vs=[.int j]/\ -(2 ^62)<=j/\j<2 ^62/\R (Itr 0 j.toNat) H1
theorem Eb{a:Expr}{ta:TA}{p pos:Pos}(hg:Gl X "range")(hm:X.mg "range"=none)(ha:PA X [a] ta)(hs:starEach [a] X.env=[(false,eval a X.env)]:=by rfl):PI X tg (.Call (.Name "range" p) [a] [] pos) (aaz ta):=by
 intro QTz s σ H R I h
 refine Call_ (jD I hg hm boot_range (PyProof.Rows.callWith_type1 (cB (ha pos QTz s σ H _ I h) fun us s1⟨vs,H1,I1,r1,q1⟩=>?_) hs rfl))
 obtain⟨j,e,q1,q2,q⟩:=q1
 subst e
 cases r1 with
 |cons r rr=>
  cases rr
  obtain⟨t,rfl⟩:=r
  exact call_range_1 (Hl I1 (by omega) (by omega) q1 q2 (by simpa using q))
def acV(wi:TI)(g:TG)(tb:TS):TS:=fun D σ H=>wi σ H fun J H1=>∃W:Nat->Nat->St->Hp->Prop,(∃m,W 0 m σ H1)/\∀i m σ H,W i m σ H->
 (J.stop i H/\D.nx σ H)\/(J.go i H/\∃N:St->Hp->Prop,(∀σ' H',N σ' H'->∃m',m'<m/\W (i+1) m' σ' H')/\∀x H',J.yld i H x H'->g x σ H' fun σ2 H2=>tb {D with nx:=N,ct:=N,bk:=D.nx} σ2 H2)
def mY(fp:List Addr)(h:Heap):List (Addr×Obj):=fp.filterMap fun b=>(h.get? b).map fun o=>(b,o)
theorem iU{fp:List Addr}{h:Heap}{b:Addr}{o:Obj}(hb:b∈fp)(e:h.get? b=some o):(b,o)∈mY fp h:=List.mem_filterMap.mpr ⟨b,hb,by rw[e];rfl⟩
theorem Eh{fp:List Addr}{h:Heap}{p:Addr×Obj}(hp:p∈mY fp h):p.1∈fp/\h.get? p.1=some p.2:=by
 obtain⟨b,hb,e⟩:=List.mem_filterMap.mp hp
 cases q:h.get? b with
 |none=>rw[q]at e;cases e
 |some o=>
  rw[q]at e
  have e':(b,o)=p:=Option.some.inj e
  subst e'
  exact⟨hb,q⟩
theorem Inv.pinned{QTz:QQz}{σ:St}{H:Hp}{s:Shared}{fp:List Addr}(I:Inv X QTz σ H s)(hf:∀b∈fp,gB X QTz H b)(ho:∀b∈fp,∃o,s.heap.get? b=some o/\∀v,o.data≠ .cell v):Inv X (QTz++mY fp s.heap) σ H s:=
 I.Bo fun p hp=>(List.mem_append.mp hp).elim (fun z=>I.pin p (QWz _ z)) fun z=>by
  obtain⟨hb,e⟩:=Eh z
  obtain⟨f0,f1,f2,_⟩:=hf p.1 hb
  obtain⟨o,e',d⟩:=ho p.1 hb
  rw[e]at e';cases e'
  exact⟨e,f0,f1,f2,d⟩
theorem Inv.lB{QTz pl:QQz}{σ:St}{H:Hp}{s:Shared}(I:Inv X (QTz++pl) σ H s):Inv X QTz σ H s:=I.Bo fun p hp=>I.pin p (QWz _ (QWq _ hp))
theorem T4{iter:Expr}{body:List Stmt}{wi:TI}{g:TG}{tb:TS}{pos:Pos}(hp:PassesOwn (model X.prog X.w) X.A X.env X.xe)(hc:X.calm=true)(hi:PI X tg iter wi)(hg:PG X tg g)(hb:uY X body tb)
  (hs:∀x,foldedSetIterable iter X.env x=pure x:=by intro _;rfl):PS X (.For tg iter body [] pos) (acV wi g tb):=by
 intro QTz s σ H D I h
 refine wpAny_For (cB (hi QTz s σ H _ I h) fun v s1 h1=>cB h1 fun itv s2 h2=>?_) hs
 obtain⟨it,fp,tn,J,H2,e,I2,T,st2,f2,W,⟨m0,w0⟩,turn⟩:=h2
 subst e
 have stat:∀{H':Hp},(∀b∈fp,H' b=none)->∀b∈fp,gB X QTz H' b:=fun hn b hb=>⟨hn b hb,(f2 b hb).2⟩
 refine codeAny_forLoop_any (fun n s'=>∃i σ' H',Inv X QTz σ' H' s'/\tn i s'.heap/\(∀b∈fp,H' b=none)/\W i n σ' H') ?_ m0 ⟨0,σ,H2,I2,st2,fun b hb=>(f2 b hb).1,w0⟩
 rintro n s3 ⟨i,σ3,H3,I3,st3,fr3,w3⟩
 rcases turn i n σ3 H3 w3 with ⟨stop,qn⟩|⟨go,N,hN,step⟩
 ·refine wpAny_passesOwn hp (cB (T.done X rfl rfl rfl hc i QTz s3 σ3 H3 X.xe I3 (stat fr3) st3 stop) fun r s4⟨hr,I4⟩=>?_)
  subst hr
  exact wpAny_execs_nil ⟨σ3,H3,I4,qn⟩
 ·refine wpAny_passesOwn hp (cB (T.item X rfl rfl rfl hc i QTz s3 σ3 H3 X.xe I3 (stat fr3) st3 go) fun r s4⟨u,hr,h4⟩=>?_)
  subst hr
  refine wpAny_passesOwn hp (cB h4 fun _ s5⟨x,H5,I5,r5,y5,st5,fr5⟩=>?_)
  have I5':=I5.pinned (stat fr5) (T.obj _ _ st5)
  refine wpAny_passesOwn hp (cB (hg _ s5 σ3 H5 x u _ I5' r5 (step x H5 y5)) fun _ s6⟨σ6,H6,I6,q6⟩=>?_)
  refine wpAny_passesOwn hp (cB (hb _ s6 σ6 H6 _ I6 q6) fun f s7 q7=>?_)
  have again:∀{σ7:St}{H7:Hp},Inv X (QTz++mY fp s5.heap) σ7 H7 s7->N σ7 H7->∃m,m<n/\∃i σ' H',Inv X QTz σ' H' s7/\tn i s7.heap/\(∀b∈fp,H' b=none)/\W i m σ' H':=fun{σ7 H7}I7 n7=>by
   obtain⟨m',hm,w7⟩:=hN σ7 H7 n7
   refine⟨m',hm,i+1,σ7,H7,I7.lB,T.keep _ _ _ st5 fun b hb o e=>(I7.pin (b,o) (QWz _ (QWz _ (iU hb e)))).1,fun b hb=>?_,w7⟩
   obtain⟨o,e,d⟩:=T.obj _ _ st5 b hb
   exact(I7.pin (b,o) (QWz _ (QWz _ (iU hb e)))).2.1
  cases f with
  |next=>obtain⟨σ7,H7,I7,n7⟩:=q7;exact again I7 n7
  |cont=>obtain⟨σ7,H7,I7,n7⟩:=q7;exact again I7 n7
  |brk=>obtain⟨σ7,H7,I7,q7⟩:=q7;exact⟨σ7,H7,I7.lB,q7⟩
  |ret v=>obtain⟨x7,σ7,H7,I7,r7,q7⟩:=q7;exact⟨x7,σ7,H7,I7.lB,r7,q7⟩
end
end L2
namespace L2
open PySem PySem.Spec PyProof.Rows
abbrev R2:=V->V->Hp->VK->Prop
def fW(X:Cx)(f:Value->Value->Sem Value)(r:R2):Prop:=
 ∀(QTz:QQz)(s:Shared)(σ:St)(H:Hp)(x y:V)(v u:Value)(Q:VK),Inv X QTz σ H s->RelV x v->RelV y u->r x y H Q->
  wpAny (model X.prog X.w) X.A (f v u) (EP X QTz σ Q) X.xe s
def UnR(X:Cx)(f:Value->Sem Value)(r:V->Hp->VK->Prop):Prop:=
 ∀(QTz:QQz)(s:Shared)(σ:St)(H:Hp)(x:V)(v:Value)(Q:VK),Inv X QTz σ H s->RelV x v->r x H Q->
  wpAny (model X.prog X.w) X.A (f v) (EP X QTz σ Q) X.xe s
def fK(X:Cx)(f:Value)(r:List V->Hp->VK->Prop):Prop:=
 ∀(QTz:QQz)(s:Shared)(σ:St)(H:Hp)(xs:List V)(us:List Value)(Q:VK),Inv X QTz σ H s->Vals xs us->r xs H Q->
  wpAny (model X.prog X.w) X.A (call f us) (EP X QTz σ Q) X.xe s
def aeM(X:Cx)(r:V->Hp->(Bool->Hp->Prop)->Prop):Prop:=
 ∀(QTz:QQz)(s:Shared)(σ:St)(H:Hp)(x:V)(v:Value)(Q:Bool->Hp->Prop),Inv X QTz σ H s->RelV x v->r x H Q->
  wpAny (model X.prog X.w) X.A (truthy v) (TP X QTz σ Q) X.xe s
def WP(r:R2)(ta tb:TE):TE:=fun σ H Q=>ta σ H fun x H1=>tb σ H1 fun y H2=>r x y H2 Q
def tUn(r:V->Hp->VK->Prop)(ta:TE):TE:=fun σ H Q=>ta σ H fun x H1=>r x H1 Q
def rI(C:Int->Int->Prop)(g:Int->Int->V):R2:=fun x y H Q=>∃i j,x=.int i/\y=.int j/\C i j/\Q (g i j) H
def Hr(g:Int->Int->V):R2:=fun x y H Q=>∃i j,x=.int i/\y=.int j/\Q (g i j) H
def rU(g:Int->V):V->Hp->VK->Prop:=fun x H Q=>∃i,x=.int i/\Q (g i) H
section
variable{X:Cx}{a b c:Expr}{ta tb tc:TE}{pos:Pos}
theorem Wb(ha:PE X a ta)(hb:PE X b tb){QTz:QQz}{s:Shared}{σ:St}{H:Hp}{R:V->V->Hp->Prop}(I:Inv X QTz σ H s)
  (h:ta σ H fun x H1=>tb σ H1 fun y H2=>R x y H2){Q:QZq}{f:Value->Value->Sem Value}
  (hf:∀v u s2 x y H2,Inv X QTz σ H2 s2->RelV x v->RelV y u->R x y H2->wpAny (model X.prog X.w) X.A (f v u) Q X.xe s2):
  wpAny (model X.prog X.w) X.A (eval a X.env) (fun v s₁=>wpAny (model X.prog X.w) X.A (eval b X.env) (fun u s₂=>wpAny (model X.prog X.w) X.A (f v u) Q X.xe s₂) X.xe s₁) X.xe s:=by
 refine cB (ha QTz s σ H _ I h) fun v s1⟨x,H1,I1,r1,q1⟩=>?_
 refine cB (hb QTz s1 σ H1 _ I1 q1) fun u s2⟨y,H2,I2,r2,q2⟩=>?_
 exact hf v u s2 x y H2 I2 r1 r2 q2
theorem tZ{op:Operator}{r:R2}(ho:fW X (binaryOp op) r)(ha:PE X a ta)(hb:PE X b tb):PE X (.BinOp a op b pos) (WP r ta tb):=by
 intro QTz s σ H Q I h
 exact wpAny_BinOp (Wb ha hb I h fun v u s2 x y H2 I2 rx ry q=>ho QTz s2 σ H2 x y v u Q I2 rx ry q)
theorem Zv{op:UnaryOp}{r:V->Hp->VK->Prop}(ho:UnR X (unaryOp op) r)(ha:PE X a ta):PE X (.UnaryOp op a pos) (tUn r ta):=by
 intro QTz s σ H Q I h
 exact UnaryOp_ (cB (ha QTz s σ H _ I h) fun v s1⟨x,H1,I1,r1,q1⟩=>ho QTz s1 σ H1 x v Q I1 r1 q1)
theorem opI{f:Value->Value->Sem Value}{C:Int->Int->Prop}{g:Int->Int->Int}
  (rule:∀(i j:Int)(t u:Tok)(s:Shared)(Q:QZq)(E:QZq),C i j->Q (.int (g i j) s.toks) {s with toks:=s.toks+1}->wpAny (model X.prog X.w) X.A (f (.int i t) (.int j u)) Q E s):
  fW X f (rI C fun i j=>.int (g i j)):=by
 intro QTz s σ H x y v u Q I rx ry h
 obtain⟨i,j,rfl,rfl,hc,q⟩:=h
 obtain⟨t,rfl⟩:=rx
 obtain⟨t',rfl⟩:=ry
 exact rule i j t t' s _ _ hc ⟨.int (g i j),H,I.tok _,⟨_,rfl⟩,q⟩
theorem ZM{f:Value->Value->Sem Value}{g:Int->Int->Int}
  (rule:∀(i j:Int)(t u:Tok)(s:Shared)(Q:QZq)(E:QZq),Q (.int (g i j) s.toks) {s with toks:=s.toks+1}->wpAny (model X.prog X.w) X.A (f (.int i t) (.int j u)) Q E s):
  fW X f (Hr fun i j=>.int (g i j)):=by
 intro QTz s σ H x y v u Q I rx ry h
 obtain⟨i,j,rfl,rfl,q⟩:=h
 obtain⟨t,rfl⟩:=rx
 obtain⟨t',rfl⟩:=ry
 exact rule i j t t' s _ _ ⟨.int (g i j),H,I.tok _,⟨_,rfl⟩,q⟩
theorem NP{f:Value->Value->Sem Value}{g:Int->Int->Bool}
  (rule:∀(i j:Int)(t u:Tok)(s:Shared)(Q:QZq)(E:QZq),Q (.bool (g i j)) s->wpAny (model X.prog X.w) X.A (f (.int i t) (.int j u)) Q E s):
  fW X f (Hr fun i j=>.bl (g i j)):=by
 intro QTz s σ H x y v u Q I rx ry h
 obtain⟨i,j,rfl,rfl,q⟩:=h
 obtain⟨t,rfl⟩:=rx
 obtain⟨t',rfl⟩:=ry
 exact rule i j t t' s _ _ ⟨.bl (g i j),H,I,rfl,q⟩
def abh(i j:Int):Prop:=0<j/\j<1073741824
def abg(i j:Int):Prop:=0<=j/\j<=1000000/\i.natAbs<2 ^64
def Qg(i j:Int):Prop:=(-(2 ^64)<i/\i<2 ^64)\/(-(2 ^64)<j/\j<2 ^64)
theorem Qg.ok{i j:Int}(h:Qg i j):IntMulOk i j:=by
 rcases h with ⟨h1,h2⟩|⟨h1,h2⟩
 ·exact .of_left (intBits_le_64 h1 h2)
 ·exact .of_right (intBits_le_64 h1 h2)
theorem Um:fW X (binaryOp .Add) (Hr fun i j=>.int (i+j)):=ZM fun _ _ _ _ _ _ _ q=>add_int q
theorem Uc:fW X (binaryOp .Sub) (Hr fun i j=>.int (i-j)):=ZM fun _ _ _ _ _ _ _ q=>sub_int q
theorem Ug:fW X (binaryOp .Mult) (rI Qg fun i j=>.int (i*j)):=opI fun _ _ _ _ _ _ _ hc q=>mul_int q hc.ok
theorem Nu:fW X (binaryOp .FloorDiv) (rI abh fun i j=>.int (i/j)):=opI fun i j _ _ _ _ _ hc q=>by
 have h1:(0:Int)<j:=hc.1
 have h2:j<1073741824:=hc.2
 exact floordiv_int (by omega) (by rw[Int.fdiv_eq_ediv_of_nonneg i (by omega)];exact q) (.inl (PyProof.noPylong_small (by omega)))
theorem Uh:fW X (binaryOp .Mod) (rI (fun _ j=>0<j) fun i j=>.int (i%j)):=opI fun i j _ _ _ _ _ hc q=>by
 have h1:(0:Int)<j:=hc
 exact mod_int' (by omega) (by rw[Int.fmod_eq_emod_of_nonneg i (by omega)];exact q)
theorem Ud:fW X (binaryOp .Pow) (rI abg fun i j=>.int (i ^j.toNat)):=opI fun _ _ _ _ _ _ _ hc q=>pow_int_small hc.1 hc.2.1 hc.2.2 q
theorem unI{f:Value->Sem Value}{g:Int->Int}
  (rule:∀(i:Int)(t:Tok)(s:Shared)(Q:QZq)(E:QZq),Q (.int (g i) s.toks) {s with toks:=s.toks+1}->wpAny (model X.prog X.w) X.A (f (.int i t)) Q E s):
  UnR X f (rU fun i=>.int (g i)):=by
 intro QTz s σ H x v Q I rx h
 obtain⟨i,rfl,q⟩:=h
 obtain⟨t,rfl⟩:=rx
 exact rule i t s _ _ ⟨.int (g i),H,I.tok _,⟨_,rfl⟩,q⟩
theorem Sq:UnR X (unaryOp .USub) (rU fun i=>.int (-i)):=unI fun _ _ _ _ _ q=>neg_int q
end
def Mr:V->V->Bool
 |.non,.non=>true|.non,.int _=>true|.int _,.non=>true|.non,.bl _=>true|.bl _,.non=>true|.non,.str _=>true|.str _,.non=>true
 |.int _,.int _=>true|.bl _,.bl _=>true|.str _,.str _=>true|.byt _,.byt _=>true
 |.int _,.str _=>true|.str _,.int _=>true|.bl _,.str _=>true|.str _,.bl _=>true
 |_,_=>false
def rEq:R2:=fun x y H Q=>Mr x y=true/\Q (.bl (decide (x=y))) H
def rNe:R2:=fun x y H Q=>Mr x y=true/\Q (.bl (!decide (x=y))) H
theorem Cw{i j:Int}:decide (V.int i=V.int j)=(i==j):=by
 rw[Bool.eq_iff_iff]
 simp
theorem J0{i j:Bool}:decide (V.bl i=V.bl j)=(i==j):=by
 rw[Bool.eq_iff_iff]
 simp
theorem Cu{i j:Str}:decide (V.str i=V.str j)=(i==j):=by
 rw[Bool.eq_iff_iff]
 simp
theorem Cy{i j:Array UInt8}:decide (V.byt i=V.byt j)=(i.toList==j.toList):=by
 rw[Bool.eq_iff_iff]
 cases i
 cases j
 simp
section
variable{X:Cx}{a b c:Expr}{ta tb tc:TE}{pos:Pos}
theorem bu{QTz:QQz}{σ:St}{H:Hp}{s:Shared}{Q:VK}{k k':Bool}(I:Inv X QTz σ H s)(q:Q (.bl k) H)(e:k=k'):EP X QTz σ Q (.bool k') s:=by
 subst e
 exact⟨.bl k,H,I,rfl,q⟩
theorem ZK:fW X (compareOp .Eq) rEq:=by
 intro QTz s σ H x y v u Q I rx ry h
 obtain⟨hs,q⟩:=h
 cases x with
 |non=>
  cases rx
  cases y with
  |non=>cases ry;exact PySem.EqNone.eq_none_none (bu I q (by simp))
  |bl j=>cases ry;exact PySem.EqNone.eq_none_bool (bu I q (by simp))
  |int j=>obtain⟨t',rfl⟩:=ry;exact PySem.EqNone.eq_none_int (bu I q (by simp))
  |str j=>obtain⟨t',rfl⟩:=ry;exact PySem.EqNone.eq_none_str (bu I q (by simp))
  |_=>exact absurd (show false=true from hs) Bool.false_ne_true
 |bl i=>
  cases rx
  cases y with
  |non=>cases ry;exact PySem.EqNone.eq_bool_none (bu I q (by simp))
  |bl j=>cases ry;exact eq_bool (bu I q J0)
  |str j=>obtain⟨t',rfl⟩:=ry;exact PySem.EqMixed.eq_bool_str (bu I q (by simp))
  |_=>exact absurd (show false=true from hs) Bool.false_ne_true
 |int i=>
  obtain⟨t,rfl⟩:=rx
  cases y with
  |non=>cases ry;exact PySem.EqNone.eq_int_none (bu I q (by simp))
  |int j=>obtain⟨t',rfl⟩:=ry;exact eq_int (bu I q Cw)
  |str j=>obtain⟨t',rfl⟩:=ry;exact PySem.EqMixed.eq_int_str (bu I q (by simp))
  |_=>exact absurd (show false=true from hs) Bool.false_ne_true
 |str i=>
  obtain⟨t,rfl⟩:=rx
  cases y with
  |non=>cases ry;exact PySem.EqNone.eq_str_none (bu I q (by simp))
  |bl j=>cases ry;exact PySem.EqMixed.eq_str_bool (bu I q (by simp))
  |int j=>obtain⟨t',rfl⟩:=ry;exact PySem.EqMixed.eq_str_int (bu I q (by simp))
  |str j=>obtain⟨t',rfl⟩:=ry;exact eq_str (bu I q Cu)
  |_=>exact absurd (show false=true from hs) Bool.false_ne_true
 |byt i=>
  obtain⟨t,rfl⟩:=rx
  cases y with
  |byt j=>obtain⟨t',rfl⟩:=ry;exact PySem.W.eq_bytes (bu I q Cy)
  |_=>exact absurd (show false=true from hs) Bool.false_ne_true
 |_=>cases y<;>exact absurd (show false=true from hs) Bool.false_ne_true
theorem ZC:fW X (compareOp .NotEq) rNe:=by
 intro QTz s σ H x y v u Q I rx ry h
 obtain⟨hs,q⟩:=h
 cases x with
 |non=>
  cases rx
  cases y with
  |non=>cases ry;exact PySem.EqNone.ne_none_none (bu I q (by simp))
  |bl j=>cases ry;exact PySem.EqNone.ne_none_bool (bu I q (by simp))
  |int j=>obtain⟨t',rfl⟩:=ry;exact PySem.EqNone.ne_none_int (bu I q (by simp))
  |str j=>obtain⟨t',rfl⟩:=ry;exact PySem.EqNone.ne_none_str (bu I q (by simp))
  |_=>exact absurd (show false=true from hs) Bool.false_ne_true
 |bl i=>
  cases rx
  cases y with
  |non=>cases ry;exact PySem.EqNone.ne_bool_none (bu I q (by simp))
  |bl j=>cases ry;exact ne_bool (bu I q (congrArg not J0))
  |str j=>obtain⟨t',rfl⟩:=ry;exact PySem.EqMixed.ne_bool_str (bu I q (by simp))
  |_=>exact absurd (show false=true from hs) Bool.false_ne_true
 |int i=>
  obtain⟨t,rfl⟩:=rx
  cases y with
  |non=>cases ry;exact PySem.EqNone.ne_int_none (bu I q (by simp))
  |int j=>obtain⟨t',rfl⟩:=ry;exact ne_int (bu I q (congrArg not Cw))
  |str j=>obtain⟨t',rfl⟩:=ry;exact PySem.EqMixed.ne_int_str (bu I q (by simp))
  |_=>exact absurd (show false=true from hs) Bool.false_ne_true
 |str i=>
  obtain⟨t,rfl⟩:=rx
  cases y with
  |non=>cases ry;exact PySem.EqNone.ne_str_none (bu I q (by simp))
  |bl j=>cases ry;exact PySem.EqMixed.ne_str_bool (bu I q (by simp))
  |int j=>obtain⟨t',rfl⟩:=ry;exact PySem.EqMixed.ne_str_int (bu I q (by simp))
  |str j=>obtain⟨t',rfl⟩:=ry;exact ne_str (bu I q (congrArg not Cu))
  |_=>exact absurd (show false=true from hs) Bool.false_ne_true
 |byt i=>
  obtain⟨t,rfl⟩:=rx
  cases y with
  |byt j=>obtain⟨t',rfl⟩:=ry;exact PySem.W.ne_bytes (bu I q (congrArg not Cy))
  |_=>exact absurd (show false=true from hs) Bool.false_ne_true
 |_=>cases y<;>exact absurd (show false=true from hs) Bool.false_ne_true
theorem ZD:fW X (compareOp .Lt) (Hr fun i j=>.bl (decide (i<j))):=NP fun _ _ _ _ _ _ _ q=>lt_int q
theorem ZF:fW X (compareOp .LtE) (Hr fun i j=>.bl (decide (i<=j))):=NP fun _ _ _ _ _ _ _ q=>le_int q
theorem ZG:fW X (compareOp .Gt) (Hr fun i j=>.bl (decide (j<i))):=NP fun _ _ _ _ _ _ _ q=>gt_int q
theorem ZJ:fW X (compareOp .GtE) (Hr fun i j=>.bl (decide (j<=i))):=NP fun _ _ _ _ _ _ _ q=>ge_int q
theorem Ed:fW X (compareOp .In) (fun x y H Q=>∃i j,x=.str i/\y=.str j/\Q (.bl (!(Builtin.Str.occurrences j i 0 j.length 1).isEmpty)) H):=by
 intro QTz s σ H x y v u Q I rx ry h
 obtain⟨i,j,rfl,rfl,q⟩:=h
 obtain⟨t,rfl⟩:=rx
 obtain⟨t',rfl⟩:=ry
 exact in_str (bu I q rfl)
theorem Uj:fW X (compareOp .Is) (fun x y H Q=>y=.non/\Q (.bl (decide (x=.non))) H):=by
 intro QTz s σ H x y v u Q I rx ry h
 obtain⟨rfl,q⟩:=h
 cases ry
 refine is_none_gen (bu I q ?_)
 cases x<;>first
  |(cases rx;rfl)
  |(obtain⟨t,rfl⟩:=rx;rfl)
theorem Nr:fW X (compareOp .IsNot) (fun x y H Q=>y=.non/\Q (.bl (!decide (x=.non))) H):=by
 intro QTz s σ H x y v u Q I rx ry h
 obtain⟨rfl,q⟩:=h
 cases ry
 refine isnot_none_gen (bu I q ?_)
 cases x<;>first
  |(cases rx;rfl)
  |(obtain⟨t,rfl⟩:=rx;rfl)
theorem fW.or{f:Value->Value->Sem Value}{r r':R2}(h:fW X f r)(h':fW X f r'):fW X f (fun x y H Q=>r x y H Q\/r' x y H Q):=by
 intro QTz s σ H x y v u Q I rx ry q
 rcases q with q|q
 ·exact h QTz s σ H x y v u Q I rx ry q
 ·exact h' QTz s σ H x y v u Q I rx ry q
theorem Nk{op:CmpOp}{r:R2}(ho:fW X (compareOp op) r)(ha:PE X a ta)(hb:PE X b tb)(hm:behindInMarks op b=false):PE X (.Compare a [op] [b] pos) (WP r ta tb):=by
 intro QTz s σ H Q I h
 exact wpAny_Compare1 (Wb ha hb I h fun v u s2 x y H2 I2 rx ry q=>ho QTz s2 σ H2 x y v u Q I2 rx ry q) hm
def Qx(t:TE):TT:=fun σ H Q=>t σ H fun x H'=>∃k,x=.bl k/\Q k H'
theorem M4{op:CmpOp}{r:R2}(ho:fW X (compareOp op) r)(ha:PE X a ta)(hb:PE X b tb)(hm:behindInMarks op b=false):PT X (.Compare a [op] [b] pos) (Qx (WP r ta tb)):=by
 intro QTz s σ H Q I h
 refine wpAny_isTrue_Compare1 (cB (ha QTz s σ H _ I h) fun v s1⟨x,H1,I1,r1,q1⟩=>cB (hb QTz s1 σ H1 _ I1 q1) fun u s2⟨y,H2,I2,r2,q2⟩=>
  cB (ho QTz s2 σ H2 x y v u _ I2 r1 r2 q2) fun c s3⟨z,H3,I3,r3,k,e,q3⟩=>?_) hm
 subst e
 cases r3
 exact wpAny_truthy_bool ⟨H3,I3,q3⟩
def yO(r r':R2)(ta tb tc:TE):TE:=fun σ H Q=>ta σ H fun x H1=>tb σ H1 fun y H2=>r x y H2 fun z H3=>∃k,z=.bl k/\
 (if k=true then tc σ H3 fun w' H4=>r' y w' H4 Q else Q (.bl false) H3)
theorem HW{op op':CmpOp}{r r':R2}(ho:fW X (compareOp op) r)(ho':fW X (compareOp op') r')(ha:PE X a ta)(hb:PE X b tb)(hc:PE X c tc)
  (hm:lastMarks [op,op'] [b,c]=false:=by with_unfolding_all rfl):PE X (.Compare a [op,op'] [b,c] pos) (yO r r' ta tb tc):=by
 intro QTz s σ H Q I h
 refine Compare_chain (cB (ha QTz s σ H _ I h) fun v s1⟨x,H1,I1,r1,q1⟩=>chain_link (cB (hb QTz s1 σ H1 _ I1 q1) fun u s2⟨y,H2,I2,r2,q2⟩=>
  cB (ho QTz s2 σ H2 x y v u _ I2 r1 r2 q2) fun d s3⟨z,H3,I3,r3,k,e,q3⟩=>?_)) hm
 subst e
 cases r3
 refine wpAny_truthy_bool ?_
 cases k with
 |false=>exact ite_ff ⟨.bl false,H3,I3,rfl,q3⟩
 |true=>exact ite_tt (chain_last (cB (hc QTz s3 σ H3 _ I3 q3) fun w' s4⟨z',H4,I4,r4,q4⟩=>ho' QTz s4 σ H4 y z' u w' Q I4 r2 r4 q4))
theorem Hu{op op':CmpOp}{r r':R2}(ho:fW X (compareOp op) r)(ho':fW X (compareOp op') r')(ha:PE X a ta)(hb:PE X b tb)(hc:PE X c tc)
  (hm:lastMarks [op,op'] [b,c]=false:=by with_unfolding_all rfl):PT X (.Compare a [op,op'] [b,c] pos) (Qx (yO r r' ta tb tc)):=by
 intro QTz s σ H Q I h
 refine isTrue_chain (cB (ha QTz s σ H _ I h) fun v s1⟨x,H1,I1,r1,q1⟩=>test_link (cB (hb QTz s1 σ H1 _ I1 q1) fun u s2⟨y,H2,I2,r2,q2⟩=>
  cB (ho QTz s2 σ H2 x y v u _ I2 r1 r2 q2) fun d s3⟨z,H3,I3,r3,k,e,q3⟩=>?_)) hm
 subst e
 cases r3
 refine wpAny_truthy_bool ?_
 cases k with
 |false=>
  obtain⟨k',e',q'⟩:=q3
  cases e'
  exact ite_ff ⟨H3,I3,q'⟩
 |true=>
  refine ite_tt (test_last (cB (hc QTz s3 σ H3 _ I3 q3) fun w' s4⟨z',H4,I4,r4,q4⟩=>cB (ho' QTz s4 σ H4 y z' u w' _ I4 r2 r4 q4) fun d' s5⟨z2,H5,I5,r5,k2,e2,q5⟩=>?_))
  subst e2
  cases r5
  exact wpAny_truthy_bool ⟨H5,I5,q5⟩
def KJ(K:QQq)(x:V)(H:Hp)(k:Bool):Prop:=
 match x with
 |.non=>k=false
 |.bl b=>k=b
 |.int i=>k=(i !=0)
 |.str y=>y.length<=sizeLine/\k=((y.length:Int) !=0)
 |.byt y=>y.size<=sizeLine/\k=((y.size:Int) !=0)
 |.ref p=>(∃xs,jK K H p xs/\k= !xs.isEmpty)\/(∃xs,jl K H p xs/\k= !xs.isEmpty)\/∃kvs,H p=some (.dK kvs)/\k= !kvs.isEmpty
 |_=>False
theorem zP{κ:Type}{kvs:List (κ×V)}{vs:List (κ×Value)}(r:KV kvs vs):(!vs.isEmpty)= !kvs.isEmpty:=by
 cases r<;>rfl
theorem qw{xs:List V}{its:List Value}(r:Vals xs its):(!its.toArray.isEmpty)= !xs.isEmpty:=by
 cases r<;>simp
theorem nq:(sizeLine:Nat)<2 ^63:=by rw[sizeLine_eq];decide
theorem GC:aeM X (fun x H Q=>∃k,KJ X.K x H k/\Q k H):=by
 intro QTz s σ H x v Q I rx h
 obtain⟨k,e,q⟩:=h
 have hl:=nq
 have hs:sizeLine=16777216:=sizeLine_eq
 cases x with
 |non=>
  cases rx
  have e':k=false:=e
  subst e'
  exact truthy_none ⟨H,I,q⟩
 |bl b=>
  cases rx
  have e':k=b:=e
  subst e'
  exact wpAny_truthy_bool ⟨H,I,q⟩
 |int i=>
  obtain⟨t,rfl⟩:=rx
  have e':k=(i !=0):=e
  subst e'
  exact PySem.P.truthy_int ⟨H,I,q⟩
 |str y=>
  obtain⟨t,rfl⟩:=rx
  obtain⟨hy,e'⟩:y.length<=sizeLine/\k=((y.length:Int) !=0):=e
  subst e'
  exact PySem.P.truthy_str (by omega) ⟨H,I.tok _,q⟩
 |byt y=>
  obtain⟨t,rfl⟩:=rx
  obtain⟨hy,e'⟩:y.size<=sizeLine/\k=((y.size:Int) !=0):=e
  subst e'
  exact PySem.W.truthy_bytes (by omega) ⟨H,I.tok _,q⟩
 |ref p=>
  cases rx
  have e':(∃xs,jK X.K H p xs/\k= !xs.isEmpty)\/(∃xs,jl X.K H p xs/\k= !xs.isEmpty)\/∃kvs,H p=some (.dK kvs)/\k= !kvs.isEmpty:=e
  rcases e' with ⟨xs,hx,e'⟩|⟨xs,hx,e'⟩|⟨kvs,hx,e'⟩
  ·subst e'
   obtain⟨its,r,pl,hz⟩:=I.list hx
   have hlen:=r.length
   exact wpAny_truthy_list pl.isList (by simp only[List.size_toArray];omega) ⟨H,I.tok _,by rw[qw r];exact q⟩
  ·subst e'
   obtain⟨its,r,pl,hz⟩:=I.tuple hx
   have hlen:=r.length
   exact truthy_tuple pl (by simp only[List.size_toArray];omega) ⟨H,I.tok _,by rw[qw r];exact q⟩
  ·subst e'
   obtain⟨hz,hS,vs,r,m⟩:kvs.length<=sizeLine/\(p==sysModules)=false/\∃vs,KV kvs vs/\s.heap.DictOf (bO X.prog X.w) p vs:=I.hok p _ hx
   have hlen:kvs.length=vs.length:=Paired.length r
   exact wpAny_truthy_dict hS m (by omega) ⟨H,I.tok _,by rw[zP r];exact q⟩
 |_=>exact(show False from e).elim
theorem Ht(ha:PE X a ta)(he:∀whole,isTrue a X.env whole=(do let v<-whole;standAt a.pos;holding [v] (truthy v))):
  PT X a (fun σ H Q=>ta σ H fun x H'=>∃k,KJ X.K x H' k/\Q k H'):=by
 intro QTz s σ H Q I h
 exact isTrue_plain (cB (ha QTz s σ H _ I h) fun v s1⟨x,H1,I1,r1,q1⟩=>GC QTz s1 σ H1 x v Q I1 r1 q1) (he _)
theorem vals1{x:V}{us:List Value}(r:Vals [x] us):∃u,us=[u]/\RelV x u:=by
 cases r with
 |cons r1 r2=>cases r2;exact⟨_,rfl,r1⟩
theorem uK:fK X (.type "int") (fun xs H Q=>(∃i,xs=[.int i]/\Q (.int i) H)\/∃k,xs=[.bl k]/\Q (.int (if k then 1 else 0)) H):=by
 intro QTz s σ H xs us Q I r h
 rcases h with ⟨i,rfl,q⟩|⟨k,rfl,q⟩
 ·obtain⟨u,rfl,t,rfl⟩:=vals1 r
  exact call_int_int ⟨.int i,H,I,⟨_,rfl⟩,q⟩
 ·obtain⟨u,rfl,r1⟩:=vals1 r
  cases r1
  exact call_int_bool ⟨.int (if k then 1 else 0),H,I.tok _,⟨_,rfl⟩,q⟩
def Wm(K:QQq)(x:V)(H:Hp)(n:Nat):Prop:=
 match x with
 |.str y=>y.length<=sizeLine/\n=y.length
 |.byt y=>y.size<=sizeLine/\n=y.size
 |.ref p=>(∃xs,jK K H p xs/\n=xs.length)\/∃xs,jl K H p xs/\n=xs.length
 |_=>False
theorem J9:fK X (.builtin "len") (fun xs H Q=>∃x n,xs=[x]/\Wm X.K x H n/\Q (.int n) H):=by
 intro QTz s σ H xs us Q I r h
 obtain⟨x,n,rfl,e,q⟩:=h
 obtain⟨u,rfl,rx⟩:=vals1 r
 have hl:=nq
 have hs:sizeLine=16777216:=sizeLine_eq
 cases x with
 |str y=>
  obtain⟨t,rfl⟩:=rx
  obtain⟨hy,e'⟩:y.length<=sizeLine/\n=y.length:=e
  subst e'
  exact len_str (by omega) ⟨.int _,H,I.tok _,⟨_,rfl⟩,q⟩
 |byt y=>
  obtain⟨t,rfl⟩:=rx
  obtain⟨hy,e'⟩:y.size<=sizeLine/\n=y.size:=e
  subst e'
  exact PySem.W.len_bytes (by omega) ⟨.int _,H,I.tok _,⟨_,rfl⟩,q⟩
 |ref p=>
  cases rx
  have e':(∃xs,jK X.K H p xs/\n=xs.length)\/∃xs,jl X.K H p xs/\n=xs.length:=e
  rcases e' with ⟨xs,hx,e'⟩|⟨xs,hx,e'⟩
  ·subst e'
   obtain⟨its,r',pl,hz⟩:=I.list hx
   have hlen:=r'.length
   exact Calls.call_len_list pl.isList (by simp only[List.size_toArray];omega) ⟨.int xs.length,H,I.tok _,⟨_,by simp only[List.size_toArray];rw[hlen]⟩,q⟩
  ·subst e'
   obtain⟨its,r',pl,hz⟩:=I.tuple hx
   have hlen:=r'.length
   exact len_tuple pl (by simp only[List.size_toArray];omega) ⟨.int xs.length,H,I.tok _,⟨_,by simp only[List.size_toArray];rw[hlen]⟩,q⟩
 |_=>exact(show False from e).elim
end
end L2
namespace L2
open PySem PySem.Spec PyProof.Rows
section
variable{prog:Program}{w:World}{A:Around}{E:QZq}{s:Shared}{K:QQq}{x dx C f:Addr}{mA:QZz}{name:Str}{v:Value}
end
theorem oW.some_of{v:V}{o:Option Value}(r:oW (some v) o):∃u,o=some u/\RelV v u:=by
 cases o with
 |none=>exact(show False from r).elim
 |some u=>exact⟨u,rfl,r⟩
section
variable{P:Program}{w:World}{H H':Hp}{h h':Heap}{a C dx:Addr}{fs fs':List (Str×V)}
end
section
variable{X:Cx}{QTz:QQz}{σ:St}{H:Hp}{s:Shared}{a C dx:Addr}{fs:List (Str×V)}{f:Str}{v:V}{A:Around}{E:QZq}
end
section
variable{X:Cx}{o e value:Expr}{f:Str}{pos pos' tpos:Pos}{ta tv:TE}
end
section
variable{X:Cx}{QTz:QQz}{σ:St}{H:Hp}{s:Shared}{A:Around}{E:QZq}{Q:QZq}{c:Value}{b:Bool}
end
end L2
namespace L2
open PySem PySem.Spec PyProof.Rows
structure gY(k:Nat)(A:Around):Prop where
 hd:A.handled=none
 dp:A.depth+3*k+5<recursionLimit
 un:A.units+16*k+200<cLine
theorem gY.deeper{k:Nat}{A:Around}(r:gY (k+1) A)(env:Env):gY k (A.deeper env):=
 ⟨r.hd,by have:=r.dp;show A.depth+1+3*k+5<_;omega,by have:=r.un;show A.units+3+16*k+200<_;omega⟩
theorem gY.in1{k:Nat}{A:Around}(r:gY (k+1) A):gY k A.in1:=
 ⟨r.hd,by have:=r.dp;show A.depth+3*k+5<_;omega,by have:=r.un;show A.units+1+16*k+200<_;omega⟩
theorem gY.depth{k:Nat}{A:Around}(r:gY k A):A.depth<recursionLimit:=by have:=r.dp;omega
def Yr:TA:=fun _ H Q=>Q [] H
def GZ(ta:TE)(tr:TA):TA:=fun σ H Q=>ta σ H fun x H1=>tr σ H1 fun xs H2=>Q (x::xs) H2
section
variable{X:Cx}{e:Expr}{es:List Expr}{te:TE}{t:TA}{pos:Pos}
theorem dg:PA X [] Yr:=fun _ _ _ _ H Q I h=>Calls.spliced_nil ⟨[],H,I,.nil,h⟩
theorem bI(ha:PE X e te)(hr:PA X es t)(hs:starEach (e::es) X.env=(false,eval e X.env)::starEach es X.env:=by rfl):PA X (e::es) (GZ te t):=by
 intro pos QTz s σ H Q I h
 rw[hs]
 show wpAny _ _ (spliced ((false,eval e X.env)::backTo pos (starEach es X.env))) _ _ s
 refine Calls.spliced_cons (cB (ha QTz s σ H _ I h) fun u s1⟨x,H1,I1,r1,q1⟩=>?_)
 exact cB (hr pos QTz s1 σ H1 _ I1 q1) fun us s2⟨xs,H2,I2,r2,q2⟩=>⟨x::xs,H2,I2,.cons r1 r2,q2⟩
def acQ(t:TA):TE:=fun σ H Q=>t σ H fun xs H1=>xs.length<=sizeLine/\∀p,H1 p=none->Q (.ref p) (upd H1 p (.tup xs))
def acT(t:TA):TE:=fun σ H Q=>t σ H fun xs H1=>xs.length<=sizeLine/\∀p,H1 p=none->Q (.ref p) (upd H1 p (.lst xs))
theorem T8{x1}(h:PA X es t):PE X (.Tuple es x1 pos) (acQ t):=by
 intro QTz s σ H Q I hq
 refine wpAny_Tuple_spliced (cB (h pos QTz s σ H _ I hq) fun us s1⟨xs,H1,I1,r,z,q⟩=>⟨by rw[<-r.length];exact z,?_⟩)
 have hf:H1 s1.heap.objs.size=none:=I1.hok.fresh (QVq _)
 refine⟨.ref s1.heap.objs.size,upd H1 s1.heap.objs.size (.tup xs),I1.laid (t':=s1.toks) (fun b u e=>QXz _ e) (QVq _) ?_,rfl,q _ hf⟩
 exact⟨z,us,r,TupOk.new _ _⟩
theorem HJ(h:PA X es t):PE X (.List es pos) (acT t):=by
 intro QTz s σ H Q I hq
 refine wpAny_List_spliced (cB (h pos QTz s σ H _ I hq) fun us s1⟨xs,H1,I1,r,z,q⟩=>⟨by rw[<-r.length];exact z,?_⟩)
 have hf:H1 s1.heap.objs.size=none:=I1.hok.fresh (QVq _)
 refine⟨.ref s1.heap.objs.size,upd H1 s1.heap.objs.size (.lst xs),I1.laid (t':=s1.toks) (fun b u e=>QXz _ e) (QVq _) ?_,rfl,q _ hf⟩
 exact⟨z,us,0,r,Heap.get?_push_size _ rfl⟩
end
abbrev Sp:=List V->Hp->VK->XK->Prop
abbrev Aq:=List Env->Hp->Shared->XK->Value->Shared->Prop
structure Am(P:Program)(w:World)(K:QQq)(mg:QZz)(base:Heap)(A:Around)(outer:List Env)(s:Shared)(H:Hp):Prop where
 frames:A.frames=some outer
 mod:Mod K mg base
 bs:∀b o,base.get? b=some o->s.heap.get? b=some o/\H b=none
 bsz:base.objs.size<=s.heap.objs.size
 j4:s.heap.FunFrames base outer
 frf:∀b∈frs outer,H b=none
 hok:ju P w H s.heap
 bare:AllBare s.gens
def CE(outer:List Env)(P:Program)(w:World)(H:Hp)(s:Shared)(Q:VK)(u:Value)(s':Shared):Prop:=
 ∃v H',s'.os=s.os/\AllBare s'.gens/\Un (frs outer) [] H H' s.heap s'.heap/\ju P w H' s'.heap/\RelV v u/\Q v H'
def CR(CX:Aq)(outer:List Env)(P:Program)(w:World)(H:Hp)(s:Shared)(Q:VK)(E:XK)(r:Result)(s':Shared):Prop:=
 match r with
 |.ok (.ret u)=>CE outer P w H s Q u s'
 |.ok _=>False
 |.error e=>CX outer H s E e s'
structure gm(P:Program)(w:World)(K:QQq)(mg:QZz)(base:Heap)(CX:Aq)(k:Nat)(f:Addr)(fd:FuncData)(ps:List Str)(sp:Sp):Prop where
 len:∀vs H Q E,sp vs H Q E->vs.length=ps.length
 run:∀(A:Around)(outer:List Env)(s:Shared)(H:Hp)(args:Args)(us:List Value)(vs:List V)(Q:VK)(E:XK),gY k A->Am P w K mg base A outer s H->BindsTo s fd args (ps.zip us)->Vals vs us->sp vs H Q E->
  codeAny (model P w) A (.call (.ref f) args) (CR CX outer P w H s Q E) s
theorem Am.in1{P:Program}{w:World}{K:QQq}{mg:QZz}{base:Heap}{A:Around}{outer:List Env}{s:Shared}{H:Hp}(e:Am P w K mg base A outer s H):
  Am P w K mg base A.in1 outer s H:=⟨e.frames,e.mod,e.bs,e.bsz,e.j4,e.frf,e.hok,e.bare⟩
section
variable{X:Cx}{QTz:QQz}{σ:St}{H:Hp}{s s':Shared}
theorem Inv.env0(I:Inv X QTz σ H s):Am X.prog X.w X.K X.mg X.base X.A X.stack s H:=
 ⟨I.ok.frames,I.ok.mod,I.bs,Nat.le_trans I.ok.bsz I.sz,I.stack,I.oX,I.hok,I.bare⟩
theorem Inv.after{Q:VK}{u:Value}(I:Inv X QTz σ H s)(h:CE X.stack X.prog X.w H s Q u s'):EP X QTz σ Q u s':=by
 obtain⟨v,H',os,bare,un,hok,r,q⟩:=h
 obtain⟨hh,g,d,t,os'⟩:=s'
 obtain rfl:os'=s.os:=os
 exact⟨v,H',I.call (h':=hh) (g':=g) (d':=d) (t':=t) (ch:=[]) un hok bare (fun b z=>absurd z (by simp)),r,q⟩
end
def Yw(sp:Sp)(dvs:List V)(E:XK)(t:TA):TE:=fun σ H Q=>t σ H fun vs H1=>sp (vs++dvs) H1 Q E
def Binds(K:QQq)(fd:FuncData)(ps:List Str)(ds:List Value):Prop:=
 ∀(s:Shared)(us:List Value),K.In s.heap->(us++ds).length=ps.length->BindsTo s fd ⟨us,[]⟩ (ps.zip (us++ds))
theorem Binds.all{K:QQq}{fd:FuncData}{ps:List Str}(h:∀us:List Value,us.length=ps.length->bindArgs fd ⟨us,[]⟩=pure (ps.zip us)):Binds K fd ps []:=fun s us _ hl=>by
 rw[List.append_nil]at hl⊢
 exact .of_eq (h us hl)
def Ai(CX:Aq)(X:Cx)(E:XK):Prop:=∀(QTz:QQz)(σ:St)(H:Hp)(s:Shared)(e:Value)(s':Shared),Inv X QTz σ H s->CX X.stack H s E e s'->X.xe e s'
section
variable{X:Cx}{CX:Aq}{k:Nat}{f C:Addr}{fd:FuncData}{ps:List Str}{sp:Sp}{dvs:List V}{ds:List Value}{E:XK}{x m:Str}{p pos apos:Pos}{e o:Expr}{es:List Expr}{ta:TE}{t:TA}
theorem Tp{QTz:QQz}{σ:St}{H:Hp}{s:Shared}{Q:VK}{us:List Value}{vs:List V}(F:gm X.prog X.w X.K X.mg X.base CX k f fd ps sp)(hr:gY k X.A)(hb:Binds X.K fd ps ds)(hd:Vals dvs ds)(hx:Ai CX X E)
  (I:Inv X QTz σ H s)(r:Vals vs us)(h:sp (vs++dvs) H Q E):wpAny (model X.prog X.w) X.A (call (.ref f) us) (EP X QTz σ Q) X.xe s:=by
 have r2:Vals (vs++dvs) (us++ds):=r.append hd
 have hl:(us++ds).length=ps.length:=by rw[<-r2.length];exact F.len _ _ _ _ h
 refine wpAny_call (codeAny_mono (F.run X.A X.stack s H ⟨us,[]⟩ (us++ds) (vs++dvs) Q E hr I.env0 (hb s us I.zM hl) r2 h) fun r s' hq=>?_)
 cases r with
 |error e=>exact hx QTz σ H s e s' I hq
 |ok fl=>
  cases fl with
  |ret u=>exact I.after hq
  |next=>exact False.elim hq
  |brk=>exact False.elim hq
  |cont=>exact False.elim hq
theorem Nm(F:gm X.prog X.w X.K X.mg X.base CX k f fd ps sp)(hr:gY k X.A)(hg:Gl X x)(hm:X.mg x=some (.ref f))(hk:PySem.W.keepIn X.K (.ref f)=true)(hb:Binds X.K fd ps ds)(hd:Vals dvs ds)(hx:Ai CX X E)
  (ha:PA X (e::es) t)(hdb:(x==("__debug__":Str))=false:=by decide)(he:starEach (e::es) X.env=(false,eval e X.env)::starEach es X.env:=by rfl)(hpl:(backTo pos (starEach es X.env)).any (·.1)=false:=by rfl):
  PE X (.Call (.Name x p) (e::es) [] pos) (Yw sp dvs E t):=by
 intro QTz s σ H Q I h
 refine wpAny_Call_Name_kw (jT I hg hm ?_ hdb)
 refine PySem.W.callWith_K (h₀:=X.base) I.ok.mod.kin hk (cB (ha pos QTz s σ H _ I h) fun us s1⟨vs,H1,I1,r,q⟩=>⟨I1.zM,?_⟩) he hpl
 exact Tp F hr hb hd hx I1 r q
end
section
variable{X:Cx}{CX:Aq}{k:Nat}{f C:Addr}{fd:FuncData}{ps ks:List Str}{sp:Sp}{E:XK}{x m:Str}{p pos apos kpos:Pos}{e o:Expr}{es:List Expr}{kws:List Keyword}{te ta:TE}{t tk:TA}{nm:Option Str}
variable{g:List Value->List Value->List Value}{gV:List V->List V->List V}
end
structure eG(N P:List Str)(sc:Scope):Prop where
 kind:sc.kind=.function
 co:sc.isCoroutine=false
 gen:sc.isGenerator=false
 nd:N.Nodup
 pre:N.take P.length=P
 par:∀x∈P,sc.names.lookup x=some .local\/sc.names.lookup x=some .cell
 nofree:∀y∈sc.names,y.2≠ .free
theorem uM{kindOf:Str->Option NameKind}{x:Str}:∀{binds:List (Str×Value)}{m:QZz},(∀v,(x,v)∉binds)->bindL kindOf binds m x=m x
 |[],_,_=>rfl
 |(n,v)::r,m,h=>by
  unfold bindL
  rw[uM fun w hw=>h w (QYq _ hw)]
  split
  ·have:x≠n:=by rintro rfl;exact h v QYz
   simp[this]
  ·rfl
theorem uO{kindOf:Str->Option NameKind}{x:Str}:∀{binds:List (Str×Value)}{m:QZz},(∀v,(x,v)∉binds)->bindC kindOf binds m x=m x
 |[],_,_=>rfl
 |(n,v)::r,m,h=>by
  unfold bindC
  rw[uO fun w hw=>h w (QYq _ hw)]
  split
  ·rfl
  ·have:x≠n:=by rintro rfl;exact h v QYz
   simp[this]
theorem uN{kindOf:Str->Option NameKind}{x:Str}{v:Value}:∀{P:List Str}{vs:List Value}{i:Nat}{m:QZz},P.Nodup->P[i]? =some x->vs[i]? =some v->kindOf x=some .local->
  bindL kindOf (P.zip vs) m x=some v
 |[],_,_,_,_,h,_,_=>by simp at h
 |_::_,[],_,_,_,_,h,_=>by simp at h
 |p::P,w::vs,0,m,nd,h1,h2,hk=>by
  simp at h1 h2;subst h1;subst h2
  show bindL kindOf ((p,w)::P.zip vs) m p=_
  unfold bindL
  rw[uM fun v hv=>(List.nodup_cons.mp nd).1 (List.of_mem_zip hv).1,if_pos hk]
  simp
 |p::P,w::vs,i+1,m,nd,h1,h2,hk=>by
  show bindL kindOf ((p,w)::P.zip vs) m x=_
  unfold bindL
  exact uN (i:=i) (List.nodup_cons.mp nd).2 (by simpa using h1) (by simpa using h2) hk
theorem uP{kindOf:Str->Option NameKind}{x:Str}{v:Value}:∀{P:List Str}{vs:List Value}{i:Nat}{m:QZz},P.Nodup->P[i]? =some x->vs[i]? =some v->kindOf x≠some .local->
  bindC kindOf (P.zip vs) m x=some v
 |[],_,_,_,_,h,_,_=>by simp at h
 |_::_,[],_,_,_,_,h,_=>by simp at h
 |p::P,w::vs,0,m,nd,h1,h2,hk=>by
  simp at h1 h2;subst h1;subst h2
  show bindC kindOf ((p,w)::P.zip vs) m p=_
  unfold bindC
  rw[uO fun v hv=>(List.nodup_cons.mp nd).1 (List.of_mem_zip hv).1,if_neg hk]
  simp
 |p::P,w::vs,i+1,m,nd,h1,h2,hk=>by
  show bindC kindOf ((p,w)::P.zip vs) m x=_
  unfold bindC
  exact uP (i:=i) (List.nodup_cons.mp nd).2 (by simpa using h1) (by simpa using h2) hk
def start(N:List Str)(vs:List V):St:=vs.map some++List.replicate (N.length-vs.length) none
def iD(CX:Aq)(P:Program)(w:World)(K:QQq)(mg:QZz)(base:Heap)(N:List Str)(qual:Str)(scope:Scope)(f:Addr)(cd:Value)(A:Around)(outer:List Env)(s:Shared)(H:Hp)(E:XK):Cx where
 prog:=P
 w:=w
 K:=K
 mg:=mg
 base:=base
 A:=A.deeper (envOfC qual scope s.heap.objs.size f cd)
 N:=N
 s₀:=s
 H₀:=H
 env:=envOfC qual scope s.heap.objs.size f cd
 outer:=outer
 stack:=envOfC qual scope s.heap.objs.size f cd::outer
 ex:=[]
 calm:=true
 fn:=fun _=>true
 pn:=[]
 xe:=fun e s'=>wpAny (model P w) (A.deeper (envOfC qual scope s.heap.objs.size f cd)) (leaving (envOfC qual scope s.heap.objs.size f cd) e) (fun _ s''=>CX outer H s E e s'') (fun e' s''=>CX outer H s E e' s'') s'
theorem yt{sc:Scope}{n:Nat}{x:Str}(h:sc.names.lookup x=some .cell):∃c,(cellsFrom n sc.names []).lookup x=some c:=by
 have q:=PySem.W.cellsFrom_some sc.names n [] (.inl h)
 exact Option.isSome_iff_exists.mp q
theorem Fb{CX:Aq}{P:Program}{w:World}{K:QQq}{mg:QZz}{base:Heap}{N ps:List Str}{qual:Str}{scope:Scope}{f:Addr}{cd:Value}{A:Around}{outer:List Env}{s s1:Shared}{H:Hp}{E:XK}{us:List Value}{vs:List V}
  (S:eG N ps scope)(hd:A.handled=none)(e0:Am P w K mg base A outer s H)(hl:vs.length=ps.length)(r:Vals vs us)
  (x:InCallC s s.heap.objs.size (bindL (envOfC qual scope s.heap.objs.size f cd).kindOf (ps.zip us) fun _=>none) (cellsFrom (s.heap.objs.size+1) scope.names []) (bindC (envOfC qual scope s.heap.objs.size f cd).kindOf (ps.zip us) fun _=>none) s1):
  Inv (iD CX P w K mg base N qual scope f cd A outer s H E) [] (start N vs) H s1:=by
 have hpl:ps.length<=N.length:=by have:=congrArg List.length S.pre;rw[List.length_take]at this;omega
 obtain⟨h1,tk,rfl,hk⟩:=x.done
 have noA:∀b:Addr,b∉(iD CX P w K mg base N qual scope f cd A outer s H E).ex:=fun b z=>absurd (show b∈([]:List Addr)from z) (by simp)
 refine⟨⟨e0.mod,S.kind,rfl,rfl,QVq _,fun y z c h1 h2=>?_,fun y hy=>?_,fun y c _ h=>?_,fun _=>hd,Around.frames_deeper e0.frames,.inr ⟨rfl,rfl⟩,fun b z=>absurd z (noA b),e0.bs,e0.bsz,fun b _ _=>noA b,fun b z=>absurd z (noA b),e0.j4,e0.frf⟩,
  rfl,e0.bare,Un.kept hk,⟨_,x.toInCall.ns,fun i y v h1 h2 h3=>?_⟩,fun y c h=>⟨_,x.cell y c h⟩,e0.hok.fresh (QVq _),fun y c h=>?_,fun p hp=>absurd (show p∈([]:QQz)from hp) (by simp),e0.hok.kept hk,?_⟩
 ·exact name_of_addr x.apart (PySem.mem_of_lookup h1) (PySem.mem_of_lookup h2)
 ·have hy:scope.names.lookup y=some .cell\/scope.names.lookup y=some .free:=hy
  rcases hy with hy|hy
  ·exact yt hy
  ·exact absurd rfl (S.nofree _ (PySem.mem_of_lookup hy))
 ·exact Nat.le_of_lt (x.above y c (PySem.mem_of_lookup h))
 ·have hi:i<vs.length:=by
   unfold start at h2
   by_cases hi:i<vs.length
   ·exact hi
   ·rw[List.getElem?_append_right (by simpa using hi)]at h2
    rw[List.getElem?_replicate]at h2
    split at h2<;>cases h2
  have ha:vs[i]? =some v:=by
   unfold start at h2
   rw[List.getElem?_append_left (by simpa using hi),List.getElem?_map]at h2
   cases e:vs[i]? with
   |none=>rw[e]at h2;cases h2
   |some a=>rw[e]at h2;cases h2;rfl
  obtain⟨u,hu,rv⟩:=r.get ha
  have hp:ps[i]? =some y:=by
   rw[<-S.pre,List.getElem?_take_of_lt (by omega)];exact h1
  have ndP:ps.Nodup:=by rw[<-S.pre];exact S.nd.sublist (List.take_sublist _ _)
  refine⟨u,rv,?_⟩
  rcases S.par y (List.mem_of_getElem? hp)with k|k
  ·exact .inl ⟨k,uN ndP hp hu k⟩
  ·obtain⟨c,e⟩:=yt (n:=s.heap.objs.size+1) k
   refine .inr ⟨.inl k,c,e,?_⟩
   have q:=x.cell y c e
   rw[uP ndP hp hu (by show scope.names.lookup y≠_;rw[k];decide)]at q
   exact q
 ·exact e0.hok.fresh (Nat.le_of_lt (x.above y c (PySem.mem_of_lookup h)))
 ·unfold start
  show _=N.length
  rw[QUz,List.length_map,List.length_replicate]
  omega
theorem Rn{CX:Aq}{P:Program}{w:World}{K:QQq}{mg:QZz}{base:Heap}{k:Nat}{f:Addr}{name qual:Str}{params:Arguments}{body:List Stmt}{scope:Scope}{dV kV doc pm cdv ct oc:Value}{an od:Option Addr}
  {osl:Array (Option Value)}{N ps:List Str}{sp:Sp}(lk:K.lookup f=some ⟨oc,od,.func (PySem.W.fnOf name qual params body scope dV kV doc pm an cdv ct),osl⟩)(hcd:PySem.W.codeIn K cdv qual=true)(S:eG N ps scope)
  (len:∀vs H Q E,sp vs H Q E->vs.length=ps.length)
  (hbody:∀(A:Around)(outer:List Env)(s:Shared)(H:Hp)(vs:List V)(Q:VK)(E:XK),gY k (A.deeper (envOfC qual scope s.heap.objs.size f cdv))->sp vs H Q E->
   ∃t,uY (iD CX P w K mg base N qual scope f cdv A outer s H E) body t/\t {nx:=fun _ H'=>Q .non H',rt:=Q} (start N vs) H):
  gm P w K mg base CX (k+1) f (PySem.W.fnOf name qual params body scope dV kV doc pm an cdv ct) ps sp:=by
 refine⟨len,fun A outer s H args us vs Q E hr e0 hb r hsp=>?_⟩
 have hl:=len _ _ _ _ hsp
 have KX:K.In s.heap:=e0.mod.kin.keeps fun b o e=>(e0.bs b o e).1
 have lim:s.heap.NoLimit:=e0.mod.nolimit.keeps fun b o e=>(e0.bs b o e).1
 have hkind:∀y∈ps.zip us,scope.names.lookup y.1=some .local\/(scope.names.lookup y.1=some .cell/\((cellsFrom (s.heap.objs.size+1) scope.names []).lookup y.1).isSome=true):=fun⟨n,v⟩hy=>by
  rcases S.par n (List.of_mem_zip hy).1 with q|q
  ·exact .inl q
  ·exact .inr ⟨q,PySem.W.cellsFrom_some _ _ _ (.inl q)⟩
 refine codeAny_call_function hr.depth (KX _ _ lk) rfl S.co S.gen rfl (PySem.W.codeRec_of KX hcd) (hb _ _ _ _ ?_)
 refine wpAny_newFunctionEnv_cells S.kind hkind fun env he s1 x=>?_
 subst he
 refine⟨lim.keeps x.toInCall.keep,codeAny_func ?_⟩
 obtain⟨t,ht,hq⟩:=hbody A outer s H vs Q E (hr.deeper _) hsp
 have I:Inv (iD CX P w K mg base N qual scope f cdv A outer s H E) [] (start N vs) H s1:=Fb S hr.hd e0 hl r x
 refine wpAny_mono (ht [] s1 (start N vs) H _ I hq) (fun fl s' hs=>?_) fun e s' hs=>hs
 have fin:∀{σ':St}{H':Hp}{v:V}{u:Value},Inv (iD CX P w K mg base N qual scope f cdv A outer s H E) [] σ' H' s'->RelV v u->Q v H'->CE outer P w H s Q u s':=
  fun{σ' H' v u}J rv q=>⟨v,H',J.os,J.bare,J.base,J.hok,rv,q⟩
 cases fl with
 |ret u=>
  obtain⟨v,σ',H',J,rv,q⟩:=hs
  exact fin J rv q
 |next=>
  obtain⟨σ',H',J,q⟩:=hs
  exact fin (v:=V.non) (u:=Value.none) J rfl q
 |brk=>
  obtain⟨_,_,_,q⟩:=hs
  exact False.elim q
 |cont=>
  obtain⟨_,_,_,q⟩:=hs
  exact False.elim q
end L2
namespace L2
open PySem PySem.Spec PyProof.Rows
section
variable{X:Cx}{x:Str}{p pos:Pos}{e:Expr}{es:List Expr}{t:TA}{id T:String}{r:List V->Hp->VK->Prop}
def tCB(r:List V->Hp->VK->Prop)(t:TA):TE:=fun σ H Q=>t σ H fun vs H1=>r vs H1 Q
theorem jB(hc:fK X (.builtin id) r)(hg:Gl X x)(hm:X.mg x=none)(hv:bootBuiltins x=some (.builtin id))(ha:PA X (e::es) t)(hn:x≠"__name__":=by decide)(hdb:(x==("__debug__":Str))=false:=by decide)
  (he:starEach (e::es) X.env=(false,eval e X.env)::starEach es X.env:=by rfl)(hpl:(backTo pos (starEach es X.env)).any (·.1)=false:=by rfl):PE X (.Call (.Name x p) (e::es) [] pos) (tCB r t):=by
 intro QTz s σ H Q I h
 refine wpAny_Call_Name_kw (jD I hg hm hv ?_ hn hdb)
 exact PyProof.Rows.callWith_builtin1 (cB (ha pos QTz s σ H _ I h) fun us s1⟨vs,H1,I1,r1,q1⟩=>hc QTz s1 σ H1 vs us Q I1 r1 q1) he hpl
theorem jN(hc:fK X (.type T) r)(hg:Gl X x)(hm:X.mg x=none)(hv:bootBuiltins x=some (.type T))(ha:PA X (e::es) t)(hn:x≠"__name__":=by decide)(hdb:(x==("__debug__":Str))=false:=by decide)
  (he:starEach (e::es) X.env=(false,eval e X.env)::starEach es X.env:=by rfl)(hpl:(backTo pos (starEach es X.env)).any (·.1)=false:=by rfl):PE X (.Call (.Name x p) (e::es) [] pos) (tCB r t):=by
 intro QTz s σ H Q I h
 refine wpAny_Call_Name_kw (jD I hg hm hv ?_ hn hdb)
 exact PyProof.Rows.callWith_type1 (cB (ha pos QTz s σ H _ I h) fun us s1⟨vs,H1,I1,r1,q1⟩=>hc QTz s1 σ H1 vs us Q I1 r1 q1) he hpl
end
end L2
namespace HT
open PySem PyProof.Rows
section
open PySem.SeqAt
open PySem.AutoSeq1 (wpAny_loadPart')
open PySem.MeetsSeq PySem.MeetsSeq2 PySem.MeetsSeq3
end
section
variable{prog:Program}{w:World}{A:Around}{E:QZq}{s:Shared}
theorem Pn{t b:Addr}{vs ws:List Value}{Q:QZq}(ht:IsTup s.heap t vs.toArray)(hb:IsTup s.heap b ws.toArray)(hv:vs≠[])
  (h1:ws=[]->Q (.ref t) s)(h2:ws≠[]->Q (.ref s.heap.objs.size) {s with heap:=s.heap.push {cls:=.type "tuple",data:=.seq (vs++ws).toArray}})
  (hsz:vs.length+ws.length<=sizeLine):wpAny (model prog w) A (binaryOp .Add (.ref t) (.ref b)) Q E s:=by
 obtain⟨⟨cls,dd,data,sl⟩,ho,hc,n,hd⟩:=id ht
 obtain⟨⟨cls2,dd2,data2,sl2⟩,ho2,hc2,n2,hd2⟩:=id hb
 simp only at hc hd hc2 hd2
 subst hc hd hc2 hd2
 have e:vs.toArray++ws.toArray=(vs++ws).toArray:=by simp
 by_cases hw:ws=[]
 ·exact concat_meets ⟨_,ho,rfl⟩ ⟨_,ho2,rfl⟩ noFill_tuple_add seq_tuple_add PySem.F.slot_tuple_add PySem.F.entry_tuple_add (PySem.F.args_tuple_add_2 _ _)
   (tuple_addW1 t b vs.toArray ws.toArray n n2 dd dd2 sl sl2 (by simpa using hv) (by simp[hw])) ⟨ho,ho2,h1 hw⟩
 ·refine concat_meets ⟨_,ho,rfl⟩ ⟨_,ho2,rfl⟩ noFill_tuple_add seq_tuple_add PySem.F.slot_tuple_add PySem.F.entry_tuple_add (PySem.F.args_tuple_add_2 _ _)
   (tuple_addW2 t b vs.toArray ws.toArray n n2 dd dd2 sl sl2 (by simpa using hv) (by simpa using hw) (by rw[List.size_toArray,List.size_toArray];exact hsz)) ⟨ho,ho2,?_⟩
  rw[e]
  exact h2 hw
def cY(n d:Nat):Option Int->Nat
 |none=>d
 |some v=>if v<0 then(v+(n:Int)).toNat else min v.toNat n
theorem lF(n d:Nat):cY n d none=d:=rfl
theorem Tj(n d:Nat)(hd:d<=n)(o:Option Int):cY n d o<=n:=by
 cases o with
 |none=>exact hd
 |some v=>
  show(if v<0 then(v+(n:Int)).toNat else min v.toNat n)<=n
  by_cases hv:v<0
  ·rw[if_pos hv];omega
  ·rw[if_neg hv];exact Nat.min_le_right _ _
theorem CN(v:Int)(n d:Nat):(if v<0 then max (v+(n:Int)) 0 else min v (n:Int))=((cY n d (some v):Nat):Int):=by
 show(if v<0 then max (v+(n:Int)) 0 else min v (n:Int))=(((if v<0 then(v+(n:Int)).toNat else min v.toNat n):Nat):Int)
 by_cases hv:v<0
 ·simp only[if_pos hv];omega
 ·simp only[if_neg hv];omega
theorem Ah(lo hi:Option Int)(n:Nat):Builtin.Slice.sliceAdjust lo hi 1 (n:Int)=(((cY n 0 lo:Nat):Int),((cY n n hi:Nat):Int)):=by
 have h1:¬((1:Int)<0):=by omega
 unfold Builtin.Slice.sliceAdjust
 simp only[h1,if_false]
 refine Prod.ext ?_ ?_
 ·cases lo with
  |none=>rfl
  |some v=>exact CN v n 0
 ·cases hi with
  |none=>rfl
  |some v=>exact CN v n n
theorem zu(i j:Nat):Builtin.Slice.slicePlaces (i:Int) (j:Int) 1=j-i:=by
 unfold Builtin.Slice.slicePlaces
 have h1:(1:Int)>0:=by omega
 simp only[h1,if_true,Int.ediv_one]
 split<;>omega
theorem pM{v:Value}{o:Option Int}{Q:Option Int->Shared->Prop}(p:IsPart v o)(h:Q o s):wpAny (model prog w) A (Builtin.Slice.slicePartIndex v) Q E s:=by
 cases p with
 |none=>exact slicePart_none h
 |int i t=>exact slicePart_int h
theorem ie{sl:Addr}{vl vu:Value}{lo hi:Option Int}{n:Nat}{Q:Int×Int×Nat->Shared->Prop}(hs:s.heap.IsSliceOf sl vl vu .none)(pl:IsPart vl lo)(pu:IsPart vu hi)
  (h:Q (((cY n 0 lo:Nat):Int),1,cY n n hi-cY n 0 lo) s):wpAny (model prog w) A (Builtin.Slice.sliceApplied (.ref sl) (pure (n:Int))) Q E s:=by
 obtain⟨os,hos,hcs,hds⟩:=id hs
 unfold Builtin.Slice.sliceApplied Builtin.Slice.sliceFields
 refine wpAny_bind (wpAny_bind (wpAny_field hos hds (x:=vl) rfl (wpAny_bind (wpAny_field hos hds (x:=vu) rfl (wpAny_bind (wpAny_field hos hds (x:=.none) rfl (wpAny_pure ?_)))))))
 refine wpAny_bind (slicePart_none ?_)
 show wpAny _ _ (if ((1:Int)==0)=true then _ else _) _ _ s
 rw[if_neg (by decide)]
 refine wpAny_bind (pM pl (wpAny_bind (pM pu (wpAny_bind (wpAny_pure ?_)))))
 show wpAny _ _ (match Builtin.Slice.sliceAdjust lo hi 1 (n:Int)with|(lo,hi)=>pure (lo,(1:Int),Builtin.Slice.slicePlaces lo hi 1)) _ _ s
 rw[Ah lo hi n]
 show wpAny _ _ (pure (((cY n 0 lo:Nat):Int),(1:Int),Builtin.Slice.slicePlaces ((cY n 0 lo:Nat):Int) ((cY n n hi:Nat):Int) 1)) _ _ s
 rw[zu]
 exact wpAny_pure h
theorem Hz(xs:Array Value)(i k:Nat):((List.range k).filterMap fun(m:Nat)=>xs[((i:Int)+(m:Int)*1).toNat]?).toArray=((xs.toList.drop i).take k).toArray:=by
 have e:(fun(m:Nat)=>xs[((i:Int)+(m:Int)*1).toNat]?)=fun m=>xs[i+m]? :=by
  funext m
  have:((i:Int)+(m:Int)*1).toNat=i+m:=by omega
  rw[this]
 rw[e]
 have:=pick_run xs i k
 rw[List.filterMap_map]at this
 have e2:((fun x=>xs[x]?)∘fun x=>i+x)=fun m=>xs[i+m]? :=rfl
 rw[e2]at this
 rw[this]
theorem lZ{t sl:Addr}{items:Array Value}{vl vu:Value}{lo hi:Option Int}{Q:QZq}(ht:IsTup s.heap t items)(hs:s.heap.IsSliceOf sl vl vu .none)(pl:IsPart vl lo)(pu:IsPart vu hi)
  (hw:¬(cY items.size 0 lo=0/\cY items.size items.size hi=items.size))
  (h:Q (.ref s.heap.objs.size) {s with heap:=s.heap.push {cls:=.type "tuple",data:=.seq ((items.toList.drop (cY items.size 0 lo)).take (cY items.size items.size hi-cY items.size 0 lo)).toArray}})
  (hsz:items.size<=sizeLine):wpAny (model prog w) A (getItem (.ref t) (.ref sl)) Q E s:=by
 have htake:sizeOk (.seq ((items.toList.drop (cY items.size 0 lo)).take (cY items.size items.size hi-cY items.size 0 lo)).toArray):=by
  show((items.toList.drop (cY items.size 0 lo)).take (cY items.size items.size hi-cY items.size 0 lo)).toArray.size<=sizeLine
  rw[List.size_toArray,List.length_take,List.length_drop,Array.length_toList]
  omega
 have hj:cY items.size items.size hi<=items.size:=Tj _ _ (QVq _) hi
 obtain⟨os,hos,hcs,hds⟩:=id hs
 have hTs:s.TypeIs (.ref sl) "slice":=⟨os,hos,hcs⟩
 unfold getItem
 try with_reducible refine wpAny_holding ?_
 first|refine wpAny_bind (wpAny_pure ?_)|skip
 refine wpAny_bind (wpAny_sequenceKey ht.typeIs (by decide) ?_)
 refine wpAny_bind (wpAny_callSpecial?_slot (name:=Str.ofString "__getitem__") ht.typeIs PyProof.Rows.slot_tuple_getitem
  (wpAny_call_entry PyProof.Rows.slot_tuple_getitem ht.typeIs entry_tuple_getitem ?_ (args_tuple_getitem _ _)))
 show wpAny _ _ (Builtin.Tuple.tupleItemsOf (.ref t)>>=_) _ _ s
 refine wpAny_bind (tupleItemsOf_ ht ?_)
 refine wpAny_bind (wpAny_typeOf hTs ?_)
 rw[if_pos (by decide)]
 refine wpAny_bind (ie hs pl pu ?_)
 have hno:¬((((cY items.size 0 lo:Nat):Int)==0&&(1:Int)==1&&(cY items.size items.size hi-cY items.size 0 lo)==items.size)=true):=by
  intro q
  rw[QVz,QVz]at q
  have q1:((cY items.size 0 lo:Nat):Int)=0:=eq_of_beq q.1.1
  have q2:cY items.size items.size hi-cY items.size 0 lo=items.size:=eq_of_beq q.2
  exact hw ⟨by omega,by omega⟩
 show wpAny _ _ (if (((cY items.size 0 lo:Nat):Int)==0&&(1:Int)==1&&(cY items.size items.size hi-cY items.size 0 lo)==items.size)=true then _ else _) _ _ s
 rw[if_neg hno,Hz]
 first
  |exact wpAny_bind (m:=Builtin.Tuple.tupleExact _) (wpAny_newObj_type (wpAny_pure ⟨_,rfl,wpAny_pure h⟩) htake)
  |exact wpAny_bind (m:=Builtin.Tuple.tupleExact _) (wpAny_newObj_type (wpAny_bind (wpAny_pure (wpAny_pure ⟨_,rfl,wpAny_pure h⟩))) htake)
  |exact wpAny_bind (wpAny_bind (m:=Builtin.Tuple.tupleExact _) (wpAny_newObj_type (wpAny_pure (wpAny_pure ⟨_,rfl,wpAny_pure h⟩)) htake))
  |exact wpAny_bind (wpAny_bind (m:=Builtin.Tuple.tupleExact _) (wpAny_newObj_type (wpAny_pure ⟨_,rfl,wpAny_pure h⟩) htake))
end
end HT
namespace L2
open PySem PySem.Spec PyProof.Rows
abbrev TO:=St->Hp->(Option Int->Hp->Prop)->Prop
def PO(X:Cx)(e:Option Expr)(t:TO):Prop:=
 ∀(QTz:QQz)(s:Shared)(σ:St)(H:Hp)(Q:Option Int->Hp->Prop),Inv X QTz σ H s->t σ H Q->
  wpAny (model X.prog X.w) X.A (evalPart e X.env) (fun u s'=>∃o H',Inv X QTz σ H' s'/\IsPart u o/\Q o H') X.xe s
def LQ:TO:=fun _ H Q=>Q none H
def Yp(t:TE):TO:=fun σ H Q=>t σ H fun x H1=>∃i,x=.int i/\Q (some i) H1
section
variable{X:Cx}{e:Expr}{te:TE}{lo hi:Option Expr}{tl th:TO}{pos p2:Pos}
theorem M9:PO X none LQ:=by
 intro QTz s σ H Q I h
 rw[evalPart_none]
 exact wpAny_pure ⟨none,H,I,.none,h⟩
theorem M8(h:PE X e te):PO X (some e) (Yp te):=by
 intro QTz s σ H Q I hw
 rw[evalPart_some]
 refine cB (h QTz s σ H _ I hw) fun u s1⟨x,H1,I1,r1,q1⟩=>?_
 obtain⟨i,rfl,q⟩:=q1
 obtain⟨t,rfl⟩:=r1
 exact⟨some i,H1,I1,.int i t,q⟩
def PX(X:Cx)(r:V->Option Int->Option Int->Hp->VK->Prop):Prop:=
 ∀(QTz:QQz)(s:Shared)(σ:St)(H:Hp)(x:V)(v vl vu:Value)(lo hi:Option Int)(sl:Addr)(Q:VK),Inv X QTz σ H s->RelV x v->s.heap.IsSliceOf sl vl vu .none->IsPart vl lo->IsPart vu hi->r x lo hi H Q->
  ∃T id,typeLookup (.type T) "__getitem__"=pure (some (.builtin id))/\s.TypeIs v T/\wpAny (model X.prog X.w) X.A (getItem v (.ref sl)) (EP X QTz σ Q) X.xe s
theorem PX.or{r r':V->Option Int->Option Int->Hp->VK->Prop}(h:PX X r)(h':PX X r'):PX X (fun x lo hi H Q=>r x lo hi H Q\/r' x lo hi H Q):=by
 intro QTz s σ H x v vl vu lo hi sl Q I rx hs pl pu q
 rcases q with q|q
 ·exact h QTz s σ H x v vl vu lo hi sl Q I rx hs pl pu q
 ·exact h' QTz s σ H x v vl vu lo hi sl Q I rx hs pl pu q
def tSl(r:V->Option Int->Option Int->Hp->VK->Prop)(te:TE)(tl th:TO):TE:=fun σ H Q=>te σ H fun x H1=>tl σ H1 fun l H2=>th σ H2 fun u H3=>r x l u H3 Q
theorem HF{r:V->Option Int->Option Int->Hp->VK->Prop}(hr:PX X r)(he:PE X e te)(hl:PO X lo tl)(hu:PO X hi th):PE X (.Subscript e (.Slice lo hi none p2) pos) (tSl r te tl th):=by
 intro QTz s σ H Q I h
 refine Subscript_ (cB (he QTz s σ H _ I h) fun v s1⟨x,H1,I1,r1,q1⟩=>?_)
 refine wpAny_Slice (cB (hl QTz s1 σ H1 _ I1 q1) fun vl s2⟨l,H2,I2,pl,q2⟩=>cB (hu QTz s2 σ H2 _ I2 q2) fun vu s3⟨u,H3,I3,pu,q3⟩=>?_)
 rw[evalPart_none]
 refine wpAny_pure ?_
 have I4:Inv X QTz σ H3 {s3 with heap:=s3.heap.push {cls:=.type "slice",data:=.fields #[vl,vu,.none]}}:=I3.kept (t':=s3.toks) fun b ob q=>QXz _ q
 obtain⟨T,id,hT,ht,hg⟩:=hr QTz {s3 with heap:=s3.heap.push {cls:=.type "slice",data:=.fields #[vl,vu,.none]}} σ H3 x v vl vu l u s3.heap.objs.size Q I4 r1 (Heap.IsSliceOf.new ..) pl pu q3
 show wpAny (model X.prog X.w) X.A (subscriptTail e (.Slice lo hi none p2) v (.ref s3.heap.objs.size)) (EP X QTz σ Q) X.xe {s3 with heap:=s3.heap.push {cls:=.type "slice",data:=.fields #[vl,vu,.none]}}
 exact tail_any (ops:=[.ref s3.heap.objs.size,v]) ht hT hg (by with_unfolding_all rfl)
def qP(xs:List V)(lo hi:Option Int):List V:=(xs.drop (HT.cY xs.length 0 lo)).take (HT.cY xs.length xs.length hi-HT.cY xs.length 0 lo)
theorem nY(xs:List V)(lo hi:Option Int):(qP xs lo hi).length<=xs.length:=by
 unfold qP
 rw[List.length_take,List.length_drop]
 omega
def Zg(K:QQq):V->Option Int->Option Int->Hp->VK->Prop:=fun x lo hi H Q=>∃a xs,x=.ref a/\jl K H a xs/\
 ¬(HT.cY xs.length 0 lo=0/\HT.cY xs.length xs.length hi=xs.length)/\∀p,H p=none->Q (.ref p) (upd H p (.tup (qP xs lo hi)))
theorem Te:PX X (Zg X.K):=by
 intro QTz s σ H x v vl vu lo hi sl Q I rx hs pl pu h
 obtain⟨a,xs,rfl,hx,hw,q⟩:=h
 cases rx
 obtain⟨its,r,ht,hz⟩:=I.tuple hx
 have hlen:its.toArray.size=xs.length:=by rw[List.size_toArray];exact r.length.symm
 refine⟨"tuple",_,PyProof.Rows.slot_tuple_getitem.lookup,ht.typeIs,?_⟩
 refine HT.lZ ht hs pl pu (by rw[hlen];exact hw) ?_ (by rw[hlen];exact hz)
 rw[hlen]
 refine⟨.ref s.heap.objs.size,_,I.laid (t':=s.toks) (o:=.tup (qP xs lo hi)) (fun b ob q=>QXz _ q) (QVq _) ?_,rfl,q _ (I.hok.fresh (QVq _))⟩
 exact⟨Nat.le_trans (nY xs lo hi) hz,_,(r.drop (HT.cY xs.length 0 lo)).take (HT.cY xs.length xs.length hi-HT.cY xs.length 0 lo),TupOk.new _ _⟩
def Zq(K:QQq):R2:=fun x y H Q=>∃a b xs ys,x=.ref a/\y=.ref b/\jl K H a xs/\jl K H b ys/\xs≠[]/\xs.length+ys.length<=sizeLine/\
 (ys=[]->Q (.ref a) H)/\(ys≠[]->∀p,H p=none->Q (.ref p) (upd H p (.tup (xs++ys))))
theorem Vals.bL{xs:List V}{us:List Value}(r:Vals xs us):us=[]↔xs=[]:=by
 cases r with
 |nil=>simp
 |cons _ _=>simp
theorem Nv:fW X (binaryOp .Add) (Zq X.K):=by
 intro QTz s σ H x y v u Q I rx ry h
 obtain⟨a,b,xs,ys,rfl,rfl,ha,hb,hx,hz,q1,q2⟩:=h
 cases rx
 cases ry
 obtain⟨its,r1,p1,_⟩:=I.tuple ha
 obtain⟨its2,r2,p2,_⟩:=I.tuple hb
 refine HT.Pn p1 p2 (fun z=>hx (r1.bL.mp z)) (fun z=>⟨.ref a,H,I,rfl,q1 (r2.bL.mp z)⟩) (fun z=>?_) (by rw[<-r1.length,<-r2.length];exact hz)
 refine⟨.ref s.heap.objs.size,_,I.laid (t':=s.toks) (o:=.tup (xs++ys)) (fun b ob q=>QXz _ q) (QVq _) ?_,rfl,q2 (fun w=>z (r2.bL.mpr w)) _ (I.hok.fresh (QVq _))⟩
 exact⟨by rw[QUz];exact hz,_,r1.append r2,TupOk.new _ _⟩
end
end L2
namespace L2
open PySem PySem.Spec PyProof.Rows
def Om(n:Nat)(i:Int):Option Nat:=if 0<=i then(if i<n then some i.toNat else none)else if-(n:Int)<=i then some (i+n).toNat else none
def Wd{α:Type}(xs:List α)(i:Int):Option α:=(Om xs.length i).bind fun j=>xs[j]?
theorem BX{n:Nat}{i:Int}{j:Nat}(h:Om n i=some j):seqIndex? i n=some j/\j<n/\ -(n:Int)<=i/\i<n:=by
 unfold Om at h
 by_cases h0:0<=i
 ·rw[if_pos h0]at h
  by_cases h1:i<n
  ·rw[if_pos h1]at h
   have e:i.toNat=j:=Option.some.inj h
   exact⟨by rw[seqIndex_of h0 h1,e],by omega,by omega,h1⟩
  ·rw[if_neg h1]at h;cases h
 ·rw[if_neg h0]at h
  by_cases h1: -(n:Int)<=i
  ·rw[if_pos h1]at h
   have e:(i+n).toNat=j:=Option.some.inj h
   exact⟨by rw[seqIndex_neg (by omega) h1,e],by omega,h1,by omega⟩
  ·rw[if_neg h1]at h;cases h
theorem wB{α:Type}{xs:List α}{i:Int}{v:α}(h:Wd xs i=some v):∃j,seqIndex? i xs.length=some j/\xs[j]? =some v/\j<xs.length/\ -(xs.length:Int)<=i/\i<xs.length:=by
 unfold Wd at h
 cases e:Om xs.length i with
 |none=>rw[e]at h;cases h
 |some j=>
  rw[e]at h
  obtain⟨h1,h2,h3,h4⟩:=BX e
  exact⟨j,h1,h,h2,h3,h4⟩
def wC(b:Expr):Prop:=∀o i,subscripted b false o i=operate [o,i] (getItem o i)
def KZ(X:Cx)(r:R2):Prop:=
 ∀(value slice:Expr)(QTz:QQz)(s:Shared)(σ:St)(H:Hp)(x y:V)(v u:Value)(Q:VK),Inv X QTz σ H s->RelV x v->RelV y u->r x y H Q->
  subscripted slice false v u=operate [v,u] (getItem v u)->wpAny (model X.prog X.w) X.A (subscriptTail value slice v u) (EP X QTz σ Q) X.xe s
def MtR(X:Cx)(id:String)(r:V->List V->Hp->VK->Prop):Prop:=
 ∀(QTz:QQz)(s:Shared)(σ:St)(H:Hp)(x:V)(xs:List V)(v:Value)(us:List Value)(Q:VK),Inv X QTz σ H s->RelV x v->Vals xs us->r x xs H Q->
  wpAny (model X.prog X.w) X.A (call (.builtin id) (v::us)) (EP X QTz σ Q) X.xe s
section
variable{X:Cx}{a b:Expr}{ta tb:TE}{pos:Pos}
theorem KZ.or{r r':R2}(h:KZ X r)(h':KZ X r'):KZ X (fun x y H Q=>r x y H Q\/r' x y H Q):=by
 intro value slice QTz s σ H x y v u Q I rx ry q hs
 rcases q with q|q
 ·exact h value slice QTz s σ H x y v u Q I rx ry q hs
 ·exact h' value slice QTz s σ H x y v u Q I rx ry q hs
theorem HN{r:R2}(hr:KZ X r)(ha:PE X a ta)(hb:PE X b tb)(hs:wC b):PE X (.Subscript a b pos) (WP r ta tb):=by
 intro QTz s σ H Q I h
 exact Subscript_ (Wb ha hb I h fun v u s2 x y H2 I2 rx ry q=>hr a b QTz s2 σ H2 x y v u Q I2 rx ry q (hs _ _))
def TJ(K:QQq):R2:=fun x y H Q=>∃p xs i v,x=.ref p/\y=.int i/\jK K H p xs/\Wd xs i=some v/\Q v H
def TF(K:QQq):R2:=fun x y H Q=>∃p xs i v,x=.ref p/\y=.int i/\jl K H p xs/\Wd xs i=some v/\Q v H
def Zk:R2:=fun x y H Q=>∃z i c,x=.str z/\y=.int i/\z.length<=sizeLine/\Wd z.cps.toList i=some c/\Q (.str ⟨#[c]⟩) H
theorem vM:KZ X (TJ X.K):=by
 intro value slice QTz s σ H x y v u Q I rx ry h hs
 obtain⟨p,xs,i,z,rfl,rfl,hq,he,q⟩:=h
 cases rx
 obtain⟨t,rfl⟩:=ry
 obtain⟨its,r,pl,hz⟩:=I.list hq
 obtain⟨j,h1,h2,h3,h4,h5⟩:=wB he
 obtain⟨w,ew,rw'⟩:=r.get h2
 have hl:=r.length
 have hn:=nq
 have fin:EP X QTz σ Q w s:=⟨z,H,I,rw',q⟩
 by_cases h0:0<=i
 ·have hj:i.toNat=j:=by
   rw[seqIndex_of h0 h5]at h1
   exact Option.some.inj h1
  exact item_listR pl.isList h0 (by omega) (by rw[hj];simpa using ew) fin hs
 ·have hj:(i+(its.toArray.size:Int)).toNat=j:=by
   rw[seqIndex_neg (by omega) h4]at h1
   rw[List.size_toArray,<-hl]
   exact Option.some.inj h1
  exact subscriptTail_builtinR (x:=w) pl.isList.typeIs slot_list_getitem.lookup
   (wpAny_getItem_list_neg (Q:=fun r s'=>r=w/\EP X QTz σ Q r s') pl.isList (by omega) (by rw[List.size_toArray]<;>omega) (by omega) (by rw[hj];simpa using ew) ⟨rfl,fin⟩) hs
theorem Jj:KZ X (TF X.K):=by
 intro value slice QTz s σ H x y v u Q I rx ry h hs
 obtain⟨p,xs,i,z,rfl,rfl,hq,he,q⟩:=h
 cases rx
 obtain⟨t,rfl⟩:=ry
 obtain⟨its,r,pl,hz⟩:=I.tuple hq
 obtain⟨j,h1,h2,h3,h4,h5⟩:=wB he
 obtain⟨w,ew,rw'⟩:=r.get h2
 have hl:=r.length
 have hn:=nq
 have fin:EP X QTz σ Q w s:=⟨z,H,I,rw',q⟩
 exact subscriptTail_builtinR (x:=w) pl.typeIs slot_tuple_getitem.lookup
  (getItem_tuple (j:=j) (Q:=fun r s'=>r=w/\EP X QTz σ Q r s') pl (by omega) (by omega) (by rw[List.size_toArray,<-hl];exact h1) (by simpa using ew) ⟨rfl,fin⟩) hs
theorem U8:KZ X Zk:=by
 intro value slice QTz s σ H x y v u Q I rx ry h hs
 obtain⟨z,i,c,rfl,rfl,hz,he,q⟩:=h
 obtain⟨t,rfl⟩:=rx
 obtain⟨t',rfl⟩:=ry
 obtain⟨j,h1,h2,h3,h4,h5⟩:=wB he
 have hl:z.cps.toList.length=z.length:=by simp[Str.length]
 rw[hl]at h1 h4 h5
 have hn:=nq
 exact tail_any (typeIs_str s z t) slot_str_getitem.lookup (getItem_str (c:=c) (by
  have e1:decide (i< -(2 ^63:Int))=false:=decide_eq_false (by omega)
  have e2:decide (i>=2 ^63)=false:=decide_eq_false (by omega)
  rw[e1,e2,Bool.or_false]) (by rw[h1];simpa using h2) ⟨.str ⟨#[c]⟩,H,I.tok _,⟨_,rfl⟩,q⟩) hs
def rIx(K:QQq):R2:=fun x y H Q=>TJ K x y H Q\/TF K x y H Q\/Zk x y H Q
theorem Jk:KZ X (rIx X.K):=vM.or (Jj.or U8)
theorem zH(its:List Value)(n j:Nat)(u:Value):Obj.mapSeq (·.setIfInBounds j u) {cls:=.type "list",data:=.seq its.toArray n}={cls:=.type "list",data:=.seq (its.set j u).toArray n}:=by
 simp[Obj.mapSeq]
theorem Inv.lst{QTz:QQz}{σ:St}{H:Hp}{s:Shared}{p:Addr}{xs:List V}(I:Inv X QTz σ H s)(h:H p=some (.lst xs)):
  ∃(its:List Value)(n:Nat),Vals xs its/\s.heap.get? p=some {cls:=.type "list",data:=.seq its.toArray n}/\xs.length<=sizeLine:=by
 obtain⟨z,its,n,r,e⟩:=I.hok p _ h
 exact⟨its,n,r,e,z⟩
theorem Inv.Uw{QTz:QQz}{σ:St}{H:Hp}{s:Shared}{p:Addr}{xs ys:List V}{its its':List Value}{n n':Nat}{f:Obj->Obj}(I:Inv X QTz σ H s)(h:H p=some (.lst xs))
  (ho:s.heap.get? p=some {cls:=.type "list",data:=.seq its.toArray n})(hf:f {cls:=.type "list",data:=.seq its.toArray n}={cls:=.type "list",data:=.seq its'.toArray n'})(r:Vals ys its')(hz:ys.length<=sizeLine)(t:Nat):
  Inv X QTz σ (upd H p (.lst ys)) {s with heap:=s.heap.update p f,toks:=t}:=by
 have e:(s.heap.update p f).get? p=some {cls:=.type "list",data:=.seq its'.toArray n'}:=by
  rw[Heap.get?_update_self f ho (by rw[hf]<;>rfl),hf]
 refine I.write (x:=p) (e:=p) (by rw[h];trivial) (.inl rfl) (fun b u hb q=>(Heap.get?_update_other _ _ (Ne.symm hb)).trans q) ⟨_,e⟩ ?_
 exact⟨hz,its',n',r,e⟩
def QK:V->V->V->Hp->(Hp->Prop)->Prop:=fun o i v H Q=>∃p xs k j,o=.ref p/\i=.int k/\H p=some (.lst xs)/\Om xs.length k=some j/\Q (upd H p (.lst (xs.set j v)))
theorem set_list:Qa X QK:=by
 intro QTz s σ H o i v ov iv u Q I ro ri rv h
 obtain⟨p,xs,k,j,rfl,rfl,hp,hj,q⟩:=h
 cases ro
 obtain⟨t,rfl⟩:=ri
 obtain⟨its,n,r,ho,hz⟩:=I.lst hp
 obtain⟨h1,h2,h3,h4⟩:=BX hj
 have hl:=r.length
 have hn:=nq
 have I':Inv X QTz σ (upd H p (.lst (xs.set j v))) {s with heap:=s.heap.update p (Obj.mapSeq (·.setIfInBounds j u))}:=
  I.Uw hp ho (zH its n j u) (r.set rv j) (by rw[List.length_set];exact hz) s.toks
 by_cases h0:0<=k
 ·have hk:k.toNat=j:=by
   rw[seqIndex_of h0 h4]at h1
   exact Option.some.inj h1
  exact PySem.W.ki_setAt ho h0 (by omega) (by rw[List.size_toArray,<-hl];exact h4) (by rw[hk];exact⟨_,I',q⟩)
 ·have hk:(k+(its.toArray.size:Int)).toNat=j:=by
   rw[seqIndex_neg (by omega) h3]at h1
   rw[List.size_toArray,<-hl]
   exact Option.some.inj h1
  exact PySem.W.ki_setBack ho (by omega) (by rw[List.size_toArray,<-hl];exact h3) (by omega) (by rw[hk];exact⟨_,I',q⟩)
theorem vp(lo hi:Option Int)(n:Nat):(sliceBounds lo hi none n).1=((HT.cY n 0 lo:Nat):Int)/\(sliceBounds lo hi none n).2.1=((HT.cY n n hi:Nat):Int)/\(sliceBounds lo hi none n).2.2=1:=by
 refine⟨?_,?_,rfl⟩
 ·cases lo with
  |none=>simp[sliceBounds,HT.cY]
  |some i=>
   simp only[sliceBounds,HT.cY,Option.getD_none,show(1:Int)>0 by decide,if_true]
   by_cases h:i<0
   ·simp only[h,if_true]<;>omega
   ·simp only[h,if_false]<;>omega
 ·cases hi with
  |none=>simp[sliceBounds,HT.cY]
  |some i=>
   simp only[sliceBounds,HT.cY,Option.getD_none,show(1:Int)>0 by decide,if_true]
   by_cases h:i<0
   ·simp only[h,if_true]<;>omega
   ·simp only[h,if_false]<;>omega
theorem rR(its:List Value)(lo hi:Option Int):slicePick its.toArray lo hi none=((its.drop (HT.cY its.length 0 lo)).take (HT.cY its.length its.length hi-HT.cY its.length 0 lo)).toArray:=by
 obtain⟨h1,h2,h3⟩:=vp lo hi its.toArray.size
 unfold slicePick
 rw[h1,h2,h3]
 simp only[sliceRange_one,pick_run,List.size_toArray]<;>rfl
def Zh(K:QQq):V->Option Int->Option Int->Hp->VK->Prop:=fun x lo hi H Q=>∃a xs,x=.ref a/\jK K H a xs/\∀p,H p=none->Q (.ref p) (upd H p (.lst (qP xs lo hi)))
theorem Mh:PX X (Zh X.K):=by
 intro QTz s σ H x v vl vu lo hi sl Q I rx hs pl pu h
 obtain⟨a,xs,rfl,hx,q⟩:=h
 cases rx
 obtain⟨its,r,ht,hz⟩:=I.list hx
 have hlen:=r.length
 refine⟨"list",_,slot_list_getitem.lookup,ht.isList.typeIs,?_⟩
 refine wpAny_getItem_list_slice ht.isList hs pl pu .none (by simp) ?_ (by rw[List.size_toArray]<;>omega)
 rw[rR,<-hlen]
 refine⟨.ref s.heap.objs.size,_,I.laid (t':=s.toks) (o:=.lst (qP xs lo hi)) (fun b ob q=>QXz _ q) (QVq _) ?_,rfl,q _ (I.hok.fresh (QVq _))⟩
 exact⟨Nat.le_trans (nY xs lo hi) hz,_,0,(r.drop (HT.cY xs.length 0 lo)).take (HT.cY xs.length xs.length hi-HT.cY xs.length 0 lo),Heap.get?_push_size _ rfl⟩
def gJ:V->Bool
 |.non=>true
 |.bl _=>true
 |.int _=>true
 |.str _=>true
 |_=>false
def JS:V->V->Bool
 |.non,.non=>true
 |.bl a,.bl b=>a==b
 |.bl a,.int b=>(if a then 1 else 0)==b
 |.int a,.bl b=>a==(if b then 1 else 0)
 |.int a,.int b=>a==b
 |.str a,.str b=>a==b
 |_,_=>false
theorem VR{A:Around}{s:Shared}{y x:V}{u v:Value}(ry:RelV y u)(rx:RelV x v)(fy:gJ y=true)(fx:gJ x=true):SeqAt.EqAt A s u v (JS y x):=by
 cases y with
 |non=>
  cases ry
  cases x with
  |non=>cases rx;exact SeqAt.EqAt.same _
  |bl b=>cases rx;exact SeqAt.EqAt.none_bool b
  |int b=>obtain⟨t,rfl⟩:=rx;exact SeqAt.EqAt.none_int b t
  |str b=>obtain⟨t,rfl⟩:=rx;exact SeqAt.EqAt.none_str b t
  |_=>exact absurd (show false=true from fx) Bool.false_ne_true
 |bl a=>
  cases ry
  cases x with
  |non=>cases rx;exact SeqAt.EqAt.bool_none a
  |bl b=>cases rx;exact SeqAt.EqAt.bool_bool a b
  |int b=>obtain⟨t,rfl⟩:=rx;exact SeqAt.EqAt.bool_int a b t
  |str b=>obtain⟨t,rfl⟩:=rx;exact SeqAt.EqAt.bool_str a b t
  |_=>exact absurd (show false=true from fx) Bool.false_ne_true
 |int a=>
  obtain⟨t',rfl⟩:=ry
  cases x with
  |non=>cases rx;exact SeqAt.EqAt.int_none a t'
  |bl b=>cases rx;exact SeqAt.EqAt.int_bool a t' b
  |int b=>obtain⟨t,rfl⟩:=rx;exact SeqAt.EqAt.int_int a t' b t
  |str b=>obtain⟨t,rfl⟩:=rx;exact SeqAt.EqAt.int_str a t' b t
  |_=>exact absurd (show false=true from fx) Bool.false_ne_true
 |str a=>
  obtain⟨t',rfl⟩:=ry
  cases x with
  |non=>cases rx;exact SeqAt.EqAt.str_none a t'
  |bl b=>cases rx;exact SeqAt.EqAt.str_bool a t' b
  |int b=>obtain⟨t,rfl⟩:=rx;exact SeqAt.EqAt.str_int a t' b t
  |str b=>obtain⟨t,rfl⟩:=rx;exact SeqAt.EqAt.str_str a t' b t
  |_=>exact absurd (show false=true from fx) Bool.false_ne_true
 |_=>exact absurd (show false=true from fy) Bool.false_ne_true
def wF(x:V)(u:Value):Bool:=match u with
 |.none=>JS .non x
 |.bool b=>JS (.bl b) x
 |.int i _=>JS (.int i) x
 |.str z _=>JS (.str z) x
 |_=>false
theorem zY{x y:V}{u:Value}(r:RelV y u)(f:gJ y=true):wF x u=JS y x:=by
 cases y with
 |non=>cases r;rfl
 |bl b=>cases r;rfl
 |int i=>obtain⟨t,rfl⟩:=r;rfl
 |str z=>obtain⟨t,rfl⟩:=r;rfl
 |_=>exact absurd (show false=true from f) Bool.false_ne_true
theorem mH{x:V}:∀{xs:List V}{us:List Value},Vals xs us->xs.all gJ=true->us.any (wF x)=xs.any fun y=>JS y x
 |_,_,.nil=>fun _=>rfl
 |y::xs,u::us,.cons r t=>fun f=>by
  rw[List.all_cons,QVz]at f
  rw[List.any_cons,List.any_cons,zY r f.1,mH t f.2]
theorem f9{A:Around}{s:Shared}{x:V}{v:Value}(rx:RelV x v)(fx:gJ x=true):∀{xs:List V}{us:List Value},Vals xs us->xs.all gJ=true->∀u∈us,SeqAt.EqAt A s u v (wF x u)
 |_,_,.nil=>fun _=>fun u hu=>by cases hu
 |y::xs,u::us,.cons r t=>fun f=>fun u' hu=>by
  rw[List.all_cons,QVz]at f
  rcases List.mem_cons.mp hu with rfl|hu
  ·rw[zY r f.1];exact VR r rx f.1 fx
  ·exact f9 rx fx t f.2 u' hu
def inV(x:V)(xs:List V):Bool:=xs.any fun y=>JS y x
def rIn(K:QQq)(neg:Bool):R2:=fun x y H Q=>∃p xs,y=.ref p/\(jK K H p xs\/jl K H p xs)/\gJ x=true/\xs.all gJ=true/\Q (.bl (if neg then !inV x xs else inV x xs)) H
theorem Ef:fW X (compareOp .In) (rIn X.K false):=by
 intro QTz s σ H x y v u Q I rx ry h
 obtain⟨p,xs,rfl,hq,fx,fs,q⟩:=h
 cases ry
 rcases hq with hq|hq
 ·obtain⟨its,r,pl,hz⟩:=I.list hq
  refine SeqAt.in_listAt (wF x) pl.isList (fun w hw=>f9 rx fx r fs w (by simpa using hw)) ⟨.bl _,H,I,rfl,?_⟩
  rw[show its.toArray.any (wF x)=its.any (wF x) by simp,mH r fs]
  exact q
 ·obtain⟨its,r,pl,hz⟩:=I.tuple hq
  refine SeqAt.in_tupleAt (wF x) pl (fun w hw=>f9 rx fx r fs w (by simpa using hw)) ⟨.bl _,H,I,rfl,?_⟩
  rw[show its.toArray.any (wF x)=its.any (wF x) by simp,mH r fs]
  exact q
theorem vG:fW X (compareOp .NotIn) (rIn X.K true):=by
 intro QTz s σ H x y v u Q I rx ry h
 obtain⟨p,xs,rfl,hq,fx,fs,q⟩:=h
 cases ry
 rcases hq with hq|hq
 ·obtain⟨its,r,pl,hz⟩:=I.list hq
  refine SeqAt.notIn_listAt (wF x) pl.isList (fun w hw=>f9 rx fx r fs w (by simpa using hw)) ⟨.bl _,H,I,rfl,?_⟩
  rw[show its.toArray.any (wF x)=its.any (wF x) by simp,mH r fs]
  exact q
 ·obtain⟨its,r,pl,hz⟩:=I.tuple hq
  refine SeqAt.notIn_tupleAt (wF x) pl (fun w hw=>f9 rx fx r fs w (by simpa using hw)) ⟨.bl _,H,I,rfl,?_⟩
  rw[show its.toArray.any (wF x)=its.any (wF x) by simp,mH r fs]
  exact q
theorem wy:fK X (.type "list") (fun xs H Q=>∃p ys,xs=[.ref p]/\(jK X.K H p ys\/jl X.K H p ys)/\∀l,H l=none->Q (.ref l) (upd H l (.lst ys))):=by
 intro QTz s σ H xs us Q I r h
 obtain⟨p,ys,rfl,hq,q⟩:=h
 obtain⟨u,rfl,rx⟩:=vals1 r
 cases rx
 have fin:∀(its:List Value),Vals ys its->ys.length<=sizeLine->∀(h':Heap)(c':Nat),(∀b o',s.heap.get? b=some o'->h'.get? b=some o')->
   h'.get? s.heap.objs.size=some {cls:=.type "list",dict:=none,data:=.seq its.toArray c',slots:= #[]}->EP X QTz σ Q (.ref s.heap.objs.size) {s with heap:=h'}:=fun its r' hz h' c' kp e=>
  ⟨.ref s.heap.objs.size,_,I.laid (t':=s.toks) kp (QVq _) (show b8 X.prog X.w _ h' _ (.lst ys)from⟨hz,its,c',r',e⟩),rfl,q _ (I.hok.fresh (QVq _))⟩
 rcases hq with hq|hq
 ·obtain⟨its,r',pl,hz⟩:=I.list hq
  have hlen:=r'.length
  obtain⟨o,ho,hc,n,hd⟩:=pl.isList
  exact call_list_seq p (.inl rfl) ho hc hd (fun h' c' kp e=>fin its r' hz h' c' kp e) (by simp only[List.size_toArray]<;>omega)
 ·obtain⟨its,r',pl,hz⟩:=I.tuple hq
  have hlen:=r'.length
  obtain⟨o,ho,hc,n,hd⟩:=pl
  exact call_list_seq p (.inr rfl) ho hc hd (fun h' c' kp e=>fin its r' hz h' c' kp e) (by simp only[List.size_toArray]<;>omega)
theorem sH:fK X (.type "tuple") (fun xs H Q=>∃p ys,xs=[.ref p]/\((jK X.K H p ys/\∀l,H l=none->Q (.ref l) (upd H l (.tup ys)))\/(jl X.K H p ys/\Q (.ref p) H))):=by
 intro QTz s σ H xs us Q I r h
 obtain⟨p,ys,rfl,h⟩:=h
 obtain⟨u,rfl,rx⟩:=vals1 r
 cases rx
 rcases h with ⟨hq,q⟩|⟨hq,q⟩
 ·obtain⟨its,r',pl,hz⟩:=I.list hq
  have hlen:=r'.length
  refine call_tuple_list pl.isList (fun h' kp=>?_) (by simp only[List.size_toArray]<;>omega)
  have I1:Inv X QTz σ H {s with heap:=h'}:=I.kept (t':=s.toks) kp
  have I2:Inv X QTz σ (upd H h'.objs.size (.tup ys)) {s with heap:=h'.push {cls:=.type "tuple",data:=.seq its.toArray}}:=
   I1.laid (t':=s.toks) (fun b o e=>QXz _ e) (QVq _) (show b8 X.prog X.w _ _ _ (.tup ys)from⟨hz,its,r',TupOk.new _ _⟩)
  exact⟨.ref h'.objs.size,_,I2,rfl,q _ (I1.hok.fresh (QVq _))⟩
 ·obtain⟨its,r',pl,hz⟩:=I.tuple hq
  exact call_tuple_same pl ⟨.ref p,H,I,rfl,q⟩
def tyV(K:QQq)(T:String)(x:V)(H:Hp):Prop:=match x with
 |.str _=>T="str"
 |.int _=>T="int"
 |.ref p=>(T="list"/\∃xs,jK K H p xs)\/(T="tuple"/\∃o,K.lookup p=some o/\o.cls=.type "tuple"/\o.dict=none)\/
   (T="dict"/\((∃kvs,H p=some (.dK kvs))\/∃kvs,H p=some (.dT kvs)))\/(T="set"/\∃S n,H p=some (.set S n))
 |_=>False
theorem Ss{QTz:QQz}{σ:St}{H:Hp}{s:Shared}{T:String}{x:V}{v:Value}(I:Inv X QTz σ H s)(r:RelV x v)(ty:tyV X.K T x H):
  s.TypeIs v T/\∀a,v=.ref a->∃ob,s.heap.get? a=some ob/\ob.dict=none:=by
 cases x with
 |str z=>
  obtain⟨t,rfl⟩:=r
  cases (show T="str" from ty)
  exact⟨typeIs_str s z t,fun _ e=>nomatch e⟩
 |int i=>
  obtain⟨t,rfl⟩:=r
  cases (show T="int" from ty)
  exact⟨typeIs_int s i t,fun _ e=>nomatch e⟩
 |ref p=>
  cases r
  rcases ty with ⟨rfl,xs,hq⟩|⟨rfl,o,hk,hc,hd⟩|⟨rfl,hk⟩|⟨rfl,S,n,hk⟩
  ·obtain⟨its,_,pl,_⟩:=I.list hq
   refine⟨pl.isList.typeIs,fun a e=>?_⟩
   cases e
   obtain⟨o,n,e,c,hd,_⟩:=pl
   exact⟨o,e,hd⟩
  ·refine⟨⟨o,I.zM p o hk,hc⟩,fun a e=>?_⟩
   cases e
   exact⟨o,I.zM _ o hk,hd⟩
  ·have z:∃o,s.heap.get? p=some o/\o.ExactDict:=by
    rcases hk with ⟨kvs,hk⟩|⟨kvs,hk⟩
    ·obtain⟨_,_,_,_,o,_,_,e,ex,_⟩:=I.hok p _ hk
     exact⟨o,e,ex⟩
    ·obtain⟨_,_,_,_,o,_,_,e,ex,_⟩:=I.hok p _ hk
     exact⟨o,e,ex⟩
   obtain⟨o,e,ex⟩:=z
   refine⟨⟨o,e,ex.1⟩,fun a e2=>?_⟩
   cases e2
   exact⟨o,e,ex.2.1⟩
  ·obtain⟨o,_,_,_,e,ex,_⟩:=I.hok p _ hk
   refine⟨⟨o,e,ex.1⟩,fun a e2=>?_⟩
   cases e2
   exact⟨o,e,ex.2.1⟩
 |_=>exact False.elim ty
def tBM(K:QQq)(T:String)(r:V->List V->Hp->VK->Prop)(to:TE)(t:TA):TE:=fun σ H Q=>to σ H fun x H1=>tyV K T x H1/\t σ H1 fun xs H2=>r x xs H2 Q
variable{o e:Expr}{es:List Expr}{to:TE}{t:TA}{name:Str}{apos cpos:Pos}{T id:String}{r:V->List V->Hp->VK->Prop}
theorem Zx(pa:PlainAttrs T)(slot:Slot T name id)(hty:typeOf (.builtin id)=pure (.type "method_descriptor"))(hm:MtR X id r)(ho:PE X o to)(ha:PA X (e::es) t)
  (hbase:attributeBase o name X.env (eval o X.env)=eval o X.env:=by rfl)
  (hfew:((backTo cpos (starEach (e::es) X.env)).all (fun x=> !x.1)&&(backToKw cpos (keywordEach [] X.env)).all (fun x=>x.1.isSome)
   &&decide ((e::es).length+([]:List Keyword).length+(if ([]:List Keyword).isEmpty then 0 else 1)<30))=true:=by rfl)
  (hline:(apos.endLine==cpos.line)=true:=by rfl)(hs:starEach (e::es) X.env=(false,eval e X.env)::starEach es X.env:=by rfl)(hplain:(backTo cpos (starEach es X.env)).any (·.1)=false:=by rfl):
  PE X (.Call (.Attribute o name apos) (e::es) [] cpos) (tBM X.K T r to t):=by
 intro QTz s σ H Q I h
 refine wpAny_Call_method_late hbase hfew hline rfl (cB (ho QTz s σ H _ I h) fun v s1⟨x,H1,I1,r1,ty,q1⟩=>?_)
 obtain⟨h1,h2⟩:=Ss I1 r1 ty
 refine⟨T,id,pa,slot,hty,h1,h2,?_⟩
 have hA:=ha cpos QTz s1 σ H1 _ I1 q1
 rw[hs]at hA⊢
 refine Calls.callWith_builtin (by show(false||(backTo cpos (starEach es X.env)).any (·.1))=false;rw[hplain]<;>rfl) (Calls.evalArgs_plain ?_)
 exact cB hA fun us s2⟨vs,H2,I2,r2,q2⟩=>hm QTz s2 σ H2 x vs v us Q I2 r1 r2 q2
end
end L2
namespace L2
open PySem PySem.Spec PyProof.Rows
def MtM(X:Cx)(id:String)(r:V->List V->Hp->VK->Prop):Prop:=
 ∀(QTz:QQz)(s:Shared)(σ:St)(H:Hp)(x:V)(xs:List V)(v:Value)(us:List Value)(Q:VK),Inv X QTz σ H s->RelV x v->Vals xs us->r x xs H Q->
  wpAny (model X.prog X.w) X.A (call (.builtin id) (v::us)) (EP X QTz σ Q) X.xe s
theorem Vals.one:∀{x:V}{us:List Value},Vals [x] us->∃u,us=[u]/\RelV x u
 |_,_,.cons r .nil=>⟨_,rfl,r⟩
theorem Vals.two:∀{x y:V}{us:List Value},Vals [x,y] us->∃u v,us=[u,v]/\RelV x u/\RelV y v
 |_,_,_,.cons r (.cons q .nil)=>⟨_,_,rfl,r,q⟩
theorem Vals.zero:∀{us:List Value},Vals [] us->us=[]
 |_,.nil=>rfl
theorem Vals.eraseIdx:∀{xs:List V}{us:List Value}(i:Nat),Vals xs us->Vals (xs.eraseIdx i) (us.eraseIdx i)
 |_,_,_,.nil=>.nil
 |_,_,0,.cons _ t=>t
 |_,_,i+1,.cons r t=>.cons r (Vals.eraseIdx i t)
theorem uo{α:Type}:∀(l:List α)(i:Nat),(l.eraseIdx i).length<=l.length
 |[],_=>QVq _
 |_::_,0=>Nat.le_succ _
 |_::r,i+1=>Nat.succ_le_succ (uo r i)
section
variable{X:Cx}{QTz:QQz}{σ:St}{H:Hp}{s:Shared}{l b:Addr}{xs ys zs:List V}
theorem Inv.ZX{its its':List Value}{n:Nat}{f:Array Value->Array Value}{t':Nat}(I:Inv X QTz σ H s)(hH:H l=some (.lst xs))
  (e:s.heap.get? l=some {cls:=.type "list",data:=.seq its.toArray n})(hf:f its.toArray=its'.toArray)(hv:Vals ys its')(hz:ys.length<=sizeLine):
  Inv X QTz σ (upd H l (.lst ys)) {s with heap:=s.heap.update l (Obj.mapSeq f),toks:=t'}:=by
 have q:=PySem.IsL.update e f
 rw[hf]at q
 refine I.write (x:=l) (e:=l) (by rw[hH];exact trivial) (.inl rfl) (fun b' u hb hu=>(Heap.get?_update_other s.heap (Obj.mapSeq f) (Ne.symm hb)).trans hu) ⟨_,q⟩ ?_
 exact⟨hz,its',_,hv,q⟩
theorem Inv.adQ{its:List Value}{t':Nat}(I:Inv X QTz σ H s)(hv:Vals ys its)(hz:ys.length<=sizeLine):
  Inv X QTz σ (upd H s.heap.objs.size (.lst ys)) {s with heap:=s.heap.push {cls:=.type "list",data:=.seq its.toArray},toks:=t'}:=
 I.laid (fun _ _ q=>QXz _ q) (QVq _) ⟨hz,its,0,hv,Heap.get?_push_size _ rfl⟩
theorem Inv.fresh(I:Inv X QTz σ H s):H s.heap.objs.size=none:=I.hok.fresh (QVq _)
theorem Inv.ZW(I:Inv X QTz σ H s)(hH:H l=some (.lst xs)):xs.length<=sizeLine/\∃(its:List Value)(n:Nat),Vals xs its/\xs.length=its.length/\s.heap.get? l=some {cls:=.type "list",data:=.seq its.toArray n}:=by
 obtain⟨z,its,n,r,e⟩:=I.hok l _ hH
 exact⟨z,its,n,r,r.length,e⟩
end
section
variable{X:Cx}
def MT:V->List V->Hp->VK->Prop:=fun x vs H Q=>∃l xs y,x=.ref l/\vs=[y]/\H l=some (.lst xs)/\xs.length<sizeLine/\Q .non (upd H l (.lst (xs++[y])))
theorem uf:MtM X "list.append" MT:=by
 intro QTz s σ H x vs v us Q I rx rv h
 obtain⟨l,xs,y,rfl,rfl,hH,hz,q⟩:=h
 cases rx
 obtain⟨u,rfl,ru⟩:=rv.one
 obtain⟨z,its,n,r,hl,e⟩:=I.ZW hH
 refine call_meets F.slot_list_append ⟨_,e,rfl⟩ F.entry_list_append (F.args_list_append_2 _ _) (PySem.list_append l its.toArray n u (by rw[List.size_toArray];omega)) ⟨e,?_⟩
 refine⟨.non,_,I.ZX (its':=its++[u]) hH e (by simp) (r.append (.cons ru .nil)) ?_,rfl,q⟩
 rw[QUz,List.length_singleton]
 omega
def Tw:V->List V->Hp->VK->Prop:=fun x vs H Q=>∃l xs i k y,x=.ref l/\vs=[.int i]/\H l=some (.lst xs)/\ -(2 ^63)<=i/\i<2 ^63/\seqIndex? i xs.length=some k/\xs[k]? =some y/\Q y (upd H l (.lst (xs.eraseIdx k)))
theorem Iu:MtM X "list.pop" Tw:=by
 intro QTz s σ H x vs v us Q I rx rv h
 obtain⟨l,xs,i,k,y,rfl,rfl,hH,h1,h2,hk,hy,q⟩:=h
 cases rx
 obtain⟨u,rfl,ru⟩:=rv.one
 obtain⟨t,rfl⟩:=ru
 obtain⟨z,its,n,r,hl,e⟩:=I.ZW hH
 obtain⟨w,hw,rw'⟩:=r.get hy
 refine call_meets F.slot_list_pop ⟨_,e,rfl⟩ F.entry_list_pop (F.args_list_pop_2 _ _)
  (MeetsSeq.list_pop_at l its.toArray n i t k w (fitsIndex_both h1 h2) (by rw[List.size_toArray,<-hl];exact hk) (by rw[<-Array.getElem?_toList];exact hw) (by rw[List.size_toArray];omega)) ⟨e,?_⟩
 refine⟨y,_,I.ZX (its':=its.eraseIdx k) hH e ?_ (r.eraseIdx k) ?_,rw',q⟩
 ·show its.toArray.eraseIdxIfInBounds k=(its.eraseIdx k).toArray
  rw[List.eraseIdxIfInBounds_toArray]
 ·have:=uo xs k
  omega
end
section
variable{prog:Program}{w:World}{A:Around}{E:QZq}{s:Shared}
end
section
variable{X:Cx}
end
end L2
namespace L2
open PySem PySem.Spec PyProof.Rows
section
variable{κ:Type}[DecidableEq κ]
def gZ(kvs:List (κ×V))(k:κ):Option V:=(kvs.find? fun kv=>decide (kv.1=k)).map (·.2)
def putK(kvs:List (κ×V))(k:κ)(v:V):List (κ×V):=
 if (kvs.any fun kv=>decide (kv.1=k))=true then kvs.map (fun kv=>if kv.1=k then(kv.1,v)else kv)else kvs++[(k,v)]
theorem jw{p:κ×V}{r:List (κ×V)}{k:κ}(e:p.1=k):gZ (p::r) k=some p.2:=by simp[gZ,List.find?_cons,e]
theorem jx{p:κ×V}{r:List (κ×V)}{k:κ}(e:¬p.1=k):gZ (p::r) k=gZ r k:=by simp[gZ,List.find?_cons,e]
theorem pA(k:κ):∀kvs:List (κ×V),(kvs.any fun kv=>decide (kv.1=k))=(gZ kvs k).isSome
 |[]=>rfl
 |p::r=>by
  rw[List.any_cons]
  by_cases e:p.1=k
  ·simp only[jw e,decide_eq_true e,Bool.true_or,Option.isSome_some]
  ·rw[jx e,decide_eq_false e,Bool.false_or];exact pA k r
theorem jC(kvs:List (κ×V))(k:κ)(v:V):(putK kvs k v).length<=kvs.length+1:=by
 unfold putK
 split
 ·rw[List.length_map];omega
 ·rw[QUz,List.length_cons,List.length_nil];omega
theorem oW.iB{o:Option V}{u:Option Value}(r:oW o u):o.isSome=u.isSome:=by
 cases o with
 |none=>cases u with
  |none=>rfl
  |some _=>exact(show False from r).elim
 |some _=>cases u with
  |none=>exact(show False from r).elim
  |some _=>rfl
theorem oW.getD{o:Option V}{u:Option Value}{d:V}{d':Value}(r:oW o u)(rd:RelV d d'):RelV (o.getD d) (u.getD d'):=by
 cases o with
 |none=>cases u with
  |none=>exact rd
  |some _=>exact(show False from r).elim
 |some _=>cases u with
  |none=>exact(show False from r).elim
  |some _=>exact r
theorem KV.val{kvs:List (κ×V)}{vs:List (κ×Value)}(r:KV kvs vs)(k:κ):oW (gZ kvs k) (valueAt vs k):=by
 unfold KV at r
 induction r with
 |nil=>exact True.intro
 | @cons p q ps qs h t ih=>
  obtain⟨h1,h2⟩:=h
  by_cases e:p.1=k
  ·have e':q.1=k:=h1.symm.trans e
   have b:valueAt (q::qs) k=some q.2:=by simp[valueAt,List.find?_cons,e']
   rw[jw e,b];exact h2
  ·have e':¬q.1=k:=fun z=>e (h1.trans z)
   have b:valueAt (q::qs) k=valueAt qs k:=by simp[valueAt,List.find?_cons,e']
   rw[jx e,b];exact ih
theorem KV.any{kvs:List (κ×V)}{vs:List (κ×Value)}(r:KV kvs vs)(k:κ):(kvs.any fun kv=>decide (kv.1=k))=vs.any fun kv=>decide (kv.1=k):=by
 unfold KV at r
 induction r with
 |nil=>rfl
 |cons h t ih=>rw[List.any_cons,List.any_cons,ih,h.1]
theorem KV.repl{kvs:List (κ×V)}{vs:List (κ×Value)}(r:KV kvs vs)(k:κ){y:V}{u:Value}(ry:RelV y u):
  KV (kvs.map fun kv=>if kv.1=k then(kv.1,y)else kv) (vs.map fun kv=>if kv.1=k then(kv.1,u)else kv):=by
 unfold KV at r⊢
 induction r with
 |nil=>exact .nil
 | @cons p q ps qs h t ih=>
  rw[List.map_cons,List.map_cons]
  refine .cons ?_ ih
  obtain⟨h1,h2⟩:=h
  by_cases e:p.1=k
  ·rw[if_pos e,if_pos (h1.symm.trans e)];exact⟨h1,ry⟩
  ·rw[if_neg e,if_neg (fun z=>e (h1.trans z))];exact⟨h1,h2⟩
theorem KV.put{kvs:List (κ×V)}{vs:List (κ×Value)}(r:KV kvs vs)(k:κ){y:V}{u:Value}(ry:RelV y u):KV (putK kvs k y) (stored vs k u):=by
 unfold putK stored
 rw[r.any k]
 by_cases e:(vs.any fun kv=>decide (kv.1=k))=true
 ·rw[if_pos e,if_pos e];exact r.repl k ry
 ·rw[if_neg e,if_neg e];exact Paired.snoc r ⟨rfl,ry⟩
theorem KV.length{kvs:List (κ×V)}{vs:List (κ×Value)}(r:KV kvs vs):kvs.length=vs.length:=Paired.length r
end
theorem qt{P:Program}{w:World}{k:Key}{u:Value}(r:RelV (kV k) u):(bO P w).is k u=true:=by
 cases k with
 |inl i=>obtain⟨t,e⟩:=(show∃t,u=Value.int i t from r);subst e;exact xN P w i t
 |inr x=>obtain⟨t,e⟩:=(show∃t,u=Value.str x t from r);subst e;exact xM P w x t
theorem ux{P:Program}{w:World}:∀{ks:List Key}{us:List Value},Vals (ks.map kV) us->ItemsAre (bO P w) ks us
 |[],_,r=>by rw[List.map_nil]at r;cases r;exact .nil
 |k::ks,_,r=>by
  rw[List.map_cons]at r
  cases r with
  |cons h t=>exact .cons (qt h) (ux t)
abbrev KT(H:Hp):List (List Key×V)->List (List Key×Addr×Value)->Prop:=Paired fun p q=>p.1=q.1/\H q.2.1=some (.tup (p.1.map kV))/\RelV p.2 q.2.2
theorem KT.val{H:Hp}{kvs:List (List Key×V)}{xs:List (List Key×Addr×Value)}(r:KT H kvs xs)(k:List Key):oW (gZ kvs k) ((atKey xs k).map (·.2)):=by
 induction r with
 |nil=>exact True.intro
 | @cons p q ps qs h t ih=>
  obtain⟨h1,_,h2⟩:=h
  by_cases e:p.1=k
  ·have e':q.1=k:=h1.symm.trans e
   have b:atKey (q::qs) k=some q.2:=by simp[atKey,List.find?_cons,e']
   rw[jw e,b];exact h2
  ·have e':¬q.1=k:=fun z=>e (h1.trans z)
   have b:atKey (q::qs) k=atKey qs k:=by simp[atKey,List.find?_cons,e']
   rw[jx e,b];exact ih
theorem KT.repl{H:Hp}{kvs:List (List Key×V)}{xs:List (List Key×Addr×Value)}(r:KT H kvs xs)(k:List Key){y:V}{u:Value}(ry:RelV y u):
  KT H (kvs.map fun kv=>if kv.1=k then(kv.1,y)else kv) (xs.map (putAt k u)):=by
 induction r with
 |nil=>exact .nil
 | @cons p q ps qs h t ih=>
  rw[List.map_cons,List.map_cons]
  refine .cons ?_ ih
  obtain⟨h1,h2,h3⟩:=h
  unfold putAt
  by_cases e:p.1=k
  ·rw[if_pos e,if_pos (h1.symm.trans e)];exact⟨h1,h2,ry⟩
  ·rw[if_neg e,if_neg (fun z=>e (h1.trans z))];exact⟨h1,h2,h3⟩
theorem KT.put{H:Hp}{kvs:List (List Key×V)}{xs:List (List Key×Addr×Value)}(r:KT H kvs xs)(k:List Key){b:Addr}{y:V}{u:Value}(hb:H b=some (.tup (k.map kV)))(ry:RelV y u):
  KT H (putK kvs k y) (storedH xs k b u):=by
 have e:(kvs.any fun kv=>decide (kv.1=k))=(atKey xs k).isSome:=by
  rw[pA,(r.val k).iB,Option.isSome_map]
 unfold putK storedH
 rw[e]
 by_cases q:(atKey xs k).isSome=true
 ·rw[if_pos q,if_pos q];exact r.repl k ry
 ·rw[if_neg q,if_neg q];exact Paired.snoc r ⟨rfl,hb,ry⟩
theorem KT.keeps{H H':Hp}{kvs:List (List Key×V)}{xs:List (List Key×Addr×Value)}(r:KT H kvs xs)(ht:∀b ys,H b=some (.tup ys)->H' b=some (.tup ys)):KT H' kvs xs:=
 Paired.Uv r fun _ _ z=>⟨z.1,ht _ _ z.2.1,z.2.2⟩
section
variable{P:Program}{w:World}{H:Hp}{h:Heap}{a:Addr}
theorem QG{u:HO}(ok:ju P w H h)(e:Rd H a u):b8 P w H h a u:=e.ok ok
theorem nW{kvs:List (Key×V)}(ok:ju P w H h)(e:Rd H a (.dK kvs)):kvs.length<=sizeLine/\(a==sysModules)=false/\∃vs,KV kvs vs/\h.DictOf (bO P w) a vs:=
 show b8 P w H h a (.dK kvs)from QG ok e
theorem Rt{kvs:List (Key×V)}(ok:ju P w H h)(e:H a=some (.dK kvs)):kvs.length<=sizeLine/\(a==sysModules)=false/\∃vs,KV kvs vs/\h.DictOf (bO P w) a vs:=nW ok (.inl e)
theorem nA{ks:List Key}(ok:ju P w H h)(e:H a=some (.tup (ks.map kV))):(tupleKind (bO P w)).is h ks a:=by
 obtain⟨_,its,r,o,h1,h2,_,n,h3⟩:=(show b8 P w H h a (.tup (ks.map kV))from ok a _ e)
 exact⟨o,its.toArray,n,h1,h2,h3,by simpa using ux r⟩
theorem qM{kvs:List (List Key×V)}(ok:ju P w H h)(e:Rd H a (.dT kvs)):kvs.length<=sizeLine/\(a==sysModules)=false/\
  ∃xs,KT H kvs xs/\h.DictOfH (tupleKind (bO P w)) a xs:=by
 obtain⟨z,y,xs,r,o,es,ep,h1,h2,h3,h4,h5⟩:=(show b8 P w H h a (.dT kvs)from QG ok e)
 refine⟨z,y,xs,r,o,es,ep,h1,h2,h3,h4,fun x hx=>?_,h5⟩
 have all:∀{l:List (List Key×V)}{m:List (List Key×Addr×Value)},KT H l m->∀x∈m,(tupleKind (bO P w)).is h x.1 x.2.1:=by
  intro l m q
  induction q with
  |nil=>intro x hx;exact nomatch hx
  | @cons p q ps qs hq t ih=>
   intro x hx
   rcases List.mem_cons.mp hx with e|hx
   ·subst e
    exact nA ok (by rw[<-hq.1];exact hq.2.1)
   ·exact ih x hx
 exact all r x hx
theorem aaP{kvs:List (List Key×V)}(ok:ju P w H h)(e:H a=some (.dT kvs)):kvs.length<=sizeLine/\(a==sysModules)=false/\
  ∃xs,KT H kvs xs/\h.DictOfH (tupleKind (bO P w)) a xs:=qM ok (.inl e)
end
def rN(H:Hp)(a:Addr)(y:V)(r:Option V):Prop:=
 (∃kvs k,Rd H a (.dK kvs)/\y=kV k/\r=gZ kvs k)\/∃kvs k b,Rd H a (.dT kvs)/\y=.ref b/\H b=some (.tup (k.map kV))/\r=gZ kvs k
def An(H:Hp)(a:Addr)(y v:V)(H':Hp):Prop:=
 (∃kvs k,H a=some (.dK kvs)/\y=kV k/\kvs.length<sizeLine/\H'=upd H a (.dK (putK kvs k v)))\/
 ∃kvs k b,H a=some (.dT kvs)/\y=.ref b/\H b=some (.tup (k.map kV))/\kvs.length<sizeLine/\H'=upd H a (.dT (putK kvs k v))
theorem rN.k{H:Hp}{a:Addr}{kvs:List (Key×V)}{k:Key}(e:H a=some (.dK kvs)):rN H a (kV k) (gZ kvs k):=.inl ⟨kvs,k,.inl e,rfl,rfl⟩
theorem rN.t{H:Hp}{a b:Addr}{kvs:List (List Key×V)}{k:List Key}(e:H a=some (.dT kvs))(eb:H b=some (.tup (k.map kV))):rN H a (.ref b) (gZ kvs k):=.inr ⟨kvs,k,b,.inl e,rfl,eb,rfl⟩
theorem An.k{H:Hp}{a:Addr}{kvs:List (Key×V)}{k:Key}{v:V}(e:H a=some (.dK kvs))(hl:kvs.length<sizeLine):An H a (kV k) v (upd H a (.dK (putK kvs k v))):=.inl ⟨kvs,k,e,rfl,hl,rfl⟩
theorem An.t{H:Hp}{a b:Addr}{kvs:List (List Key×V)}{k:List Key}{v:V}(e:H a=some (.dT kvs))(eb:H b=some (.tup (k.map kV)))(hl:kvs.length<sizeLine):
  An H a (.ref b) v (upd H a (.dT (putK kvs k v))):=.inr ⟨kvs,k,b,e,rfl,eb,hl,rfl⟩
section
variable{X:Cx}{QTz:QQz}{σ:St}{H:Hp}{s:Shared}{a:Addr}{y v:V}{u r:Value}{o:Option V}{A:Around}{E:QZq}
theorem Inv.big(I:Inv X QTz σ H s):sysModules<s.heap.objs.size:=by
 have h:mainGlobals<s.heap.objs.size:=(I.mod.glob.keeps I.bk).lt
 exact Nat.lt_trans (by decide) h
theorem Fx{Q:QZq}(hu:A.units+1<cLine)(I:Inv X QTz σ H s)(g:rN H a y (some v))(ry:RelV y u)(h:∀w' s',Inv X QTz σ H s'->RelV v w'->Q w' s'):
  wpAny (model X.prog X.w) A (getItem (.ref a) u) Q E s:=by
 rcases g with ⟨kvs,k,e,ey,l⟩|⟨kvs,k,b,e,ey,eb,l⟩
 ·subst ey
  obtain⟨z,hd,vs,rel,dd⟩:=nW I.hok e
  obtain⟨w',hw,rw'⟩:=oW.some_of (v:=v) (o:=valueAt vs k) (by rw[l];exact rel.val k)
  exact wpAny_getItem_of (qt ry) dd.mapOf hw (h w' _ (I.tok _) rw')
 ·subst ey
  cases (show u=Value.ref b from ry)
  obtain⟨z,hd,xs,rel,dd⟩:=qM I.hok e
  obtain⟨w',hw,rw'⟩:=oW.some_of (v:=v) (o:=(atKey xs k).map (·.2)) (by rw[l];exact rel.val k)
  obtain⟨p,hp,hp2⟩:=Option.map_eq_some_iff.mp hw
  refine wpAny_getItem_heap (tupleKind_room_in1 hu) (nA I.hok eb) dd hp ?_
  rw[hp2]
  exact h w' _ (I.tok _) rw'
theorem aeB{Q:QZq}(hu:A.units+1<cLine)(I:Inv X QTz σ H s)(g:rN H a y o)(ry:RelV y u)(h:∀s',Inv X QTz σ H s'->Q (.bool o.isSome) s'):
  wpAny (model X.prog X.w) A (compareOp .In u (.ref a)) Q E s:=by
 rcases g with ⟨kvs,k,e,ey,l⟩|⟨kvs,k,b,e,ey,eb,l⟩
 ·subst ey
  obtain⟨z,hd,vs,rel,dd⟩:=nW I.hok e
  refine wpAny_in_of (qt ry) hd dd.mapOf ?_
  rw[<- (rel.val k).iB,<-l]
  exact h _ (I.tok _)
 ·subst ey
  cases (show u=Value.ref b from ry)
  obtain⟨z,hd,xs,rel,dd⟩:=qM I.hok e
  refine wpAny_in_heap (tupleKind_room_in1 hu) (nA I.hok eb) hd dd ?_
  have q:=(rel.val k).iB
  rw[Option.isSome_map]at q
  rw[<-q,<-l]
  exact h _ (I.tok _)
theorem Pb{Q:QZq}(hu:A.units+1<cLine)(I:Inv X QTz σ H s)(g:rN H a y o)(ry:RelV y u)(h:∀s',Inv X QTz σ H s'->Q (.bool (!o.isSome)) s'):
  wpAny (model X.prog X.w) A (compareOp .NotIn u (.ref a)) Q E s:=by
 rcases g with ⟨kvs,k,e,ey,l⟩|⟨kvs,k,b,e,ey,eb,l⟩
 ·subst ey
  obtain⟨z,hd,vs,rel,dd⟩:=nW I.hok e
  refine wpAny_notIn_of (qt ry) hd dd.mapOf ?_
  rw[<- (rel.val k).iB,<-l]
  exact h _ (I.tok _)
 ·subst ey
  cases (show u=Value.ref b from ry)
  obtain⟨z,hd,xs,rel,dd⟩:=qM I.hok e
  refine wpAny_notIn_heap (tupleKind_room_in1 hu) (nA I.hok eb) hd dd ?_
  have q:=(rel.val k).iB
  rw[Option.isSome_map]at q
  rw[<-q,<-l]
  exact h _ (I.tok _)
theorem v7{h':Heap}{t':Nat}{ob:HO}(I:Inv X QTz σ H s)(mu:Mut (H a))(hs:Heap.SameBut a s.heap h')(he:∃q,h'.get? a=some q)(new:b8 X.prog X.w (upd H a ob) h' a ob):
  Inv X QTz σ (upd H a ob) {s with heap:=h',toks:=t'}:=
 I.write (x:=a) (e:=a) mu (.inl rfl) (fun b q hb z=>(hs.2 b hb).trans z) he new
theorem JV{P:Program}{w:World}{H':Hp}{h':Heap}{kvs:List (Key×V)}{vs:List (Key×Value)}(z:kvs.length<=sizeLine)(hd:(a==sysModules)=false)(rel:KV kvs vs)(dd:h'.DictOf (bO P w) a vs):
  b8 P w H' h' a (.dK kvs):=⟨z,hd,vs,rel,dd⟩
theorem Fw{H':Hp}{Q:Unit->Shared->Prop}(hu:A.units+1<cLine)(I:Inv X QTz σ H s)(g:An H a y v H')(ry:RelV y u)(rv:RelV v r)(h:∀s',Inv X QTz σ H' s'->Q () s'):
  wpAny (model X.prog X.w) A (setItem (.ref a) u r) Q E s:=by
 rcases g with ⟨kvs,k,e,ey,l,eH⟩|⟨kvs,k,b,e,ey,eb,l,eH⟩
 ·subst ey eH
  obtain⟨z,hd,vs,rel,dd⟩:=Rt I.hok e
  have hz:vs.length<=sizeLine:=by rw[<-rel.length];exact z
  have hl:(putK kvs k v).length<=sizeLine:=by have:=jC kvs k v;omega
  refine wpAny_setItem_pairs (hsz:=hz) (qt ry) dd fun h' dd' hs=>h _ ?_
  have he:∃q,h'.get? a=some q:=let ⟨q,_,_,hq,_⟩:=dd';⟨q,hq⟩
  exact v7 I (by rw[e];exact True.intro) hs he (JV hl hd (rel.put k rv) dd')
 ·subst ey eH
  cases (show u=Value.ref b from ry)
  obtain⟨z,hd,xs,rel,dd⟩:=aaP I.hok e
  have hz:xs.length<=sizeLine:=by rw[<-Paired.length rel];exact z
  have hl:(putK kvs k v).length<=sizeLine:=by have:=jC kvs k v;omega
  refine wpAny_setItem_heap (hsz:=hz) (tupleKind_room_in1 hu) (nA I.hok eb) dd fun h' dd' hs=>h _ ?_
  obtain⟨q,es,ep,hq,h2,h3,h4,_,h5⟩:=dd'
  refine v7 I (by rw[e];exact True.intro) hs ⟨q,hq⟩ ⟨hl,hd,_,(rel.put k eb rv).keeps fun c ys ec=>?_,q,es,ep,hq,h2,h3,h4,h5⟩
  rw[aC (ZV ec e (fun z=>nomatch z))]
  exact ec
end
section
variable{X:Cx}{QTz:QQz}{σ:St}{H:Hp}{s:Shared}{a:Addr}{kvs:List (Key×V)}{k:Key}{u:Value}{A:Around}{E:QZq}
theorem aaR{Q:QZq}(I:Inv X QTz σ H s)(e:Rd H a (.dK kvs))(h:∀t s',Inv X QTz σ H s'->Q (.int kvs.length t) s'):wpAny (model X.prog X.w) A (call (.builtin "len") [.ref a]) Q E s:=by
 obtain⟨z,hd,vs,rel,dd⟩:=nW I.hok e
 refine call_len_dict hd dd (by rw[<-rel.length];rw[sizeLine_eq]at z;omega) ?_
 rw[<-rel.length]
 exact h _ _ (I.tok _)
end
theorem yq{X:Cx}{QTz:QQz}{σ:St}{H:Hp}{s:Shared}{a:Addr}{y:V}{o:Option V}(I:Inv X QTz σ H s)(g:rN H a y o):s.TypeIs (.ref a) "dict":=by
 rcases g with ⟨kvs,k,e,_,_⟩|⟨kvs,k,b,e,_,_,_⟩
 ·obtain⟨_,_,vs,_,dd⟩:=nW I.hok e
  exact dd.typeIs
 ·obtain⟨_,_,xs,_,dd⟩:=qM I.hok e
  exact dd.typeIs
section
variable{X:Cx}{o i e value:Expr}{pos pos' tpos:Pos}{td ty tv:TE}
end
theorem JW{P:Program}{w:World}{H:Hp}(h:Heap)(hb:sysModules<h.objs.size):b8 P w H (h.push {cls:=.type "dict",data:=.dict #[]}) h.objs.size (.dK []):=
 ⟨Nat.zero_le _,beq_eq_false_iff_ne.mpr (Ne.symm (Nat.ne_of_lt hb)),[],.nil,Heap.DictOf.new h⟩
section
variable{X:Cx}{pos:Pos}
end
structure M2(X:Cx)(o:Expr)(m:Str)(apos:Pos)(e f:Expr)(cpos:Pos):Prop where
 base:attributeBase o m X.env (eval o X.env)=eval o X.env
 few:((backTo cpos (starEach [e,f] X.env)).all (fun x=> !x.1)&&(backToKw cpos (keywordEach [] X.env)).all (fun x=>x.1.isSome)
  &&decide (([e,f]:List Expr).length+([]:List Keyword).length+(if ([]:List Keyword).isEmpty then 0 else 1)<30))=true
 line:(apos.endLine==cpos.line)=true
 trees:backTo cpos (starEach [e,f] X.env)=[(false,eval e X.env),(false,eval f X.env)]
def IsD(H:Hp)(a:Addr):Prop:=(∃kvs,Rd H a (.dK kvs))\/∃kvs,Rd H a (.dT kvs)
theorem Vb{X:Cx}{QTz:QQz}{σ:St}{H:Hp}{s:Shared}{a:Addr}(I:Inv X QTz σ H s)(d:IsD H a):
  s.TypeIs (.ref a) "dict"/\(∀b,Value.ref a=.ref b->∃ob,s.heap.get? b=some ob/\ob.dict=none)/\(a==sysModules)=false:=by
 rcases d with ⟨kvs,e⟩|⟨kvs,e⟩
 ·obtain⟨_,hd,vs,_,dd⟩:=nW I.hok e
  refine⟨dd.typeIs,fun b q=>?_,hd⟩
  cases q
  obtain⟨ob,_,_,h1,h2,_⟩:=dd
  exact⟨ob,h1,h2.2.1⟩
 ·obtain⟨_,hd,xs,_,dd⟩:=qM I.hok e
  refine⟨dd.typeIs,fun b q=>?_,hd⟩
  cases q
  obtain⟨ob,_,_,h1,h2,_⟩:=dd
  exact⟨ob,h1,h2.2.1⟩
section
variable{X:Cx}{QTz:QQz}{σ:St}{H:Hp}{s:Shared}{a:Addr}{y d:V}{u r:Value}{o:Option V}{A:Around}{E:QZq}
theorem V3{Q:QZq}(hu:A.units+1<cLine)(I:Inv X QTz σ H s)(g:rN H a y o)(ry:RelV y u)(rd:RelV d r)(h:∀w' s',Inv X QTz σ H s'->RelV (o.getD d) w'->Q w' s'):
  wpAny (model X.prog X.w) A (call (.builtin "dict.get") [.ref a,u,r]) Q E s:=by
 rcases g with ⟨kvs,k,e,ey,l⟩|⟨kvs,k,b,e,ey,eb,l⟩
 ·subst ey
  obtain⟨z,hd,vs,rel,dd⟩:=nW I.hok e
  refine call_meetsIn PySem.F.slot_dict_get dd.typeIs PySem.F.entry_dict_get (PySem.F.args_dict_get_3 _ _ _) (meets_dict_get_default (bO X.prog X.w) a (qt ry) hd r) ⟨_,dd.mapOf,h _ _ (I.tok _) ?_⟩
  rw[l]
  exact(rel.val k).getD rd
 ·subst ey
  cases (show u=Value.ref b from ry)
  obtain⟨z,hd,xs,rel,dd⟩:=qM I.hok e
  refine call_meetsIn PySem.F.slot_dict_get dd.typeIs PySem.F.entry_dict_get (PySem.F.args_dict_get_3 _ _ _) (meetsH_dict_get_default (tupleKind (bO X.prog X.w)) a b hd r) ⟨tupleKind_room_in1 hu,k,xs,nA I.hok eb,dd,h _ _ (I.tok _) ?_⟩
  rw[l]
  exact(rel.val k).getD rd
end
def SJ(td ty tx:TE):TE:=fun σ H Q=>td σ H fun x H1=>∃a,x=.ref a/\IsD H1 a/\ty σ H1 fun y H2=>tx σ H2 fun z H3=>∃o,rN H3 a y o/\Q (o.getD z) H3
section
variable{X:Cx}{o e f:Expr}{apos cpos:Pos}{td ty tx:TE}
theorem HS(hu:X.A.units+1<cLine)(ho:PE X o td)(he:PE X e ty)(hf:PE X f tx)(m:M2 X o "get" apos e f cpos):PE X (.Call (.Attribute o "get" apos) [e,f] [] cpos) (SJ td ty tx):=by
 intro QTz s σ H Q I h
 refine wpAny_Call_method m.base m.few m.line PySem.F.plainAttrs_dict PySem.F.slot_dict_get PySem.F.type_dict_get (cB (ho QTz s σ H _ I h) fun u s1⟨x,H1,I1,rx,a,ex,d,q1⟩=>?_)
 subst ex
 obtain rfl:u=Value.ref a:=rx
 obtain⟨t1,t2,_⟩:=Vb I1 d
 refine⟨t1,t2,?_⟩
 rw[m.trees]
 refine Calls.callWith_builtin rfl (Calls.evalArgs_plain (Calls.spliced_cons (cB (he QTz s1 σ H1 _ I1 q1) fun iv s2⟨y,H2,I2,ry,q2⟩=>
  Calls.spliced_cons (cB (hf QTz s2 σ H2 _ I2 q2) fun fv s3⟨z,H3,I3,rz,ov,g,q3⟩=>Calls.spliced_nil ?_))))
 exact V3 hu I3 g ry rz fun w' s4 I4 rw'=>⟨_,H3,I4,rw',q3⟩
end
section
variable{X:Cx}{QTz:QQz}{σ:St}{H:Hp}{s:Shared}{a:Addr}{kvs:List (Key×V)}{A:Around}{E:QZq}
end
section
variable{X:Cx}{QTz:QQz}{σ:St}{H:Hp}{s:Shared}{a:Addr}{y:V}{u:Value}{A:Around}{E:QZq}
end
end L2
namespace Att
open PySem PySem.W PySem.Calls PyProof.Rows
theorem oU{P:Params}{h:Heap}:∀(ns:List Int)(vs:List Value),WellAll P h vs (ns.map WData.int)->IntsAre vs ns:=by
 intro ns
 induction ns with
 |nil=>
  intro vs w
  rw[List.map_nil]at w
  cases w
  exact .nil
 |cons n ns ih=>
  intro vs w
  rw[List.map_cons]at w
  cases w with
  |cons a b=>
   cases a
   exact .cons _ _ (ih _ b)
theorem Dw{l:OpenLaw}{n:Nat}(hn:l.most=some n){P:Params}{h:Heap}{args:List WData}{vals:List Value}
  (hpre:l.row.toRowW.claim.pre args=true)(hwl:WellAll P h vals args):
  ∃a vs ns,vals=[Value.ref a]/\args=[WData.list (ns.map WData.int)]/\h.get? a=some {cls:=.type "list",data:=.seq vs.toArray}/\IntsAre vs ns/\ns.length<=n:=by
 have hsh:WShape.hasAll [] args [.list .int]=true:=(pre_splitW hpre).1
 have hc:l.pre.holds [] {args:=args}=true:=(pre_splitW hpre).2
 obtain⟨d,r,rfl,h1,h2⟩:=hasAllW_cons hsh
 obtain rfl:=hasAllW_nil h2
 obtain⟨xs,rfl,h3⟩:=hasW_list h1
 obtain⟨ns,rfl⟩:=items_int h3
 have hlen:ns.length<=n:=by
  unfold OpenLaw.pre at hc
  have h4:(WTm.not (.lt (.lit (.int (n:Int))) (.len (.arg 0)))).holds [] {args:=[.list (ns.map .int)]}=true:=by
   have h4:=(holds_andW hc).1
   rw[hn]at h4
   exact h4
  have h5:=condW_of h4 (w_not (w_lt w_lit (w_len_list (w_arg rfl))))
  rw[List.length_map]at h5
  refine Nat.le_of_not_lt fun q=>?_
  have q':(n:Int)< ((ns.length:Nat):Int):=by omega
  first
   |(rw[decide_eq_true q']at h5;exact absurd h5 (by decide))
   |(simp at h5;omega)
 cases hwl with
 |cons w1 w2=>
  cases w2
  cases w1 with
  |list ho hall=>exact⟨_,_,ns,rfl,rfl,ho,oU ns _ hall,hlen⟩
theorem Ea(l:OpenLaw)(args:List WData):l.row.toRowW.claim.post args (.bool true) args=true:=
 postW_of (r:=l.row.toRowW) (X:=(true==true))
  (show WShape.has [] (.bool true) .bool=true by first|rfl|decide|simp[WShape.has,WShape.arms,WShape.armsAll])
  (show(WTm.eq .res (.lit (.bool true))).value [] {args:=args,res:=some (.bool true),after:=args}=some (.bool (true==true))from w_eq_bool (w_res rfl) w_lit) rfl
theorem yC{l:OpenLaw}{n:Nat}{q:Program}{loose:List Str}{XP:QZz->Heap->Prop}{YP:World->Heap->Prop}{d:DefRec}
  (hn:l.most=some n)(hdf:d.params.defaults=[])
  (call:∀(w:World)(s₀ s₁:Shared)(mg mb:QZz)(fa:Addr)(o:Obj)(pm cd doc:Value)(a:Addr)(vs:List Value)(ns:List Int),
   Ground q loose [] XP w s₀ mg mb s₁.heap->YP w s₁.heap->
   s₁.heap.get? fa=some o->o.data=.func (docDef d.name d.params d.body d.scope pm cd doc)->s₁.heap.CodeRec cd d.name->mg d.name=some (.ref fa)->
   s₁.heap.get? a=some {cls:=.type "list",data:=.seq vs.toArray}->IntsAre vs ns->ns.length<=n->s₁.gens= #[]->
   codeAny (model l.prog w) callerA (.call (.ref fa) ⟨[.ref a],[]⟩) (fun r s'=>r=.ok (.ret (.bool true))/\OldK s₁.heap s'.heap/\s'.os=s₁.os/\AllBare s'.gens) s₁):
  WalkO q loose XP YP l.row.toRowW d [] (fun f vs=>PySem.call f vs):=by
 intro w s₀ s₁ mg mb G Y fa o pm cd doc dV kV ho hd hcd hD hmg hg args vals as hpre hlay hrd hwl hlo
 obtain rfl:dV=.none:=Dflts.none hD hdf
 obtain rfl:kV=.none:=Dflts.noKw hD
 obtain⟨a,vs,ns,rfl,rfl,hobj,hints,hlen⟩:=Dw hn hpre hwl
 refine enter_call (codeAny_mono (call w s₀ s₁ mg mb fa o pm cd doc a vs ns G Y ho (fd_plain hd) hcd hmg hobj hints hlen hg) fun r s' hq=>?_)
 obtain⟨rfl,h2,h3,h4⟩:=hq
 exact⟨.inl ⟨.bool true,.bool true,[],rfl,fun _=>rfl,.bool true,Ea l _,fun _=>⟨List.Pairwise.nil,fun _ hm=>(nomatch hm)⟩⟩,h2,h3,h4⟩
section
variable{prog:Program}{w:World}{A:Around}{E:QZq}{s:Shared}{K:Frag}
end
end Att
namespace L2
open PySem PySem.Spec PyProof.Rows
theorem sS:∀{vs:List Value}{ns:List Int},IntsAre vs ns->Vals (ns.map V.int) vs
 |_,_,.nil=>.nil
 |_,_,.cons n t h=>.cons ⟨t,rfl⟩ (sS h)
def Only(H:Hp):Prop:=∀b,H b=none\/∃o xs,H b=some (.frz o (.lst xs))
theorem IW{P:Program}{w:World}{K:QQq}{mg mb:QZz}{CX:Aq}{k:Nat}{fa a:Addr}{fd:FuncData}{x:Str}{sp:Sp}{s₁:Shared}{vs:List Value}{ns:List Int}
  (KX:K.In s₁.heap)(hns:s₁.heap.Ns mainGlobals mg)(hb:s₁.heap.Ns builtinsNs mb)(hbb:∀x:Str,x≠"__name__"->mb x=bootBuiltins x)(hlim:s₁.heap.NoLimit)(hg:s₁.gens= #[])
  (ha:s₁.heap.get? a=some {cls:=.type "list",data:=.seq vs.toArray})(hi:IntsAre vs ns)(hl:ns.length<=sizeLine)(hr:gY k callerA)
  (F:∀base:Heap,K.In base->base.Ns mainGlobals mg->gm P w K mg base CX k fa fd [x] sp)(hbind:∀(s:Shared)(u:Value),BindsTo s fd ⟨[u],[]⟩ [(x,u)])
  (hsp:∀H:Hp,Only H->jK K H a (ns.map V.int)->sp [.ref a] H (fun v _=>v=.bl true) fun _ _ _=>False)
  (hCX:∀H e s',CX [] H s₁ (fun _ _ _=>False) e s'->False):
  codeAny (model P w) callerA (.call (.ref fa) ⟨[.ref a],[]⟩) (fun r s'=>r=.ok (.ret (.bool true))/\OldK s₁.heap s'.heap/\s'.os=s₁.os/\AllBare s'.gens) s₁:=by
 have rv:=sS hi
 have lenV:=hi.length
 have core:∀H:Hp,Only H->jK K H a (ns.map V.int)->ju P w H s₁.heap->(∀b,H b≠none->b=a)->(H a≠none->K.lookup a=none)->
   codeAny (model P w) callerA (.call (.ref fa) ⟨[.ref a],[]⟩) (fun r s'=>r=.ok (.ret (.bool true))/\OldK s₁.heap s'.heap/\s'.os=s₁.os/\AllBare s'.gens) s₁:=by
  intro H hO hS hok hA hK
  have mC:∀{b:Addr}{o:Obj},s₁.heap.get? b=some o->H b=none->(vR s₁.heap H).get? b=some o:=fun e n=>Jx e n
  have noA:∀{b:Addr}{o:Obj}{es:Array DictEntry}{ep:Nat},s₁.heap.get? b=some o->o.data=.dict es ep->H b=none:=fun{b o es ep}e d=>by
   cases q:H b with
   |none=>rfl
   |some u=>
    have e':b=a:=hA b (by rw[q];simp)
    subst e'
    rw[ha]at e;cases e
    have d':Data.seq vs.toArray _=Data.dict es ep:=d
    cases d'
  have nsK:∀{b:Addr}{m:QZz},s₁.heap.Ns b m->(vR s₁.heap H).Ns b m:=fun{b m}⟨o,es,ep,e,d,r⟩=>⟨o,es,ep,mC e (noA e d),d,r⟩
  have hKb:K.In (vR s₁.heap H):=fun b o e=>mC (KX b o e) (by
   cases q:H b with
   |none=>rfl
   |some u=>
    have e':b=a:=hA b (by rw[q];simp)
    subst e'
    rw[hK (by rw[q];simp)]at e;cases e)
  have hM:Mod K mg (vR s₁.heap H):=⟨hKb,nsK hns,⟨mb,nsK hb,hbb⟩,let ⟨mc,h1,h2⟩:=hlim;⟨mc,nsK h1,h2⟩⟩
  have e0:Am P w K mg (vR s₁.heap H) callerA [] s₁ H:=⟨rfl,hM,fun b o e=>NQ e,Nat.le_of_eq (Fe _ _),trivial,fun b hb=>absurd (show b∈([]:List Addr)from hb) (by simp),hok,.of_eq hg⟩
  refine codeAny_mono ((F _ hKb (nsK hns)).run callerA [] s₁ H ⟨[.ref a],[]⟩ [.ref a] [.ref a] _ _ hr e0 (hbind s₁ (.ref a)) (.cons rfl .nil) (hsp H hO hS)) fun r s' h=>?_
  cases r with
  |error e=>exact(hCX H e s' h).elim
  |ok fl=>
   cases fl with
   |next=>exact False.elim h
   |brk=>exact False.elim h
   |cont=>exact False.elim h
   |ret u=>
    obtain⟨v,H',os,bare,un,hok',r',q⟩:=h
    have q':v=.bl true:=q
    subst q'
    obtain rfl:u=Value.bool true:=r'
    refine⟨rfl,OldK.of_keep fun b o e=>?_,os,bare⟩
    cases q:H b with
    |none=>exact un.keep b o e q (by intro z;exact absurd (show b∈([]:List Addr)from z) (by simp)) (by simp)
    |some u=>
     rcases hO b with z|⟨ob,xs,z⟩
     ·rw[q]at z;cases z
     ·have z2:=un.frzs b ob _ z
      obtain⟨e1,_⟩:=hok b _ z
      obtain⟨e2,_⟩:=hok' b _ z2
      rw[e]at e1;cases e1
      exact e2
 cases hk:K.lookup a with
 |some o=>
  have e:=KX a o hk
  rw[ha]at e
  cases e
  refine core (fun _=>none) (fun _=>.inl rfl) (.inr ⟨_,vs.toArray,_,hk,rfl,rfl,rfl,by rw[List.size_toArray,lenV];exact hl,by simpa using rv⟩) (fun b u z=>by have z':(none:Option HO)=some u:=z;cases z') (fun b z=>absurd rfl z) fun z=>absurd rfl z
 |none=>
  refine core (fun b=>if b=a then some (.frz {cls:=.type "list",data:=.seq vs.toArray} (.lst (ns.map V.int)))else none) (fun b=>?_) (.inl (.inr ⟨{cls:=.type "list",data:=.seq vs.toArray},if_pos rfl⟩)) (fun b u z=>?_) (fun b z=>?_) fun _=>hk
  ·by_cases hb:b=a
   ·exact .inr ⟨_,_,if_pos hb⟩
   ·exact .inl (if_neg hb)
  ·by_cases hb:b=a
   ·have z':=(if_pos hb).symm.trans z
    cases z'
    subst hb
    exact⟨ha,by rw[List.length_map];exact hl,vs,_,rv,ha⟩
   ·have z':=(if_neg hb).symm.trans z
    cases z'
  ·by_cases hb:b=a
   ·exact hb
   ·exact absurd (if_neg hb) z
end L2
namespace L2
open PySem PySem.Spec PyProof.Rows
theorem Ld{l:PySem.W.OpenLaw}{n k:Nat}{q:Program}{loose:List Str}{XP:QZz->Heap->Prop}{YP:World->Heap->Prop}{d:DefRec}{K:Params->QQq}{CX:World->Aq}{sp:World->Sp}{x:Str}
  (hn:l.most=some n)(hn2:n<=sizeLine)(hdf:d.params.defaults=[])(hr:gY k callerA)
  (hY:∀(w:World)(h:Heap),YP w h->(K w.params).In h)
  (F:∀(w:World)(mg:QZz)(fa:Addr)(h:Heap),(K w.params).In h->h.Ns mainGlobals mg->mg d.name=some (.ref fa)->
   ∃fd:FuncData,(∀(s:Shared)(u:Value),BindsTo s fd ⟨[u],[]⟩ [(x,u)])/\
    ∀base:Heap,(K w.params).In base->base.Ns mainGlobals mg->gm l.prog w (K w.params) mg base (CX w) k fa fd [x] (sp w))
  (hsp:∀(w:World)(H:Hp)(a:Addr)(ns:List Int),ns.length<=n->Only H->jK (K w.params) H a (ns.map V.int)->sp w [.ref a] H (fun v _=>v=.bl true) fun _ _ _=>False)
  (hCX:∀(w:World)(H:Hp)(s:Shared)(e:Value)(s':Shared),CX w [] H s (fun _ _ _=>False) e s'->False):
  PySem.W.WalkO q loose XP YP l.row.toRowW d [] (fun f vs=>PySem.call f vs):=by
 refine Att.yC hn hdf fun w s₀ s₁ mg mb fa o pm cd doc a vs ns G Y ho hd hcd hmg hobj hints hlen hg=>?_
 have KX:=hY w _ Y
 obtain⟨fd,hb,hF⟩:=F w mg fa _ KX G.T.g hmg
 exact IW KX G.T.g G.T.b G.T.builtins G.T.nolimit hg hobj hints (Nat.le_trans hlen hn2) hr hF hb (fun H hO hS=>hsp w H a ns hlen hO hS) fun H e s'=>hCX w H s₁ e s'
end L2
namespace L2
open PySem PySem.Spec PyProof.Rows
abbrev yF:Aq:=fun _ _ _ _ _ _=>False
abbrev E0:XK:=fun _ _ _=>False
theorem Zz{X:Cx}:Ai yF X E0:=fun _ _ _ _ _ _ _ h=>h.elim
structure Qd(K:QQq)(x qual:Str)(st:Stmt)(f:Addr)(fd:FuncData):Prop where
 ex:∃(oc:Value)(od:Option Addr)(kV doc pm:Value)(an:Option Addr)(cdv ct:Value)(osl:Array (Option Value)),
  fd=PySem.W.fnOf x qual (dG st) (cJ st) (aF st) .none kV doc pm an cdv ct/\K.lookup f=some ⟨oc,od,.func fd,osl⟩/\PySem.W.codeIn K cdv qual=true
 kp:PySem.W.keepIn K (.ref f)=true
section
variable{P:Program}{w:World}{K:QQq}{mg:QZz}{base:Heap}
theorem Qd.ok{x qual:Str}{st:Stmt}{f:Addr}{fd:FuncData}{N ps:List Str}{k:Nat}{sp:Sp}(F:Qd K x qual st f fd)(S:eG N ps (aF st))(len:∀vs H Q E,sp vs H Q E->vs.length=ps.length)
  (hbody:∀(cdv:Value)(A:Around)(outer:List Env)(s:Shared)(H:Hp)(vs:List V)(Q:VK)(E:XK),gY k (A.deeper (envOfC qual (aF st) s.heap.objs.size f cdv))->sp vs H Q E->
   ∃t,uY (iD yF P w K mg base N qual (aF st) f cdv A outer s H E).QW (cJ st) t/\t {nx:=fun _ H'=>Q .non H',rt:=Q} (start N vs) H):gm P w K mg base yF (k+1) f fd ps sp:=by
 obtain⟨oc,od,kV,doc,pm,an,cdv,ct,osl,rfl,lk,hcd⟩:=F.ex
 refine Rn lk hcd S len fun A outer s H vs Q E hr hsp=>?_
 obtain⟨t,h,q⟩:=hbody cdv A outer s H vs Q E hr hsp
 exact⟨t,h.QW,q⟩
theorem Qd.binds{x qual:Str}{st:Stmt}{f:Addr}{fd:FuncData}{ps:List Str}(F:Qd K x qual st f fd)
  (h:∀(kV doc pm:Value)(an:Option Addr)(cdv ct:Value)(us:List Value),us.length=ps.length->bindArgs (PySem.W.fnOf x qual (dG st) (cJ st) (aF st) .none kV doc pm an cdv ct) ⟨us,[]⟩=pure (ps.zip us)):Binds K fd ps []:=by
 obtain⟨oc,od,kV,doc,pm,an,cdv,ct,osl,rfl,lk,hcd⟩:=F.ex
 exact .all (h kV doc pm an cdv ct)
theorem VN{x qual:Str}{st:Stmt}{f:Addr}{oc:Value}{od an:Option Addr}{osl:Array (Option Value)}{kV doc pm cdv ct:Value}(l:K.lookup f=some ⟨oc,od,.func (PySem.W.fnOf x qual (dG st) (cJ st) (aF st) .none kV doc pm an cdv ct),osl⟩)
  (c:PySem.W.codeIn K cdv qual=true)(k:PySem.W.keepIn K (.ref f)=true):Qd K x qual st f (PySem.W.fnOf x qual (dG st) (cJ st) (aF st) .none kV doc pm an cdv ct):=⟨⟨oc,od,kV,doc,pm,an,cdv,ct,osl,rfl,l,c⟩,k⟩
end
theorem Ds{n:Nat}(h:n<=1000):n<sizeLine:=Nat.lt_of_le_of_lt h (by decide)
section
variable{X:Cx}
end
def Ga(H H':Hp):Prop:=∀b o,H b=some o->H' b=some o
theorem Ga.trans{H H1 H2:Hp}(a:Ga H H1)(b:Ga H1 H2):Ga H H2:=fun c o h=>b c o (a c o h)
theorem Ga.free{H H':Hp}(e:Ga H H'){l:Addr}(h:H' l=Option.none):H l=Option.none:=by
 cases q:H l with
 |none=>rfl
 |some o=>
  rw[e l o q]at h
  cases h
end L2
end
section
namespace Mini
open PySem
inductive D where
 |non|bl (b:Bool)|int (i:Int)|str (x:Str)
 |tup (xs:List D)|lst (xs:List D)|cC (ks:List D) (vs:List D)
 deriving Inhabited
inductive Ob where
 |lst (xs:List D)|dct (ks vs:List D)
 deriving Inhabited
def Ob.d:Ob->D
 |.lst xs=>.lst xs
 |.dct ks vs=>.cC ks vs
inductive Sl where
 |un|val (d:D)|own (o:Ob)|bor (o:Ob)
 deriving Inhabited
abbrev Ev:=List Sl
inductive Rv where
 |val (d:D)|new (o:Ob)|ref (i:Nat)|tmp (o:Ob)
def Rv.jo:Rv->Option D
 |.val d=>some d
 |.new o=>some o.d
 |_=>none
def Rv.wZ:Rv->Option Sl
 |.val d=>some (.val d)
 |.new o=>some (.own o)
 |_=>none
def aV:List Rv->Option (List D)
 |[]=>some []
 |r::rs=>r.jo.bind fun d=>(aV rs).map (d:: ·)
inductive Out(α:Type)where
 |ok (a:α) (σ:Ev)|exc (c:Nat) (σ:Ev)|bad
def Out.bind{α β:Type}:Out α->(α->Ev->Out β)->Out β
 |.ok a σ,f=>f a σ
 |.exc c σ,_=>.exc c σ
 |.bad,_=>.bad
def Out.ak{β:Type}:Out Rv->(D->Ev->Out β)->Out β
 |.ok (.val d) σ,f=>f d σ
 |.ok (.new o) σ,f=>f o.d σ
 |.ok _ _,_=>.bad
 |.exc c σ,_=>.exc c σ
 |.bad,_=>.bad
def Out.cj{β:Type}(tr:D->Option Bool)(r:Out Rv)(f:Bool->Ev->Out β):Out β:=
 r.ak fun d σ=>match tr d with|some b=>f b σ|none=>.bad
def Out.map{α β:Type}(g:α->β):Out α->Out β
 |.ok a σ=>.ok (g a) σ
 |.exc c σ=>.exc c σ
 |.bad=>.bad
def lift{α:Type}(σ:Ev):Option α->Out α
 |some a=>.ok a σ
 |none=>.bad
inductive La where
 |add|sub|mul|mod|fdiv|pow
 deriving DecidableEq
inductive Cm where
 |eq|ne|lt|le|gt|ge|isin|notin|jg|notN
 deriving DecidableEq
inductive Ty where
 |tup|lst|str|bool|int|cC
 deriving DecidableEq
inductive Bi where
 |all|any|tuple|list|sorted|int|dict|len|copy
 deriving DecidableEq
inductive Tg where
 |name (i:Nat)|tup (is:List Nat)
inductive E where
 |var (i:Nat)|con (d:D)|glob (k:Nat)
 |nil|cons (h t:E)
 |tup (es:E)|lis (es:E)
 |op (o:La) (a b:E)|neg (a:E)|cmp (o:Cm) (a b:E)|chain (o₁ o₂:Cm) (a b c:E)
 |and (es:E)|or (es:E)|not (a:E)|ite (c a b:E)
 |idx (a i:E)|slc (a lo hi:E)|noneE
 |call (f:Nat) (args:E)|ref (i:Nat)|tmp (e:E)|rd (e:E)
 |isi (a:E) (t:Ty)|bi (b:Bi) (a:E)
 |range1 (a:E)|range2 (a b:E)|zip (a b:E)
 |count (a b:E)|popAt (i:Nat) (a:E)|index (a b:E)
 |get2 (d k x:E)|dsp (es:E)|tcall (f:Nat) (args:E) (hs:List (Nat×D))
 |comp (nl:Nat) (tg:Tg) (it:E) (cond:E) (elt:E)
inductive S where
 |nil|cons (h t:S)
 |set (i:Nat) (e:E)|setT (is:List Nat) (e:E)|setIx (i:Nat) (ix e:E)
 |expr (e:E)|append (i:Nat) (e:E)|extend (i:Nat) (e:E)|update (i:Nat) (e:E)
 |ret (e:E)|ite (c:E) (a b:S)
 |for_ (tg:Tg) (it:E) (b:S)|while_ (c:E) (b:S)
 |raise (c:Nat)|try_ (b:S) (c:Nat) (i:Nat) (h:S)|pass|brk|cont
def small(i:Int):Bool:=decide (-18446744073709551616<i/\i<18446744073709551616)
def rQ(i:Int):Bool:=decide (-4611686018427387904<=i/\i<4611686018427387904)
def fits(n:Nat):Bool:=decide (n<=16777216)
def b2i(b:Bool):Int:=if b then 1 else 0
def ix?(n:Nat)(i:Int):Option Nat:=
 let j:=if i<0 then i+n else i
 if 0<=j/\j<n then some j.toNat else none
def at?(xs:List D)(i:Int):Option D:=(ix? xs.length i).bind fun k=>xs[k]?
def clip(n:Nat)(i:Int):Nat:=
 let j:=if i<0 then i+n else i
 if j<0 then 0 else if j>n then n else j.toNat
def cut(xs:List D)(lo hi:Option Int):List D:=
 let a:=match lo with|some i=>clip xs.length i|none=>0
 let b:=match hi with|some i=>clip xs.length i|none=>xs.length
 (xs.take b).drop a
mutual
def cL:D->D->Bool
 |.non,.non=>true
 |.bl a,.bl b=>a==b
 |.bl a,.int j=>b2i a==j
 |.int i,.bl b=>i==b2i b
 |.int i,.int j=>i==j
 |.str x,.str y=>decide (x=y)
 |.tup xs,.tup ys=>qL xs ys
 |.lst xs,.lst ys=>qL xs ys
 |_,_=>false
def qL:List D->List D->Bool
 |[],[]=>true
 |x::xs,y::ys=>cL x y&&qL xs ys
 |_,_=>false
end
mutual
def dep:D->Nat
 |.tup xs=>mq xs+1
 |.lst xs=>mq xs+1
 |_=>0
def mq:List D->Nat
 |[]=>0
 |x::xs=>max (dep x) (mq xs)
end
def sOk(x:Str):Bool:=x.cps.all fun c=>decide (c<128)
mutual
def nd:D->Bool
 |.str x=>sOk x
 |.tup xs=>lQ xs
 |.lst xs=>lQ xs
 |.cC _ _=>false
 |_=>true
def lQ:List D->Bool
 |[]=>true
 |x::xs=>nd x&&lQ xs
end
def flat:D->Bool
 |.non=>true
 |.bl _=>true
 |.int _=>true
 |.str _=>true
 |_=>false
def j5(a b:D):Bool:=(flat a&&flat b)||(nd a&&decide (dep a<=50)&&nd b)
def eY(a:D)(xs:List D):Bool:=(flat a&&xs.all flat)||(nd a&&decide (dep a<=50)&&lQ xs)
def aU(x:D):List D->Bool
 |[]=>false
 |y::ys=>cL y x||aU x ys
def Js(x:D):List D->Nat
 |[]=>0
 |y::ys=>if cL y x then 0 else Js x ys+1
def eZ(x:D):List D->Nat
 |[]=>0
 |y::ys=>(if cL y x then 1 else 0)+eZ x ys
def jn:List Bool->List Bool->Bool
 |[],[]=>false
 |[],_::_=>true
 |_::_,[]=>false
 |x::xs,y::ys=>if x=y then jn xs ys else(!x&&y)
def bools:List D->Option (List Bool)
 |[]=>some []
 |.bl b::r=>(bools r).map (b:: ·)
 |_=>none
def ltD:D->D->Option Bool
 |.int i,.int j=>some (decide (i<j))
 |.tup xs,.tup ys=>(bools xs).bind fun a=>(bools ys).map fun b=>jn a b
 |_,_=>none
def iH:D->Option Bool
 |.non=>some false
 |.bl b=>some b
 |.int i=>some (i !=0)
 |.tup xs=>some (!xs.isEmpty)
 |.lst xs=>some (!xs.isEmpty)
 |_=>none
def iz:Ty->D->Bool
 |.tup,.tup _=>true
 |.lst,.lst _=>true
 |.str,.str _=>true
 |.bool,.bl _=>true
 |.int,.int _=>true
 |.int,.bl _=>true
 |.cC,.cC _ _=>true
 |_,_=>false
def eQ(k:D):List D->List D->Option D
 |k'::ks,v::vs=>if cL k' k then some v else eQ k ks vs
 |_,_=>none
def keyOk:D->Bool
 |.str _=>true
 |.int _=>true
 |_=>false
def signs(x:Str):List D:=x.cps.toList.map fun c=>D.str ⟨#[c]⟩
def items:D->Option (List D)
 |.tup xs=>some xs
 |.lst xs=>some xs
 |.str x=>if fits x.length then some (signs x)else none
 |.cC ks _=>some ks
 |_=>none
def binop:La->D->D->Option Rv
 |.add,.int i,.int j=>some (.val (.int (i+j)))
 |.sub,.int i,.int j=>some (.val (.int (i-j)))
 |.mul,.int i,.int j=>if small i||small j then some (.val (.int (i*j)))else none
 |.mod,.int i,.int j=>if 0<j then some (.val (.int (i%j)))else none
 |.fdiv,.int i,.int j=>if 0<j/\j<1073741824 then some (.val (.int (i/j)))else none
 |.pow,.int i,.int j=>if 0<=j/\j<=64/\small i=true then some (.val (.int (i ^j.toNat)))else none
 |.add,.tup xs,.tup ys=>if fits (xs.length+ys.length)then some (.val (.tup (xs++ys)))else none
 |.add,.lst xs,.lst ys=>if fits (xs.length+ys.length)then some (.new (.lst (xs++ys)))else none
 |_,_,_=>none
def nT:D->Bool
 |.non=>true
 |_=>false
def aH:Cm->D->D->Option Bool
 |.eq,a,b=>if j5 a b then some (cL a b)else none
 |.ne,a,b=>if j5 a b then some (!cL a b)else none
 |.lt,a,b=>ltD a b
 |.gt,.int i,.int j=>some (decide (j<i))
 |.le,.int i,.int j=>some (decide (i<=j))
 |.ge,.int i,.int j=>some (decide (j<=i))
 |.isin,a,.tup xs=>if eY a xs then some (aU a xs)else none
 |.isin,a,.lst xs=>if eY a xs then some (aU a xs)else none
 |.isin,a,.cC ks _=>if keyOk a then some (aU a ks)else none
 |.isin,.str x,.str y=>if x.length=1 then some (aU (.str x) (signs y))else none
 |.notin,a,.tup xs=>if eY a xs then some (!aU a xs)else none
 |.notin,a,.lst xs=>if eY a xs then some (!aU a xs)else none
 |.notin,a,.cC ks _=>if keyOk a then some (!aU a ks)else none
 |.jg,a,.non=>some (nT a)
 |.notN,a,.non=>some (!nT a)
 |_,_,_=>none
def je:List D->Option (List (List Bool))
 |[]=>some []
 |.tup ys::r=>match bools ys with
  |some (b::bs)=>(je r).map ((b::bs):: ·)
  |_=>none
 |_=>none
def Hf{α:Type}(f:Nat->Nat->Option Bool):PySem.W.KasT α->Option α
 |.ret a=>some a
 |.ask i j k=>match f i j with
  |some b=>Hf f (k b)
  |none=>none
def PB(rs:List (List Bool))(i j:Nat):Option Bool:=(rs[i]?).bind fun a=>(rs[j]?).map fun b=>jn a b
def qz(xs:List D):List Nat->Option (List D)
 |[]=>some []
 |i::is=>(xs[i]?).bind fun d=>(qz xs is).map (d:: ·)
def aaZ(xs:List D):Option (Nat->Nat->Option Bool):=match je xs with
 |some rs=>some (PB rs)
 |none=>none
def nQ(xs:List D):Option (List D):=
 if xs.length<2 then some xs
 else if xs.length<64 then(aaZ xs).bind fun f=>(Hf f (PySem.W.kas_sort xs.length)).bind fun p=>if p.size=xs.length then qz xs p.toList else none
 else none
def Bj(k v:D):List D->List D->List D
 |k'::ks,v'::vs=>(if cL k' k then v else v')::Bj k v ks vs
 |_,_=>[]
def putD(k v:D)(ks vs:List D):List D×List D:=if aU k ks then(ks,Bj k v ks vs)else(ks++[k],vs++[v])
def dictOf:List D->List D->List D->Option (List D×List D)
 |ks,vs,[]=>some (ks,vs)
 |ks,vs,.tup [k,v]::r=>if keyOk k then let p:=putD k v ks vs;dictOf p.1 p.2 r else none
 |_,_,_=>none
def aK:List D->List D->List D
 |x::xs,y::ys=>.tup [x,y]::aK xs ys
 |_,_=>[]
def bD(lo:Int):Nat->List D
 |0=>[]
 |n+1=>.int lo::bD (lo+1) n
def Rz:Bi->List D->Option Rv
 |.all,xs=>(bools xs).map fun bs=>.val (.bl (bs.all id))
 |.any,xs=>(bools xs).map fun bs=>.val (.bl (bs.any id))
 |.tuple,xs=>some (.val (.tup xs))
 |.list,xs=>some (.new (.lst xs))
 |.sorted,xs=>(nQ xs).map fun ys=>.new (.lst ys)
 |.dict,xs=>(dictOf [] [] xs).map fun p=>.new (.dct p.1 p.2)
 |.len,_=>none
 |.int,_=>none
 |.copy,_=>none
def E.az:E->Option Nat
 |.var i=>some i
 |_=>none
def pR(i:Nat)(σ:Ev):Out Rv:=
 match σ[i]? with
 |some (.val d)=>.ok (.val d) σ
 |some (.own o)=>.ok (.val o.d) (σ.set i (.val o.d))
 |_=>.bad
def aW(i:Nat)(σ:Ev):Option D:=
 match σ[i]? with
 |some (.val d)=>some d
 |some (.own o)=>some o.d
 |some (.bor o)=>some o.d
 |_=>none
def Ep:D->Option Nat
 |.tup xs=>some xs.length
 |.lst xs=>some xs.length
 |.str x=>if fits x.length then some x.length else none
 |.cC ks _=>some ks.length
 |_=>none
def getD(d:D)(i:D):Option D:=
 match d,i with
 |.tup xs,.int i=>at? xs i
 |.lst xs,.int i=>at? xs i
 |.cC ks vs,k=>if keyOk k then eQ k ks vs else none
 |_,_=>none
def fX(d:D)(lo hi:Option Int):Option Rv:=
 match d with
 |.tup xs=>some (.val (.tup (cut xs lo hi)))
 |.lst xs=>some (.new (.lst (cut xs lo hi)))
 |_=>none
def cH(jg:Bool)(d:D):Option (Option Int):=
 match jg,d with
 |true,_=>some none
 |false,.int i=>some (some i)
 |_,_=>none
def E.jg:E->Bool
 |.noneE=>true
 |_=>false
def cM(i:Nat)(s:Sl)(σ:Ev):Option Ev:=
 match σ[i]? with
 |some (.bor _)=>none
 |some _=>some (σ.set i s)
 |none=>none
def gM:List Nat->List D->Ev->Option Ev
 |[],[],σ=>some σ
 |i::is,d::ds,σ=>(cM i (.val d) σ).bind (gM is ds)
 |_,_,_=>none
def bN:Tg->D->Ev->Option Ev
 |.name i,d,σ=>cM i (.val d) σ
 |.tup is,.tup ds,σ=>gM is ds σ
 |_,_,_=>none
def cg(i:Nat)(f:Ob->Option Ob)(σ:Ev):Option Ev:=
 match σ[i]? with
 |some (.own o)=>(f o).map fun q=>σ.set i (.own q)
 |some (.bor o)=>(f o).map fun q=>σ.set i (.bor q)
 |_=>none
def rP(f:List D->Option (List D)):Ob->Option Ob
 |.lst xs=>(f xs).map .lst
 |_=>none
def vB(i v:D):Ob->Option Ob
 |.lst xs=>match i with
  |.int i=>(ix? xs.length i).map fun j=>.lst (xs.set j v)
  |_=>none
 |.dct ks vs=>if keyOk i&&fits (ks.length+1)then let p:=putD i v ks vs;some (.dct p.1 p.2)else none
inductive Res where
 |ok (r:Rv) (ps:List Sl)|exc (c:Nat) (ps:List Sl)|bad
structure Cf where
 fn:Nat->List Sl->Res
 gl:Nat->Option D
 turns:Nat
def iW(i:Nat):Rv->Bool
 |.ref j=>i==j
 |_=>false
def xX:Rv->Bool
 |.tmp _=>true
 |_=>false
def argv:Rv->Rv
 |.new o=>.val o.d
 |x=>x
def enter:List Rv->Ev->Option (List Sl)
 |[],_=>some []
 |.val d::as,σ=>(enter as σ).map (.val d:: ·)
 |.new _::_,_=>none
 |.tmp o::as,σ=>if as.any xX then none else(enter as σ).map (.bor o:: ·)
 |.ref i::as,σ=>
  if as.any (iW i)then none else
  match σ[i]? with
  |some (.own o)=>(enter as σ).map (.bor o:: ·)
  |some (.bor o)=>(enter as σ).map (.bor o:: ·)
  |_=>none
def giveBack:List Rv->List Sl->Ev->Option Ev
 |[],[],σ=>some σ
 |.ref i::as,.bor o::ps,σ=>(cg i (fun _=>some o) σ).bind (giveBack as ps)
 |.ref _::_,_::_,_=>none
 |_::as,_::ps,σ=>giveBack as ps σ
 |_,_,_=>none
def qW(c:Cf)(f:Nat)(as:List Rv)(σ:Ev):Out Rv:=
 match enter as σ with
 |none=>.bad
 |some ps=>
  match c.fn f ps with
  |.ok r qs=>match giveBack as qs σ with|some σ'=>.ok r σ'|none=>.bad
  |_=>.bad
def iK(c:Cf)(f:Nat)(hs:List (Nat×D))(as:List Rv)(σ:Ev):Out Rv:=
 match enter as σ with
 |none=>.bad
 |some ps=>
  match c.fn f ps with
  |.ok r qs=>match giveBack as qs σ with|some σ'=>.ok r σ'|none=>.bad
  |.exc k qs=>match hs.lookup k,giveBack as qs σ with|some w,some σ'=>.ok (.val w) σ'|_,_=>.bad
  |.bad=>.bad
def aO(tg:Tg)(cond elt:Ev->Out Rv):List D->List D->Ev->Out (List D)
 |[],acc,σ=>.ok acc σ
 |x::xs,acc,σ=>
  match bN tg x σ with
  |none=>.bad
  |some σ₁=>(cond σ₁).cj iH fun b σ₂=>
   if b then(elt σ₂).ak fun d σ₃=>aO tg cond elt xs (acc++[d]) σ₃
   else aO tg cond elt xs acc σ₂
def di:Option D->Bool
 |some (.lst _)=>true
 |_=>false
def jf:D->Option (List D)
 |.lst xs=>some xs
 |_=>none
def pY(k:Nat)(y:D)(σ:Ev):Out Rv:=
 match y,aW k σ with
 |.int i,some (.lst xs)=>if !fits xs.length then .bad else match ix? xs.length i with
  |some j=>match xs[j]?,cg k (rP fun xs=>some (xs.eraseIdx j)) σ with
   |some d,some σ'=>.ok (.val d) σ'
   |_,_=>.bad
  |none=>.bad
 |_,_=>.bad
def wk(x y:D):Option Rv:=
 match x with
 |.tup xs=>if flat y&&xs.all flat then some (.val (.int (eZ y xs)))else none
 |.lst xs=>if flat y&&xs.all flat then some (.val (.int (eZ y xs)))else none
 |_=>none
def Ot(x y:D):Option Rv:=
 match x with
 |.lst xs=>if flat y&&xs.all flat&&aU y xs then some (.val (.int (Js y xs)))else none
 |_=>none
def uD(d k x:D):Option D:=
 match d with
 |.cC ks vs=>if keyOk k then some ((eQ k ks vs).getD x)else none
 |_=>none
def pairUp:List D->Option (List D)
 |[]=>some []
 |k::v::r=>(pairUp r).map (.tup [k,v]:: ·)
 |_=>none
def O9(ds:List D):Option Rv:=if ds.length<=30&& !ds.isEmpty then(pairUp ds).bind fun ps=>(dictOf [] [] ps).map fun p=>.new (.dct p.1 p.2)else none
def j8:Option D->Bool
 |some (.cC _ _)=>true
 |_=>false
def zF:List D->List D->List D->List D->List D×List D
 |ks,vs,k::r,v::q=>zF (putD k v ks vs).1 (putD k v ks vs).2 r q
 |ks,vs,_,_=>(ks,vs)
def Ly(x:D):Ob->Option Ob
 |.dct ks vs=>match x with
  |.cC r q=>if fits (ks.length+r.length)then some (.dct (zF ks vs r q).1 (zF ks vs r q).2)else none
  |_=>none
 |_=>none
def bj:D->Option (List D)
 |.tup xs=>some xs
 |.lst xs=>some xs
 |_=>none
def b1(b:Bi)(x:D):Option Rv:=
 match b with
 |.len=>(Ep x).map fun n=>.val (.int n)
 |.int=>match x with|.bl b=>some (.val (.int (b2i b)))|.int i=>some (.val (.int i))|_=>none
 |.sorted=>(jf x).bind (Rz .sorted)
 |.copy=>match x with|.cC ks vs=>some (.new (.dct ks vs))|_=>none
 |b=>(bj x).bind (Rz b)
mutual
def ev(c:Cf):E->Ev->Out Rv
 |.var i,σ=>pR i σ
 |.con d,σ=>.ok (.val d) σ
 |.glob k,σ=>match c.gl k with|some d=>.ok (.val d) σ|none=>.bad
 |.tup es,σ=>(evs c es σ).bind fun rs σ=>lift σ ((aV rs).bind fun ds=>if fits ds.length then some (.val (.tup ds))else none)
 |.lis es,σ=>(evs c es σ).bind fun rs σ=>lift σ ((aV rs).bind fun ds=>if fits ds.length then some (.new (.lst ds))else none)
 |.op o a b,σ=>(ev c a σ).ak fun x σ=>(ev c b σ).ak fun y σ=>lift σ (binop o x y)
 |.neg a,σ=>(ev c a σ).ak fun x σ=>lift σ (match x with|.int i=>some (.val (.int (-i)))|_=>none)
 |.cmp o a b,σ=>(ev c a σ).ak fun x σ=>match b.az with
  |some k=>lift σ ((aW k σ).bind fun d=>(aH o x d).map fun q=>.val (.bl q))
  |none=>(ev c b σ).ak fun y σ=>lift σ ((aH o x y).map fun q=>.val (.bl q))
 |.chain o₁ o₂ a b d,σ=>(ev c a σ).ak fun x σ=>(ev c b σ).ak fun y σ=>(lift σ (aH o₁ x y)).bind fun q σ=>
   if q then(ev c d σ).ak fun z σ=>lift σ ((aH o₂ y z).map fun q=>.val (.bl q))else .ok (.val (.bl false)) σ
 |.and es,σ=>fJ c es σ
 |.or es,σ=>jE c es σ
 |.not a,σ=>(ev c a σ).cj iH fun b σ=>.ok (.val (.bl (!b))) σ
 |.ite t a b,σ=>(ev c t σ).cj iH fun q σ=>if q then ev c a σ else ev c b σ
 |.idx a i,σ=>match a.az with
  |some k=>if (aW k σ).isNone then .bad else(ev c i σ).ak fun y σ=>lift σ ((aW k σ).bind fun d=>(getD d y).map Rv.val)
  |none=>(ev c a σ).ak fun x σ=>(ev c i σ).ak fun y σ=>lift σ ((getD x y).map Rv.val)
 |.slc a lo hi,σ=>(ev c a σ).ak fun x σ=>(ev c lo σ).ak fun l σ=>match cH lo.jg l with
  |none=>.bad
  |some l=>(ev c hi σ).ak fun h σ=>lift σ ((cH hi.jg h).bind fun h=>fX x l h)
 |.noneE,σ=>.ok (.val .non) σ
 |.call f as,σ=>(evs c as σ).bind fun as σ=>qW c f as σ
 |.ref i,σ=>match σ[i]? with
  |some (.own _)=>.ok (.ref i) σ
  |some (.bor _)=>.ok (.ref i) σ
  |_=>.bad
 |.rd e,σ=>ev c e σ
 |.tmp e,σ=>(ev c e σ).bind fun x σ=>lift σ (match x with|.new o=>some (.tmp o)|_=>none)
 |.isi a t,σ=>(ev c a σ).ak fun x σ=>.ok (.val (.bl (iz t x))) σ
 |.bi b a,σ=>match a.az with
  |some k=>lift σ ((aW k σ).bind fun d=>b1 b d)
  |none=>(ev c a σ).ak fun x σ=>lift σ (b1 b x)
 |.range1 a,σ=>(ev c a σ).ak fun x σ=>lift σ (match x with|.int n=>if fits n.toNat&&rQ n then some (.val (.lst (bD 0 n.toNat)))else none|_=>none)
 |.range2 a b,σ=>(ev c a σ).ak fun x σ=>(ev c b σ).ak fun y σ=>lift σ (match x,y with|.int m,.int n=>if fits (n-m).toNat&&rQ m&&rQ n then some (.val (.lst (bD m (n-m).toNat)))else none|_,_=>none)
 |.zip a b,σ=>(ev c a σ).ak fun x σ=>(ev c b σ).ak fun y σ=>lift σ ((bj x).bind fun xs=>(bj y).map fun ys=>.val (.lst (aK xs ys)))
 |.count a b,σ=>(ev c a σ).ak fun x σ=>if (bj x).isNone then .bad else(ev c b σ).ak fun y σ=>lift σ (wk x y)
 |.popAt k a,σ=>if !di (aW k σ)then .bad else(ev c a σ).ak fun y σ=>pY k y σ
 |.index a b,σ=>(ev c a σ).ak fun x σ=>if (jf x).isNone then .bad else(ev c b σ).ak fun y σ=>lift σ (Ot x y)
 |.get2 d k x,σ=>(ev c d σ).ak fun y σ=>if !j8 (some y)then .bad else(ev c k σ).ak fun k σ=>(ev c x σ).ak fun x σ=>lift σ ((uD y k x).map Rv.val)
 |.dsp es,σ=>(evs c es σ).bind fun rs σ=>lift σ ((aV rs).bind O9)
 |.tcall f as hs,σ=>(evs c as σ).bind fun as σ=>iK c f hs as σ
 |.comp nl tg it cond elt,σ=>(ev c it σ).ak fun x σ=>match items x with
  |some xs=>match aO tg (ev c cond) (ev c elt) xs [] (List.replicate nl .un++σ)with
   |.ok ys τ=>.ok (.new (.lst ys)) (τ.drop nl)
   |_=>.bad
  |none=>.bad
 |.nil,_=>.bad
 |.cons _ _,_=>.bad
def fJ(c:Cf):E->Ev->Out Rv
 |.cons h t,σ=>match t with
  |.nil=>ev c h σ
  |t=>(ev c h σ).ak fun x σ=>match x with|.bl true=>fJ c t σ|.bl false=>.ok (.val (.bl false)) σ|_=>.bad
 |_,_=>.bad
def jE(c:Cf):E->Ev->Out Rv
 |.cons h t,σ=>match t with
  |.nil=>ev c h σ
  |t=>(ev c h σ).ak fun x σ=>match x with|.bl true=>.ok (.val (.bl true)) σ|.bl false=>jE c t σ|_=>.bad
 |_,_=>.bad
def evs(c:Cf):E->Ev->Out (List Rv)
 |.nil,σ=>.ok [] σ
 |.cons h t,σ=>(ev c h σ).bind fun x σ=>(evs c t σ).bind fun xs σ=>.ok (argv x::xs) σ
 |_,_=>.bad
end
inductive Fl where
 |next (σ:Ev)|ret (r:Rv) (σ:Ev)|brk (σ:Ev)|cont (σ:Ev)|exc (k:Nat) (σ:Ev)|bad
def Out.fl{α:Type}:Out α->(α->Ev->Fl)->Fl
 |.ok a σ,f=>f a σ
 |.exc k σ,_=>.exc k σ
 |.bad,_=>.bad
def Out.jt:Out Rv->(D->Ev->Fl)->Fl
 |.ok (.val d) σ,f=>f d σ
 |.ok (.new o) σ,f=>f o.d σ
 |.ok _ _,_=>.bad
 |.exc k σ,_=>.exc k σ
 |.bad,_=>.bad
def Out.Gf(r:Out Rv)(f:Bool->Ev->Fl):Fl:=r.jt fun d σ=>match iH d with|some b=>f b σ|none=>.bad
def mU:Rv->Ev->Fl
 |.val d,σ=>.ret (.val d) σ
 |.new o,σ=>.ret (.new o) σ
 |_,_=>.bad
def Fl.seq:Fl->(Ev->Fl)->Fl
 |.next σ,f=>f σ
 |r,_=>r
def Fl.turn:Fl->(Ev->Fl)->Fl
 |.next σ,f=>f σ
 |.cont σ,f=>f σ
 |.brk σ,_=>.next σ
 |r,_=>r
def bF(tg:Tg)(b:Ev->Fl):List D->Ev->Fl
 |[],σ=>.next σ
 |x::xs,σ=>match bN tg x σ with
  |none=>.bad
  |some σ₁=>(b σ₁).turn (bF tg b xs)
def cP(t:Ev->Out Rv)(b:Ev->Fl):Nat->Ev->Fl
 |0,_=>.bad
 |n+1,σ=>(t σ).Gf fun q σ=>if q then(b σ).turn (cP t b n)else .next σ
def oO:Option Ev->Fl
 |some σ=>.next σ
 |none=>.bad
def ex(c:Cf):S->Ev->Fl
 |.nil,σ=>.next σ
 |.cons h t,σ=>(ex c h σ).seq (ex c t)
 |.pass,σ=>.next σ
 |.brk,σ=>.brk σ
 |.cont,σ=>.cont σ
 |.set i e,σ=>(ev c e σ).fl fun x σ=>oO (x.wZ.bind fun s=>cM i s σ)
 |.setT is e,σ=>(ev c e σ).jt fun x σ=>oO (bN (.tup is) x σ)
 |.setIx k ix e,σ=>(ev c e σ).jt fun x σ=>if (aW k σ).isNone then .bad else(ev c ix σ).jt fun y σ=>oO (cg k (vB y x) σ)
 |.expr e,σ=>(ev c e σ).jt fun _ σ=>.next σ
 |.append k e,σ=>if !di (aW k σ)then .bad else(ev c e σ).jt fun x σ=>oO (cg k (rP fun xs=>if fits (xs.length+1)then some (xs++[x])else none) σ)
 |.extend k e,σ=>if !di (aW k σ)then .bad else(ev c e σ).jt fun x σ=>oO ((jf x).bind fun ys=>cg k (rP fun xs=>if fits (xs.length+ys.length)then some (xs++ys)else none) σ)
 |.update k e,σ=>if !j8 (aW k σ)then .bad else(ev c e σ).jt fun x σ=>oO (cg k (Ly x) σ)
 |.ret e,σ=>match e.az with
  |some i=>match σ[i]? with
   |some (.own o)=>.ret (.new o) (σ.set i .un)
   |_=>(ev c e σ).fl mU
  |none=>(ev c e σ).fl mU
 |.ite t a b,σ=>(ev c t σ).Gf fun q σ=>if q then ex c a σ else ex c b σ
 |.for_ tg it b,σ=>(ev c it σ).jt fun x σ=>match items x with
  |some xs=>bF tg (ex c b) xs σ
  |none=>.bad
 |.while_ t b,σ=>cP (ev c t) (ex c b) c.turns σ
 |.raise k,σ=>.exc k σ
 |.try_ _ _ _ _,_=>.bad
structure Fn where
 pars:Nat
 names:Nat
 body:S
def eO(c:Cf)(f:Fn)(ps:List Sl):Res:=
 if ps.length=f.pars then
  match ex c f.body (ps++List.replicate (f.names-f.pars) .un)with
  |.next σ=>.ok (.val .non) (σ.take f.pars)
  |.ret r σ=>.ok r (σ.take f.pars)
  |.exc k σ=>.exc k (σ.take f.pars)
  |_=>.bad
 else .bad
structure Pg where
 fns:List Fn
 gl:Nat->Option D
 turns:Nat
def Pg.fn(p:Pg):Nat->Nat->List Sl->Res
 |0,_,_=>.bad
 |n+1,f,ps=>match p.fns[f]? with
  |some g=>eO ⟨p.fn n,p.gl,p.turns⟩ g ps
  |none=>.bad
def Pg.cf(p:Pg)(n:Nat):Cf:=⟨p.fn n,p.gl,p.turns⟩
end Mini
end
section
namespace Mini
open PySem
theorem v_0(c:Cf)(i σ):ev c (.var i) σ=pR i σ:=rfl
theorem v_1(c:Cf)(d σ):ev c (.con d) σ=.ok (.val d) σ:=rfl
theorem X7(c:Cf)(k σ):ev c (.glob k) σ=match c.gl k with|some d=>.ok (.val d) σ|none=>.bad:=rfl
theorem v_3(c:Cf)(es σ):ev c (.tup es) σ=(evs c es σ).bind fun rs σ=>lift σ ((aV rs).bind fun ds=>if fits ds.length then some (.val (.tup ds))else none):=rfl
theorem v_4(c:Cf)(es σ):ev c (.lis es) σ=(evs c es σ).bind fun rs σ=>lift σ ((aV rs).bind fun ds=>if fits ds.length then some (.new (.lst ds))else none):=rfl
theorem X6(c:Cf)(o a b σ):ev c (.op o a b) σ=(ev c a σ).ak fun x σ=>(ev c b σ).ak fun y σ=>lift σ (binop o x y):=rfl
theorem v_6(c:Cf)(a σ):ev c (.neg a) σ=(ev c a σ).ak fun x σ=>lift σ (match x with|.int i=>some (.val (.int (-i)))|_=>none):=rfl
theorem WF(c:Cf)(o a b σ):ev c (.cmp o a b) σ=(ev c a σ).ak fun x σ=>match b.az with
  |some k=>lift σ ((aW k σ).bind fun d=>(aH o x d).map fun q=>.val (.bl q))
  |none=>(ev c b σ).ak fun y σ=>lift σ ((aH o x y).map fun q=>.val (.bl q)):=rfl
theorem X5(c:Cf)(o₁ o₂ a b d σ):ev c (.chain o₁ o₂ a b d) σ=(ev c a σ).ak fun x σ=>(ev c b σ).ak fun y σ=>(lift σ (aH o₁ x y)).bind fun q σ=>
   if q then(ev c d σ).ak fun z σ=>lift σ ((aH o₂ y z).map fun q=>.val (.bl q))else .ok (.val (.bl false)) σ:=rfl
theorem Lk(c:Cf)(es σ):ev c (.and es) σ=fJ c es σ:=rfl
theorem u0(c:Cf)(es σ):ev c (.or es) σ=jE c es σ:=rfl
theorem Gu(c:Cf)(a σ):ev c (.not a) σ=(ev c a σ).cj iH fun b σ=>.ok (.val (.bl (!b))) σ:=rfl
theorem Gs(c:Cf)(t a b σ):ev c (.ite t a b) σ=(ev c t σ).cj iH fun q σ=>if q then ev c a σ else ev c b σ:=rfl
theorem Dg(c:Cf)(a i σ):ev c (.idx a i) σ=match a.az with
  |some k=>if (aW k σ).isNone then .bad else(ev c i σ).ak fun y σ=>lift σ ((aW k σ).bind fun d=>(getD d y).map Rv.val)
  |none=>(ev c a σ).ak fun x σ=>(ev c i σ).ak fun y σ=>lift σ ((getD x y).map Rv.val):=rfl
theorem Lx(c:Cf)(a lo hi σ):ev c (.slc a lo hi) σ=(ev c a σ).ak fun x σ=>(ev c lo σ).ak fun l σ=>match cH lo.jg l with
  |none=>.bad
  |some l=>(ev c hi σ).ak fun h σ=>lift σ ((cH hi.jg h).bind fun h=>fX x l h):=rfl
theorem Sh(c:Cf)(σ):ev c .noneE σ=.ok (.val .non) σ:=rfl
theorem Lw(c:Cf)(f as σ):ev c (.call f as) σ=(evs c as σ).bind fun as σ=>qW c f as σ:=rfl
theorem Gr(c:Cf)(i σ):ev c (.ref i) σ=match σ[i]? with
  |some (.own _)=>.ok (.ref i) σ
  |some (.bor _)=>.ok (.ref i) σ
  |_=>.bad:=rfl
theorem Gq(c:Cf)(e σ):ev c (.rd e) σ=ev c e σ:=rfl
theorem Ls(c:Cf)(e σ):ev c (.tmp e) σ=(ev c e σ).bind fun x σ=>lift σ (match x with|.new o=>some (.tmp o)|_=>none):=rfl
theorem Lr(c:Cf)(a t σ):ev c (.isi a t) σ=(ev c a σ).ak fun x σ=>.ok (.val (.bl (iz t x))) σ:=rfl
theorem mJ(c:Cf)(b a σ):ev c (.bi b a) σ=match a.az with
  |some k=>lift σ ((aW k σ).bind fun d=>b1 b d)
  |none=>(ev c a σ).ak fun x σ=>lift σ (b1 b x):=rfl
theorem Lq(c:Cf)(a σ):ev c (.range1 a) σ=(ev c a σ).ak fun x σ=>lift σ (match x with|.int n=>if fits n.toNat&&rQ n then some (.val (.lst (bD 0 n.toNat)))else none|_=>none):=rfl
theorem Sg(c:Cf)(a b σ):ev c (.range2 a b) σ=(ev c a σ).ak fun x σ=>(ev c b σ).ak fun y σ=>lift σ (match x,y with|.int m,.int n=>if fits (n-m).toNat&&rQ m&&rQ n then some (.val (.lst (bD m (n-m).toNat)))else none|_,_=>none):=rfl
theorem Gp(c:Cf)(a b σ):ev c (.zip a b) σ=(ev c a σ).ak fun x σ=>(ev c b σ).ak fun y σ=>lift σ ((bj x).bind fun xs=>(bj y).map fun ys=>.val (.lst (aK xs ys))):=rfl
theorem Lp(c:Cf)(a b σ):ev c (.count a b) σ=(ev c a σ).ak fun x σ=>if (bj x).isNone then .bad else(ev c b σ).ak fun y σ=>lift σ (wk x y):=rfl
theorem Ln(c:Cf)(k a σ):ev c (.popAt k a) σ=if !di (aW k σ)then .bad else(ev c a σ).ak fun y σ=>pY k y σ:=rfl
theorem kJ(c:Cf)(nl tg it cond elt σ):ev c (.comp nl tg it cond elt) σ=(ev c it σ).ak fun x σ=>match items x with
  |some xs=>match aO tg (ev c cond) (ev c elt) xs [] (List.replicate nl .un++σ)with
   |.ok ys τ=>.ok (.new (.lst ys)) (τ.drop nl)
   |_=>.bad
  |none=>.bad:=rfl
theorem agl(c:Cf)(a b σ):ev c (.index a b) σ=(ev c a σ).ak fun x σ=>if (jf x).isNone then .bad else(ev c b σ).ak fun y σ=>lift σ (Ot x y):=rfl
theorem acL(c:Cf)(d k x σ):ev c (.get2 d k x) σ=(ev c d σ).ak fun y σ=>if !j8 (some y)then .bad else(ev c k σ).ak fun k σ=>(ev c x σ).ak fun x σ=>lift σ ((uD y k x).map Rv.val):=rfl
theorem agk(c:Cf)(es σ):ev c (.dsp es) σ=(evs c es σ).bind fun rs σ=>lift σ ((aV rs).bind O9):=rfl
theorem acK(c:Cf)(f as hs σ):ev c (.tcall f as hs) σ=(evs c as σ).bind fun as σ=>iK c f hs as σ:=rfl
theorem x_0(c:Cf)(σ):ex c .nil σ=.next σ:=rfl
theorem x_1(c:Cf)(h t σ):ex c (.cons h t) σ=(ex c h σ).seq (ex c t):=rfl
theorem x_2(c:Cf)(σ):ex c .pass σ=.next σ:=rfl
theorem x_3(c:Cf)(σ):ex c .brk σ=.brk σ:=rfl
theorem x_4(c:Cf)(σ):ex c .cont σ=.cont σ:=rfl
theorem x_5(c:Cf)(i e σ):ex c (.set i e) σ=(ev c e σ).fl fun x σ=>oO (x.wZ.bind fun s=>cM i s σ):=rfl
theorem x_6(c:Cf)(is e σ):ex c (.setT is e) σ=(ev c e σ).jt fun x σ=>oO (bN (.tup is) x σ):=rfl
theorem x_7(c:Cf)(k ix e σ):ex c (.setIx k ix e) σ=(ev c e σ).jt fun x σ=>if (aW k σ).isNone then .bad else(ev c ix σ).jt fun y σ=>oO (cg k (vB y x) σ):=rfl
theorem x_8(c:Cf)(e σ):ex c (.expr e) σ=(ev c e σ).jt fun _ σ=>.next σ:=rfl
theorem x_9(c:Cf)(k e σ):ex c (.append k e) σ=if !di (aW k σ)then .bad else(ev c e σ).jt fun x σ=>oO (cg k (rP fun xs=>if fits (xs.length+1)then some (xs++[x])else none) σ):=rfl
theorem agj(c:Cf)(k e σ):ex c (.extend k e) σ=if !di (aW k σ)then .bad else(ev c e σ).jt fun x σ=>oO ((jf x).bind fun ys=>cg k (rP fun xs=>if fits (xs.length+ys.length)then some (xs++ys)else none) σ):=rfl
theorem wK(c:Cf)(e σ):ex c (.ret e) σ=match e.az with
  |some i=>match σ[i]? with
   |some (.own o)=>.ret (.new o) (σ.set i .un)
   |_=>(ev c e σ).fl mU
  |none=>(ev c e σ).fl mU:=rfl
theorem acJ(c:Cf)(t a b σ):ex c (.ite t a b) σ=(ev c t σ).Gf fun q σ=>if q then ex c a σ else ex c b σ:=rfl
theorem acI(c:Cf)(tg it b σ):ex c (.for_ tg it b) σ=(ev c it σ).jt fun x σ=>match items x with
  |some xs=>bF tg (ex c b) xs σ
  |none=>.bad:=rfl
theorem acH(c:Cf)(t b σ):ex c (.while_ t b) σ=cP (ev c t) (ex c b) c.turns σ:=rfl
theorem RM(c:Cf)(k σ):ex c (.raise k) σ=.exc k σ:=rfl
theorem agi(c:Cf)(k e σ):ex c (.update k e) σ=if !j8 (aW k σ)then .bad else(ev c e σ).jt fun x σ=>oO (cg k (Ly x) σ):=rfl
theorem agY(i j):cL (.int i) (.int j)=(i==j):=rfl
theorem agX(x y):cL (.str x) (.str y)=decide (x=y):=rfl
theorem agW(a b):cL (.bl a) (.bl b)=(a==b):=rfl
theorem agV(a j):cL (.bl a) (.int j)=(b2i a==j):=rfl
theorem agU(i b):cL (.int i) (.bl b)=(i==b2i b):=rfl
theorem agT(xs ys):cL (.tup xs) (.tup ys)=qL xs ys:=rfl
theorem agS(xs ys):cL (.lst xs) (.lst ys)=qL xs ys:=rfl
theorem agR:cL .non .non=true:=rfl
theorem agQ(a):cL .non (.bl a)=false:=rfl
theorem agP(i):cL .non (.int i)=false:=rfl
theorem ae8(x):cL .non (.str x)=false:=rfl
theorem ae7(a):cL (.bl a) .non=false:=rfl
theorem ae6(a x):cL (.bl a) (.str x)=false:=rfl
theorem ae5(i):cL (.int i) .non=false:=rfl
theorem ae4(i x):cL (.int i) (.str x)=false:=rfl
theorem ae3(x):cL (.str x) .non=false:=rfl
theorem ae2(x a):cL (.str x) (.bl a)=false:=rfl
theorem ae1(x i):cL (.str x) (.int i)=false:=rfl
theorem ail(a b):aH .eq a b=if j5 a b then some (cL a b)else none:=rfl
theorem aik(a b):aH .ne a b=if j5 a b then some (!cL a b)else none:=rfl
theorem aij(a b):aH .lt a b=ltD a b:=rfl
end Mini
end
section
namespace Mini
open PySem L2
def K3(K:QQq)(H:Hp)(a:Addr)(xs:List V):Prop:=
 (∃o,H a=some (.frz o (.lst xs)))\/
  ∃(o:Obj)(its:Array Value)(n:Nat),K.lookup a=some o/\o.cls=.type "list"/\o.dict=none/\o.data=.seq its n/\its.size<=sizeLine/\Vals xs its.toList
theorem K3.sq{K:QQq}{H:Hp}{a:Addr}{xs:List V}(h:K3 K H a xs):jK K H a xs:=by
 rcases h with ⟨o,h⟩|h
 ·exact .inl (.inr ⟨o,h⟩)
 ·exact .inr h
def cI:Key->D
 |.inl i=>.int i
 |.inr x=>.str x
mutual
def bH(K:QQq)(H:Hp):D->V->Prop
 |.non,v=>v=.non
 |.bl b,v=>v=.bl b
 |.int i,v=>v=.int i
 |.str x,v=>v=.str x
 |.tup ds,v=>∃a vs,v=.ref a/\jl K H a vs/\aq K H ds vs
 |.lst ds,v=>∃a vs,v=.ref a/\K3 K H a vs/\aq K H ds vs
 |.cC ks ds,v=>∃a o kvs,v=.ref a/\H a=some (.frz o (.dK kvs))/\ks=kvs.map (fun p=>cI p.1)/\aq K H ds (kvs.map (·.2))
def aq(K:QQq)(H:Hp):List D->List V->Prop
 |[],vs=>vs=[]
 |d::ds,vs=>∃v r,vs=v::r/\bH K H d v/\aq K H ds r
end
structure bU(H H':Hp):Prop where
 tups:∀b xs,H b=some (.tup xs)->H' b=some (.tup xs)
 frzs:∀b o u,H b=some (.frz o u)->H' b=some (.frz o u)
theorem bU.refl(H:Hp):bU H H:=⟨fun _ _ h=>h,fun _ _ _ h=>h⟩
theorem bU.trans{H H1 H2:Hp}(a:bU H H1)(b:bU H1 H2):bU H H2:=⟨fun c xs h=>b.tups c xs (a.tups c xs h),fun c o u h=>b.frzs c o u (a.frzs c o u h)⟩
section
variable{K:QQq}{H H':Hp}{a:Addr}
theorem bU.Tc(p:bU H H'){xs:List V}(h:jl K H a xs):jl K H' a xs:=by
 rcases h with (h|⟨o,h⟩)|h
 ·exact .inl (.inl (p.tups _ _ h))
 ·exact .inl (.inr ⟨o,p.frzs _ _ _ h⟩)
 ·exact .inr h
theorem bU.Ge(p:bU H H'){xs:List V}(h:K3 K H a xs):K3 K H' a xs:=by
 rcases h with ⟨o,h⟩|h
 ·exact .inl ⟨o,p.frzs _ _ _ h⟩
 ·exact .inr h
mutual
theorem bH.mono(p:bU H H'):∀{d:D}{v:V},bH K H d v->bH K H' d v
 |.non,_,h=>h
 |.bl _,_,h=>h
 |.int _,_,h=>h
 |.str _,_,h=>h
 |.tup ds,v,h=>by
  unfold bH at h⊢
  obtain⟨a,vs,e,s,l⟩:=h
  exact⟨a,vs,e,p.Tc s,aq.mono p l⟩
 |.lst ds,v,h=>by
  unfold bH at h⊢
  obtain⟨a,vs,e,s,l⟩:=h
  exact⟨a,vs,e,p.Ge s,aq.mono p l⟩
 |.cC ks ds,v,h=>by
  unfold bH at h⊢
  obtain⟨a,o,kvs,e,s,k,l⟩:=h
  exact⟨a,o,kvs,e,p.frzs _ _ _ s,k,aq.mono p l⟩
theorem aq.mono(p:bU H H'):∀{ds:List D}{vs:List V},aq K H ds vs->aq K H' ds vs
 |[],_,h=>by unfold aq at h⊢;exact h
 |d::ds,vs,h=>by
  unfold aq at h⊢
  obtain⟨v,r,e,s,l⟩:=h
  exact⟨v,r,e,bH.mono p s,aq.mono p l⟩
end
theorem aq.bL{vs:List V}:aq K H [] vs↔vs=[]:=by unfold aq;exact Iff.rfl
theorem aq.bw{d:D}{ds:List D}{vs:List V}:aq K H (d::ds) vs↔ ∃v r,vs=v::r/\bH K H d v/\aq K H ds r:=by
 constructor
 ·intro h;unfold aq at h;exact h
 ·intro h;unfold aq;exact h
theorem aq.eE{d:D}{ds:List D}{v:V}{vs:List V}(h:bH K H d v)(t:aq K H ds vs):aq K H (d::ds) (v::vs):=aq.bw.mpr ⟨v,vs,rfl,h,t⟩
theorem aq.iR:aq K H [] []:=aq.bL.mpr rfl
theorem aq.length:∀{ds:List D}{vs:List V},aq K H ds vs->ds.length=vs.length
 |[],_,h=>by rw[aq.bL.mp h];rfl
 |d::ds,vs,h=>by
  obtain⟨v,r,rfl,_,t⟩:=aq.bw.mp h
  simp[aq.length t]
theorem aq.get:∀{ds:List D}{vs:List V}{i:Nat}{d:D},aq K H ds vs->ds[i]? =some d->∃v,vs[i]? =some v/\bH K H d v
 |[],_,_,_,_,e=>by simp at e
 |d::ds,vs,i,d',h,e=>by
  obtain⟨v,r,rfl,hd,t⟩:=aq.bw.mp h
  cases i with
  |zero=>simp at e;subst e;exact⟨v,rfl,hd⟩
  |succ i=>obtain⟨w,q,z⟩:=aq.get (i:=i) t (by simpa using e);exact⟨w,by simpa using q,z⟩
theorem aq.append:∀{ds es:List D}{vs ws:List V},aq K H ds vs->aq K H es ws->aq K H (ds++es) (vs++ws)
 |[],_,_,_,h,t=>by rw[aq.bL.mp h];exact t
 |d::ds,es,vs,ws,h,t=>by
  obtain⟨v,r,rfl,hd,q⟩:=aq.bw.mp h
  exact aq.eE hd (aq.append q t)
theorem aq.take:∀{ds:List D}{vs:List V}(n:Nat),aq K H ds vs->aq K H (ds.take n) (vs.take n)
 |_,_,0=>fun _=>aq.iR
 |[],_,_+1=>fun h=>by rw[aq.bL.mp h];exact aq.iR
 |d::ds,vs,n+1=>fun h=>by
  obtain⟨v,r,rfl,hd,q⟩:=aq.bw.mp h
  exact aq.eE hd (aq.take n q)
theorem aq.drop:∀{ds:List D}{vs:List V}(n:Nat),aq K H ds vs->aq K H (ds.drop n) (vs.drop n)
 |_,_,0=>fun h=>h
 |[],_,_+1=>fun h=>by rw[aq.bL.mp h];exact aq.iR
 |d::ds,vs,n+1=>fun h=>by
  obtain⟨v,r,rfl,hd,q⟩:=aq.bw.mp h
  exact aq.drop n q
theorem aq.eraseIdx:∀{ds:List D}{vs:List V}(n:Nat),aq K H ds vs->aq K H (ds.eraseIdx n) (vs.eraseIdx n)
 |[],_,_=>fun h=>by rw[aq.bL.mp h];exact aq.iR
 |d::ds,vs,0=>fun h=>by
  obtain⟨v,r,rfl,hd,q⟩:=aq.bw.mp h
  exact q
 |d::ds,vs,n+1=>fun h=>by
  obtain⟨v,r,rfl,hd,q⟩:=aq.bw.mp h
  exact aq.eE hd (aq.eraseIdx n q)
theorem aq.set{d:D}{v:V}(hd:bH K H d v):∀{ds:List D}{vs:List V}(n:Nat),aq K H ds vs->aq K H (ds.set n d) (vs.set n v)
 |[],_,_=>fun h=>by rw[aq.bL.mp h];exact aq.iR
 |e::ds,vs,0=>fun h=>by
  obtain⟨w,r,rfl,he,q⟩:=aq.bw.mp h
  exact aq.eE hd q
 |e::ds,vs,n+1=>fun h=>by
  obtain⟨w,r,rfl,he,q⟩:=aq.bw.mp h
  exact aq.eE he (aq.set hd n q)
end
def isOwn:Sl->Option Ob
 |.own o=>some o
 |.bor o=>some o
 |_=>none
def Gg(K:QQq)(H:Hp):Ob->HO->Prop
 |.lst xs,u=>∃vs,u=.lst vs/\aq K H xs vs
 |.dct ks ds,u=>∃kvs,u=.dK kvs/\ks=kvs.map (fun p=>cI p.1)/\aq K H ds (kvs.map (·.2))
theorem Gg.mono{K:QQq}{H H':Hp}(p:bU H H'):∀{o:Ob}{u:HO},Gg K H o u->Gg K H' o u
 |.lst _,_,⟨vs,e,l⟩=>⟨vs,e,l.mono p⟩
 |.dct _ _,_,⟨kvs,e,k,l⟩=>⟨kvs,e,k,l.mono p⟩
structure Qf(u:HO):Prop where
 tup:∀xs,u≠ .tup xs
 frz:∀q w,u≠ .frz q w
 tbl:∀ps,u≠ .tbl ps
 own:∀x,u≠ .own x
theorem Gg.uc{K:QQq}{H:Hp}:∀{o:Ob}{u:HO},Gg K H o u->Qf u
 |.lst _,_,⟨vs,e,_⟩=>by
  subst e
  constructor
  all_goals (intros;intro z;cases z)
 |.dct _ _,_,⟨kvs,e,_⟩=>by
  subst e
  constructor
  all_goals (intros;intro z;cases z)
def jq(K:QQq)(H:Hp)(o:Ob)(a:Addr):Prop:=∃u,H a=some u/\Gg K H o u
def P0(K:QQq)(H:Hp):Sl->Option V->Prop
 |.un,_=>True
 |.val d,o=>∃v,o=some v/\bH K H d v
 |.own q,o=>∃a,o=some (.ref a)/\jq K H q a
 |.bor q,o=>∃a,o=some (.ref a)/\jq K H q a
def aJ(env:Ev)(σ:St)(i:Nat)(a:Addr):Prop:=(∃s xs,env[i]? =some s/\isOwn s=some xs)/\σ[i]? =some (some (.ref a))
structure Sat(K:QQq)(env:Ev)(σ:St)(H:Hp):Prop where
 len:env.length=σ.length
 sl:∀(i:Nat)s,env[i]? =some s->P0 K H s (σ[i]?).join
 ne:∀(i j:Nat)a,aJ env σ i a->aJ env σ j a->i=j
structure Nx(K:QQq)(env:Ev)(σ:St)(H:Hp)(env':Ev)(H':Hp):Prop where
 fD:Sat K env' σ H'
 sub:∀(i:Nat)a,aJ env' σ i a->aJ env σ i a
 pers:bU H H'
 keep:∀b u,H b=some u->(∀i,¬aJ env σ i b)->H' b=some u
 dom:∀b,H' b=none->H b=none
 bors:∀(i:Nat)xs,env[i]? =some (.bor xs)->∃ys,env'[i]? =some (.bor ys)
section
variable{K:QQq}{env env1 env2:Ev}{σ:St}{H H1 H2:Hp}
theorem Nx.refl(h:Sat K env σ H):Nx K env σ H env H:=⟨h,fun _ _ z=>z,bU.refl H,fun _ _ z _=>z,fun _ z=>z,fun _ xs e=>⟨xs,e⟩⟩
theorem Nx.trans(a:Nx K env σ H env1 H1)(b:Nx K env1 σ H1 env2 H2):Nx K env σ H env2 H2:=
 ⟨b.fD,fun i c z=>a.sub i c (b.sub i c z),a.pers.trans b.pers,fun c vs z n=>b.keep c vs (a.keep c vs z n) fun i w=>n i (a.sub i c w),fun c z=>a.dom c (b.dom c z),fun i xs e=>let ⟨ys,e1⟩:=a.bors i xs e;b.bors i ys e1⟩
theorem Sat.own(h:Sat K env σ H){i:Nat}{a:Addr}(o:aJ env σ i a):∃q,jq K H q a:=by
 obtain⟨⟨s,xs,e1,e2⟩,e3⟩:=o
 have q:=h.sl i s e1
 rw[e3]at q
 cases s with
 |un=>simp[isOwn]at e2
 |val d=>simp[isOwn]at e2
 |own ys=>obtain⟨b,e,z⟩:=q;cases e;exact⟨ys,z⟩
 |bor ys=>obtain⟨b,e,z⟩:=q;cases e;exact⟨ys,z⟩
theorem Sat.mZ(h:Sat K env σ H){a:Addr}(hn:H a=none)(i:Nat):¬aJ env σ i a:=fun o=>by
 obtain⟨q,u,z,_⟩:=h.own o
 rw[hn]at z;cases z
end
def gw(K:QQq)(σ:St)(H₀ H:Hp):Rv->V->Prop
 |.val d,v=>bH K H d v
 |.new q,v=>∃a,v=.ref a/\jq K H q a/\H₀ a=none
 |.tmp q,v=>∃a,v=.ref a/\jq K H q a/\H₀ a=none
 |.ref i,v=>σ[i]? =some (some v)
abbrev Wi:=Nat->Ev->St->Hp->Prop
def tM(K:QQq)(W:Wi)(env:Ev)(r:Out Rv):TE:=fun σ H Q=>Sat K env σ H/\match r with
 |.ok x env'=>∀v H',Nx K env σ H env' H'->gw K σ H H' x v->Q v H'
 |.exc c env'=>∀H',Nx K env σ H env' H'->W c env' σ H'
 |.bad=>False
def tD(K:QQq)(W:Wi)(env:Ev)(r:Out Rv):TE:=fun σ H Q=>Sat K env σ H/\match r with
 |.ok (.val d) env'=>∀v H',Nx K env σ H env' H'->bH K H' d v->Q v H'
 |.ok (.new q) env'=>∀v H',Nx K env σ H env' H'->bH K H' q.d v->Q v H'
 |.ok _ _=>False
 |.exc c env'=>∀H',Nx K env σ H env' H'->W c env' σ H'
 |.bad=>False
def tT(K:QQq)(W:Wi)(env:Ev)(r:Out Rv):TT:=fun σ H Q=>Sat K env σ H/\match r with
 |.ok x env'=>∃d b,x.jo=some d/\iH d=some b/\∀H',Nx K env σ H env' H'->Q b H'
 |.exc c env'=>∀H',Nx K env σ H env' H'->W c env' σ H'
 |.bad=>False
theorem PE.imp{X:Cx}{e:Expr}{t t':TE}(h:PE X e t)(i:∀σ H Q,t' σ H Q->t σ H Q):PE X e t':=fun QTz s σ H Q I q=>h QTz s σ H Q I (i σ H Q q)
theorem PT.imp{X:Cx}{e:Expr}{t t':TT}(h:PT X e t)(i:∀σ H Q,t' σ H Q->t σ H Q):PT X e t':=fun QTz s σ H Q I q=>h QTz s σ H Q I (i σ H Q q)
theorem _root_.L2.b8.there{P:Program}{w:World}{H:Hp}{h:Heap}{a:Addr}{o:HO}(x:b8 P w H h a o):∃u,h.get? a=some u:=by
 cases o with
 |lst xs=>obtain⟨_,_,_,_,e⟩:=x;exact⟨_,e⟩
 |tup xs=>obtain⟨_,_,_,p⟩:=x;obtain⟨o,e,_⟩:=p;exact⟨_,e⟩
 |dK kvs=>obtain⟨_,_,_,_,o,_,_,e,_⟩:=x;exact⟨_,e⟩
 |dT kvs=>obtain⟨_,_,_,_,o,_,_,e,_⟩:=x;exact⟨_,e⟩
 |set S n=>obtain⟨o,_,_,_,e,_⟩:=x;exact⟨_,e⟩
 |ins C dx fs=>obtain⟨_,_,_,e,_⟩:=x;exact⟨_,e⟩
 |own y=>obtain⟨_,e⟩:=x;exact⟨_,e⟩
 |xd fs=>obtain⟨_,⟨_,_,_,e,_⟩,_⟩:=x;exact⟨_,e⟩
 |rng lo hi=>obtain⟨_,_,_,e⟩:=x;exact⟨_,e⟩
 |frz ob u=>obtain⟨e,_⟩:=x;exact⟨_,e⟩
 |tbl ps=>exact⟨_,show h.get? a=some _ from x⟩
 |met f y=>exact⟨_,show h.get? a=some _ from x⟩
 |ext φ=>obtain⟨_,⟨_,e⟩,_⟩:=x;exact⟨_,e⟩
theorem Inv.freeze{X:Cx}{QTz:QQz}{σ:St}{H:Hp}{s:Shared}{a:Addr}{u:HO}(I:Inv X QTz σ H s)(h:H a=some u)(hu:Qf u):
  ∃o,Inv X QTz σ (upd H a (.frz o u)) s:=by
 obtain⟨o,ho⟩:=(I.hok a _ h).there
 refine⟨o,?_⟩
 have ne:∀b w,H b=some w->w≠u->b≠a:=fun b w q n z=>by subst z;rw[h]at q;cases q;exact n rfl
 have stay:∀b w,b≠a->H b=some w->upd H a (.frz o u) b=some w:=fun b w n q=>by rw[aC n];exact q
 have hok:ju X.prog X.w (upd H a (.frz o u)) s.heap:=fun b w q=>by
  have st:∀c v,b8 X.prog X.w H s.heap c v->b8 X.prog X.w (upd H a (.frz o u)) s.heap c v:=fun c v z=>
   z.stay (fun c v _ q=>q) (fun e q=>stay e _ (ne e _ q (hu.own c).symm) q) fun e xs q=>stay e _ (ne e _ q (hu.tup xs).symm) q
  by_cases hb:b=a
  ·subst hb
   rw[aQ]at q
   cases q
   exact⟨ho,st _ _ (I.hok b _ h)⟩
  ·rw[aC hb]at q
   exact st _ _ (I.hok b w q)
 have J:=I.step (h':=s.heap) (H':=upd H a (.frz o u)) (g':=s.gens) (t':=s.toks) (d':=s.drawn) (ch:=[]) (fun _ z=>nomatch z)
  (fun b o _ _ _ q _=>q) (fun b o _ _ _ q _=>⟨o.slots,q⟩) (fun b o _ q n=>by
   have hb:b≠a:=fun z=>by subst z;rw[h]at n;cases n
   rw[aC hb];exact n) (fun b o _ q=>⟨o,q⟩)
  (fun b xs q=>stay b _ (ne b _ q (hu.tup xs).symm) q) (fun b o w q=>stay b _ (ne b _ q (hu.frz o w).symm) q) (fun b ps q=>⟨#[],by rw[stay b _ (ne b _ q (hu.tbl ps).symm) q];simp⟩) (fun m q=>q) hok I.bare
 exact J
section
variable{K:QQq}{env:Ev}{σ:St}{H H1:Hp}{a:Addr}{u:HO}{o:Obj}{q:Ob}
theorem gC(h:H a=some u)(hu:Qf u):bU H (upd H a (.frz o u)):=by
 refine⟨fun b xs q=>?_,fun b o' w q=>?_⟩
 ·rw[aC (fun z=>by subst z;rw[h]at q;cases q;exact hu.tup xs rfl)];exact q
 ·rw[aC (fun z=>by subst z;rw[h]at q;cases q;exact hu.frz o' w rfl)];exact q
theorem Gg.den{H':Hp}(h:Gg K H' q u)(e:H' a=some (.frz o u)):bH K H' q.d (.ref a):=by
 cases q with
 |lst xs=>
  obtain⟨vs,rfl,l⟩:=h
  show bH K H' (.lst xs) (.ref a)
  unfold bH
  exact⟨a,vs,rfl,.inl ⟨o,e⟩,l⟩
 |dct ks ds=>
  obtain⟨kvs,rfl,k,l⟩:=h
  show bH K H' (.cC ks ds) (.ref a)
  unfold bH
  exact⟨a,o,kvs,rfl,e,k,l⟩
theorem P0.keep{H':Hp}{sl:Sl}{v:Option V}(p:bU H H')(h:P0 K H sl v)(k:∀b u,isOwn sl≠none->v=some (.ref b)->H b=some u->H' b=some u):P0 K H' sl v:=by
 cases sl with
 |un=>trivial
 |val d=>obtain⟨v,e1,e2⟩:=h;exact⟨v,e1,e2.mono p⟩
 |own q=>
  obtain⟨b,e1,w,e2,e3⟩:=h
  exact⟨b,e1,w,k b w (by simp[isOwn]) e1 e2,e3.mono p⟩
 |bor q=>
  obtain⟨b,e1,w,e2,e3⟩:=h
  exact⟨b,e1,w,k b w (by simp[isOwn]) e1 e2,e3.mono p⟩
theorem vD{i:Nat}{sl:Sl}{b:Addr}(e:env[i]? =some sl)(ho:isOwn sl≠none)(ev:(σ[i]?).join=some (.ref b)):aJ env σ i b:=by
 refine⟨?_,?_⟩
 ·cases q:isOwn sl with
  |none=>exact absurd q ho
  |some o=>exact⟨sl,o,e,q⟩
 ·cases w:σ[i]? with
  |none=>rw[w]at ev;cases ev
  |some y=>rw[w]at ev;simp at ev;rw[ev]
theorem Sat.keep{H':Hp}(S:Sat K env σ H)(p:bU H H')(k:∀i b u,aJ env σ i b->H b=some u->H' b=some u):Sat K env σ H':=
 ⟨S.len,fun i sl e=>(S.sl i sl e).keep p fun b u ho ev hb=>k i b u (vD e ho ev) hb,S.ne⟩
theorem Sat.freeze(S:Sat K env σ H)(h:H a=some u)(hu:Qf u)(no:∀i,¬aJ env σ i a):Sat K env σ (upd H a (.frz o u)):=
 S.keep (gC h hu) fun i b w ow hb=>by
  have nb:b≠a:=fun z=>by subst z;exact no i ow
  rw[aC nb];exact hb
end
theorem HD{X:Cx}{W:Wi}{e:Expr}{env:Ev}{r:Out Rv}(h:PE X e (tM X.K W env r)):PE X e (tD X.K W env r):=by
 intro QTz s σ H Q I q
 obtain⟨S,q⟩:=q
 cases r with
 |bad=>exact q.elim
 |exc c env'=>exact h QTz s σ H Q I ⟨S,q⟩
 |ok x env'=>
  cases x with
  |val d=>exact h QTz s σ H Q I ⟨S,q⟩
  |ref i=>exact False.elim q
  |tmp xs=>exact False.elim q
  |new xs=>
   refine cB (h QTz s σ H (fun v H'=>Nx X.K env σ H env' H'/\gw X.K σ H H' (.new xs) v) I ⟨S,fun v H' n k=>⟨n,k⟩⟩) fun u s1⟨v,H1,I1,r1,N,k⟩=>?_
   obtain⟨a,rfl,⟨u,ha,hl⟩,h0⟩:=k
   have hu:=hl.uc
   obtain⟨o,I2⟩:=Inv.freeze I1 ha hu
   have no:∀i,¬aJ env' σ i a:=fun i z=>S.mZ h0 i (N.sub i a z)
   have p:=gC (o:=o) ha hu
   refine⟨.ref a,_,I2,r1,q (.ref a) _ ⟨N.fD.freeze ha hu no,N.sub,N.pers.trans p,fun b ws z n=>?_,fun b z=>?_,N.bors⟩ ((hl.mono p).den aQ)⟩
   ·rw[aC (fun w=>by subst w;rw[h0]at z;cases z)];exact N.keep b ws z n
   ·refine N.dom b ?_
    by_cases hb:b=a
    ·subst hb;rw[aQ]at z;cases z
    ·rw[aC hb]at z;exact z
end Mini
end
section
namespace Mini
open PySem L2
theorem gw.weaken{K:QQq}{σ:St}{H0 H1 H:Hp}{x:Rv}{v:V}(h:gw K σ H1 H x v)(d:∀b,H1 b=none->H0 b=none):gw K σ H0 H x v:=by
 cases x with
 |val d=>exact h
 |ref i=>exact h
 |new xs=>obtain⟨a,e,p,z⟩:=h;exact⟨a,e,p,d a z⟩
 |tmp xs=>obtain⟨a,e,p,z⟩:=h;exact⟨a,e,p,d a z⟩
section
variable{K:QQq}{W:Wi}{env:Ev}{σ:St}{H:Hp}{Q:VK}
theorem QB{env1:Ev}{H1:Hp}{r:Out Rv}(S:tM K W env r σ H Q)(N:Nx K env σ H env1 H1):tM K W env1 r σ H1 Q:=by
 obtain⟨_,h⟩:=S
 refine⟨N.fD,?_⟩
 cases r with
 |bad=>exact h
 |exc c env2=>exact fun H' N'=>h H' (N.trans N')
 |ok x env2=>exact fun v H' N' z=>h v H' (N.trans N') (z.weaken N.dom)
theorem aN{r:Out Rv}{f:D->Ev->Out Rv}{R:VK}(h:tM K W env (r.ak f) σ H Q)
  (k:∀d env1 v H1,Nx K env σ H env1 H1->bH K H1 d v->tM K W env1 (f d env1) σ H1 Q->R v H1):tD K W env r σ H R:=by
 have step:∀d env1,r.ak f=f d env1->∀v H1,Nx K env σ H env1 H1->bH K H1 d v->R v H1:=fun d env1 e v H1 N D=>by
  rw[e]at h
  exact k d env1 v H1 N D (QB h N)
 obtain⟨S,h⟩:=h
 refine⟨S,?_⟩
 cases r with
 |bad=>exact h
 |exc c env1=>exact h
 |ok x env1=>
  cases x with
  |val d=>exact fun v H1 N D=>step d env1 rfl v H1 N D
  |new xs=>exact fun v H1 N D=>step xs.d env1 rfl v H1 N D
  |ref i=>exact h
  |tmp xs=>exact h
theorem wU{r:Out Rv}{f:Bool->Ev->Out Rv}{R:Bool->Hp->Prop}(h:tM K W env (r.cj iH f) σ H Q)
  (k:∀b env1 H1,Nx K env σ H env1 H1->tM K W env1 (f b env1) σ H1 Q->R b H1):tT K W env r σ H R:=by
 have step:∀d env1 x,x.jo=some d->r=.ok x env1->∃b,iH d=some b/\∀H1,Nx K env σ H env1 H1->R b H1:=fun d env1 x ex er=>by
  subst er
  cases q:iH d with
  |none=>
   cases x with
   |val d'=>cases ex;simp only[Out.cj,Out.ak,q]at h;exact h.2.elim
   |new xs=>cases ex;simp only[Out.cj,Out.ak,q]at h;exact h.2.elim
   |ref i=>cases ex
   |tmp xs=>cases ex
  |some b=>
   refine⟨b,rfl,fun H1 N=>k b env1 H1 N (QB ?_ N)⟩
   cases x with
   |val d'=>cases ex;simp only[Out.cj,Out.ak,q]at h;exact h
   |new xs=>cases ex;simp only[Out.cj,Out.ak,q]at h;exact h
   |ref i=>cases ex
   |tmp xs=>cases ex
 refine⟨h.1,?_⟩
 cases r with
 |bad=>exact h.2
 |exc c env1=>exact h.2
 |ok x env1=>
  cases x with
  |val d=>obtain⟨b,e,q⟩:=step d env1 _ rfl rfl;exact⟨d,b,rfl,e,q⟩
  |new xs=>obtain⟨b,e,q⟩:=step xs.d env1 _ rfl rfl;exact⟨xs.d,b,rfl,e,q⟩
  |ref i=>exact h.2.elim
  |tmp xs=>exact h.2.elim
theorem cF{o:Option Rv}(h:tM K W env (lift env o) σ H Q):∃z,o=some z/\Sat K env σ H/\∀v H',Nx K env σ H env H'->gw K σ H H' z v->Q v H':=by
 obtain⟨S,h⟩:=h
 cases o with
 |none=>exact h.elim
 |some z=>exact⟨z,rfl,S,h⟩
theorem dU{d:D}{v:V}(h:tM K W env (.ok (.val d) env) σ H Q)(e:bH K H d v):Q v H:=h.2 v H (Nx.refl h.1) e
theorem Nx.laid{p:Addr}{o:HO}(S:Sat K env σ H)(hp:H p=none):Nx K env σ H env (upd H p o):=by
 have ne:∀b u,H b=some u->b≠p:=fun b u q z=>by subst z;rw[hp]at q;cases q
 have pe:bU H (upd H p o):=⟨fun b xs q=>by rw[aC (ne b _ q)];exact q,fun b o' u q=>by rw[aC (ne b _ q)];exact q⟩
 refine⟨S.keep pe fun i b u _ q=>by rw[aC (ne b _ q)];exact q,fun _ _ z=>z,pe,fun b vs q _=>by rw[aC (ne b _ q)];exact q,fun b q=>?_,fun _ xs e=>⟨xs,e⟩⟩
 ·by_cases hb:b=p
  ·subst hb;exact hp
  ·rw[aC hb]at q;exact q
end
def GE(X:Cx)(W:Wi)(c:Cf)(m:E)(e:Expr):Prop:=∀env,PE X e (tM X.K W env (ev c m env))
def aD(X:Cx)(W:Wi)(c:Cf)(m:E):TE:=fun σ H Q=>∃env,tD X.K W env (ev c m env) σ H Q
def aT(X:Cx)(W:Wi)(c:Cf)(m:E):TT:=fun σ H Q=>∃env,tT X.K W env (ev c m env) σ H Q
def GT(X:Cx)(W:Wi)(c:Cf)(m:E)(e:Expr):Prop:=PT X e (aT X W c m)
section
variable{X:Cx}{W:Wi}{c:Cf}{m m1 m2 m3:E}{e a b:Expr}{pos:Pos}
theorem GE.d(h:GE X W c m e):PE X e (aD X W c m):=fun QTz s σ H Q I⟨env,q⟩=>HD (h env) QTz s σ H Q I q
theorem bH.iH{K:QQq}{H:Hp}{x:D}{v:V}{k:Bool}(h:bH K H x v)(e:iH x=some k):KJ K v H k:=by
 cases x with
 |non=>cases h;simp[Mini.iH]at e;subst e;rfl
 |bl b=>cases h;simp[Mini.iH]at e;subst e;rfl
 |int i=>cases h;simp[Mini.iH]at e;subst e;rfl
 |str y=>simp[Mini.iH]at e
 |tup xs=>
  unfold bH at h
  obtain⟨p,vs,rfl,hq,l⟩:=h
  have e':(!xs.isEmpty)=k:=Option.some.inj e
  refine .inr (.inl ⟨vs,hq,?_⟩)
  have:=l.length
  rw[<-e']
  cases xs<;>cases vs<;>simp_all
 |lst xs=>
  unfold bH at h
  obtain⟨p,vs,rfl,hq,l⟩:=h
  have e':(!xs.isEmpty)=k:=Option.some.inj e
  refine .inl ⟨vs,hq.sq,?_⟩
  have:=l.length
  rw[<-e']
  cases xs<;>cases vs<;>simp_all
 |cC ks vs=>simp[Mini.iH]at e
theorem wW{K:QQq}{env:Ev}{r:Out Rv}{σ:St}{H:Hp}{Q:Bool->Hp->Prop}(h:tT K W env r σ H Q):tD K W env r σ H (fun v H'=>∃k,KJ K v H' k/\Q k H'):=by
 obtain⟨S,h⟩:=h
 refine⟨S,?_⟩
 cases r with
 |bad=>exact h
 |exc c env1=>exact h
 |ok x env1=>
  obtain⟨d,b,e1,e2,q⟩:=h
  cases x with
  |val d'=>cases e1;exact fun v H' N D=>⟨b,D.iH e2,q H' N⟩
  |new xs=>cases e1;exact fun v H' N D=>⟨b,D.iH e2,q H' N⟩
  |ref i=>cases e1
  |tmp xs=>cases e1
theorem GE.t(h:GE X W c m e)(he:∀whole,isTrue e X.env whole=(do let v<-whole;standAt e.pos;holding [v] (truthy v))):GT X W c m e:=
 PT.imp (Ht h.d he) fun σ H Q⟨env,q⟩=>⟨env,wW q⟩
def Eg:D->Const->Bool
 |.non,.none=>true
 |.bl b,.bool b'=>b==b'
 |.int i,.int j=>i==j
 |.str x,.str y=>decide (x=y)
 |_,_=>false
theorem VJ{x:D}{k:Const}{i:Nat}(h:Eg x k=true):GE X W c (.con x) (.Constant k i pos):=by
 intro env
 cases x with
 |non=>cases k<;>first|exact PE.imp HH (fun σ H Q q=>dU q rfl)|simp[Eg]at h
 |bl y=>cases k<;>first|(simp[Eg]at h;subst h;exact PE.imp Zy (fun σ H Q q=>dU q rfl))|simp[Eg]at h
 |int y=>cases k<;>first|(simp[Eg]at h;subst h;exact PE.imp HQ (fun σ H Q q=>dU q rfl))|simp[Eg]at h
 |str y=>cases k<;>first|(simp[Eg]at h;subst h;exact PE.imp T9 (fun σ H Q q=>dU q rfl))|simp[Eg]at h
 |tup _=>cases k<;>simp[Eg]at h
 |lst _=>cases k<;>simp[Eg]at h
 |cC _ _=>cases k<;>simp[Eg]at h
theorem bY{σ:St}{i:Nat}{v:V}(h:(σ[i]?).join=some v):σ[i]? =some (some v):=by
 cases w:σ[i]? with
 |none=>rw[w]at h;cases h
 |some y=>rw[w]at h;simp at h;rw[h]
theorem Nx.give{K:QQq}{env:Ev}{σ:St}{H:Hp}{i:Nat}{q:Ob}{a:Addr}{u:HO}{o:Obj}(S:Sat K env σ H)(e:env[i]? =some (.own q))(es:σ[i]? =some (some (.ref a)))
  (ha:H a=some u)(l:Gg K H q u):Nx K env σ H (env.set i (.val q.d)) (upd H a (.frz o u)):=by
 have hu:=l.uc
 have p:=gC (o:=o) ha hu
 have oa:aJ env σ i a:=⟨⟨_,q,e,rfl⟩,es⟩
 have hi:i<env.length:=(List.getElem?_eq_some_iff.mp e).1
 have sub:∀j b,aJ (env.set i (.val q.d)) σ j b->aJ env σ j b/\j≠i:=fun j b z=>by
  obtain⟨⟨s,ys,e1,e2⟩,e3⟩:=z
  by_cases hj:i=j
  ·subst hj;rw[List.getElem?_set_self hi]at e1;cases e1;simp[isOwn]at e2
  ·rw[List.getElem?_set_ne hj]at e1;exact⟨⟨⟨s,ys,e1,e2⟩,e3⟩,fun z=>hj z.symm⟩
 have ne:∀j b,aJ env σ j b->j≠i->b≠a:=fun j b z hj q=>hj (S.ne j i a (q▸z) oa)
 refine⟨⟨by simpa using S.len,fun j s ej=>?_,fun j k b z w=>S.ne j k b (sub j b z).1 (sub k b w).1⟩,fun j b z=>(sub j b z).1,p,fun b ws q n=>?_,fun b q=>?_,fun j ys ej=>?_⟩
 ·by_cases hj:i=j
  ·subst hj
   rw[List.getElem?_set_self hi]at ej
   cases ej
   exact⟨.ref a,by rw[es];rfl,(l.mono p).den aQ⟩
  ·rw[List.getElem?_set_ne hj]at ej
   refine(S.sl j s ej).keep p fun b w ho ev hb=>?_
   rw[aC (ne j b (vD ej ho ev) fun z=>hj z.symm)];exact hb
 ·rw[aC (fun z=>by subst z;exact n i oa)];exact q
 ·by_cases hb:b=a
  ·subst hb;rw[aQ]at q;cases q
  ·rw[aC hb]at q;exact q
 ·by_cases hj:i=j
  ·subst hj;rw[e]at ej;cases ej
  ·exact⟨ys,by rw[List.getElem?_set_ne hj];exact ej⟩
theorem Vt{i:Nat}{x:Str}(hN:X.N[i]? =some x)(hv:Wh X.env.scope x)(hd:(x==("__debug__":Str))=false)(hcd:(x==("__classdict__":Str))=false):GE X W c (.var i) (.Name x pos):=by
 intro env QTz s σ H Q I q
 have B:=zx (X:=X) (pos:=pos) hN hv hd hcd
 simp only[v_0,pR]at q
 cases e:env[i]? with
 |none=>rw[e]at q;exact q.2.elim
 |some sl=>
  rw[e]at q
  cases sl with
  |un=>exact q.2.elim
  |bor xs=>exact q.2.elim
  |val d=>
   obtain⟨v,e1,e2⟩:=q.1.sl i _ e
   exact B QTz s σ H Q I ⟨v,bY e1,dU q e2⟩
  |own xs=>
   obtain⟨a,e1,w,e2,e3⟩:=q.1.sl i _ e
   refine cB (B QTz s σ H (fun v H'=>v=.ref a/\H'=H) I ⟨.ref a,bY e1,rfl,rfl⟩) fun u s1⟨v,H1,I1,r1,k1,k2⟩=>?_
   subst k1 k2
   obtain⟨o,I2⟩:=Inv.freeze I1 e2 e3.uc
   exact⟨.ref a,_,I2,r1,q.2 _ _ (Nx.give q.1 e (bY e1) e2 e3) ((e3.mono (gC e2 e3.uc)).den aQ)⟩
end
end Mini
end
section
namespace Mini
open PySem L2
section
variable{X:Cx}
end
end Mini
end
section
namespace Mini
open PySem L2
def iG(K:QQq)(σ:St)(H₀ H:Hp):List Rv->List V->Prop
 |[],vs=>vs=[]
 |x::xs,vs=>∃v r,vs=v::r/\gw K σ H₀ H x v/\iG K σ H₀ H xs r
def Yt(K:QQq)(W:Wi)(env:Ev)(r:Out (List Rv)):TA:=fun σ H Q=>Sat K env σ H/\match r with
 |.ok xs env'=>∀vs H',Nx K env σ H env' H'->iG K σ H H' xs vs->Q vs H'
 |.exc c env'=>∀H',Nx K env σ H env' H'->W c env' σ H'
 |.bad=>False
def tA(K:QQq)(W:Wi)(env:Ev)(r:Out Rv):TE:=fun σ H Q=>Sat K env σ H/\match r with
 |.ok x env'=>∀v H',Nx K env σ H env' H'->gw K σ H H' (argv x) v->Q v H'
 |.exc c env'=>∀H',Nx K env σ H env' H'->W c env' σ H'
 |.bad=>False
def GA(X:Cx)(W:Wi)(c:Cf)(m:E)(es:List Expr):Prop:=∀env,PA X es (Yt X.K W env (evs c m env))
theorem gw.on{K:QQq}{env env1 env2:Ev}{σ:St}{H H1 H2:Hp}{x:Rv}{v:V}(S:Sat K env σ H)(N:Nx K env σ H env1 H1)(N2:Nx K env1 σ H1 env2 H2)(h:gw K σ H H1 x v):gw K σ H H2 x v:=by
 have no:∀a,H a=none->∀i,¬aJ env1 σ i a:=fun a h0 i z=>S.mZ h0 i (N.sub i a z)
 cases x with
 |val d=>exact bH.mono N2.pers h
 |ref i=>exact h
 |new xs=>obtain⟨a,e,⟨u,p,l⟩,z⟩:=h;exact⟨a,e,⟨u,N2.keep a u p (no a z),l.mono N2.pers⟩,z⟩
 |tmp xs=>obtain⟨a,e,⟨u,p,l⟩,z⟩:=h;exact⟨a,e,⟨u,N2.keep a u p (no a z),l.mono N2.pers⟩,z⟩
theorem lO{K:QQq}{env:Ev}{σ:St}{H:Hp}{p:Addr}{xs:List D}{vs:List V}(S:Sat K env σ H)(l:aq K H xs vs)(hp:H p=none):gw K σ H (upd H p (.lst vs)) (.new (.lst xs)) (.ref p):=
 ⟨p,rfl,⟨_,aQ,vs,rfl,l.mono (Nx.laid (o:=.lst vs) S hp).pers⟩,hp⟩
theorem iG.weaken{K:QQq}{σ:St}{H0 H1 H:Hp}:∀{xs:List Rv}{vs:List V},iG K σ H1 H xs vs->(∀b,H1 b=none->H0 b=none)->iG K σ H0 H xs vs
 |[],_,h,_=>h
 |x::xs,vs,h,d=>by
  obtain⟨v,r,e,h1,h2⟩:=h
  exact⟨v,r,e,h1.weaken d,iG.weaken h2 d⟩
section
variable{X:Cx}{W:Wi}{c:Cf}{m m1 m2 m3:E}{e a b:Expr}{es:List Expr}{pos:Pos}
theorem PA.imp{t t':TA}(h:PA X es t)(i:∀σ H Q,t' σ H Q->t σ H Q):PA X es t':=fun p QTz s σ H Q I q=>h p QTz s σ H Q I (i σ H Q q)
theorem GE.ag(h:GE X W c m e)(env:Ev):PE X e (tA X.K W env (ev c m env)):=by
 intro QTz s σ H Q I q
 obtain⟨S,q⟩:=q
 cases r:ev c m env with
 |bad=>rw[r]at q;exact q.elim
 |exc k env'=>rw[r]at q;exact h env QTz s σ H Q I ⟨S,by rw[r];exact q⟩
 |ok x env'=>
  rw[r]at q
  cases x with
  |new xs=>exact HD (h env) QTz s σ H Q I ⟨S,by rw[r];exact q⟩
  |val d=>exact h env QTz s σ H Q I ⟨S,by rw[r];exact q⟩
  |ref i=>exact h env QTz s σ H Q I ⟨S,by rw[r];exact q⟩
  |tmp xs=>exact h env QTz s σ H Q I ⟨S,by rw[r];exact q⟩
theorem zW:GA X W c .nil []:=fun env=>PA.imp dg fun σ H Q q=>by
 obtain⟨S,q⟩:=q
 simp only[evs]at q
 exact q [] H (Nx.refl S) rfl
theorem mj(h:GE X W c m1 e)(t:GA X W c m2 es)(hs:starEach (e::es) X.env=(false,eval e X.env)::starEach es X.env):GA X W c (.cons m1 m2) (e::es):=by
 intro env
 have B:PA X (e::es) (GZ (fun σ H Q=>∃env,tA X.K W env (ev c m1 env) σ H Q) (fun σ H Q=>∃env,Yt X.K W env (evs c m2 env) σ H Q)):=
  bI (fun QTz s σ H Q I⟨env,q⟩=>h.ag env QTz s σ H Q I q) (fun p QTz s σ H Q I⟨env,q⟩=>t env p QTz s σ H Q I q) hs
 refine PA.imp B fun σ H Q q=>?_
 obtain⟨S,q⟩:=q
 refine⟨env,S,?_⟩
 simp only[evs]at q
 cases r:ev c m1 env with
 |bad=>rw[r]at q;exact q.elim
 |exc k env1=>rw[r]at q;exact q
 |ok x env1=>
  rw[r]at q
  intro v H1 N1 k1
  refine⟨env1,N1.fD,?_⟩
  simp only[Out.bind]at q
  cases r2:evs c m2 env1 with
  |bad=>rw[r2]at q;exact q.elim
  |exc k env2=>rw[r2]at q;exact fun H2 N2=>q H2 (N1.trans N2)
  |ok xs env2=>
   rw[r2]at q
   intro vs H2 N2 k2
   exact q (v::vs) H2 (N1.trans N2) ⟨v,vs,rfl,k1.on S N1 N2,k2.weaken N1.dom⟩
theorem iG.ds{K:QQq}{σ:St}{H₀ H:Hp}:∀{xs:List Rv}{vs:List V}{ds:List D},iG K σ H₀ H (xs.map argv) vs->aV xs=some ds->aq K H ds vs
 |[],vs,ds,h,e=>by
  simp[aV]at e
  subst e
  cases h
  exact aq.iR
 |x::xs,vs,ds,h,e=>by
  obtain⟨v,r,rfl,h1,h2⟩:=h
  cases x with
  |ref i=>simp[aV,Rv.jo]at e
  |tmp ys=>simp[aV,Rv.jo]at e
  |val d=>
   simp[aV,Rv.jo]at e
   obtain⟨ds',e1,e2⟩:=e
   subst e2
   exact aq.eE h1 (iG.ds h2 e1)
  |new ys=>
   simp[aV,Rv.jo]at e
   obtain⟨ds',e1,e2⟩:=e
   subst e2
   exact aq.eE h1 (iG.ds h2 e1)
theorem JQ:∀(m:E)(env:Ev){xs:List Rv}{env':Ev},evs c m env=.ok xs env'->xs.map argv=xs:=by
 have aa:∀x:Rv,argv (argv x)=argv x:=fun x=>by cases x<;>rfl
 intro m
 induction m with
 |nil=>intro env xs env' h;simp only[evs]at h;cases h;rfl
 |cons h t _ ih=>
  intro env xs env' q
  simp only[evs]at q
  cases r:ev c h env with
  |bad=>rw[r]at q;cases q
  |exc k e1=>rw[r]at q;cases q
  |ok x e1=>
   rw[r]at q
   simp only[Out.bind]at q
   cases r2:evs c t e1 with
   |bad=>rw[r2]at q;cases q
   |exc k e2=>rw[r2]at q;cases q
   |ok ys e2=>
    rw[r2]at q
    cases q
    rw[List.map_cons,aa,ih e1 r2]
 |_=>intro env xs env' h;simp only[evs]at h;cases h
theorem fG{n:Nat}(h:fits n=true):n<=sizeLine:=by
 rw[sizeLine_eq]
 simpa[fits]using h
theorem wR{K:QQq}{env:Ev}{σ:St}{H:Hp}{Q:VK}{f:List D->Option Rv}{R:List V->Hp->Prop}
  (h:tM K W env ((evs c m env).bind fun rs σ=>lift σ ((aV rs).bind f)) σ H Q)
  (k:∀env1 H1 ds vs z,Nx K env σ H env1 H1->aq K H1 ds vs->f ds=some z->(∀v H',Nx K env1 σ H1 env1 H'->gw K σ H1 H' z v->Q v H')->R vs H1):Yt K W env (evs c m env) σ H R:=by
 obtain⟨S,q⟩:=h
 refine⟨S,?_⟩
 cases r:evs c m env with
 |bad=>rw[r]at q;exact q.elim
 |exc k env1=>rw[r]at q;exact q
 |ok xs env1=>
  rw[r]at q
  simp only[Out.bind]at q
  intro vs H1 N1 k1
  cases e:aV xs with
  |none=>rw[e]at q;exact q.elim
  |some ds=>
   rw[e]at q
   simp only[Option.bind]at q
   cases e2:f ds with
   |none=>rw[e2]at q;exact q.elim
   |some z=>
    rw[e2]at q
    have k2:=k1
    rw[<-JQ m env r]at k2
    exact k env1 H1 ds vs z N1 (iG.ds k2 e) e2 fun v H' N' w=>q v H' (N1.trans N') (w.weaken N1.dom)
theorem Vu{k:Nat}(h:GA X W c m es):GE X W c (.tup m) (.Tuple es k pos):=by
 intro env
 refine PE.imp (T8 (h env)) fun σ H Q q=>?_
 simp only[v_3]at q
 refine wR q fun env1 H1 ds vs z N1 l e q=>?_
 split at e
 ·rename_i hf
  cases e
  have hl:=l.length
  refine⟨by rw[<-hl];exact fG hf,fun p hp=>q _ _ (Nx.laid N1.fD hp) ?_⟩
  show bH _ _ _ _
  unfold bH
  exact⟨p,vs,rfl,.inl (.inl aQ),l.mono (Nx.laid (o:=.tup vs) N1.fD hp).pers⟩
 ·cases e
theorem VD(h:GA X W c m es):GE X W c (.lis m) (.List es pos):=by
 intro env
 refine PE.imp (HJ (h env)) fun σ H Q q=>?_
 simp only[v_4]at q
 refine wR q fun env1 H1 ds vs z N1 l e q=>?_
 split at e
 ·rename_i hf
  cases e
  have hl:=l.length
  exact⟨by rw[<-hl];exact fG hf,fun p hp=>q _ _ (Nx.laid N1.fD hp) (lO N1.fD l hp)⟩
 ·cases e
def RG(X:Cx)(r:R2)(f:D->D->Option Rv):Prop:=
 ∀(env:Ev)(σ:St)(H:Hp)(x y:D)(z:Rv)(v u:V)(Q:VK),Sat X.K env σ H->bH X.K H x v->bH X.K H y u->f x y=some z->(∀w H',Nx X.K env σ H env H'->gw X.K σ H H' z w->Q w H')->r v u H Q
theorem RG.bin{r:R2}{f:D->D->Option Rv}(R:RG X r f)(h:PE X e (WP r (aD X W c m1) (aD X W c m2))):
  ∀env,PE X e (tM X.K W env ((ev c m1 env).ak fun x σ=>(ev c m2 σ).ak fun y σ=>lift σ (f x y))):=fun env=>
 PE.imp h fun σ H Q q=>⟨env,aN q fun d env1 v H1 N1 D1 q1=>⟨env1,aN q1 fun d2 env2 v2 H2 N2 D2 q2=>by
  obtain⟨z,ez,S,q3⟩:=cF q2
  exact R env2 σ H2 d d2 z v v2 Q S (D1.mono N2.pers) D2 ez q3⟩⟩
def ZL:La->Operator
 |.add=>.Add
 |.sub=>.Sub
 |.mul=>.Mult
 |.mod=>.Mod
 |.fdiv=>.FloorDiv
 |.pow=>.Pow
def QS(K:QQq):R2:=fun x y H Q=>∃a b xs ys,x=.ref a/\y=.ref b/\jl K H a xs/\jl K H b ys/\xs.length+ys.length<=sizeLine/\
 (xs=[]->Q (.ref b) H)/\(xs≠[]->ys=[]->Q (.ref a) H)/\(xs≠[]->ys≠[]->∀p,H p=none->Q (.ref p) (upd H p (.tup (xs++ys))))
theorem NB:fW X (binaryOp .Add) (QS X.K):=by
 intro QTz s σ H x y v u Q I rx ry h
 obtain⟨a,b,xs,ys,rfl,rfl,ha,hb,hz,q0,q1,q2⟩:=h
 by_cases hx:xs=[]
 ·cases rx
  cases ry
  obtain⟨its,r1,p1,_⟩:=I.tuple ha
  obtain⟨its2,r2,p2,_⟩:=I.tuple hb
  obtain⟨⟨cls,dd,data,sl⟩,ho,hc,n,hd⟩:=id p1
  obtain⟨⟨cls2,dd2,data2,sl2⟩,ho2,hc2,n2,hd2⟩:=id p2
  simp only at hc hd hc2 hd2
  subst hc hd hc2 hd2
  have e0:its.toArray.isEmpty=true:=by
   have:its=[]:=r1.bL.mpr hx
   rw[this];rfl
  exact concat_meets ⟨_,ho,rfl⟩ ⟨_,ho2,rfl⟩ noFill_tuple_add seq_tuple_add PySem.F.slot_tuple_add PySem.F.entry_tuple_add (PySem.F.args_tuple_add_2 _ _)
   (PyProof.Rows.tuple_addW0 a b its.toArray its2.toArray n n2 dd dd2 sl sl2 e0) ⟨ho,ho2,⟨.ref b,H,I,rfl,q0 hx⟩⟩
 ·exact Nv QTz s σ H _ _ v u Q I rx ry ⟨a,b,xs,ys,rfl,rfl,ha,hb,hx,hz,q1 hx,q2 hx⟩
def QR(K:QQq):R2:=fun x y H Q=>∃l b xs zs,x=.ref l/\y=.ref b/\jK K H l xs/\jK K H b zs/\xs.length+zs.length<=sizeLine/\∀p,H p=none->Q (.ref p) (upd H p (.lst (xs++zs)))
theorem Ny:fW X (binaryOp .Add) (QR X.K):=by
 intro QTz s σ H x y v u Q I rx ry h
 obtain⟨l,b,xs,zs,rfl,rfl,hH,hB,hz,q⟩:=h
 cases rx
 cases ry
 obtain⟨its,r1,pl,_⟩:=I.list hH
 obtain⟨its2,r2,pl2,_⟩:=I.list hB
 obtain⟨⟨cls,dd,data,sl⟩,n,ho,hc,_,hd⟩:=id pl
 obtain⟨⟨cls2,dd2,data2,sl2⟩,n2,ho2,hc2,_,hd2⟩:=id pl2
 simp only at hc hd hc2 hd2
 subst hc hd hc2 hd2
 have hl:=r1.length
 have hl2:=r2.length
 have ea:its.toArray++its2.toArray=(its++its2).toArray:=by simp
 refine concat_meets ⟨_,ho,rfl⟩ ⟨_,ho2,rfl⟩ noFill_list_add seq_list_add F.slot_list_add F.entry_list_add (F.args_list_add_2 _ _) (PyProof.Rows.list_addW l b its.toArray its2.toArray n n2 dd dd2 sl sl2 (by rw[List.size_toArray,List.size_toArray];omega)) ⟨ho,ho2,?_⟩
 rw[ea]
 exact⟨.ref _,_,I.adQ (t':=s.toks) (r1.append r2) (by rw[QUz];omega),rfl,q _ I.fresh⟩
def QT(K:QQq):R2:=fun x y H Q=>Hr (fun i j=>.int (i+j)) x y H Q\/QS K x y H Q\/QR K x y H Q
theorem NK:fW X (binaryOp .Add) (QT X.K):=Um.or (NB.or Ny)
theorem cG{K:QQq}{H:Hp}{ds:List D}{v:V}(h:bH K H (.tup ds) v):∃a vs,v=.ref a/\jl K H a vs/\aq K H ds vs:=by unfold bH at h;exact h
theorem dF{K:QQq}{H:Hp}{ds:List D}{v:V}(h:bH K H (.lst ds) v):∃a vs,v=.ref a/\K3 K H a vs/\aq K H ds vs:=by unfold bH at h;exact h
theorem dZ{K:QQq}{H:Hp}{ds:List D}{a:Addr}{vs:List V}(h:jl K H a vs)(l:aq K H ds vs):bH K H (.tup ds) (.ref a):=by unfold bH;exact⟨a,vs,rfl,h,l⟩
theorem pK{i:Int}(h:small i=true): -(2 ^64)<i/\i<2 ^64:=by
 simp only[small,QUq]at h
 exact⟨by omega,by omega⟩
theorem MJ:RG X (QT X.K) (binop .add):=by
 intro env σ H x y z v u Q S Dx Dy e q
 cases x with
 |int i=>
  cases y with
  |int j=>cases e;exact .inl ⟨i,j,Dx,Dy,q _ H (Nx.refl S) rfl⟩
  |_=>cases e
 |tup xs=>
  cases y with
  |tup ys=>
   unfold binop at e;dsimp only at e
   split at e
   ·rename_i hf
    cases e
    obtain⟨a,vs,rfl,ha,la⟩:=cG Dx
    obtain⟨b,ws,rfl,hb,lb⟩:=cG Dy
    refine .inr (.inl ⟨a,b,vs,ws,rfl,rfl,ha,hb,by rw[<-la.length,<-lb.length];exact fG hf,fun e0=>?_,fun _ e0=>?_,fun _ _ p hp=>?_⟩)
    ·subst e0
     have:xs=[]:=by have:=la.length;cases xs<;>simp_all
     subst this
     exact q _ H (Nx.refl S) (dZ hb lb)
    ·subst e0
     have:ys=[]:=by have:=lb.length;cases ys<;>simp_all
     subst this
     exact q _ H (Nx.refl S) (by rw[List.append_nil];exact dZ ha la)
    ·have N:=Nx.laid (o:=.tup (vs++ws)) S hp
     exact q _ _ N (dZ (.inl (.inl aQ)) ((la.append lb).mono N.pers))
   ·cases e
  |_=>cases e
 |lst xs=>
  cases y with
  |lst ys=>
   unfold binop at e;dsimp only at e
   split at e
   ·rename_i hf
    cases e
    obtain⟨a,vs,rfl,ha,la⟩:=dF Dx
    obtain⟨b,ws,rfl,hb,lb⟩:=dF Dy
    refine .inr (.inr ⟨a,b,vs,ws,rfl,rfl,ha.sq,hb.sq,by rw[<-la.length,<-lb.length];exact fG hf,fun p hp=>?_⟩)
    have N:=Nx.laid (o:=.lst (vs++ws)) S hp
    exact q _ _ N (lO S (la.append lb) hp)
   ·cases e
  |_=>cases e
 |_=>cases y<;>cases e
theorem mz{o:La}(ho:o≠ .add)(hm:o≠ .mul){x y:D}{z:Rv}(e:binop o x y=some z):(∃i,x=.int i)/\∃j,y=.int j:=by
 cases x with
 |int i=>exact⟨⟨i,rfl⟩,by cases y with
  |int j=>exact⟨j,rfl⟩
  |_=>cases o<;>cases e⟩
 |tup _=>cases o<;>first|exact absurd rfl ho|exact absurd rfl hm|cases e
 |lst _=>cases o<;>first|exact absurd rfl ho|cases e
 |_=>cases o<;>cases e
theorem Mt:RG X (Hr fun i j=>.int (i-j)) (binop .sub):=by
 intro env σ H x y z v u Q S Dx Dy e q
 obtain⟨⟨i,rfl⟩,j,rfl⟩:=mz (by intro h;cases h) (by intro h;cases h) e
 cases e
 exact⟨_,_,Dx,Dy,q _ H (Nx.refl S) rfl⟩
def QM(K:QQq):R2:=fun x y H Q=>rI Qg (fun i j=>.int (i*j)) x y H Q
theorem Nt:fW X (binaryOp .Mult) (QM X.K):=Ug
theorem Mv:RG X (QM X.K) (binop .mul):=by
 intro env σ H x y z v u Q S Dx Dy e q
 cases x with
 |int i=>
  cases y with
  |int j=>
   unfold binop at e;dsimp only at e
   split at e
   ·rename_i hs
    cases e
    simp only[Bool.or_eq_true]at hs
    exact⟨i,j,Dx,Dy,hs.imp pK pK,q _ H (Nx.refl S) rfl⟩
   ·cases e
  |_=>cases e
 |_=>cases y<;>cases e
theorem Mw:RG X (rI (fun _ j=>0<j) fun i j=>.int (i%j)) (binop .mod):=by
 intro env σ H x y z v u Q S Dx Dy e q
 obtain⟨⟨i,rfl⟩,j,rfl⟩:=mz (by intro h;cases h) (by intro h;cases h) e
 unfold binop at e;dsimp only at e
 split at e
 ·rename_i hs
  cases e
  exact⟨i,j,Dx,Dy,hs,q _ H (Nx.refl S) rfl⟩
 ·cases e
theorem Hh:RG X (rI abh fun i j=>.int (i/j)) (binop .fdiv):=by
 intro env σ H x y z v u Q S Dx Dy e q
 obtain⟨⟨i,rfl⟩,j,rfl⟩:=mz (by intro h;cases h) (by intro h;cases h) e
 unfold binop at e;dsimp only at e
 split at e
 ·rename_i hs
  cases e
  exact⟨i,j,Dx,Dy,hs,q _ H (Nx.refl S) rfl⟩
 ·cases e
theorem Mu:RG X (rI abg fun i j=>.int (i ^j.toNat)) (binop .pow):=by
 intro env σ H x y z v u Q S Dx Dy e q
 obtain⟨⟨i,rfl⟩,j,rfl⟩:=mz (by intro h;cases h) (by intro h;cases h) e
 unfold binop at e;dsimp only at e
 split at e
 ·rename_i hs
  cases e
  have h1:=pK hs.2.2
  exact⟨i,j,Dx,Dy,⟨hs.1,by omega,by omega⟩,q _ H (Nx.refl S) rfl⟩
 ·cases e
theorem aaG{o:La}(ha:GE X W c m1 a)(hb:GE X W c m2 b):GE X W c (.op o m1 m2) (.BinOp a (ZL o) b pos):=by
 intro env
 simp only[X6]
 cases o with
 |add=>exact MJ.bin (tZ NK ha.d hb.d) env
 |sub=>exact Mt.bin (tZ Uc ha.d hb.d) env
 |mul=>exact Mv.bin (tZ Nt ha.d hb.d) env
 |mod=>exact Mw.bin (tZ Uh ha.d hb.d) env
 |fdiv=>exact Hh.bin (tZ Nu ha.d hb.d) env
 |pow=>exact Mu.bin (tZ Ud ha.d hb.d) env
theorem VB(ha:GE X W c m1 a):GE X W c (.neg m1) (.UnaryOp .USub a pos):=by
 intro env
 refine PE.imp (Zv Sq ha.d) fun σ H Q q=>?_
 simp only[v_6]at q
 refine⟨env,aN q fun d env1 v H1 N1 D1 q1=>?_⟩
 obtain⟨z,ez,S,q3⟩:=cF q1
 cases d<;>first
  |(cases ez;done)
  |(cases ez;exact⟨_,D1,q3 _ H1 (Nx.refl S) rfl⟩)
end
end Mini
end
section
namespace Mini
open PySem L2
mutual
def py:D->PyData
 |.non=>.none
 |.bl b=>.bool b
 |.int i=>.int i
 |.str x=>.str x
 |.tup xs=>.tuple (xF xs)
 |.lst xs=>.list (xF xs)
 |.cC _ _=>.none
def xF:List D->List PyData
 |[]=>[]
 |x::xs=>py x::xF xs
end
mutual
theorem vY:∀a b:D,nd a=true->nd b=true->PyData.eqv (py a) (py b)=cL a b
 |.cC _ _,_=>fun h _=>by simp[nd]at h
 |.non,.cC _ _=>fun _ h=>by simp[nd]at h
 |.bl _,.cC _ _=>fun _ h=>by simp[nd]at h
 |.int _,.cC _ _=>fun _ h=>by simp[nd]at h
 |.str _,.cC _ _=>fun _ h=>by simp[nd]at h
 |.tup _,.cC _ _=>fun _ h=>by simp[nd]at h
 |.lst _,.cC _ _=>fun _ h=>by simp[nd]at h
 |.tup xs,.tup ys=>fun h h'=>by simp only[py,PyData.eqv,cL];exact vX xs ys (by simpa[nd]using h) (by simpa[nd]using h')
 |.lst xs,.lst ys=>fun h h'=>by simp only[py,PyData.eqv,cL];exact vX xs ys (by simpa[nd]using h) (by simpa[nd]using h')
 |.non,.non=>fun _ _=>rfl
 |.non,.bl _=>fun _ _=>rfl
 |.non,.int _=>fun _ _=>rfl
 |.non,.str _=>fun _ _=>rfl
 |.non,.tup _=>fun _ _=>rfl
 |.non,.lst _=>fun _ _=>rfl
 |.bl _,.non=>fun _ _=>rfl
 |.bl _,.bl _=>fun _ _=>rfl
 |.bl a,.int j=>fun _ _=>rfl
 |.bl _,.str _=>fun _ _=>rfl
 |.bl _,.tup _=>fun _ _=>rfl
 |.bl _,.lst _=>fun _ _=>rfl
 |.int _,.non=>fun _ _=>rfl
 |.int i,.bl b=>fun _ _=>rfl
 |.int _,.int _=>fun _ _=>rfl
 |.int _,.str _=>fun _ _=>rfl
 |.int _,.tup _=>fun _ _=>rfl
 |.int _,.lst _=>fun _ _=>rfl
 |.str _,.non=>fun _ _=>rfl
 |.str _,.bl _=>fun _ _=>rfl
 |.str _,.int _=>fun _ _=>rfl
 |.str x,.str y=>fun _ _=>by simp only[py,PyData.eqv,cL];rw[Bool.beq_eq_decide_eq]
 |.str _,.tup _=>fun _ _=>rfl
 |.str _,.lst _=>fun _ _=>rfl
 |.tup _,.non=>fun _ _=>rfl
 |.tup _,.bl _=>fun _ _=>rfl
 |.tup _,.int _=>fun _ _=>rfl
 |.tup _,.str _=>fun _ _=>rfl
 |.tup _,.lst _=>fun _ _=>rfl
 |.lst _,.non=>fun _ _=>rfl
 |.lst _,.bl _=>fun _ _=>rfl
 |.lst _,.int _=>fun _ _=>rfl
 |.lst _,.str _=>fun _ _=>rfl
 |.lst _,.tup _=>fun _ _=>rfl
theorem vX:∀xs ys:List D,lQ xs=true->lQ ys=true->PyData.eqvAll (xF xs) (xF ys)=qL xs ys
 |[],[]=>fun _ _=>rfl
 |[],_::_=>fun _ _=>rfl
 |_::_,[]=>fun _ _=>rfl
 |x::xs,y::ys=>fun h h'=>by
  simp only[lQ,QVz]at h h'
  simp only[xF,PyData.eqvAll,qL]
  rw[vY x y h.1 h'.1,vX xs ys h.2 h'.2]
end
theorem G3{x:Str}(h:sOk x=true):PyData.strOk x=true:=by
 unfold sOk at h
 unfold PyData.strOk
 rw[Array.all_eq_true]at h⊢
 intro i hi
 have:=h i hi
 simp only[QUq]at this⊢
 omega
mutual
theorem jb:∀a:D,nd a=true->(py a).canLay0=true
 |.non=>fun _=>rfl
 |.bl _=>fun _=>rfl
 |.int _=>fun _=>rfl
 |.str x=>fun h=>G3 h
 |.tup xs=>fun h=>by simp only[py,PyData.canLay0];exact iZ xs (by simpa[nd]using h)
 |.lst xs=>fun h=>by simp only[py,PyData.canLay0];exact iZ xs (by simpa[nd]using h)
 |.cC _ _=>fun h=>by simp[nd]at h
theorem iZ:∀xs:List D,lQ xs=true->PyData.canLayAll0 (xF xs)=true
 |[]=>fun _=>rfl
 |x::xs=>fun h=>by
  simp only[lQ,QVz]at h
  simp only[xF,PyData.canLayAll0,QVz]
  exact⟨jb x h.1,iZ xs h.2⟩
end
mutual
theorem v5:∀a:D,nd a=true->(py a).depth=dep a
 |.non=>fun _=>rfl
 |.bl _=>fun _=>rfl
 |.int _=>fun _=>rfl
 |.str _=>fun _=>rfl
 |.tup xs=>fun h=>by simp only[py,PyData.depth,dep];rw[v4 xs (by simpa[nd]using h)]
 |.lst xs=>fun h=>by simp only[py,PyData.depth,dep];rw[v4 xs (by simpa[nd]using h)]
 |.cC _ _=>fun h=>by simp[nd]at h
theorem v4:∀xs:List D,lQ xs=true->PyData.depthAll (xF xs)=mq xs
 |[]=>fun _=>rfl
 |x::xs=>fun h=>by
  simp only[lQ,QVz]at h
  simp only[xF,PyData.depthAll,mq]
  rw[v5 x h.1,v4 xs h.2]
end
def dM(K:QQq)(H:Hp)(d:D)(v:V):Prop:=bH K H d v\/∃q a,d=Ob.d q/\v=.ref a/\jq K H q a
section
variable{X:Cx}{QTz:QQz}{s:Shared}{σ:St}{H:Hp}
mutual
theorem bH.reads(I:Inv X QTz σ H s):∀{d:D}{v:V}{u:Value},nd d=true->bH X.K H d v->RelV v u->∃as,Reads s.heap u (py d) as
 |.non,v,u,_,h,r=>by cases h;cases r;exact⟨_,.none⟩
 |.bl b,v,u,_,h,r=>by cases h;cases r;exact⟨_,.bool b⟩
 |.int i,v,u,_,h,r=>by cases h;obtain⟨t,rfl⟩:=r;exact⟨_,.int i t⟩
 |.str x,v,u,_,h,r=>by cases h;obtain⟨t,rfl⟩:=r;exact⟨_,.str x t⟩
 |.tup ds,v,u,hn,h,r=>by
  obtain⟨a,vs,rfl,hq,l⟩:=cG h
  cases r
  obtain⟨its,rv,⟨o,e,c,n,dt⟩,_⟩:=I.tuple hq
  obtain⟨as,q⟩:=aq.reads I (by simpa[nd]using hn) l rv
  exact⟨as,by rw[py];exact .tuple e c dt (by simpa using q)⟩
 |.lst ds,v,u,hn,h,r=>by
  obtain⟨a,vs,rfl,hq,l⟩:=dF h
  cases r
  obtain⟨its,rv,⟨o,n,e,c,_,dt⟩,_⟩:=I.list hq.sq
  obtain⟨as,q⟩:=aq.reads I (by simpa[nd]using hn) l rv
  exact⟨a::as,by rw[py];exact .list e c dt (by simpa using q)⟩
 |.cC _ _,_,_,h,_,_=>by simp[nd]at h
theorem aq.reads(I:Inv X QTz σ H s):∀{ds:List D}{vs:List V}{us:List Value},lQ ds=true->aq X.K H ds vs->Vals vs us->∃as,ReadsAll s.heap us (xF ds) as
 |[],vs,us,_,h,r=>by rw[aq.bL.mp h]at r;cases r;exact⟨_,.nil⟩
 |d::ds,vs,us,hn,h,r=>by
  obtain⟨v,rs,rfl,h1,h2⟩:=aq.bw.mp h
  simp only[lQ,QVz]at hn
  cases r with
  |cons r1 r2=>
   obtain⟨as,q1⟩:=bH.reads I hn.1 h1 r1
   obtain⟨bs,q2⟩:=aq.reads I hn.2 h2 r2
   exact⟨as++bs,.cons q1 q2⟩
end
theorem dM.reads(I:Inv X QTz σ H s){d:D}{v:V}{u:Value}(hn:nd d=true)(h:dM X.K H d v)(r:RelV v u):∃as,Reads s.heap u (py d) as:=by
 rcases h with h|⟨q,a,rfl,rfl,u',ha,hq⟩
 ·exact bH.reads I hn h r
 ·cases r
  cases q with
  |dct ks ds=>simp[Ob.d,nd]at hn
  |lst ds=>
  obtain⟨vs,rfl,l⟩:=hq
  obtain⟨its,rv,⟨o,n,e,c,_,dt⟩,_⟩:=I.list (.inl (.inl ha))
  obtain⟨as,q⟩:=aq.reads I (by simpa[Ob.d,nd]using hn) l rv
  exact⟨a::as,by rw[Ob.d,py];exact .list e c dt (by simpa using q)⟩
end
end Mini
end
section
namespace Mini
open PySem L2
section
variable{X:Cx}{W:Wi}{c:Cf}{m m1 m2 m3:E}{e a b:Expr}{pos:Pos}
theorem dM.flat{K:QQq}{H:Hp}{x:D}{v:V}(h:dM K H x v)(f:flat x=true):bH K H x v:=by
 rcases h with h|⟨q,a,rfl,_⟩
 ·exact h
 ·cases q<;>simp[Ob.d,Mini.flat]at f
theorem Ci{x:D}(f:flat x=true)(hs:∀y,x≠ .str y):nd x=true/\dep x=0:=by
 cases x<;>simp_all[flat,nd,dep]
def adJ(K:QQq):R2:=fun x y H Q=>∃p q,dM K H p x/\dM K H q y/\j5 p q=true/\Q (.bl (cL p q)) H
def adG(K:QQq):R2:=fun x y H Q=>∃p q,dM K H p x/\dM K H q y/\j5 p q=true/\Q (.bl (!cL p q)) H
theorem Ck{K:QQq}{H:Hp}{p q:D}{x y:V}(Dp:bH K H p x)(Dq:bH K H q y)(fp:flat p=true)(fq:flat q=true)(hs:(∃z,p=.str z)\/∃z,q=.str z):Mr x y=true/\decide (x=y)=cL p q:=by
 cases p<;>cases q<;>simp_all[flat]<;>(cases Dp;cases Dq;unfold Mr cL;simp)
theorem Cj{u:Nat}{p q:D}(hu:u+60<cLine)(hp:nd p=true)(hq:nd q=true)(hd:dep p<=50):u+min (py p).depth (py q).depth<cLine:=by
 rw[v5 p hp,v5 q hq]
 have:min (dep p) (dep q)<=dep p:=Nat.min_le_left _ _
 omega
theorem qK{p q:D}(h:j5 p q=true):(nd p=true/\nd q=true/\dep p<=50)\/(flat p=true/\flat q=true/\((∃z,p=.str z)\/∃z,q=.str z)):=by
 simp only[j5,Bool.or_eq_true,QVz,QUq]at h
 rcases h with ⟨h1,h2⟩|⟨⟨h1,h2⟩,h3⟩
 ·by_cases hs:(∃z,p=.str z)\/∃z,q=.str z
  ·exact .inr ⟨h1,h2,hs⟩
  ·have n1:∀y,p≠ .str y:=fun y e=>hs (.inl ⟨y,e⟩)
   have n2:∀y,q≠ .str y:=fun y e=>hs (.inr ⟨y,e⟩)
   have k1:=Ci h1 n1
   have k2:=Ci h2 n2
   exact .inl ⟨k1.1,k2.1,by omega⟩
 ·exact .inl ⟨h1,h3,h2⟩
theorem Ul(hu:X.A.units+60<cLine):fW X (compareOp .Eq) (adJ X.K):=by
 intro QTz s σ H x y v u Q I rx ry h
 obtain⟨p,q,Dp,Dq,ok,k⟩:=h
 rcases qK ok with ⟨h1,h2,h3⟩|⟨h1,h2,h3⟩
 ·obtain⟨as,ra⟩:=Dp.reads I h1 rx
  obtain⟨bs,rb⟩:=Dq.reads I h2 ry
  exact SeqAt.compareEq_reads ra rb (jb p h1) (jb q h2) (Cj hu h1 h2 h3) (by rw[vY p q h1 h2];exact⟨.bl _,H,I,rfl,k⟩)
 ·obtain⟨e1,e2⟩:=Ck (Dp.flat h1) (Dq.flat h2) h1 h2 h3
  exact ZK QTz s σ H x y v u Q I rx ry ⟨e1,by rw[e2];exact k⟩
theorem Ue(hu:X.A.units+60<cLine):fW X (compareOp .NotEq) (adG X.K):=by
 intro QTz s σ H x y v u Q I rx ry h
 obtain⟨p,q,Dp,Dq,ok,k⟩:=h
 rcases qK ok with ⟨h1,h2,h3⟩|⟨h1,h2,h3⟩
 ·obtain⟨as,ra⟩:=Dp.reads I h1 rx
  obtain⟨bs,rb⟩:=Dq.reads I h2 ry
  exact SeqAt.compareNe_reads ra rb (jb p h1) (jb q h2) (Cj hu h1 h2 h3) (by rw[vY p q h1 h2];exact⟨.bl _,H,I,rfl,k⟩)
 ·obtain⟨e1,e2⟩:=Ck (Dp.flat h1) (Dq.flat h2) h1 h2 h3
  exact ZC QTz s σ H x y v u Q I rx ry ⟨e1,by rw[e2];exact k⟩
theorem vQ{K:QQq}{H:Hp}{p:D}{x:V}(Dp:bH K H p x)(fp:flat p=true):∀{ds:List D}{vs:List V},aq K H ds vs->ds.all flat=true->vs.all gJ=true/\inV x vs=aU p ds
 |[],vs,h,_=>by rw[aq.bL.mp h];exact⟨rfl,rfl⟩
 |d::ds,vs,h,f=>by
  obtain⟨v,r,rfl,h1,h2⟩:=aq.bw.mp h
  rw[List.all_cons,QVz]at f
  obtain⟨k1,k2⟩:=vQ Dp fp h2 f.2
  have fv:gJ v=true/\JS v x=cL d p:=by
   obtain⟨f1,_⟩:=f
   cases d<;>cases p<;>simp_all[flat]<;>(cases h1;cases Dp;first|exact⟨rfl,rfl⟩|(refine⟨rfl,?_⟩;simp[JS,cL];try (rw[Bool.beq_eq_decide_eq])))
  refine⟨by rw[List.all_cons,fv.1,k1];rfl,?_⟩
  unfold inV at k2⊢
  rw[List.any_cons,fv.2,k2]
  rfl
theorem rJ{p:D}(hp:nd p=true):∀{ds:List D},lQ ds=true->((xF ds).any fun y=>PyData.eqv y (py p))=aU p ds
 |[]=>fun _=>rfl
 |d::ds=>fun h=>by
  simp only[lQ,QVz]at h
  rw[xF,List.any_cons,vY d p h.1 hp,rJ hp h.2]
  rfl
def KQ(K:QQq)(H:Hp)(xs:List D)(y:V):Prop:=∃a vs,y=.ref a/\(jK K H a vs\/jl K H a vs)/\aq K H xs vs
def Zo(K:QQq)(neg:Bool):R2:=fun x y H Q=>∃p xs,bH K H p x/\KQ K H xs y/\eY p xs=true/\Q (.bl (if neg then !aU p xs else aU p xs)) H
theorem oZ{u:Nat}{p:D}{xs:List D}(hu:u+60<cLine)(hp:nd p=true)(hd:dep p<=50):u+1+min (PyData.depthAll (xF xs)) (py p).depth<cLine:=by
 rw[v5 p hp]
 have:min (PyData.depthAll (xF xs)) (dep p)<=dep p:=Nat.min_le_right _ _
 omega
theorem KQ.reads{QTz:QQz}{s:Shared}{σ:St}{H:Hp}{xs:List D}{y:V}{u:Value}(I:Inv X QTz σ H s)(h:KQ X.K H xs y)(hn:lQ xs=true)(r:RelV y u):
  ∃as,Reads s.heap u (.list (xF xs)) as\/Reads s.heap u (.tuple (xF xs)) as:=by
 obtain⟨a,vs,rfl,hq,l⟩:=h
 cases r
 rcases hq with hq|hq
 ·obtain⟨its,rv,⟨o,n,e,c,_,dt⟩,_⟩:=I.list hq
  obtain⟨as,q⟩:=aq.reads I hn l rv
  exact⟨a::as,.inl (.list e c dt (by simpa using q))⟩
 ·obtain⟨its,rv,⟨o,e,c,n,dt⟩,_⟩:=I.tuple hq
  obtain⟨as,q⟩:=aq.reads I hn l rv
  exact⟨as,.inr (.tuple e c dt (by simpa using q))⟩
theorem Uk(hu:X.A.units+60<cLine):fW X (compareOp .In) (Zo X.K false):=by
 intro QTz s σ H x y v u Q I rx ry h
 obtain⟨p,xs,Dp,hS,ok,k⟩:=h
 simp only[eY,Bool.or_eq_true,QVz,QUq]at ok
 rcases ok with ⟨h1,h2⟩|⟨⟨h1,h2⟩,h3⟩
 ·obtain⟨a,vs,rfl,hq,l⟩:=hS
  obtain⟨k1,k2⟩:=vQ Dp h1 l h2
  have fx:gJ x=true:=by cases p<;>simp_all[flat]<;>(cases Dp;rfl)
  exact Ef QTz s σ H x _ v u Q I rx ry ⟨a,vs,rfl,hq,fx,k1,by simpa[k2]using k⟩
 ·obtain⟨bs,rb⟩:=bH.reads I h1 Dp rx
  obtain⟨as,ra|ra⟩:=hS.reads I h3 ry
  ·exact SeqAt.in_list_reads ra rb (iZ xs h3) (jb p h1) (oZ hu h1 h2) (by rw[rJ h1 h3];exact⟨.bl _,H,I,rfl,k⟩)
  ·exact SeqAt.in_tuple_reads ra rb (iZ xs h3) (jb p h1) (oZ hu h1 h2) (by rw[rJ h1 h3];exact⟨.bl _,H,I,rfl,k⟩)
theorem Ec(hu:X.A.units+60<cLine):fW X (compareOp .NotIn) (Zo X.K true):=by
 intro QTz s σ H x y v u Q I rx ry h
 obtain⟨p,xs,Dp,hS,ok,k⟩:=h
 simp only[eY,Bool.or_eq_true,QVz,QUq]at ok
 rcases ok with ⟨h1,h2⟩|⟨⟨h1,h2⟩,h3⟩
 ·obtain⟨a,vs,rfl,hq,l⟩:=hS
  obtain⟨k1,k2⟩:=vQ Dp h1 l h2
  have fx:gJ x=true:=by cases p<;>simp_all[flat]<;>(cases Dp;rfl)
  exact vG QTz s σ H x _ v u Q I rx ry ⟨a,vs,rfl,hq,fx,k1,by simpa[k2]using k⟩
 ·obtain⟨bs,rb⟩:=bH.reads I h1 Dp rx
  obtain⟨as,ra|ra⟩:=hS.reads I h3 ry
  ·exact SeqAt.notIn_list_reads ra rb (iZ xs h3) (jb p h1) (oZ hu h1 h2) (by rw[rJ h1 h3];exact⟨.bl _,H,I,rfl,k⟩)
  ·exact SeqAt.notIn_tuple_reads ra rb (iZ xs h3) (jb p h1) (oZ hu h1 h2) (by rw[rJ h1 h3];exact⟨.bl _,H,I,rfl,k⟩)
end
end Mini
end
section
namespace Mini
open PySem L2
structure Gives(K:QQq)(J:It)(xs:List D)(H:Hp):Prop where
 go:∀H1,bU H H1->∀(i:Nat)d,xs[i]? =some d->J.go i H1
 yld:∀H1,bU H H1->∀(i:Nat)d,xs[i]? =some d->∀x H2,J.yld i H1 x H2->bH K H2 d x/\(H2=H1\/∃p vs,H1 p=none/\H2=upd H1 p (.tup vs))
 stop:∀H1,bU H H1->∀(i:Nat),xs.length<=i->J.stop i H1
 len:xs.length<=sizeLine
def tI(K:QQq)(W:Wi)(env:Ev)(r:Out Rv):TI:=fun σ H R=>Sat K env σ H/\match r with
 |.ok x env'=>∃d xs,x.jo=some d/\items d=some xs/\∀J H',Nx K env σ H env' H'->Gives K J xs H'->R J H'
 |.exc c env'=>∀H',Nx K env σ H env' H'->W c env' σ H'
 |.bad=>False
def GI(X:Cx)(W:Wi)(c:Cf)(m:E)(tg e:Expr):Prop:=∀env,PI X tg e (tI X.K W env (ev c m env))
section
variable{prog:Program}{w:World}{A:Around}{R:Result->Shared->Prop}{s:Shared}
theorem v9{elt target iter:Expr}{ifs:List Expr}{scope:Scope}{pos:Pos}{it acc:Value}{env:Env}(I:Nat->Shared->Prop)
  (turn:∀n s,I n s->wpAny (model prog w) A (pyNext it) (fun r s₁=>match r with
   |none=>R (.ok .next) s₁
   |some v=>wpAny (model prog w) A (letOwnedTupleGo target it v) (fun _ s₁'=>wpAny (model prog w) A (assign target env v) (fun _ s₂=>
     wpAny (model prog w) A (forIn ifs true fun c r=>if r=true then do let ok<-isTrue c env (eval c env);pure (ForInStep.yield ok)else pure (ForInStep.yield r)) (fun ok s₃=>
      if ok=true then wpAny (model prog w) A (eval elt env) (fun x s₄=>
       wpAny (model prog w) A (call (.builtin "list.append") [acc,x]) (fun _ s₅=>∃m,m<n/\I m s₅) (fun _ _=>False) s₄) (fun _ _=>False) s₃
      else∃m,m<n/\I m s₃) (fun _ _=>False) s₂) (fun _ _=>False) s₁') (fun _ _=>False) s₁) (fun _ _=>False) s)
  (n:Nat)(h:I n s):
  codeAny (model prog w) A (.compLoop (.ListComp elt [⟨target,iter,ifs,0⟩] scope pos) 0 it acc env) R s:=by
 refine codeAny_loop rfl I (fun n s hI=>?_) n h
 show wpAny _ A ((compTurn (.ListComp elt [⟨target,iter,ifs,0⟩] scope pos) 0 it acc env).onRaise (fun x=>do noteFrame x env;theTreesLotGoes x)) _ _ s
 refine wpAny_noted ?_
 rw[compTurn_list]
 refine wpAny_bind (wpAny_standAt (wpAny_bind (wpAny_mono (turn n s hI) (fun r s₁ h₁=>?_) fun _ _ h'=>h'.elim)))
 cases r with
 |none=>exact wpAny_pure h₁
 |some v=>
  refine wpAny_bind (wpAny_mono h₁ (fun _ s₁' h₁'=>?_) fun _ _ h'=>h'.elim)
  refine wpAny_bind (wpAny_mono h₁' (fun _ s₂ h₂=>wpAny_bind (wpAny_mono h₂ (fun ok s₃ h₃=>?_) fun _ _ h'=>h'.elim)) fun _ _ h'=>h'.elim)
  cases ok with
  |false=>exact wpAny_pure ⟨rfl,h₃⟩
  |true=>
   exact wpAny_bind (wpAny_bind (wpAny_mono h₃ (fun x s₄ h₄=>wpAny_bind (wpAny_mono h₄ (fun _ s₅ h₅=>wpAny_pure (wpAny_pure ⟨rfl,h₅⟩)) fun _ _ h'=>h'.elim)) fun _ _ h'=>h'.elim))
end
def blk(X:Cx)(scope:Scope)(cl:List (Str×Addr))(N:List Str)(fp:List Addr)(s₀:Shared)(H₀:Hp):Cx where
 prog:=X.prog
 w:=X.w
 K:=X.K
 mg:=X.mg
 base:=X.base
 A:=X.A
 N:=N
 s₀:=s₀
 H₀:=H₀
 env:=compEnvC scope cl s₀.heap.objs.size X.env
 outer:=X.stack
 stack:=X.stack
 ex:=fp
 fn:=fun _=>false
 calm:=X.calm
 pn:=[]
 xe:=fun _ _=>False
def bJ(tgs N:List Str):List Str:=tgs++N.map fun x=>if tgs.contains x then(".":Str)++x else x
structure FZ(sc inner:Scope)(tgs N:List Str):Prop where
 kind:inner.kind=.function
 nd:(bJ tgs N).Nodup
 loc:∀x,inner.names.lookup x=some .local->x∈tgs\/x=(".0":Str)
 locs:∀x∈inner.names,x.2=.local->inner.names.lookup x.1=some .local
 tg:∀x∈tgs,inner.names.lookup x=some .local
 nocell:∀x∈inner.names,x.2≠ .cell
 fre:∀x∈inner.names,x.2=.free->sc.names.lookup x.1=some .cell\/sc.names.lookup x.1=some .free
 dot:∀x∈N,tgs.contains x=true->inner.names.lookup ((".":Str)++x)=none
 dot0:(".0":Str)∉N
structure K5(scope:Scope)(env:Env)(cl:List (Str×Addr)):Prop where
 eq:closureFor scope env=pure cl
 to:∀x c,cl.lookup x=some c->env.cells.lookup x=some c
 has:∀x,scope.names.lookup x=some .free->∃c,cl.lookup x=some c
theorem bK{env:Env}:∀{names:List (Str×NameKind)}{x:Str}{k:NameKind},
  (names.map fun(n,k)=>if (k==NameKind.free&&env.scope.kind== .function&&env.kindOf n==some .cell)then(n,NameKind.cell)else(n,k)).lookup x=some k->
   names.lookup x=some k\/(k=.cell/\names.lookup x=some .free)
 |[],_,_,h=>by simp at h
 |(n,k')::r,x,k,h=>by
  have ih:=@bK env r x k
  rw[List.map_cons]at h
  cases hx:x==n with
  |true=>
   by_cases hc:(k'==NameKind.free&&env.scope.kind== .function&&env.kindOf n==some .cell)=true
   ·simp only[hc,if_true,List.lookup_cons,hx]at h
    cases h
    simp only[QVz,beq_iff_eq]at hc
    exact .inr ⟨rfl,by simp[List.lookup_cons,hx,hc.1.1]⟩
   ·simp only[eq_false_of_ne_true hc,Bool.false_eq_true,if_false,List.lookup_cons,hx]at h
    exact .inl (by simpa[List.lookup_cons,hx]using h)
  |false=>
   have h':(r.map fun(n,k)=>if (k==NameKind.free&&env.scope.kind== .function&&env.kindOf n==some .cell)then(n,NameKind.cell)else(n,k)).lookup x=some k:=by
    by_cases hc:(k'==NameKind.free&&env.scope.kind== .function&&env.kindOf n==some .cell)=true
    ·simpa only[hc,if_true,List.lookup_cons,hx]using h
    ·simpa only[eq_false_of_ne_true hc,Bool.false_eq_true,if_false,List.lookup_cons,hx]using h
   rcases ih h' with q|⟨q1,q2⟩
   ·exact .inl (by simpa[List.lookup_cons,hx]using q)
   ·exact .inr ⟨q1,by simpa[List.lookup_cons,hx]using q2⟩
theorem Kg{X:Cx}{scope:Scope}{cl:List (Str×Addr)}{tgs:List Str}{fp:List Addr}{QTz:QQz}{σ:St}{H:Hp}{s:Shared}
  (I:Inv X QTz σ H s)(sc:FZ X.env.scope scope tgs X.N)(co:K5 scope X.env cl)(hf:∀b∈fp,gB X QTz H b)(hlt:∀b∈fp,b<s.heap.objs.size):
  (blk X scope cl (bJ tgs X.N) fp s H).Ok where
 mod:=I.ok.mod
 kind:=sc.kind
 glob:=I.ok.glob
 blt:=I.ok.blt
 above:=QVq _
 inj:=fun x y c h1 h2=>I.ok.inj x y c (co.to x c h1) (co.to y c h2)
 has:=fun x h=>by
  have z:scope.names.lookup x=some .free:=by
   rcases h with h|h
   ·rcases bK (env:=X.env) h with q|⟨_,q⟩
    ·exact absurd rfl (sc.nocell (x,.cell) (PySem.mem_of_lookup q))
    ·exact q
   ·rcases bK (env:=X.env) h with q|⟨q,_⟩
    ·exact q
    ·cases q
  exact co.has x z
 cab:=fun x c h=>by cases h
 hd:=I.ok.hd
 frames:=I.ok.frames
 stk:=.inl rfl
 exf:=fun b hb=>⟨Nat.ne_of_lt (hlt b hb),fun x c h=>(hf b hb).2.2.2.2.1 x c (co.to x c h)⟩
 bs:=I.bs
 bsz:=Nat.le_trans I.ok.bsz I.sz
 noex:=fun b o e hb=>by
  have e':X.base.get? b=some o:=e
  rcases (hf b hb).2.2.2.1 with z|z
  ·exact I.ok.noex b o e z
  ·have h2:=Heap.lt_size e'
   exact absurd (Nat.lt_of_lt_of_le h2 (Nat.le_trans I.ok.bsz z)) (Nat.lt_irrefl _)
 exfs:=fun b hb hs=>by
  obtain⟨_,h1,h2,_⟩:=hf b hb
  rcases List.mem_cons.mp (I.yQ b hs)with z|z
  ·exact h1 z
  ·exact h2 z
 j4:=I.stack
 frf:=I.oX
theorem Px{X:Cx}{scope:Scope}{cl:List (Str×Addr)}{tgs:List Str}{fp:List Addr}{QTz:QQz}{σ:St}{H:Hp}{s:Shared}{h':Heap}{t:Nat}
  (I:Inv X QTz σ H s)(sc:FZ X.env.scope scope tgs X.N)(co:K5 scope X.env cl)(hf:∀b∈fp,gB X QTz H b)(hlt:∀b∈fp,b<s.heap.objs.size)
  (hn:h'.Ns s.heap.objs.size fun _=>none)(hk:∀b o,s.heap.get? b=some o->h'.get? b=some o):
  Inv (blk X scope cl (bJ tgs X.N) fp s H) [] (List.replicate tgs.length none++σ) H {s with heap:=h',toks:=t}:=by
 have cellK:∀c v,s.heap.IsCell c v->h'.IsCell c v:=fun c v⟨o,e,d⟩=>⟨o,hk c o e,d⟩
 refine⟨Kg I sc co hf hlt,rfl,I.bare,Un.kept hk,⟨_,hn,fun i x v e1 e2 e3=>?_⟩,fun x c e=>?_,I.hok.fresh (QVq _),fun x c e=>I.freeC x c (co.to x c e),fun p hp=>absurd (show p∈([]:QQz)from hp) (by simp),I.hok.kept hk,?_⟩
 ·--an outer name that is seen within
  have hi:tgs.length<=i:=by
   refine Nat.le_of_not_lt fun q=>?_
   rw[List.getElem?_append_left (by simpa using q),List.getElem?_replicate]at e2
   split at e2<;>cases e2
  rw[List.getElem?_append_right (by simpa using hi)]at e2
  simp only[List.length_replicate]at e2
  have e1':(bJ tgs X.N)[i]? =some x:=e1
  unfold bJ at e1'
  rw[List.getElem?_append_right hi,List.getElem?_map]at e1'
  cases ey:X.N[i-tgs.length]? with
  |none=>rw[ey]at e1';cases e1'
  |some y=>
   rw[ey]at e1'
   have e1'':(if tgs.contains y=true then(".":Str)++y else y)=x:=Option.some.inj e1'
   have e3':(relabel scope X.env).names.lookup x=some .local\/(relabel scope X.env).names.lookup x=some .cell\/(relabel scope X.env).names.lookup x=some .free:=e3
   by_cases hy:tgs.contains y=true
   ·rw[if_pos hy]at e1''
    subst e1''
    have no:=sc.dot y (List.mem_of_getElem? ey) hy
    rcases e3' with q|q|q
    ·rcases bK (env:=X.env) q with z|⟨z,_⟩
     ·rw[no]at z;cases z
     ·cases z
    ·rcases bK (env:=X.env) q with z|⟨_,z⟩
     ·rw[no]at z;cases z
     ·rw[no]at z;cases z
    ·rcases bK (env:=X.env) q with z|⟨z,_⟩
     ·rw[no]at z;cases z
     ·cases z
   ·rw[if_neg hy]at e1''
    subst e1''
    have fr:scope.names.lookup y=some .free:=by
     rcases e3' with q|q|q
     ·rcases bK (env:=X.env) q with z|⟨z,_⟩
      ·rcases sc.loc y z with w|w
       ·exact absurd (by simpa using w) hy
       ·exact absurd (w▸List.mem_of_getElem? ey) sc.dot0
      ·cases z
     ·rcases bK (env:=X.env) q with z|⟨_,z⟩
      ·exact absurd rfl (sc.nocell (y,.cell) (PySem.mem_of_lookup z))
      ·exact z
     ·rcases bK (env:=X.env) q with z|⟨z,_⟩
      ·exact z
      ·cases z
    have ou:=sc.fre (y,.free) (PySem.mem_of_lookup fr) rfl
    obtain⟨m,hm,hl⟩:=I.loc
    obtain⟨u,r,l⟩:=hl _ y v ey e2 (.inr ou)
    obtain⟨c,hc⟩:=co.has y fr
    refine⟨u,r,.inr ⟨?_,c,hc,?_⟩⟩
    ·have z:(relabel scope X.env).names.lookup y=some .local\/(relabel scope X.env).names.lookup y=some .cell\/(relabel scope X.env).names.lookup y=some .free:=e3'
     rcases z with z|z|z
     ·rcases bK (env:=X.env) z with w|⟨w,_⟩
      ·rw[fr]at w;cases w
      ·cases w
     ·exact .inl z
     ·exact .inr z
    ·rcases l with ⟨k,_⟩|⟨_,c',hc',z⟩
     ·have k':X.env.scope.names.lookup y=some .local:=k
      rcases ou with w|w
      ·rw[k']at w;cases w
      ·rw[k']at w;cases w
     ·rw[co.to y c hc]at hc'
      cases hc'
      exact cellK c _ z
 ·obtain⟨v,z⟩:=I.cell x c (co.to x c e)
  exact⟨v,cellK c v z⟩
 ·show(List.replicate tgs.length none++σ).length=(bJ tgs X.N).length
  unfold bJ
  simp only[QUz,List.length_replicate,List.length_map,I.len]
end Mini
namespace Mini
open PySem L2
def slots:Tg->List Nat
 |.name i=>[i]
 |.tup is=>is
structure jm(K:QQq)(tg:Tg)(env:Ev)(σ:St)(env':Ev)(σ':St)(H:Hp):Prop where
 fD:Sat K env' σ' H
 same:∀(i:Nat),i∉slots tg->env'[i]? =env[i]? /\σ'[i]? =σ[i]?
 vals:∀(i:Nat),i∈slots tg->∃d,env'[i]? =some (.val d)
 bors:∀(i:Nat)xs,env[i]? =some (.bor xs)->i∉slots tg
 len:σ'.length=σ.length
def tG(K:QQq)(tg:Tg):TG:=fun v σ H Q=>∃env d env',Sat K env σ H/\bH K H d v/\bN tg d env=some env'/\∀σ',jm K tg env σ env' σ' H->Q σ' H
def GG(X:Cx)(tg:Tg)(e:Expr):Prop:=PG X e (tG X.K tg)
section
variable{K:QQq}{tg:Tg}{env env':Ev}{σ σ':St}{H:Hp}
theorem jm.sub(h:jm K tg env σ env' σ' H){i:Nat}{a:Addr}(o:aJ env' σ' i a):aJ env σ i a:=by
 obtain⟨⟨s,xs,e1,e2⟩,e3⟩:=o
 by_cases hi:i∈slots tg
 ·obtain⟨d,e⟩:=h.vals i hi
  rw[e]at e1;cases e1;cases e2
 ·obtain⟨q1,q2⟩:=h.same i hi
  exact⟨⟨s,xs,by rw[<-q1];exact e1,e2⟩,by rw[<-q2];exact e3⟩
theorem pO{i:Nat}{s:Sl}(h:cM i s env=some env'):env'=env.set i s/\i<env.length/\∀xs,env[i]? ≠some (.bor xs):=by
 unfold cM at h
 cases e:env[i]? with
 |none=>rw[e]at h;cases h
 |some t=>
  rw[e]at h
  have hi:=(List.getElem?_eq_some_iff.mp e).1
  cases t with
  |bor xs=>cases h
  |un=>cases h;exact⟨rfl,hi,fun xs q=>by cases q⟩
  |val d=>cases h;exact⟨rfl,hi,fun xs q=>by cases q⟩
  |own ys=>cases h;exact⟨rfl,hi,fun xs q=>by cases q⟩
theorem Sat.put{i:Nat}{d:D}{v:V}(S:Sat K env σ H)(hi:i<env.length)(hd:bH K H d v):Sat K (env.set i (.val d)) (σ.set i (some v)) H:=by
 have hi':i<σ.length:=by rw[<-S.len];exact hi
 have own:∀j a,aJ (env.set i (.val d)) (σ.set i (some v)) j a->aJ env σ j a:=fun j a⟨⟨s,xs,e1,e2⟩,e3⟩=>by
  by_cases hj:i=j
  ·subst hj;rw[List.getElem?_set_self hi]at e1;cases e1;cases e2
  ·rw[List.getElem?_set_ne hj]at e1 e3;exact⟨⟨s,xs,e1,e2⟩,e3⟩
 refine⟨by simpa using S.len,fun j s e=>?_,fun j k a h1 h2=>S.ne j k a (own j a h1) (own k a h2)⟩
 by_cases hj:i=j
 ·subst hj
  rw[List.getElem?_set_self hi]at e
  cases e
  rw[List.getElem?_set_self hi']
  exact⟨v,rfl,hd⟩
 ·rw[List.getElem?_set_ne hj]at e⊢
  exact S.sl j s e
theorem Mi{i:Nat}{d:D}{v:V}(S:Sat K env σ H)(hd:bH K H d v)(h:cM i (.val d) env=some env'):jm K (.name i) env σ env' (σ.set i (some v)) H:=by
 obtain⟨rfl,hi,hb⟩:=pO h
 refine⟨S.put hi hd,fun j hj=>?_,fun j hj=>?_,fun j xs e hj=>?_,by simp⟩
 ·have:i≠j:=fun z=>hj (by simp[slots,z])
  exact⟨List.getElem?_set_ne this,List.getElem?_set_ne this⟩
 ·have e:j=i:=by simpa[slots]using hj
  subst e
  exact⟨d,List.getElem?_set_self hi⟩
 ·have e':j=i:=by simpa[slots]using hj
  subst e'
  exact hb xs e
end
section
variable{X:Cx}{pos:Pos}
theorem vU{i:Nat}{x:Str}(hN:X.N.Nodup)(hi:X.N[i]? =some x)(hx:Loc X.env.scope x)(hf:X.fn x=true\/X.env.scope.names.lookup x=some .local):GG X (.name i) (.Name x pos):=by
 intro QTz s σ H v u Q I r q
 obtain⟨env,d,env',S,hd,e,k⟩:=q
 exact Nf hN hi hx hf QTz s σ H v u Q I r (k _ (Mi S hd e))
def gD(sc:Scope)(N:List Str):List Nat->List Expr->Bool
 |[],[]=>true
 |i::is,.Name x _::es=>(N[i]? ==some x)&&(sc.names.lookup x==some .local)&&gD sc N is es
 |_,_=>false
inductive rK(X:Cx):List Nat->List Expr->Prop
 |nil:rK X [] []
 |cons {i:Nat} {is:List Nat} {x:Str} {p:Pos} {es:List Expr}:X.N[i]? =some x->Loc X.env.scope x->(X.fn x=true\/X.env.scope.names.lookup x=some .local)->rK X is es->rK X (i::is) (.Name x p::es)
theorem Ij:∀{is:List Nat}{es:List Expr},gD X.env.scope X.N is es=true->rK X is es
 |[],[]=>fun _=>.nil
 |[],_::_=>fun h=>by simp[gD]at h
 |_::_,[]=>fun h=>by simp[gD]at h
 |i::is,e::es=>fun h=>by
  cases e with
  |Name x p=>
   simp only[gD,QVz,beq_iff_eq]at h
   exact .cons h.1.1 (.inl h.1.2) (.inr h.1.2) (Ij h.2)
  |_=>simp[gD]at h
theorem yf(hN:X.N.Nodup):∀(is:List Nat)(es:List Expr),rK X is es->
  PGs X es (fun vs σ H Q=>∃env ds env',Sat X.K env σ H/\aq X.K H ds vs/\gM is ds env=some env'/\∀σ',jm X.K (.tup is) env σ env' σ' H->Q σ' H)
 |[],[],_=>fun QTz s σ H vs us Q I r⟨env,ds,env',S,l,e,k⟩=>by
  cases ds with
  |nil=>
   cases e
   refine Nb QTz s σ H vs us Q I r ⟨aq.bL.mp l,k σ ⟨S,fun i _=>⟨rfl,rfl⟩,fun i hi=>?_,fun i xs _=>?_,rfl⟩⟩
   ·simp[slots]at hi
   ·simp[slots]
  |cons d ds=>cases e
 |i::is,_,.cons (x:=x) (p:=p) (es:=es) h1 h2 h3 h4=>by
   have ih:=yf hN is es h4
   have one:GG X (.name i) (.Name x p):=vU hN h1 h2 h3
   intro QTz s σ H vs us Q I r q
   refine HB (X:=X) one ih (by rfl) QTz s σ H vs us Q I r ?_
   obtain⟨env,ds,env',S,l,e,k⟩:=q
   cases ds with
   |nil=>cases e
   |cons d ds=>
    obtain⟨v,vr,rfl,hd,l'⟩:=aq.bw.mp l
    have e':(cM i (.val d) env).bind (gM is ds)=some env':=e
    cases e1:cM i (.val d) env with
    |none=>rw[e1]at e';cases e'
    |some env1=>
     rw[e1]at e'
     refine⟨v,vr,rfl,env,d,env1,S,hd,e1,fun σ1 s1=>⟨env1,ds,env',s1.fD,l',e',fun σ2 s2=>k σ2 ⟨s2.fD,fun j hj=>?_,fun j hj=>?_,fun j xs q hj=>?_,s2.len.trans s1.len⟩⟩⟩
     ·have h1:j∉slots (.name i):=fun z=>hj (by simp[slots]at z⊢;exact .inl z)
      have h2:j∉slots (.tup is):=fun z=>hj (by simp[slots]at z⊢;exact .inr z)
      exact⟨(s2.same j h2).1.trans (s1.same j h1).1,(s2.same j h2).2.trans (s1.same j h1).2⟩
     ·by_cases h2:j∈slots (.tup is)
      ·exact s2.vals j h2
      ·have h1:j∈slots (.name i):=by simp[slots]at hj h2⊢;exact hj.resolve_right h2
       obtain⟨d',q⟩:=s1.vals j h1
       exact⟨d',(s2.same j h2).1.trans q⟩
     ·by_cases h1:j∈slots (.name i)
      ·exact s1.bors j xs q h1
      ·have h2:j∈slots (.tup is):=by simp[slots]at hj h1⊢;exact hj.resolve_left h1
       exact s2.bors j xs ((s1.same j h1).1.trans q) h2
theorem zR{is:List Nat}{es:List Expr}{k:Nat}(hN:X.N.Nodup)(hc:X.calm=true)(h:rK X is es)(hl:(assignEach es X.env).length=is.length)(hst:(assignEach es X.env).findIdx? (·.1)=none):GG X (.tup is) (.Tuple es k pos):=by
 intro QTz s σ H v u Q I r q
 obtain⟨env,d,env',S,hd,e,k⟩:=q
 cases d with
 |tup ds=>
  obtain⟨a,vs,rfl,hq,l⟩:=cG hd
  refine T5 (n:=is.length) hc (yf hN is es h) hl hst QTz s σ H _ u Q I r ⟨a,vs,rfl,hq,?_,env,ds,env',S,l,e,k⟩
  have lens:∀(is:List Nat)(ds:List D)(env env':Ev),gM is ds env=some env'->ds.length=is.length:=by
   intro is
   induction is with
   |nil=>intro ds env env' e;cases ds with|nil=>rfl|cons _ _=>cases e
   |cons i is ih=>
    intro ds env env' e
    cases ds with
    |nil=>cases e
    |cons d ds=>
     have e':(cM i (.val d) env).bind (gM is ds)=some env':=e
     cases e1:cM i (.val d) env with
     |none=>rw[e1]at e';cases e'
     |some env1=>rw[e1]at e';simp[ih ds env1 env' e']
  rw[<-l.length]
  exact lens is ds env env' e
 |_=>cases e
end
end Mini
end
section
namespace Mini
open PySem L2
def W0:Wi:=fun _ _ _ _=>False
theorem Sat.lay{K:QQq}{env:Ev}{σ:St}{H H2:Hp}(S:Sat K env σ H)(h:H2=H\/∃p vs,H p=none/\H2=upd H p (.tup vs)):Nx K env σ H env H2:=by
 rcases h with rfl|⟨p,vs,hp,rfl⟩
 ·exact Nx.refl S
 ·exact Nx.laid S hp
theorem pZ{env:Ev}{σ:St}{nl i:Nat}{a:Addr}:aJ (env.drop nl) (σ.drop nl) i a↔aJ env σ (nl+i) a:=by
 unfold aJ
 rw[List.getElem?_drop,List.getElem?_drop]
theorem Sat.drop{K:QQq}{env:Ev}{σ:St}{H:Hp}{nl:Nat}(S:Sat K env σ H):Sat K (env.drop nl) (σ.drop nl) H:=by
 refine⟨by rw[List.length_drop,List.length_drop,S.len],fun i s e=>?_,fun i j a h1 h2=>?_⟩
 ·rw[List.getElem?_drop]at e⊢
  exact S.sl _ s e
 ·have:=S.ne _ _ a (pZ.mp h1) (pZ.mp h2)
  omega
theorem ik{env:Ev}{σ:St}{nl:Nat}{i:Nat}{a:Addr}(h:aJ (List.replicate nl .un++env) (List.replicate nl none++σ) i a):∃j,i=nl+j/\aJ env σ j a:=by
 obtain⟨⟨s,xs,e1,e2⟩,e3⟩:=h
 by_cases hi:i<nl
 ·rw[List.getElem?_append_left (by simpa using hi),List.getElem?_replicate,if_pos hi]at e1
  cases e1;cases e2
 ·refine⟨i-nl,by omega,?_⟩
  rw[List.getElem?_append_right (by simp;omega)]at e1 e3
  simp only[List.length_replicate]at e1 e3
  exact⟨⟨s,xs,e1,e2⟩,e3⟩
theorem Sat.front{K:QQq}{env:Ev}{σ:St}{H:Hp}(S:Sat K env σ H)(nl:Nat):Sat K (List.replicate nl .un++env) (List.replicate nl none++σ) H:=by
 refine⟨by simp[S.len],fun i s e=>?_,fun i j a h1 h2=>?_⟩
 ·by_cases hi:i<nl
  ·rw[List.getElem?_append_left (by simpa using hi),List.getElem?_replicate,if_pos hi]at e
   cases e;trivial
  ·rw[List.getElem?_append_right (by simp;omega)]at e⊢
   simp only[List.length_replicate]at e⊢
   exact S.sl _ s e
 ·obtain⟨i',rfl,o1⟩:=ik h1
  obtain⟨j',rfl,o2⟩:=ik h2
  rw[S.ne i' j' a o1 o2]
structure yG(X:Cx)(c:Cf)(scope:Scope)(tgs:List Str)(tg:Tg)(cond elt:E)(tgE eltE:Expr)(ifs:List Expr):Prop where
 sc:FZ X.env.scope scope tgs X.N
 small:∀i∈slots tg,i<tgs.length
 tgt:∀cl fp s₀ H₀,(blk X scope cl (bJ tgs X.N) fp s₀ H₀).Ok->GG (blk X scope cl (bJ tgs X.N) fp s₀ H₀) tg tgE
 tests:(ifs=[]/\cond=.con (.bl true))\/∃ce,ifs=[ce]/\∀cl fp s₀ H₀,(blk X scope cl (bJ tgs X.N) fp s₀ H₀).Ok->GT (blk X scope cl (bJ tgs X.N) fp s₀ H₀) W0 c cond ce
 elts:∀cl fp s₀ H₀,(blk X scope cl (bJ tgs X.N) fp s₀ H₀).Ok->GE (blk X scope cl (bJ tgs X.N) fp s₀ H₀) W0 c elt eltE
structure LI(X:Cx)(c:Cf)(tg:Tg)(cond elt:E)(xs ys:List D)(τ env0:Ev)(σ σ0:St)(H3:Hp)(D:Addr)(nl i:Nat)(acc:List Mini.D)(vs:List V)(τ1:Ev)(σ1:St)(H1:Hp):Prop where
 le:i<=xs.length
 go:aO tg (ev c cond) (ev c elt) (xs.drop i) acc τ1=.ok ys τ
 fD:Sat X.K τ1 σ1 H1
 out:σ1.drop nl=σ
 acl:acc.length<=i
 cur:H1 D=some (.lst vs)
 den:aq X.K H1 acc vs
 sub:∀k a,aJ τ1 σ1 k a->aJ env0 σ0 k a
 pers:bU H3 H1
 keep:∀b u,H3 b=some u->b≠D->(∀k,¬aJ env0 σ0 k b)->H1 b=some u
 dom:∀b,H1 b=none->H3 b=none
 bors:∀(k:Nat)ws,env0[k]? =some (.bor ws)->∃ws',τ1[k]? =some (.bor ws')
section
variable{X:Cx}{c:Cf}{tg:Tg}{cond elt:E}{xs ys:List D}{τ env0:Ev}{σ σ0:St}{H3:Hp}{D:Addr}{nl i:Nat}{acc:List Mini.D}{vs:List V}{τ1 τ2:Ev}{σ1 σ2:St}{H1 H2:Hp}
theorem LI.no(L:LI X c tg cond elt xs ys τ env0 σ σ0 H3 D nl i acc vs τ1 σ1 H1)(hD:∀k,¬aJ env0 σ0 k D):∀k,¬aJ τ1 σ1 k D:=fun k z=>hD k (L.sub k D z)
end
structure Ch(K:QQq)(env:Ev)(σ:St)(H:Hp)(env':Ev)(σ':St)(H':Hp):Prop where
 fD:Sat K env' σ' H'
 sub:∀(i:Nat)a,aJ env' σ' i a->aJ env σ i a
 pers:bU H H'
 keep:∀b u,H b=some u->(∀i,¬aJ env σ i b)->H' b=some u
 dom:∀b,H' b=none->H b=none
 bors:∀(i:Nat)xs,env[i]? =some (.bor xs)->∃ys,env'[i]? =some (.bor ys)
section
variable{K:QQq}{env env1 env2:Ev}{σ σ1 σ2:St}{H H1 H2:Hp}
theorem Nx.ch(N:Nx K env σ H env1 H1):Ch K env σ H env1 σ H1:=⟨N.fD,N.sub,N.pers,N.keep,N.dom,N.bors⟩
theorem jm.ch{tg:Tg}(h:jm K tg env σ env1 σ1 H):Ch K env σ H env1 σ1 H:=⟨h.fD,fun _ _ z=>h.sub z,bU.refl H,fun _ _ z _=>z,fun _ z=>z,fun i xs e=>⟨xs,(h.same i (h.bors i xs e)).1.trans e⟩⟩
theorem Ch.trans(a:Ch K env σ H env1 σ1 H1)(b:Ch K env1 σ1 H1 env2 σ2 H2):Ch K env σ H env2 σ2 H2:=
 ⟨b.fD,fun i c z=>a.sub i c (b.sub i c z),a.pers.trans b.pers,fun c vs z n=>b.keep c vs (a.keep c vs z n) fun i w=>n i (a.sub i c w),fun c z=>a.dom c (b.dom c z),fun i xs e=>let ⟨ys,e1⟩:=a.bors i xs e;b.bors i ys e1⟩
end
theorem jm.out{K:QQq}{tg:Tg}{env env1:Ev}{σ σ1:St}{H:Hp}{nl:Nat}(h:jm K tg env σ env1 σ1 H)(hs:∀i∈slots tg,i<nl):σ1.drop nl=σ.drop nl:=by
 apply List.ext_getElem?
 intro i
 rw[List.getElem?_drop,List.getElem?_drop]
 exact(h.same (nl+i) fun z=>by have:=hs _ z;omega).2
section
variable{X:Cx}{c:Cf}{tg:Tg}{cond elt:E}{xs ys:List D}{τ env0:Ev}{σ σ0:St}{H3:Hp}{D:Addr}{nl i:Nat}{acc acc':List Mini.D}{vs:List V}{τ1 τ2:Ev}{σ1 σ2:St}{H1 H2:Hp}
theorem LI.skip(L:LI X c tg cond elt xs ys τ env0 σ σ0 H3 D nl i acc vs τ1 σ1 H1)(hD:∀k,¬aJ env0 σ0 k D)(C:Ch X.K τ1 σ1 H1 τ2 σ2 H2)(hi:i<xs.length)(ho:σ2.drop nl=σ)
  (go:aO tg (ev c cond) (ev c elt) (xs.drop (i+1)) acc τ2=.ok ys τ):LI X c tg cond elt xs ys τ env0 σ σ0 H3 D nl (i+1) acc vs τ2 σ2 H2 where
 le:=hi
 go:=go
 fD:=C.fD
 out:=ho
 acl:=Nat.le_succ_of_le L.acl
 cur:=C.keep D _ L.cur (L.no hD)
 den:=L.den.mono C.pers
 sub:=fun k a z=>L.sub k a (C.sub k a z)
 pers:=L.pers.trans C.pers
 keep:=fun b ws z n1 n2=>C.keep b ws (L.keep b ws z n1 n2) fun k o=>n2 k (L.sub k b o)
 dom:=fun b z=>L.dom b (C.dom b z)
 bors:=fun k ws e=>let ⟨w1,e1⟩:=L.bors k ws e;C.bors k w1 e1
theorem LI.push{d:Mini.D}{v:V}(L:LI X c tg cond elt xs ys τ env0 σ σ0 H3 D nl i acc vs τ1 σ1 H1)(hD:∀k,¬aJ env0 σ0 k D)(C:Ch X.K τ1 σ1 H1 τ2 σ2 H2)(hi:i<xs.length)(ho:σ2.drop nl=σ)
  (go:aO tg (ev c cond) (ev c elt) (xs.drop (i+1)) (acc++[d]) τ2=.ok ys τ)(hd:bH X.K H2 d v):LI X c tg cond elt xs ys τ env0 σ σ0 H3 D nl (i+1) (acc++[d]) (vs++[v]) τ2 σ2 (upd H2 D (.lst (vs++[v]))):=by
 have cur:=C.keep D _ L.cur (L.no hD)
 have ne:∀b u,H2 b=some u->(∀ws,u≠ .lst ws)->b≠D:=fun b u q n z=>by subst z;rw[cur]at q;cases q;exact n vs rfl
 have p:bU H2 (upd H2 D (.lst (vs++[v]))):=⟨fun b ws q=>by rw[aC (ne b _ q (by intro ws z;cases z))];exact q,fun b o u q=>by rw[aC (ne b _ q (by intro ws z;cases z))];exact q⟩
 have no2:∀k,¬aJ τ2 σ2 k D:=fun k z=>L.no hD k (C.sub k D z)
 refine⟨hi,go,C.fD.keep p fun k b u ow hb=>?_,ho,by rw[QUz];exact Nat.succ_le_succ L.acl,aQ,((L.den.mono C.pers).append (aq.eE hd aq.iR)).mono p,fun k a z=>L.sub k a (C.sub k a z),
  (L.pers.trans C.pers).trans p,fun b ws z n1 n2=>?_,fun b z=>L.dom b (C.dom b ?_),fun k ws e=>let ⟨w1,e1⟩:=L.bors k ws e;C.bors k w1 e1⟩
 ·have nb:b≠D:=fun z=>by subst z;exact no2 k ow
  rw[aC nb];exact hb
 ·rw[aC n1]
  exact C.keep b ws (L.keep b ws z n1 n2) fun k o=>n2 k (L.sub k b o)
 ·by_cases hb:b=D
  ·subst hb;rw[aQ]at z;cases z
  ·rw[aC hb]at z;exact z
end
theorem uE{α:Type}{xs:List α}{i:Nat}{d:α}(h:xs[i]? =some d):xs.drop i=d::xs.drop (i+1):=by
 obtain⟨hi,e⟩:=List.getElem?_eq_some_iff.mp h
 rw[List.drop_eq_getElem_cons hi,e]
theorem uG{X:Cx}{c:Cf}{scope:Scope}{tgs:List Str}{tg:Tg}{cond elt:E}{tgE iterE eltE:Expr}{ifs:List Expr}{pos:Pos}{cl:List (Str×Addr)}
  {QTz:QQz}{σ:St}{H:Hp}{s:Shared}{env τ:Ev}{J:It}{fp:List Addr}{it:Addr}{tn:Nat->Heap->Prop}{xs ys:List D}{RR:Value->Addr->Result->Shared->Prop}{E:QZq}
  (B:yG X c scope tgs tg cond elt tgE eltE ifs)(hc:X.calm=true)(co:K5 scope X.env cl)
  (I:Inv X QTz σ H s)(S:Sat X.K env σ H)(T:Turn X.prog X.w X.K tgE J fp it tn)(t0:tn 0 s.heap)(hf:∀b∈fp,gB X QTz H b)(G:Gives X.K J xs H)
  (hgo:aO tg (ev c cond) (ev c elt) xs [] (List.replicate tgs.length .un++env)=.ok ys τ)
  (hRR:∀(D C:Addr)(s':Shared)(H':Hp)(vs:List V)(m:QZz),Inv X QTz σ H' s'->Nx X.K env σ H (τ.drop tgs.length) H'->H' D=some (.lst vs)->aq X.K H' ys vs->H D=none->
   s'.heap.Ns C m->gB X QTz H' C->RR (.ref D) C (.ok .next) s'):
  wpAny (model X.prog X.w) X.A (newList []) (fun acc s₃=>wpAny (model X.prog X.w) X.A (newFunctionEnv scope X.env.globals cl [] X.env.qual none .none (some X.env)) (fun cenv s₄=>
   codeAny (model X.prog X.w) X.A (.compStart (.ListComp eltE [⟨tgE,iterE,ifs,0⟩] scope pos) 0 (.ref it) acc {cenv with scope:=relabel scope X.env}) (RR acc cenv.locals) s₄) E s₃) E s:=by
 have hlt:∀b∈fp,b<s.heap.objs.size:=fun b hb=>by
  obtain⟨o,e,_⟩:=T.obj 0 _ t0 b hb
  exact Heap.lt_size e
 refine wpAny_newObj_type (wpAny_newFunctionEnv B.sc.nocell (by intro y hy;simp at hy) (fun h₁ hns₁ hsb₁=>?_) B.sc.kind)
 dsimp only at hns₁ hsb₁⊢
 generalize hDd:s.heap.objs.size=D at*
 have hDn:H D=none:=by rw[<-hDd];exact I.hok.fresh (QVq _)
 have I3:Inv X QTz σ (upd H D (.lst [])) {s with heap:=s.heap.push {cls:=.type "list",dict:=none,data:=.seq ([]:List Value).toArray}}:=by
  have:=I.laid (a:=s.heap.objs.size) (o:=.lst []) (t':=s.toks) (h':=s.heap.push {cls:=.type "list",dict:=none,data:=.seq ([]:List Value).toArray}) (fun b o e=>QXz _ e) (QVq _) ⟨Nat.zero_le _,[],0,.nil,Heap.get?_push_size _ rfl⟩
  rw[hDd]at this
  exact this
 obtain⟨s3,hs3⟩:∃s3:Shared,s3={s with heap:=s.heap.push {cls:=.type "list",dict:=none,data:=.seq ([]:List Value).toArray}}:=⟨_,rfl⟩
 rw[<-hs3]at I3
 have hs3h:s.heap.push {cls:=.type "list",dict:=none,data:=.seq ([]:List Value).toArray}=s3.heap:=by rw[hs3]
 rw[hs3h]at hns₁ hsb₁⊢
 have hsz:s3.heap.objs.size=D+1:=by rw[<-hs3h,Heap.size_push,hDd]
 have hk3:∀b o,s3.heap.get? b=some o->h₁.get? b=some o:=fun b o e=>hsb₁.extBut b o (Nat.ne_of_lt (Heap.lt_size e)) (QXz _ e)
 have hk:∀b o,s.heap.get? b=some o->s3.heap.get? b=some o:=fun b o e=>by rw[<-hs3h];exact QXz _ e
 have hf3:∀b∈fp,gB X QTz (upd H D (.lst [])) b:=fun b hb=>⟨by
  rw[aC (Nat.ne_of_lt (hlt b hb))];exact(hf b hb).1,(hf b hb).2⟩
 have hlt3:∀b∈fp,b<s3.heap.objs.size:=fun b hb=>Nat.lt_of_lt_of_le (hlt b hb) (by rw[hsz];exact Nat.le_succ _)
 have N3:Nx X.K env σ H env (upd H D (.lst [])):=Nx.laid S hDn
 generalize hH3:upd H D (.lst [])=H3 at I3 hf3 N3
 have hD3:H3 D=some (.lst []):=by rw[<-hH3];exact aQ
 have noD:∀k,¬aJ (List.replicate tgs.length .un++env) (List.replicate tgs.length none++σ) k D:=fun k z=>by
  obtain⟨j,_,o⟩:=ik z
  obtain⟨_,_,q,_⟩:=S.own o
  rw[hDn]at q;cases q
 have ok':(blk X scope cl (bJ tgs X.N) fp s3 H3).Ok:=Kg I3 B.sc co hf3 hlt3
 have hns':h₁.Ns s3.heap.objs.size fun _=>none:=by simpa using hns₁
 have fpk:∀{H1:Hp},(∀b∈fp,H1 b=none)->∀b∈fp,gB (blk X scope cl (bJ tgs X.N) fp s3 H3) [] H1 b:=fun{H1}hn b hb=>
  ⟨hn b hb,(ok'.exf b hb).1,ok'.exfs b hb,.inl hb,fun x q e=>(ok'.exf b hb).2 x q e,fun p hp=>absurd (show p∈([]:QQz)from hp) (by simp)⟩
 have loop:∀s4:Shared,s4={s with heap:=h₁,toks:=s.toks+([]:List (Str×Value)).length}->
   codeAny (model X.prog X.w) X.A (.compLoop (.ListComp eltE [⟨tgE,iterE,ifs,0⟩] scope pos) 0 (.ref it) (.ref D) (compEnvC scope cl s3.heap.objs.size X.env)) (RR (.ref D) s3.heap.objs.size) s4:=by
  rintro s4 rfl
  have I4:Inv (blk X scope cl (bJ tgs X.N) fp s3 H3) [] (List.replicate tgs.length none++σ) H3 {s with heap:=h₁,toks:=s.toks+([]:List (Str×Value)).length}:=by
   have:=Px (t:=s.toks+([]:List (Str×Value)).length) I3 B.sc co hf3 hlt3 hns' hk3
   rw[hs3]at this⊢
   exact this
  refine v9 (fun n s'=>∃i acc vs τ1 σ1 H1,n=xs.length-i/\Inv (blk X scope cl (bJ tgs X.N) fp s3 H3) [] σ1 H1 s'/\tn i s'.heap/\(∀b∈fp,H1 b=none)/\
   LI X c tg cond elt xs ys τ (List.replicate tgs.length .un++env) σ (List.replicate tgs.length none++σ) H3 D tgs.length i acc vs τ1 σ1 H1) ?_ xs.length ?_
  ·rintro n s1 ⟨i,acc,vs,τ1,σ1,H1,rfl,I1,t1,f1,L⟩
   by_cases hi:i<xs.length
   ·--one more turn
    obtain⟨d,hd⟩:∃d,xs[i]? =some d:=⟨xs[i],by simp[hi]⟩
    have q0:=L.go
    rw[uE hd,aO]at q0
    cases hset:bN tg d τ1 with
    |none=>rw[hset]at q0;cases q0
    |some τ2=>
     rw[hset]at q0
     simp only at q0
     have p1:bU H H1:=N3.pers.trans L.pers
     refine cB (T.item (blk X scope cl (bJ tgs X.N) fp s3 H3) rfl rfl rfl hc i [] s1 σ1 H1 _ I1 (fpk f1) t1 (G.go H1 p1 i d hd)) fun r s2⟨u,hr,h2⟩=>?_
     subst hr
     refine cB h2 fun _ s3'⟨x,H2,I2,r2,y2,t2,f2⟩=>?_
     obtain⟨Dx,lay⟩:=G.yld H1 p1 i d hd x H2 y2
     have N2:=L.fD.lay lay
     have D2:H2 D=some (.lst vs):=N2.keep D _ L.cur (L.no noD)
     have I2':=I2.pinned (fpk f2) (T.obj _ _ t2)
     refine cB (B.tgt cl fp s3 H3 ok' _ s3' σ1 H2 x u (fun σ2 H'=>H'=H2/\jm X.K tg τ1 σ1 τ2 σ2 H2) I2' r2 ⟨τ1,d,τ2,N2.fD,Dx,hset,fun σ2 st=>⟨rfl,st⟩⟩) fun _ s4'⟨σ2,H2',I3',hH,st⟩=>?_
     subst hH
     have ho:σ2.drop tgs.length=σ:=(st.out B.small).trans L.out
     have C2:Ch X.K τ1 σ1 H1 τ2 σ2 H2':=N2.ch.trans st.ch
     have again:∀{s7:Shared}{H7:Hp}{acc':List Mini.D}{vs':List V}{τ7:Ev},Inv (blk X scope cl (bJ tgs X.N) fp s3 H3) ([]++mY fp s3'.heap) σ2 H7 s7->
       LI X c tg cond elt xs ys τ (List.replicate tgs.length .un++env) σ (List.replicate tgs.length none++σ) H3 D tgs.length (i+1) acc' vs' τ7 σ2 H7->
       ∃k,k<xs.length-i/\∃i acc vs τ1 σ1 H1,k=xs.length-i/\Inv (blk X scope cl (bJ tgs X.N) fp s3 H3) [] σ1 H1 s7/\tn i s7.heap/\(∀b∈fp,H1 b=none)/\
        LI X c tg cond elt xs ys τ (List.replicate tgs.length .un++env) σ (List.replicate tgs.length none++σ) H3 D tgs.length i acc vs τ1 σ1 H1:=fun{s7 H7 acc' vs' τ7}I7 L7=>by
      refine⟨xs.length- (i+1),by omega,i+1,acc',vs',τ7,σ2,H7,rfl,I7.lB,T.keep _ _ _ t2 fun b hb o e=>(I7.pin (b,o) (QWz _ (QWz _ (iU hb e)))).1,fun b hb=>?_,L7⟩
      obtain⟨o,e,_⟩:=T.obj _ _ t2 b hb
      exact(I7.pin (b,o) (QWz _ (QWz _ (iU hb e)))).2.1
     obtain⟨xc,dc,bc,τ3,e1,e2,e3,q1⟩:∃xc dc bc τ3,ev c cond τ2=.ok xc τ3/\xc.jo=some dc/\iH dc=some bc/\
       (if bc then(ev c elt τ3).ak fun d σ₃=>aO tg (ev c cond) (ev c elt) (xs.drop (i+1)) (acc++[d]) σ₃ else aO tg (ev c cond) (ev c elt) (xs.drop (i+1)) acc τ3)=.ok ys τ:=by
      cases r:ev c cond τ2 with
      |bad=>rw[r]at q0;cases q0
      |exc k τ3=>rw[r]at q0;cases q0
      |ok xc τ3=>
       rw[r]at q0
       cases xc with
       |ref k=>cases q0
       |tmp zs=>cases q0
       |val dc=>
        simp only[Out.cj,Out.ak]at q0
        cases q:iH dc with
        |none=>rw[q]at q0;cases q0
        |some bc=>rw[q]at q0;exact⟨_,dc,bc,τ3,rfl,rfl,q,q0⟩
       |new zs=>
        simp only[Out.cj,Out.ak]at q0
        cases q:iH zs.d with
        |none=>rw[q]at q0;cases q0
        |some bc=>rw[q]at q0;exact⟨_,zs.d,bc,τ3,rfl,rfl,q,q0⟩
     have after:∀(s5:Shared)(H5:Hp),Inv (blk X scope cl (bJ tgs X.N) fp s3 H3) ([]++mY fp s3'.heap) σ2 H5 s5->Nx X.K τ2 σ2 H2' τ3 H5->
       (if bc=true then wpAny (model X.prog X.w) X.A (eval eltE (compEnvC scope cl s3.heap.objs.size X.env)) (fun x s₄=>
        wpAny (model X.prog X.w) X.A (call (.builtin "list.append") [.ref D,x]) (fun _ s₅=>∃m,m<xs.length-i/\∃i acc vs τ1 σ1 H1,m=xs.length-i/\Inv (blk X scope cl (bJ tgs X.N) fp s3 H3) [] σ1 H1 s₅/\tn i s₅.heap/\(∀b∈fp,H1 b=none)/\
        LI X c tg cond elt xs ys τ (List.replicate tgs.length .un++env) σ (List.replicate tgs.length none++σ) H3 D tgs.length i acc vs τ1 σ1 H1) (fun _ _=>False) s₄) (fun _ _=>False) s5
       else∃m,m<xs.length-i/\∃i acc vs τ1 σ1 H1,m=xs.length-i/\Inv (blk X scope cl (bJ tgs X.N) fp s3 H3) [] σ1 H1 s5/\tn i s5.heap/\(∀b∈fp,H1 b=none)/\
        LI X c tg cond elt xs ys τ (List.replicate tgs.length .un++env) σ (List.replicate tgs.length none++σ) H3 D tgs.length i acc vs τ1 σ1 H1):=fun s5 H5 I5 N5=>by
      have C5:=C2.trans N5.ch
      cases bc with
      |false=>
       rw[if_neg Bool.false_ne_true]at q1⊢
       exact again I5 (L.skip noD C5 hi ho q1)
      |true=>
       rw[if_pos rfl]at q1⊢
       obtain⟨xe,de,τ4,e4,e5,q2⟩:∃xe de τ4,ev c elt τ3=.ok xe τ4/\xe.jo=some de/\aO tg (ev c cond) (ev c elt) (xs.drop (i+1)) (acc++[de]) τ4=.ok ys τ:=by
        cases r:ev c elt τ3 with
        |bad=>rw[r]at q1;cases q1
        |exc k τ3=>rw[r]at q1;cases q1
        |ok xe τ4=>
         rw[r]at q1
         cases xe with
         |ref k=>cases q1
         |tmp zs=>cases q1
         |val de=>exact⟨_,de,τ4,rfl,rfl,q1⟩
         |new zs=>exact⟨_,zs.d,τ4,rfl,rfl,q1⟩
       refine cB ((B.elts cl fp s3 H3 ok').d _ s5 σ2 H5 (fun v H6=>Nx X.K τ3 σ2 H5 τ4 H6/\bH X.K H6 de v) I5 ⟨τ3,N5.fD,?_⟩) fun u s6⟨v,H6,I6,r6,N6,D6⟩=>?_
       ·rw[e4]
        cases xe with
        |ref k=>cases e5
        |tmp zs=>cases e5
        |val d'=>cases e5;exact fun v H' N Dv=>⟨N,Dv⟩
        |new zs=>cases e5;exact fun v H' N Dv=>⟨N,Dv⟩
       ·have C6:=C5.trans N6.ch
        have cur:=C6.keep D _ L.cur (L.no noD)
        have lenv:vs.length<sizeLine:=by
         have h1:=L.den.length
         have h2:=L.acl
         have h3:=G.len
         omega
        refine cB (uf (X:=blk X scope cl (bJ tgs X.N) fp s3 H3) _ s6 σ2 H6 (.ref D) [v] (.ref D) [u] (fun _ H7=>H7=upd H6 D (.lst (vs++[v]))) I6 rfl (.cons r6 .nil) ⟨D,vs,v,rfl,rfl,cur,lenv,rfl⟩) fun _ s7⟨_,H7,I7,_,e7⟩=>?_
        subst e7
        exact again I7 (L.push noD C6 hi ho q2 D6)
     rcases B.tests with ⟨ei,ec⟩|⟨ce,ei,hC⟩
     ·subst ei ec
      simp only[v_0,v_1,X7,v_3,v_4,X6,v_6,WF,X5,Lk,u0,Gu,Gs,Dg,Lx,Sh,Lw,Gr,Gq,Ls,Lr,mJ,Lq,Sg,Gp,Lp,Ln,kJ]at e1
      cases e1
      cases e2
      cases e3
      exact wpAny_pure (after s4' H2' I3' (Nx.refl st.fD))
     ·subst ei
      refine wpAny_tests_one (cB (hC cl fp s3 H3 ok' _ s4' σ2 H2' (fun k H'=>k=bc/\Nx X.K τ2 σ2 H2' τ3 H') I3' ⟨τ2,st.fD,by rw[e1];exact⟨dc,bc,e2,e3,fun H' N=>⟨rfl,N⟩⟩⟩) fun k s5⟨H5,I5,hk',N5⟩=>?_)
      subst hk'
      exact after s5 H5 I5 N5
   ·--the end
    have e:i=xs.length:=Nat.le_antisymm L.le (Nat.le_of_not_lt hi)
    have q0:=L.go
    rw[e,List.drop_length,aO]at q0
    cases q0
    refine cB (T.done (blk X scope cl (bJ tgs X.N) fp s3 H3) rfl rfl rfl hc i [] s1 σ1 H1 _ I1 (fpk f1) t1 (G.stop H1 (N3.pers.trans L.pers) i (by omega))) fun r s2⟨hr,I2⟩=>?_
    subst hr
    obtain⟨m,hm,_⟩:=I2.loc
    have IX:Inv X QTz σ H1 s2:=Inv.call' I3 I2.os I2.base I2.hok I2.bare fun b hb=>⟨(hf3 b hb).2.2.2.1,(hf3 b hb).2.1,(hf3 b hb).2.2.2.2.1,(hf3 b hb).2.2.2.2.2⟩
    refine hRR D s3.heap.objs.size s2 H1 vs m IX ⟨?_,fun k a z=>?_,N3.pers.trans L.pers,fun b ws z w=>?_,fun b z=>N3.dom b (L.dom b z),fun k ws z=>?_⟩ L.cur L.den hDn hm (I3.ym (QVq _) I2.free)
    ·have:=L.fD.drop (nl:=tgs.length)
     rw[L.out]at this
     exact this
    ·have z':aJ (τ.drop tgs.length) (σ1.drop tgs.length) k a:=by rw[L.out];exact z
     obtain⟨j,ej,o⟩:=ik (L.sub _ a (pZ.mp z'))
     have:k=j:=by omega
     subst this
     exact o
    ·refine L.keep b ws (N3.keep b ws z w) (fun q=>?_) fun k o=>?_
     ·subst q;rw[hDn]at z;cases z
     ·obtain⟨j,_,o'⟩:=ik o
      exact w j o'
    ·obtain⟨ws',q⟩:=L.bors (tgs.length+k) ws (by rw[List.getElem?_append_right (by simp)];simpa using z)
     exact⟨ws',by rw[List.getElem?_drop];exact q⟩
  ·refine⟨0,[],[],_,_,H3,rfl,I4,T.keep _ _ _ t0 fun b _ o e=>hk3 b o (hk b o e),fun b hb=>(hf3 b hb).1,⟨Nat.zero_le _,hgo,N3.fD.front _,by simp,QVq _,hD3,aq.iR,fun _ _ z=>z,bU.refl _,fun _ _ z _ _=>z,fun _ z=>z,fun _ ws z=>⟨ws,z⟩⟩⟩
 exact codeAny_compStart_list (loop _ rfl) (T.self _ 0 _ _ _ (T.keep _ _ _ t0 fun b _ o e=>hk3 b o (hk b o e)) (loop _ rfl))
end Mini
end
section
namespace Mini
open PySem L2
section
variable{X:Cx}{W:Wi}{c:Cf}{m m1 m2 m3:E}{e a b:Expr}{es:List Expr}{pos:Pos}
def eF:Cm->CmpOp
 |.eq=>.Eq
 |.ne=>.NotEq
 |.lt=>.Lt
 |.le=>.LtE
 |.gt=>.Gt
 |.ge=>.GtE
 |.isin=>.In
 |.notin=>.NotIn
 |.jg=>.Is
 |.notN=>.IsNot
def gW(X:Cx)(op:CmpOp)(f:D->D->Option Bool):Prop:=
 ∃r,fW X (compareOp op) r/\∀(H:Hp)(x y:D)(k:Bool)(v u:V)(Q:VK),bH X.K H x v->dM X.K H y u->f x y=some k->Q (.bl k) H->r v u H Q
theorem dM.int{K:QQq}{H:Hp}{i:Int}{v:V}(h:dM K H (.int i) v):v=.int i:=by
 rcases h with h|⟨o,a,q,_⟩
 ·exact h
 ·cases o<;>cases q
theorem yX{op:CmpOp}{g:Int->Int->Bool}{f:D->D->Option Bool}(ho:fW X (compareOp op) (Hr fun i j=>.bl (g i j)))(hf:∀x y k,f x y=some k->∃i j,x=.int i/\y=.int j/\k=g i j):gW X op f:=
 ⟨_,ho,fun H x y k v u Q Dx Dy e q=>by
  obtain⟨i,j,rfl,rfl,rfl⟩:=hf x y k e
  exact⟨i,j,Dx,Dy.int,q⟩⟩
theorem Ze(hu:X.A.units+60<cLine):gW X .Eq (aH .eq):=⟨_,Ul hu,fun H x y k v u Q Dx Dy e q=>by
 unfold aH at e;dsimp only at e
 split at e
 ·rename_i h;cases e;exact⟨x,y,.inl Dx,Dy,h,q⟩
 ·cases e⟩
theorem Y8(hu:X.A.units+60<cLine):gW X .NotEq (aH .ne):=⟨_,Ue hu,fun H x y k v u Q Dx Dy e q=>by
 unfold aH at e;dsimp only at e
 split at e
 ·rename_i h;cases e;exact⟨x,y,.inl Dx,Dy,h,q⟩
 ·cases e⟩
theorem Za:gW X .LtE (aH .le):=yX ZF fun x y k e=>by
 cases x<;>cases y<;>(unfold aH at e;simp at e)
 exact⟨_,_,rfl,rfl,e.symm⟩
theorem Zd:gW X .GtE (aH .ge):=yX ZJ fun x y k e=>by
 cases x<;>cases y<;>(unfold aH at e;simp at e)
 exact⟨_,_,rfl,rfl,e.symm⟩
theorem dM.Mm{K:QQq}{H:Hp}{xs:List D}{v:V}(h:dM K H (.tup xs) v):KQ K H xs v:=by
 rcases h with h|⟨o,a,q,_⟩
 ·obtain⟨a,vs,rfl,hq,l⟩:=cG h
  exact⟨a,vs,rfl,.inr hq,l⟩
 ·cases o<;>cases q
theorem dM.G9{K:QQq}{H:Hp}{xs:List D}{v:V}(h:dM K H (.lst xs) v):KQ K H xs v:=by
 rcases h with h|⟨o,a,q,rfl,u,ha,hq⟩
 ·obtain⟨a,vs,rfl,hq,l⟩:=dF h
  exact⟨a,vs,rfl,.inl hq.sq,l⟩
 ·cases o<;>cases q
  obtain⟨vs,rfl,l⟩:=hq
  exact⟨a,vs,rfl,.inl (.inl (.inl ha)),l⟩
theorem dM.str{K:QQq}{H:Hp}{x:Str}{v:V}(h:dM K H (.str x) v):v=.str x:=by
 rcases h with h|⟨o,a,q,_⟩
 ·exact h
 ·cases o<;>cases q
theorem Ju(x y:Str)(h:x.length=1):(!(Builtin.Str.occurrences y x 0 y.length 1).isEmpty)=aU (.str x) (signs y):=by
 obtain⟨cps⟩:=x
 obtain⟨l⟩:=cps
 have hl:l.length=1:=h
 match l,hl with
 |[k],_=>
  have:=PySem.StrLaws.found_one y k
  rw[this]
  unfold signs
  generalize y.cps.toList=cs
  induction cs with
  |nil=>rfl
  |cons z zs ih=>
   rw[List.map_cons]
   show decide (k∈z::zs)=(cL (.str ⟨#[z]⟩) (.str ⟨#[k]⟩)||aU (.str ⟨#[k]⟩) (zs.map fun c=>.str ⟨#[c]⟩))
   rw[<-ih]
   have e:cL (.str ⟨#[z]⟩) (.str ⟨#[k]⟩)=decide (k=z):=by
    simp only[cL]
    by_cases q:k=z
    ·subst q;simp
    ·have q':¬z=k:=fun e=>q e.symm
     simp[q,q']
   rw[e]
   by_cases q:k=z
   ·simp[q]
   ·simp[q]
theorem jL{kvs:List (Key×V)}(k:Key):(gZ kvs k).isSome=aU (cI k) (kvs.map fun p=>cI p.1):=by
 induction kvs with
 |nil=>rfl
 |cons p r ih=>
  obtain⟨k',v⟩:=p
  show _=(cL (cI k') (cI k)||aU (cI k) (r.map fun p=>cI p.1))
  rw[<-ih]
  have e:cL (cI k') (cI k)=decide (k'=k):=by
   cases k'<;>cases k<;>simp[cI,cL,Bool.beq_eq_decide_eq]
  rw[e]
  by_cases q:k'=k
  ·subst q;simp[jw]
  ·simp[q,jx]
theorem fU{x:D}(h:keyOk x=true):∃k:Key,x=cI k:=by
 cases x<;>simp[keyOk]at h
 ·exact⟨.inl _,rfl⟩
 ·exact⟨.inr _,rfl⟩
theorem jW{K:QQq}{H:Hp}{k:Key}{v:V}(h:bH K H (cI k) v):v=kV k:=by
 cases k<;>exact h
def Hq(neg:Bool):R2:=fun x y H Q=>∃a k kvs,y=.ref a/\x=kV k/\Rd H a (.dK kvs)/\Q (.bl (if neg then !(gZ kvs k).isSome else(gZ kvs k).isSome)) H
theorem H9(hu:X.A.units+1<cLine):fW X (compareOp .In) (Hq false):=by
 intro QTz s σ H x y v u Q I rx ry h
 obtain⟨a,k,kvs,rfl,rfl,hd,q⟩:=h
 cases ry
 exact aeB hu I (.inl ⟨kvs,k,hd,rfl,rfl⟩) rx fun s3 I3=>⟨.bl _,H,I3,rfl,q⟩
theorem xH(hu:X.A.units+1<cLine):fW X (compareOp .NotIn) (Hq true):=by
 intro QTz s σ H x y v u Q I rx ry h
 obtain⟨a,k,kvs,rfl,rfl,hd,q⟩:=h
 cases ry
 exact Pb hu I (.inl ⟨kvs,k,hd,rfl,rfl⟩) rx fun s3 I3=>⟨.bl _,H,I3,rfl,q⟩
theorem v6{K:QQq}{H:Hp}{ks ds:List D}{v:V}(h:dM K H (.cC ks ds) v):∃a kvs,v=.ref a/\Rd H a (.dK kvs)/\ks=kvs.map (fun p=>cI p.1)/\aq K H ds (kvs.map (·.2)):=by
 rcases h with h|⟨o,a,q,rfl,u,ha,hq⟩
 ·unfold bH at h;obtain⟨a,o,kvs,e,r,k⟩:=h;exact⟨a,kvs,e,.inr ⟨o,r⟩,k⟩
 ·cases o<;>cases q
  obtain⟨kvs,rfl,k,l⟩:=hq
  exact⟨a,kvs,rfl,.inl ha,k,l⟩
theorem Zb(hu:X.A.units+60<cLine):gW X .In (aH .isin):=
 ⟨_,(Uk hu).or ((H9 (by omega)).or Ed),fun H x y k v u Q Dx Dy e q=>by
  cases y with
  |tup xs=>
   unfold aH at e;dsimp only at e
   split at e
   ·rename_i h;cases e;exact .inl ⟨x,xs,Dx,Dy.Mm,h,q⟩
   ·cases e
  |lst xs=>
   unfold aH at e;dsimp only at e
   split at e
   ·rename_i h;cases e;exact .inl ⟨x,xs,Dx,Dy.G9,h,q⟩
   ·cases e
  |cC ks vs=>
   unfold aH at e;dsimp only at e
   split at e
   ·rename_i h
    cases e
    obtain⟨k,rfl⟩:=fU h
    obtain⟨a,kvs,rfl,ha,rfl,l⟩:=v6 Dy
    exact .inr (.inl ⟨a,k,kvs,rfl,jW Dx,ha,by simpa[jL]using q⟩)
   ·cases e
  |str y=>
   cases x with
   |str x=>
    unfold aH at e;dsimp only at e
    split at e
    ·rename_i h;cases e;exact .inr (.inr ⟨x,y,Dx,Dy.str,by rw[Ju x y h];exact q⟩)
    ·cases e
   |_=>unfold aH at e;simp at e
  |_=>unfold aH at e;simp at e⟩
theorem Hk(hu:X.A.units+60<cLine):gW X .NotIn (aH .notin):=
 ⟨_,(Ec hu).or (xH (by omega)),fun H x y k v u Q Dx Dy e q=>by
  cases y with
  |tup xs=>
   unfold aH at e;dsimp only at e
   split at e
   ·rename_i h;cases e;exact .inl ⟨x,xs,Dx,Dy.Mm,h,q⟩
   ·cases e
  |lst xs=>
   unfold aH at e;dsimp only at e
   split at e
   ·rename_i h;cases e;exact .inl ⟨x,xs,Dx,Dy.G9,h,q⟩
   ·cases e
  |cC ks vs=>
   unfold aH at e;dsimp only at e
   split at e
   ·rename_i h
    cases e
    obtain⟨k,rfl⟩:=fU h
    obtain⟨a,kvs,rfl,ha,rfl,l⟩:=v6 Dy
    exact .inr ⟨a,k,kvs,rfl,jW Dx,ha,by simpa[jL]using q⟩
   ·cases e
  |_=>unfold aH at e;simp at e⟩
end
section
open PySem.SeqAt
open PySem.AutoSeq1 (wpAny_loadPart')
open PySem.MeetsSeq PySem.MeetsSeq2 PySem.MeetsSeq3
inductive BoolsAre:List Value->List Bool->Prop
 |nil:BoolsAre [] []
 |cons (b:Bool) {vs:List Value} {bs:List Bool}:BoolsAre vs bs->BoolsAre (.bool b::vs) (b::bs)
theorem BoolsAre.length{vs:List Value}{bs:List Bool}(h:BoolsAre vs bs):vs.length=bs.length:=by
 induction h with
 |nil=>rfl
 |cons b _ ih=>simp[ih]
theorem um(x y:Bool)(xs ys:List Bool):jn (x::xs) (y::ys)=if x=y then jn xs ys else(!x&&y):=rfl
theorem By:jn [] []=false:=rfl
theorem BJ(y:Bool)(ys:List Bool):jn [] (y::ys)=true:=rfl
theorem BK(x:Bool)(xs:List Bool):jn (x::xs) []=false:=rfl
theorem tR(A:Around)(s:Shared)(a c:Bool)(prog:Program)(w:World)(E:QZq)(Q:QZq)(h:Q (.bool (!a&&c)) s):
  wpAny (model prog w) A (richCompare .Lt (.bool a) (.bool c)) Q E s:=
 (PyProof.Rows.lt_bool (by cases a<;>cases c<;>exact h):wpAny (model prog w) A (compareOp .Lt (.bool a) (.bool c)) Q E s)
theorem pC(l b:Addr)(items items2:Array Value)(n n2:Nat)(dd dd2:Option Addr)(sl sl2:Array (Option Value))(ns ms:List Bool)(hi:BoolsAre items.toList ns)(hj:BoolsAre items2.toList ms):
  Meets (Builtin.«tuple.__lt__» ⟨[.ref l,.ref b],[]⟩)
   (fun _ R s=>s.heap.get? l=some {cls:=.type "tuple",dict:=dd,data:=.seq items n,slots:=sl}/\s.heap.get? b=some {cls:=.type "tuple",dict:=dd2,data:=.seq items2 n2,slots:=sl2}/\
    R (.ok (.ret (.bool (jn ns ms)))) s):=
 .of_wp fun prog w A R s h=>by
  obtain⟨hp,g,d,tk,os⟩:=s;obtain⟨hl,hb,h⟩:=h
  have f2:=AutoSeq1.sub_tuple_tuple
  have z1:items.size=ns.length:=by rw[<-hi.length];simp
  have z2:items2.size=ms.length:=by rw[<-hj.length];simp
  wp_walk using wpAny_loadPart' hl,wpAny_loadPart' hb,wpAny_forIn_list _ (fun rest b s'=>b.1=none/\s'=⟨hp,g,d,tk,os⟩/\∃(vs ws:List Value)(ns' ms':List Bool),rest=vs.zip ws/\
   BoolsAre vs ns'/\BoolsAre ws ms'/\ns'.length+items2.size=ms'.length+items.size/\R (.ok (.ret (.bool (jn ns' ms')))) ⟨hp,g,d,tk,os⟩) _
  case turn=>
   rintro ⟨y,x⟩ rest b s' ⟨hb',rfl,vs,ws,ns',ms',hz,hvi,hwi,hlen,hR⟩
   cases hvi with
   |nil=>rw[List.zip_nil_left]at hz;cases hz
   |cons a hvi'=>
    cases hwi with
    |nil=>rw[List.zip_nil_right]at hz;cases hz
    |cons c hwi'=>
     rw[List.zip_cons_cons]at hz
     injection hz with hyx hrest
     injection hyx with hy hx
     subst hy hx
     rw[um]at hR
     simp only[List.length_cons]at hlen
     have he:=SeqAt.EqAt.bool_bool (A:=A.in1) (s:=⟨hp,g,d,tk,os⟩) a c
     refine wpAny_bind (he prog w _ _ ?_)
     by_cases hac:a=c
     ·subst hac
      rw[if_pos rfl]at hR
      rw[beq_self_eq_true]
      wp_walk
      exact⟨rfl,rfl,_,_,_,_,hrest,hvi',hwi',by omega,hR⟩
     ·rw[if_neg hac]at hR
      rw[beq_eq_false_iff_ne.mpr hac]
      have hri:=tR A.in1 ⟨hp,g,d,tk,os⟩ a c prog w
      wp_walk using hri
      exact⟨_,rfl,by simpa using hR⟩
  case fin=>
   rintro ⟨b1,b2⟩ s' ⟨hb',rfl,vs,ws,ns',ms',hz,hvi,hwi,hlen,hR⟩
   simp only at hb'
   subst hb'
   have hv:jn ns' ms'=decide (items.size<items2.size):=by
    cases hvi with
    |nil=>
     cases hwi with
     |nil=>
      simp only[List.length_nil]at hlen
      rw[By]
      exact(decide_eq_false (by omega)).symm
     |cons c hw=>
      simp only[List.length_nil,List.length_cons]at hlen
      rw[BJ]
      exact(decide_eq_true (by omega)).symm
    |cons a hv=>
     cases hwi with
     |nil=>
      simp only[List.length_nil,List.length_cons]at hlen
      rw[BK]
      exact(decide_eq_false (by omega)).symm
     |cons c hw=>
      rw[List.zip_cons_cons]at hz
      cases hz
   rw[hv]at hR
   wp_walk
   exact⟨_,rfl,by simpa[Builtin.Tuple.tupleCompareSizes]using hR⟩
  case h=>
   exact⟨rfl,rfl,items.toList,items2.toList,ns,ms,rfl,hi,hj,by omega,h⟩
end
end Mini
end
section
namespace Mini
open PySem L2
theorem fV{K:QQq}{H:Hp}:∀{ds:List D}{vs:List V}{us:List Value}{bs:List Bool},bools ds=some bs->aq K H ds vs->Vals vs us->BoolsAre us bs
 |[],vs,us,bs,e,l,r=>by
  cases e
  rw[aq.bL.mp l]at r
  cases r
  exact .nil
 |d::ds,vs,us,bs,e,l,r=>by
  obtain⟨v,w,rfl,h1,h2⟩:=aq.bw.mp l
  cases d with
  |bl b=>
   simp only[bools,QJz]at e
   obtain⟨bs',e1,rfl⟩:=e
   cases h1
   cases r with
   |cons r1 r2=>cases r1;exact .cons b (fV e1 h2 r2)
  |_=>cases e
section
variable{X:Cx}{W:Wi}{c:Cf}{m m1 m2 m3:E}{e a b:Expr}{es:List Expr}{pos:Pos}
def adH(K:QQq):R2:=fun x y H Q=>∃xs ys bs cs,bH K H (.tup xs) x/\bH K H (.tup ys) y/\bools xs=some bs/\bools ys=some cs/\Q (.bl (jn bs cs)) H
theorem Ui(hu:X.A.units<cLine):fW X (compareOp .Lt) (adH X.K):=by
 intro QTz s σ H x y v u Q I rx ry h
 obtain⟨xs,ys,bs,cs,Dx,Dy,e1,e2,q⟩:=h
 obtain⟨a,vs,rfl,ha,la⟩:=cG Dx
 obtain⟨b,ws,rfl,hb,lb⟩:=cG Dy
 cases rx
 cases ry
 obtain⟨its,r1,p1,_⟩:=I.tuple ha
 obtain⟨its2,r2,p2,_⟩:=I.tuple hb
 obtain⟨⟨cls,dd,data,sl⟩,ho,hc,n,hd⟩:=id p1
 obtain⟨⟨cls2,dd2,data2,sl2⟩,ho2,hc2,n2,hd2⟩:=id p2
 simp only at hc hd hc2 hd2
 subst hc hd hc2 hd2
 exact richCompare_meets_room (op:=.Lt) ⟨_,ho,rfl⟩ ⟨_,ho2,rfl⟩ PySem.F.slot_tuple_lt PySem.F.entry_tuple_lt (PySem.F.args_tuple_lt_2 _ _)
  (pC a b its.toArray its2.toArray n n2 dd dd2 sl sl2 bs cs (by simpa using fV e1 la r1) (by simpa using fV e2 lb r2))
  ⟨ho,ho2,show Value.bool (jn bs cs)≠Value.notImplemented/\EP X QTz σ Q (.bool (jn bs cs)) s from⟨(fun x=>nomatch x),⟨.bl _,H,I,rfl,q⟩⟩⟩ hu
theorem dM.tup{K:QQq}{H:Hp}{xs:List D}{v:V}(h:dM K H (.tup xs) v):bH K H (.tup xs) v:=by
 rcases h with h|⟨o,a,q,_⟩
 ·exact h
 ·cases o<;>cases q
theorem Y9(hu:X.A.units+60<cLine):gW X .Lt (aH .lt):=
 ⟨_,ZD.or (Ui (by omega)),fun H x y k v u Q Dx Dy e q=>by
  cases x with
  |int i=>
   cases y with
   |int j=>cases e;exact .inl ⟨i,j,Dx,Dy.int,q⟩
   |_=>cases e
  |tup xs=>
   cases y with
   |tup ys=>
    unfold aH at e;dsimp only[ltD]at e
    cases e1:bools xs with
    |none=>rw[e1]at e;cases e
    |some bs=>
     cases e2:bools ys with
     |none=>rw[e1,e2]at e;cases e
     |some cs=>
      rw[e1,e2]at e
      cases e
      exact .inr ⟨xs,ys,bs,cs,Dx,Dy.tup,e1,e2,q⟩
   |_=>cases e
  |_=>cases y<;>cases e⟩
theorem Zc:gW X .Gt (aH .gt):=yX ZG fun x y k e=>by
 cases x<;>cases y<;>(unfold aH at e;simp at e)
 exact⟨_,_,rfl,rfl,e.symm⟩
theorem Cr{K:QQq}{H:Hp}{d:D}{v:V}(h:bH K H d v):decide (v=.non)=nT d:=by
 cases d<;>unfold bH at h<;>first
  |(obtain⟨a,_,rfl,_⟩:=h;rfl)
  |(obtain⟨a,_,_,rfl,_⟩:=h;rfl)
  |(subst h;rfl)
theorem Tu:gW X .Is (aH .jg):=⟨_,Uj,fun H x y k v u Q Dx Dy e q=>by
 cases y<;>(unfold aH at e;dsimp only at e;cases e)
 rcases Dy with h|⟨o,a,z,_⟩
 ·exact⟨h,by rw[Cr Dx];exact q⟩
 ·cases o<;>cases z⟩
theorem MN:gW X .IsNot (aH .notN):=⟨_,Nr,fun H x y k v u Q Dx Dy e q=>by
 cases y<;>(unfold aH at e;dsimp only at e;cases e)
 rcases Dy with h|⟨o,a,z,_⟩
 ·exact⟨h,by rw[Cr Dx];exact q⟩
 ·cases o<;>cases z⟩
theorem mV(hu:X.A.units+60<cLine)(o:Cm):gW X (eF o) (aH o):=by
 cases o with
 |eq=>exact Ze hu
 |ne=>exact Y8 hu
 |lt=>exact Y9 hu
 |le=>exact Za
 |gt=>exact Zc
 |ge=>exact Zd
 |isin=>exact Zb hu
 |notin=>exact Hk hu
 |jg=>exact Tu
 |notN=>exact MN
theorem gb{K:QQq}{env:Ev}{σ:St}{H:Hp}{k:Nat}{d:D}(S:Sat K env σ H)(h:aW k env=some d):∃v,σ[k]? =some (some v)/\dM K H d v:=by
 unfold aW at h
 cases e:env[k]? with
 |none=>rw[e]at h;cases h
 |some s=>
  rw[e]at h
  have q:=S.sl k s e
  cases s with
  |un=>cases h
  |val d'=>cases h;obtain⟨v,e1,e2⟩:=q;exact⟨v,bY e1,.inl e2⟩
  |own xs=>cases h;obtain⟨a,e1,e2⟩:=q;exact⟨.ref a,bY e1,.inr ⟨xs,a,rfl,rfl,e2⟩⟩
  |bor xs=>cases h;obtain⟨a,e1,e2⟩:=q;exact⟨.ref a,bY e1,.inr ⟨xs,a,rfl,rfl,e2⟩⟩
structure gA(X:Cx)(i:Nat)(x:Str):Prop where
 at_:X.N[i]? =some x
 vis:Wh X.env.scope x
 nd:(x==("__debug__":Str))=false
 nc:(x==("__classdict__":Str))=false
theorem gA.pe{i:Nat}{x:Str}(h:gA X i x):PE X (.Name x pos) (Dl i):=zx h.at_ h.vis h.nd h.nc
theorem gA.ge{i:Nat}{x:Str}(h:gA X i x):GE X W c (.var i) (.Name x pos):=Vt h.at_ h.vis h.nd h.nc
theorem CK{o:Cm}(R:gW X (eF o) (aH o))(hb:GE X W c m2 b)(hv:∀k,m2.az=some k->∃x p,b=.Name x p/\gA X k x):
  ∃r tb,fW X (compareOp (eF o)) r/\PE X b tb/\∀env σ H Q,tM X.K W env (ev c (.cmp o m1 m2) env) σ H Q->WP r (aD X W c m1) tb σ H Q:=by
 obtain⟨r,ho,rule⟩:=R
 cases q:m2.az with
 |some k=>
  obtain⟨x,p,rfl,nm⟩:=hv k q
  refine⟨r,Dl k,ho,nm.pe,fun env σ H Q h=>?_⟩
  simp only[WF,q]at h
  refine⟨env,aN h fun d env1 v H1 N1 D1 h1=>?_⟩
  obtain⟨z,ez,S,q3⟩:=cF h1
  cases e1:aW k env1 with
  |none=>rw[e1]at ez;cases ez
  |some d2=>
   rw[e1]at ez
   simp only[Option.bind]at ez
   obtain⟨u,eu,D2⟩:=gb S e1
   cases e2:aH o d d2 with
   |none=>rw[e2]at ez;cases ez
   |some k2=>
    rw[e2]at ez
    cases ez
    exact⟨u,eu,rule H1 d d2 k2 v u Q D1 D2 e2 (q3 _ H1 (Nx.refl S) rfl)⟩
 |none=>
  refine⟨r,aD X W c m2,ho,hb.d,fun env σ H Q h=>?_⟩
  simp only[WF,q]at h
  refine⟨env,aN h fun d env1 v H1 N1 D1 h1=>⟨env1,aN h1 fun d2 env2 u H2 N2 D2 h2=>?_⟩⟩
  obtain⟨z,ez,S,q3⟩:=cF h2
  cases e2:aH o d d2 with
  |none=>rw[e2]at ez;cases ez
  |some k2=>
   rw[e2]at ez
   cases ez
   exact rule H2 d d2 k2 v u Q (D1.mono N2.pers) (.inl D2) e2 (q3 _ H2 (Nx.refl S) rfl)
theorem VL{o:Cm}(R:gW X (eF o) (aH o))(ha:GE X W c m1 a)(hb:GE X W c m2 b)(hv:∀k,m2.az=some k->∃x p,b=.Name x p/\gA X k x)
  (hm:behindInMarks (eF o) b=false):GE X W c (.cmp o m1 m2) (.Compare a [eF o] [b] pos):=by
 intro env
 obtain⟨r,tb,ho,pb,imp⟩:=CK (m1:=m1) R hb hv
 exact PE.imp (Nk ho ha.d pb hm) fun σ H Q h=>imp env σ H Q h
theorem wO{K:QQq}{env:Ev}{r:Out Rv}{σ:St}{H:Hp}{Q:Bool->Hp->Prop}(h:tT K W env r σ H Q)(hb:∀x env',r=.ok x env'->∃b,x=.val (.bl b)):
  tM K W env r σ H (fun v H'=>∃k,v=.bl k/\Q k H'):=by
 obtain⟨S,h⟩:=h
 refine⟨S,?_⟩
 cases r with
 |bad=>exact h
 |exc c env1=>exact h
 |ok x env1=>
  obtain⟨b,rfl⟩:=hb x env1 rfl
  obtain⟨d,k,e1,e2,q⟩:=h
  cases e1
  cases e2
  exact fun v H' N z=>⟨b,z,q H' N⟩
theorem jR{env env':Ev}{o:Option Bool}{x:Rv}(h:lift env (o.map fun q=>Rv.val (.bl q))=.ok x env'):∃b,x=.val (.bl b):=by
 cases o with
 |none=>cases h
 |some b=>cases h;exact⟨b,rfl⟩
theorem yp{o:Cm}{env env':Ev}{x:Rv}(h:ev c (.cmp o m1 m2) env=.ok x env'):∃b,x=.val (.bl b):=by
 simp only[WF]at h
 cases r:ev c m1 env with
 |bad=>rw[r]at h;cases h
 |exc k env1=>rw[r]at h;cases h
 |ok x1 env1=>
  rw[r]at h
  have go:∀d,(match m2.az with
    |some k=>lift env1 ((aW k env1).bind fun d'=>(aH o d d').map fun q=>Rv.val (.bl q))
    |none=>(ev c m2 env1).ak fun y σ=>lift σ ((aH o d y).map fun q=>Rv.val (.bl q)))=.ok x env'->∃b,x=.val (.bl b):=fun d h=>by
   cases q:m2.az with
   |some k=>
    simp only[q]at h
    cases e:aW k env1 with
    |none=>simp only[e,Option.bind]at h;cases h
    |some d'=>simp only[e,Option.bind]at h;exact jR h
   |none=>
    simp only[q]at h
    cases r2:ev c m2 env1 with
    |bad=>rw[r2]at h;cases h
    |exc k env2=>rw[r2]at h;cases h
    |ok x2 env2=>
     rw[r2]at h
     cases x2 with
     |val d2=>exact jR h
     |new xs=>exact jR h
     |ref i=>cases h
     |tmp xs=>cases h
  cases x1 with
  |val d=>exact go d h
  |new xs=>exact go xs.d h
  |ref i=>cases h
  |tmp xs=>cases h
theorem Vl{o:Cm}(R:gW X (eF o) (aH o))(ha:GE X W c m1 a)(hb:GE X W c m2 b)(hv:∀k,m2.az=some k->∃x p,b=.Name x p/\gA X k x)
  (hm:behindInMarks (eF o) b=false):GT X W c (.cmp o m1 m2) (.Compare a [eF o] [b] pos):=by
 obtain⟨r,tb,ho,pb,imp⟩:=CK (m1:=m1) R hb hv
 exact PT.imp (M4 ho ha.d pb hm) fun σ H Q⟨env,h⟩=>imp env σ H _ (wO h fun x env' e=>yp e)
theorem uI{o₁ o₂:Cm}(R1:gW X (eF o₁) (aH o₁))(R2:gW X (eF o₂) (aH o₂)):
  ∃r r',fW X (compareOp (eF o₁)) r/\fW X (compareOp (eF o₂)) r'/\∀env σ H Q,tM X.K W env (ev c (.chain o₁ o₂ m1 m2 m3) env) σ H Q->yO r r' (aD X W c m1) (aD X W c m2) (aD X W c m3) σ H Q:=by
 obtain⟨r,ho,rule⟩:=R1
 obtain⟨r',ho',rule'⟩:=R2
 refine⟨r,r',ho,ho',fun env σ H Q h=>?_⟩
 simp only[X5]at h
 refine⟨env,aN h fun d env1 v H1 N1 D1 h1=>⟨env1,aN h1 fun d2 env2 u H2 N2 D2 h2=>?_⟩⟩
 cases e2:aH o₁ d d2 with
 |none=>rw[e2]at h2;exact h2.2.elim
 |some k=>
  rw[e2]at h2
  simp only[lift,Out.bind]at h2
  refine rule H2 d d2 k v u _ (D1.mono N2.pers) (.inl D2) e2 ⟨k,rfl,?_⟩
  cases k with
  |false=>
   rw[if_neg Bool.false_ne_true]at h2⊢
   exact dU h2 rfl
  |true=>
   rw[if_pos rfl]at h2⊢
   refine⟨env2,aN h2 fun d3 env3 w H3 N3 D3 h3=>?_⟩
   obtain⟨z,ez,S,q3⟩:=cF h3
   cases e3:aH o₂ d2 d3 with
   |none=>rw[e3]at ez;cases ez
   |some k2=>
    rw[e3]at ez
    cases ez
    exact rule' H3 d2 d3 k2 u w Q (D2.mono N3.pers) (.inl D3) e3 (q3 _ H3 (Nx.refl S) rfl)
theorem sG{o₁ o₂:Cm}{env env':Ev}{x:Rv}(h:ev c (.chain o₁ o₂ m1 m2 m3) env=.ok x env'):∃b,x=.val (.bl b):=by
 have val:∀{r:Out Rv}{f:D->Ev->Out Rv},r.ak f=.ok x env'->∃d σ,f d σ=.ok x env':=fun{r f}q=>by
  cases r with
  |bad=>cases q
  |exc k e1=>cases q
  |ok y e1=>
   cases y with
   |val d=>exact⟨d,e1,q⟩
   |new xs=>exact⟨_,e1,q⟩
   |ref i=>cases q
   |tmp xs=>cases q
 simp only[X5]at h
 obtain⟨d1,σ1,h⟩:=val h
 obtain⟨d2,σ2,h⟩:=val h
 cases e:aH o₁ d1 d2 with
 |none=>rw[e]at h;cases h
 |some k=>
  rw[e]at h
  simp only[lift,Out.bind]at h
  cases k with
  |false=>cases h;exact⟨false,rfl⟩
  |true=>
   rw[if_pos rfl]at h
   obtain⟨d3,σ3,h⟩:=val h
   exact jR h
theorem JK{o₁ o₂:Cm}{d:Expr}(R1:gW X (eF o₁) (aH o₁))(R2:gW X (eF o₂) (aH o₂))(ha:GE X W c m1 a)(hb:GE X W c m2 b)(hd:GE X W c m3 d)(hm:lastMarks [eF o₁,eF o₂] [b,d]=false):
  GE X W c (.chain o₁ o₂ m1 m2 m3) (.Compare a [eF o₁,eF o₂] [b,d] pos):=by
 obtain⟨r,r',ho,ho',imp⟩:=uI (W:=W) (c:=c) (m1:=m1) (m2:=m2) (m3:=m3) R1 R2
 exact fun env=>PE.imp (HW ho ho' ha.d hb.d hd.d hm) fun σ H Q h=>imp env σ H Q h
theorem Jz{o₁ o₂:Cm}{d:Expr}(R1:gW X (eF o₁) (aH o₁))(R2:gW X (eF o₂) (aH o₂))(ha:GE X W c m1 a)(hb:GE X W c m2 b)(hd:GE X W c m3 d)(hm:lastMarks [eF o₁,eF o₂] [b,d]=false):
  GT X W c (.chain o₁ o₂ m1 m2 m3) (.Compare a [eF o₁,eF o₂] [b,d] pos):=by
 obtain⟨r,r',ho,ho',imp⟩:=uI (W:=W) (c:=c) (m1:=m1) (m2:=m2) (m3:=m3) R1 R2
 exact PT.imp (Hu ho ho' ha.d hb.d hd.d hm) fun σ H Q⟨env,h⟩=>imp env σ H _ (wO h fun x env' e=>sG e)
def Yq(K:QQq)(ta:TE):TE:=fun σ H Q=>ta σ H fun x H1=>∃k,KJ K x H1 k/\Q (.bl (!k)) H1
theorem Nh{ta:TE}(ha:PE X a ta):PE X (.UnaryOp .Not a pos) (Yq X.K ta):=by
 intro QTz s σ H Q I h
 refine PyProof.Rows.UnaryOp_ (cB (ha QTz s σ H _ I h) fun v s1⟨x,H1,I1,r1,k,t,q1⟩=>?_)
 exact PyProof.Rows.not_of (cB (GC QTz s1 σ H1 x v (fun b H'=>Q (.bl (!b)) H') I1 r1 ⟨k,t,q1⟩) fun b s2⟨H2,I2,q2⟩=>⟨.bl (!b),H2,I2,rfl,q2⟩)
theorem Vz(ha:GE X W c m1 a):GE X W c (.not m1) (.UnaryOp .Not a pos):=fun env=>
 PE.imp (Nh ha.d) fun σ H Q q=>⟨env,wW (wU (f:=fun b σ=>.ok (.val (.bl (!b))) σ) (R:=fun k H1=>Q (.bl (!k)) H1) (by simpa only[Gu]using q) fun k env1 H1 N q1=>dU (d:=.bl (!k)) q1 rfl)⟩
theorem Vj(ha:GT X W c m1 a):GT X W c (.not m1) (.UnaryOp .Not a pos):=by
 refine PT.imp (TY ha) fun σ H Q⟨env,q⟩=>⟨env,q.1,?_⟩
 have q2:=q.2
 simp only[Gu]at q2
 cases r:ev c m1 env with
 |bad=>rw[r]at q2;exact q2
 |exc k env1=>rw[r]at q2;exact q2
 |ok x env1=>
  rw[r]at q2
  have go:∀d,x.jo=some d->(match (match iH d with|some b=>Out.ok (Rv.val (.bl (!b))) env1|none=>.bad)with
    |.ok x env'=>∃d b,x.jo=some d/\iH d=some b/\∀H',Nx X.K env σ H env' H'->Q b H'
    |.exc c env'=>∀H',Nx X.K env σ H env' H'->W c env' σ H'
    |.bad=>False)->∃d b,x.jo=some d/\iH d=some b/\∀H',Nx X.K env σ H env1 H'->Q (!b) H':=fun d ed z=>by
   cases t:iH d with
   |none=>rw[t]at z;exact z.elim
   |some b=>
    rw[t]at z
    obtain⟨d',b',e1,e2,z⟩:=z
    cases e1
    cases e2
    exact⟨d,b,ed,t,z⟩
  cases x with
  |val d=>exact go d rfl q2
  |new o=>exact go o.d rfl q2
  |ref i=>exact q2.elim
  |tmp xs=>exact q2.elim
theorem O6(ha:GE X W c m1 a):GE X W c (.and (.cons m1 .nil)) (.BoolOp .And [a] pos):=fun env=>by
 have:=zy (X:=X) (op:=.And) (pos:=pos) (ha env)
 simpa only[Lk,fJ]using this
theorem Vy(ha:GE X W c m1 a):GE X W c (.or (.cons m1 .nil)) (.BoolOp .Or [a] pos):=fun env=>by
 have:=zy (X:=X) (op:=.Or) (pos:=pos) (ha env)
 simpa only[u0,jE]using this
end
end Mini
end
section
namespace Mini
open PySem L2
def aM(X:Cx)(W:Wi)(c:Cf)(m:E):TE:=fun σ H Q=>∃env,tM X.K W env (ev c m env) σ H Q
theorem Qy{K:QQq}{W:Wi}{env env1:Ev}{σ:St}{H H1:Hp}{r:Out Rv}{Q:Bool->Hp->Prop}(h:tT K W env r σ H Q)(N:Nx K env σ H env1 H1):tT K W env1 r σ H1 Q:=by
 obtain⟨_,h⟩:=h
 refine⟨N.fD,?_⟩
 cases r with
 |bad=>exact h
 |exc c env2=>exact fun H' N'=>h H' (N.trans N')
 |ok x env2=>
  obtain⟨d,b,e1,e2,q⟩:=h
  exact⟨d,b,e1,e2,fun H' N'=>q H' (N.trans N')⟩
section
variable{X:Cx}{W:Wi}{c:Cf}{m m1 m2 m3:E}{e a b:Expr}{es rest:List Expr}{pos:Pos}
theorem GE.am(h:GE X W c m e):PE X e (aM X W c m):=fun QTz s σ H Q I⟨env,q⟩=>h env QTz s σ H Q I q
theorem VM(ha:GE X W c m1 a)(hb:GE X W c (.and (.cons m2 m3)) (.BoolOp .And (b::rest) pos)):GE X W c (.and (.cons m1 (.cons m2 m3))) (.BoolOp .And (a::b::rest) pos):=by
 intro env
 refine PE.imp (HX ha.d hb.am) fun σ H Q q=>?_
 simp only[Lk,fJ]at q
 refine⟨env,aN q fun d env1 v H1 N1 D1 q1=>?_⟩
 cases d with
 |bl k=>
  refine⟨k,D1,?_⟩
  cases k with
  |true=>rw[if_pos rfl];exact⟨env1,by simpa only[Lk,fJ]using q1⟩
  |false=>rw[if_neg Bool.false_ne_true];exact dU q1 rfl
 |_=>exact q1.2.elim
theorem aaF(ha:GE X W c m1 a)(hb:GE X W c (.or (.cons m2 m3)) (.BoolOp .Or (b::rest) pos)):GE X W c (.or (.cons m1 (.cons m2 m3))) (.BoolOp .Or (a::b::rest) pos):=by
 intro env
 refine PE.imp (Zw ha.d hb.am) fun σ H Q q=>?_
 simp only[u0,jE]at q
 refine⟨env,aN q fun d env1 v H1 N1 D1 q1=>?_⟩
 cases d with
 |bl k=>
  refine⟨k,D1,?_⟩
  cases k with
  |true=>rw[if_pos rfl];exact dU q1 rfl
  |false=>rw[if_neg Bool.false_ne_true];exact⟨env1,by simpa only[u0,jE]using q1⟩
 |_=>exact q1.2.elim
def GW(X:Cx)(W:Wi)(c:Cf)(m:E)(e:Expr):Prop:=PW X e (aT X W c m)
theorem PW.imp{t t':TT}(h:PW X e t)(i:∀σ H Q,t' σ H Q->t σ H Q):PW X e t':=fun wh QTz s σ H Q I q=>h wh QTz s σ H Q I (i σ H Q q)
theorem GW.t(h:GW X W c m e):GT X W c m e:=PW.pt h
theorem wQ{K:QQq}{env:Ev}{r:Out Rv}{σ:St}{H:Hp}{Q R:Bool->Hp->Prop}{f:D->Ev->Out Rv}(h:tT K W env (r.ak f) σ H Q)
  (hf:∀d env1,(∀k,d≠ .bl k)->f d env1=.bad)
  (k:∀b env1 H1,Nx K env σ H env1 H1->tT K W env1 (f (.bl b) env1) σ H1 Q->R b H1):tT K W env r σ H R:=by
 have step:∀d env1 x,x.jo=some d->r=.ok x env1->∃b,iH d=some b/\∀H1,Nx K env σ H env1 H1->R b H1:=fun d env1 x ex er=>by
  subst er
  have h':tT K W env (f d env1) σ H Q:=by
   cases x with
   |val d'=>cases ex;exact h
   |new xs=>cases ex;exact h
   |ref i=>cases ex
   |tmp xs=>cases ex
  by_cases hb:∃b,d=.bl b
  ·obtain⟨b,rfl⟩:=hb
   exact⟨b,rfl,fun H1 N=>k b env1 H1 N (Qy h' N)⟩
  ·rw[hf d env1 fun b e=>hb ⟨b,e⟩]at h'
   exact h'.2.elim
 refine⟨h.1,?_⟩
 cases r with
 |bad=>exact h.2
 |exc c env1=>exact h.2
 |ok x env1=>
  cases x with
  |val d=>obtain⟨b,e,q⟩:=step d env1 _ rfl rfl;exact⟨d,b,rfl,e,q⟩
  |new xs=>obtain⟨b,e,q⟩:=step (xs.d) env1 _ rfl rfl;exact⟨xs.d,b,rfl,e,q⟩
  |ref i=>exact h.2.elim
  |tmp xs=>exact h.2.elim
theorem Ov(ha:GT X W c m1 a):GW X W c (.and (.cons m1 .nil)) (.BoolOp .And [a] pos):=PW.imp (M3 ha) fun σ H Q⟨env,q⟩=>⟨env,by simpa only[Lk,fJ]using q⟩
theorem Vi(ha:GT X W c m1 a):GW X W c (.or (.cons m1 .nil)) (.BoolOp .Or [a] pos):=PW.imp (TV ha) fun σ H Q⟨env,q⟩=>⟨env,by simpa only[u0,jE]using q⟩
theorem Vm(ha:GT X W c m1 a)(hb:GW X W c (.and (.cons m2 m3)) (.BoolOp .And (b::rest) pos)):GW X W c (.and (.cons m1 (.cons m2 m3))) (.BoolOp .And (a::b::rest) pos):=by
 refine PW.imp (TX ha hb) fun σ H Q⟨env,q⟩=>⟨env,?_⟩
 simp only[Lk,fJ]at q
 refine wQ q (fun d env1 hd=>?_) fun k env1 H1 N q1=>?_
 ·cases d with
  |bl k=>exact absurd rfl (hd k)
  |_=>rfl
 ·cases k with
  |true=>rw[if_pos rfl];exact⟨env1,by simpa only[Lk,fJ]using q1⟩
  |false=>
   rw[if_neg Bool.false_ne_true]
   obtain⟨d,k',e1,e2,q3⟩:=q1.2
   cases e1
   cases e2
   exact q3 H1 (Nx.refl q1.1)
theorem aaA(ha:GT X W c m1 a)(hb:GW X W c (.or (.cons m2 m3)) (.BoolOp .Or (b::rest) pos)):GW X W c (.or (.cons m1 (.cons m2 m3))) (.BoolOp .Or (a::b::rest) pos):=by
 refine PW.imp (Zr ha hb) fun σ H Q⟨env,q⟩=>⟨env,?_⟩
 simp only[u0,jE]at q
 refine wQ q (fun d env1 hd=>?_) fun k env1 H1 N q1=>?_
 ·cases d with
  |bl k=>exact absurd rfl (hd k)
  |_=>rfl
 ·cases k with
  |false=>rw[if_neg Bool.false_ne_true];exact⟨env1,by simpa only[u0,jE]using q1⟩
  |true=>
   rw[if_pos rfl]
   obtain⟨d,k',e1,e2,q3⟩:=q1.2
   cases e1
   cases e2
   exact q3 H1 (Nx.refl q1.1)
theorem VF{t:Expr}(ht:GT X W c m1 t)(ha:GE X W c m2 a)(hb:GE X W c m3 b):GE X W c (.ite m1 m2 m3) (.IfExp t a b pos):=by
 intro env
 refine PE.imp (HR ht ha.am hb.am) fun σ H Q q=>?_
 simp only[Gs]at q
 refine⟨env,wU q fun k env1 H1 N q1=>?_⟩
 cases k with
 |true=>rw[if_pos rfl]at q1⊢;exact⟨env1,q1⟩
 |false=>rw[if_neg Bool.false_ne_true]at q1⊢;exact⟨env1,q1⟩
theorem Af{xs:List D}{i:Int}{d:D}{K:QQq}{H:Hp}{vs:List V}(h:at? xs i=some d)(l:aq K H xs vs):∃v,Wd vs i=some v/\bH K H d v:=by
 unfold at? at h
 cases e:ix? xs.length i with
 |none=>rw[e]at h;cases h
 |some j=>
  rw[e]at h
  obtain⟨v,q1,q2⟩:=l.get (show xs[j]? =some d from h)
  refine⟨v,?_,q2⟩
  have hl:=l.length
  unfold Wd
  have:Om vs.length i=some j:=by
   unfold ix? at e
   unfold Om
   rw[<-hl]
   by_cases h0:i<0
   ·simp only[h0,if_true]at e
    split at e
    ·rename_i hc
     cases e
     rw[if_neg (by omega),if_pos (by omega)]
    ·cases e
   ·simp only[h0,if_false]at e
    split at e
    ·rename_i hc
     cases e
     rw[if_pos (by omega),if_pos (by omega)]
    ·cases e
  rw[this]
  exact q1
theorem m9{K:QQq}{H:Hp}(k:Key):∀{kvs:List (Key×V)}{ds:List D}{d:D},eQ (cI k) (kvs.map fun p=>cI p.1) ds=some d->aq K H ds (kvs.map (·.2))->∃v,gZ kvs k=some v/\bH K H d v
 |[],ds,d,h,_=>by cases h
 |(k',v)::r,ds,d,h,l=>by
  rw[List.map_cons]at h l
  cases ds with
  |nil=>obtain⟨⟩:=aq.bL.mp l
  |cons d' ds=>
   obtain⟨w,ws,e,h1,h2⟩:=aq.bw.mp l
   cases e
   have e:cL (cI k') (cI k)=decide (k'=k):=by
    cases k'<;>cases k<;>simp[cI,cL,Bool.beq_eq_decide_eq]
   simp only[eQ,e]at h
   by_cases q:k'=k
   ·simp only[q,decide_true,if_true]at h
    cases h
    exact⟨v,jw q,h1⟩
   ·simp only[q,decide_false,Bool.false_eq_true,if_false]at h
    obtain⟨u,q1,q2⟩:=m9 k h h2
    exact⟨u,by rw[jx q];exact q1,q2⟩
def Zm:R2:=fun x y H Q=>∃a k kvs v,x=.ref a/\y=kV k/\Rd H a (.dK kvs)/\gZ kvs k=some v/\Q v H
theorem Va(hu:X.A.units+1<cLine):KZ X Zm:=by
 intro value slice QTz s σ H x y v u Q I rx ry h hs
 obtain⟨a,k,kvs,w,rfl,rfl,hd,hv,q⟩:=h
 cases rx
 have g:rN H a (kV k) (some w):=.inl ⟨kvs,k,hd,rfl,hv.symm⟩
 exact PyProof.Rows.tail_any (yq I g) PySem.F.slot_dict_getitem.lookup (Fx hu I g ry fun w' s3 I3 rw'=>⟨w,H,I3,rw',q⟩) hs
def Zn(K:QQq):R2:=fun x y H Q=>TJ K x y H Q\/TF K x y H Q\/Zm x y H Q
theorem Jl(hu:X.A.units+1<cLine):KZ X (Zn X.K):=vM.or (Jj.or (Va hu))
theorem uC{K:QQq}{H:Hp}{d y z:D}{v u:V}{Q:VK}(D1:dM K H d v)(D2:bH K H y u)(e:getD d y=some z)(q:∀w,bH K H z w->Q w H):Zn K v u H Q:=by
 cases d with
 |tup xs=>
  cases y with
  |int i=>
   obtain⟨a,vs,rfl,hq,l⟩:=cG D1.tup
   obtain⟨w,e1,e2⟩:=Af e l
   exact .inr (.inl ⟨a,vs,i,w,rfl,D2,hq,e1,q w e2⟩)
  |_=>cases e
 |lst xs=>
  cases y with
  |int i=>
   obtain⟨a,vs,rfl,hq,l⟩:=D1.G9
   rcases hq with hq|hq
   ·obtain⟨w,e1,e2⟩:=Af e l
    exact .inl ⟨a,vs,i,w,rfl,D2,hq,e1,q w e2⟩
   ·obtain⟨w,e1,e2⟩:=Af e l
    exact .inr (.inl ⟨a,vs,i,w,rfl,D2,hq,e1,q w e2⟩)
  |_=>cases e
 |cC ks ds=>
  have e':(if keyOk y=true then eQ y ks ds else none)=some z:=by cases y<;>exact e
  split at e'
  ·rename_i hk
   obtain⟨k,rfl⟩:=fU hk
   obtain⟨a,kvs,rfl,ha,rfl,l⟩:=v6 D1
   obtain⟨w,e1,e2⟩:=m9 k e' l
   exact .inr (.inr ⟨a,k,kvs,w,rfl,jW D2,ha,e1,q w e2⟩)
  ·cases e'
 |_=>cases y<;>cases e
theorem VH(hu:X.A.units+1<cLine)(ha:GE X W c m1 a)(hb:GE X W c m2 b)(hv:∀k,m1.az=some k->∃x p,a=.Name x p/\gA X k x)(hs:wC b):GE X W c (.idx m1 m2) (.Subscript a b pos):=by
 intro env
 cases q:m1.az with
 |some k=>
  obtain⟨x,p,rfl,nm⟩:=hv k q
  refine PE.imp (HN (Jl hu) nm.pe hb.d hs) fun σ H Q h=>?_
  simp only[Dg,q]at h
  cases e0:aW k env with
  |none=>rw[e0]at h;exact h.2.elim
  |some d0=>
   rw[e0]at h
   simp only[Option.isNone_some,Bool.false_eq_true,if_false]at h
   obtain⟨u,eu,_⟩:=gb h.1 e0
   refine⟨u,eu,env,aN h fun d env1 v H1 N1 D1 h1=>?_⟩
   obtain⟨z,ez,S,q3⟩:=cF h1
   cases e1:aW k env1 with
   |none=>rw[e1]at ez;cases ez
   |some d2=>
    rw[e1]at ez
    simp only[Option.bind]at ez
    obtain⟨u',eu',D2⟩:=gb S e1
    rw[eu]at eu'
    cases eu'
    cases e2:getD d2 d with
    |none=>rw[e2]at ez;cases ez
    |some w=>
     rw[e2]at ez
     cases ez
     exact uC D2 D1 e2 fun w' hw=>q3 w' H1 (Nx.refl S) hw
 |none=>
  refine PE.imp (HN (Jl hu) ha.d hb.d hs) fun σ H Q h=>?_
  simp only[Dg,q]at h
  refine⟨env,aN h fun d env1 v H1 N1 D1 h1=>⟨env1,aN h1 fun d2 env2 u H2 N2 D2 h2=>?_⟩⟩
  obtain⟨z,ez,S,q3⟩:=cF h2
  cases e2:getD d d2 with
  |none=>rw[e2]at ez;cases ez
  |some w=>
   rw[e2]at ez
   cases ez
   exact uC (.inl (D1.mono N2.pers)) D2 e2 fun w' hw=>q3 w' H2 (Nx.refl S) hw
end
end Mini
end
section
namespace Mini
open PySem L2
structure Nz(K:QQq)(env:Ev)(σ:St)(H:Hp)(env':Ev)(σ':St)(H':Hp):Prop where
 fD:Sat K env' σ' H'
 sub:∀(i:Nat)a,aJ env' σ' i a->aJ env σ i a\/H a=none
 pers:bU H H'
 keep:∀b u,H b=some u->(∀i,¬aJ env σ i b)->H' b=some u
 dom:∀b,H' b=none->H b=none
 bors:∀(i:Nat)xs,env[i]? =some (.bor xs)->(∃ys,env'[i]? =some (.bor ys))/\σ'[i]? =σ[i]?
section
variable{K:QQq}{env env1 env2:Ev}{σ σ1 σ2:St}{H H1 H2:Hp}
theorem Nx.z(N:Nx K env σ H env1 H1):Nz K env σ H env1 σ H1:=⟨N.fD,fun i a z=>.inl (N.sub i a z),N.pers,N.keep,N.dom,fun i xs e=>⟨N.bors i xs e,rfl⟩⟩
theorem Nz.refl(S:Sat K env σ H):Nz K env σ H env σ H:=(Nx.refl S).z
theorem Nz.trans(a:Nz K env σ H env1 σ1 H1)(b:Nz K env1 σ1 H1 env2 σ2 H2):Nz K env σ H env2 σ2 H2 where
 fD:=b.fD
 sub:=fun i c z=>by
  rcases b.sub i c z with q|q
  ·exact a.sub i c q
  ·exact .inr (a.dom c q)
 pers:=a.pers.trans b.pers
 keep:=fun c vs z n=>b.keep c vs (a.keep c vs z n) fun i w=>by
  rcases a.sub i c w with q|q
  ·exact n i q
  ·rw[q]at z;cases z
 dom:=fun c z=>a.dom c (b.dom c z)
 bors:=fun i xs e=>by
  obtain⟨⟨ys,e1⟩,s1⟩:=a.bors i xs e
  obtain⟨q,s2⟩:=b.bors i ys e1
  exact⟨q,s2.trans s1⟩
def KR(K:QQq)(env:Ev)(σ:St)(H H':Hp):Rv->V->Prop
 |.val d,v=>bH K H' d v
 |.new q,v=>∃a,v=.ref a/\jq K H' q a/\(H a=none\/∃(i:Nat)(ys:Ob),env[i]? =some (.own ys)/\σ[i]? =some (some (.ref a)))
 |_,_=>False
theorem KR.back{r:Rv}{v:V}(N:Nz K env σ H env1 σ1 H1)(h:KR K env1 σ1 H1 H2 r v):KR K env σ H H2 r v:=by
 cases r with
 |val d=>exact h
 |new xs=>
  obtain⟨a,e,p,z⟩:=h
  refine⟨a,e,p,?_⟩
  rcases z with z|⟨i,ys,z1,z2⟩
  ·exact .inl (N.dom a z)
  ·rcases N.sub i a ⟨⟨_,ys,z1,rfl⟩,z2⟩with ⟨⟨s,xs',q1,q2⟩,q3⟩|q
   ·cases s with
    |own w=>exact .inr ⟨i,w,q1,q3⟩
    |bor w=>
     obtain⟨⟨w',q⟩,_⟩:=N.bors i w q1
     rw[z1]at q;cases q
    |un=>cases q2
    |val d=>cases q2
   ·exact .inl q
 |ref i=>exact h.elim
 |tmp xs=>exact h.elim
end
def tS(K:QQq)(W:Wi)(env:Ev)(f:Fl):TS:=fun D σ H=>Sat K env σ H/\match f with
 |.next env'=>∀σ' H',Nz K env σ H env' σ' H'->D.nx σ' H'
 |.ret r env'=>∀v σ' H',Nz K env σ H env' σ' H'->KR K env σ H H' r v->D.rt v H'
 |.brk env'=>∀σ' H',Nz K env σ H env' σ' H'->D.bk σ' H'
 |.cont env'=>∀σ' H',Nz K env σ H env' σ' H'->D.ct σ' H'
 |.exc c env'=>∀σ' H',Nz K env σ H env' σ' H'->W c env' σ' H'
 |.bad=>False
def GS(X:Cx)(W:Wi)(c:Cf)(m:S)(st:Stmt):Prop:=∀env,PS X st (tS X.K W env (ex c m env))
def K1(X:Cx)(W:Wi)(c:Cf)(m:S)(st:List Stmt):Prop:=∀env,uY X st (tS X.K W env (ex c m env))
section
variable{X:Cx}{W:Wi}{c:Cf}{m m1 m2:S}{st:Stmt}{sts:List Stmt}{e:Expr}{pos:Pos}
theorem PS.imp{t t':TS}(h:PS X st t)(i:∀D σ H,t' D σ H->t D σ H):PS X st t':=fun QTz s σ H D I q=>h QTz s σ H D I (i D σ H q)
theorem uY.imp{t t':TS}(h:uY X sts t)(i:∀D σ H,t' D σ H->t D σ H):uY X sts t':=fun QTz s σ H D I q=>h QTz s σ H D I (i D σ H q)
theorem pF{K:QQq}{env env1:Ev}{σ σ1:St}{H H1:Hp}{f:Fl}{D:Ends}(h:tS K W env f D σ H)(N:Nz K env σ H env1 σ1 H1):tS K W env1 f D σ1 H1:=by
 obtain⟨_,h⟩:=h
 refine⟨N.fD,?_⟩
 cases f with
 |next env2=>exact fun σ' H' N'=>h σ' H' (N.trans N')
 |ret r env2=>exact fun v σ' H' N' k=>h v σ' H' (N.trans N') (k.back N)
 |brk env2=>exact fun σ' H' N'=>h σ' H' (N.trans N')
 |cont env2=>exact fun σ' H' N'=>h σ' H' (N.trans N')
 |exc k env2=>exact fun σ' H' N'=>h σ' H' (N.trans N')
 |bad=>exact h
theorem Cd:K1 X W c .nil []:=fun env=>uY.imp M6 fun D σ H q=>by
 simp only[x_0]at q
 exact q.2 σ H (Nz.refl q.1)
theorem ye(h:GS X W c m1 st)(t:K1 X W c m2 sts):K1 X W c (.cons m1 m2) (st::sts):=by
 intro env
 have B:uY X (st::sts) (Ym (fun D σ H=>∃env,tS X.K W env (ex c m1 env) D σ H) (fun D σ H=>∃env,tS X.K W env (ex c m2 env) D σ H)):=
  Hv (fun QTz s σ H D I⟨env,q⟩=>h env QTz s σ H D I q) (fun QTz s σ H D I⟨env,q⟩=>t env QTz s σ H D I q)
 refine uY.imp B fun D σ H q=>?_
 simp only[x_1]at q
 refine⟨env,q.1,?_⟩
 cases r:ex c m1 env with
 |next env1=>
  rw[r]at q
  exact fun σ1 H1 N1=>⟨env1,pF q N1⟩
 |_=>rw[r]at q;exact q.2
theorem pG{K:QQq}{env:Ev}{σ:St}{H:Hp}{D:Ends}{r:Out Rv}{f:Mini.D->Ev->Fl}{R:VK}(h:tS K W env (r.jt f) D σ H)
  (k:∀d env1 v H1,Nx K env σ H env1 H1->bH K H1 d v->tS K W env1 (f d env1) D σ H1->R v H1):tD K W env r σ H R:=by
 have step:∀d env1,r.jt f=f d env1->∀v H1,Nx K env σ H env1 H1->bH K H1 d v->R v H1:=fun d env1 e v H1 N Dv=>by
  rw[e]at h
  exact k d env1 v H1 N Dv (pF h N.z)
 obtain⟨S,h⟩:=h
 refine⟨S,?_⟩
 cases r with
 |bad=>exact h
 |exc c env1=>exact fun H' N=>h σ H' N.z
 |ok x env1=>
  cases x with
  |val d=>exact fun v H1 N Dv=>step d env1 rfl v H1 N Dv
  |new xs=>exact fun v H1 N Dv=>step xs.d env1 rfl v H1 N Dv
  |ref i=>exact h
  |tmp xs=>exact h
theorem GX{K:QQq}{env:Ev}{σ:St}{H:Hp}{D:Ends}{r:Out Rv}{f:Bool->Ev->Fl}{R:Bool->Hp->Prop}(h:tS K W env (r.Gf f) D σ H)
  (k:∀b env1 H1,Nx K env σ H env1 H1->tS K W env1 (f b env1) D σ H1->R b H1):tT K W env r σ H R:=by
 have step:∀d env1 x,x.jo=some d->r=.ok x env1->∃b,iH d=some b/\∀H1,Nx K env σ H env1 H1->R b H1:=fun d env1 x ex er=>by
  subst er
  cases q:iH d with
  |none=>
   cases x with
   |val d'=>cases ex;simp only[Out.Gf,Out.jt,q]at h;exact h.2.elim
   |new xs=>cases ex;simp only[Out.Gf,Out.jt,q]at h;exact h.2.elim
   |ref i=>cases ex
   |tmp xs=>cases ex
  |some b=>
   refine⟨b,rfl,fun H1 N=>k b env1 H1 N (pF ?_ N.z)⟩
   cases x with
   |val d'=>cases ex;simp only[Out.Gf,Out.jt,q]at h;exact h
   |new xs=>cases ex;simp only[Out.Gf,Out.jt,q]at h;exact h
   |ref i=>cases ex
   |tmp xs=>cases ex
 refine⟨h.1,?_⟩
 cases r with
 |bad=>exact h.2
 |exc c env1=>exact fun H' N=>h.2 σ H' N.z
 |ok x env1=>
  cases x with
  |val d=>obtain⟨b,e,q⟩:=step d env1 _ rfl rfl;exact⟨d,b,rfl,e,q⟩
  |new xs=>obtain⟨b,e,q⟩:=step xs.d env1 _ rfl rfl;exact⟨xs.d,b,rfl,e,q⟩
  |ref i=>exact h.2.elim
  |tmp xs=>exact h.2.elim
theorem aaB{t:E}{te:Expr}{s1 s2:List Stmt}(ht:GT X W c t te)(h1:K1 X W c m1 s1)(h2:K1 X W c m2 s2):GS X W c (.ite t m1 m2) (.If te s1 s2 pos):=by
 intro env
 refine PS.imp (Zu ht (t:=fun D σ H=>∃env,tS X.K W env (ex c m1 env) D σ H) (u:=fun D σ H=>∃env,tS X.K W env (ex c m2 env) D σ H)
  (fun QTz s σ H D I⟨env,q⟩=>h1 env QTz s σ H D I q) (fun QTz s σ H D I⟨env,q⟩=>h2 env QTz s σ H D I q)) fun D σ H q=>?_
 simp only[acJ]at q
 refine⟨env,GX q fun b env1 H1 N q1=>?_⟩
 cases b with
 |true=>rw[if_pos rfl]at q1⊢;exact⟨env1,q1⟩
 |false=>rw[if_neg Bool.false_ne_true]at q1⊢;exact⟨env1,q1⟩
theorem OD{m:E}(h:GE X W c m e)(hs:swapsWith e none pos.line X.env=pure false):GS X W c (.expr m) (.Expr e pos):=by
 intro env
 refine PS.imp (Bm h.d hs) fun D σ H q=>?_
 simp only[x_8]at q
 exact⟨env,pG q fun d env1 v H1 N Dv q1=>q1.2 σ H1 (Nz.refl q1.1)⟩
theorem JF{k:Nat}:GS X W0 c (.raise k) st:=fun env QTz s σ H D I q=>by
 simp only[RM]at q
 exact(q.2 σ H (Nz.refl q.1)).elim
end
section
variable{K:QQq}{env env1 env2:Ev}{σ σ1 σ2:St}{H H1 H2:Hp}
theorem jO{i j:Nat}{s:Sl}{v:V}{a:Addr}(h:aJ (env.set i s) (σ.set i (some v)) j a)(hj:i≠j):aJ env σ j a:=by
 obtain⟨⟨t,xs,e1,e2⟩,e3⟩:=h
 rw[List.getElem?_set_ne hj]at e1 e3
 exact⟨⟨t,xs,e1,e2⟩,e3⟩
theorem lL{i:Nat}{s:Sl}{v:V}{a:Addr}(hi:i<env.length)(hs:i<σ.length)(h:aJ (env.set i s) (σ.set i (some v)) i a):isOwn s≠none/\v=.ref a:=by
 obtain⟨⟨t,xs,e1,e2⟩,e3⟩:=h
 rw[List.getElem?_set_self hi]at e1
 rw[List.getElem?_set_self hs]at e3
 cases e1
 cases e3
 exact⟨by rw[e2];simp,rfl⟩
theorem Sat.vA{i:Nat}{q:Ob}{a:Addr}(S:Sat K env σ H)(hi:i<env.length)(ha:jq K H q a)(no:∀k,¬aJ env σ k a):Sat K (env.set i (.own q)) (σ.set i (some (.ref a))) H:=by
 have hs:i<σ.length:=by rw[<-S.len];exact hi
 refine⟨by simpa using S.len,fun j s e=>?_,fun j k b h1 h2=>?_⟩
 ·by_cases hj:i=j
  ·subst hj
   rw[List.getElem?_set_self hi]at e
   cases e
   exact⟨a,by rw[List.getElem?_set_self hs];rfl,ha⟩
  ·rw[List.getElem?_set_ne hj]at e⊢
   exact S.sl j s e
 ·by_cases hj:i=j
  ·subst hj
   by_cases hk:i=k
   ·exact hk
   ·obtain⟨_,z⟩:=lL hi hs h1
    cases z
    exact absurd (jO h2 hk) (no k)
  ·by_cases hk:i=k
   ·subst hk
    obtain⟨_,z⟩:=lL hi hs h2
    cases z
    exact absurd (jO h1 hj) (no j)
   ·exact S.ne j k b (jO h1 hj) (jO h2 hk)
theorem Nz.put{i:Nat}{x:Rv}{s:Sl}{v:V}(S:Sat K env σ H)(N:Nx K env σ H env1 H1)(hx:gw K σ H H1 x v)(hs:x.wZ=some s)(h:cM i s env1=some env2):Nz K env σ H env2 (σ.set i (some v)) H1:=by
 obtain⟨rfl,hi,nb⟩:=pO h
 have hsl:i<σ.length:=by rw[<-N.fD.len];exact hi
 have bors:∀(j:Nat)xs,env[j]? =some (.bor xs)->(∃ys,(env1.set i s)[j]? =some (.bor ys))/\(σ.set i (some v))[j]? =σ[j]? :=fun j xs e=>by
  obtain⟨ys,e1⟩:=N.bors j xs e
  have hj:i≠j:=fun z=>by subst z;exact nb ys e1
  exact⟨⟨ys,by rw[List.getElem?_set_ne hj];exact e1⟩,by rw[List.getElem?_set_ne hj]⟩
 cases x with
 |val d=>
  cases hs
  refine⟨N.fD.put hi hx,fun j a z=>.inl ?_,N.pers,N.keep,N.dom,bors⟩
  by_cases hj:i=j
  ·subst hj
   exact absurd rfl (lL hi hsl z).1
  ·exact N.sub j a (jO z hj)
 |new q=>
  cases hs
  obtain⟨a,rfl,oa,h0⟩:=hx
  refine⟨N.fD.vA hi oa fun k z=>S.mZ h0 k (N.sub k a z),fun j b z=>?_,N.pers,N.keep,N.dom,bors⟩
  by_cases hj:i=j
  ·subst hj
   obtain⟨_,z⟩:=lL hi hsl z
   cases z
   exact .inr h0
  ·exact .inl (N.sub j b (jO z hj))
 |ref j=>cases hs
 |tmp q=>cases hs
end
section
variable{X:Cx}{W:Wi}{c:Cf}{m:E}{st:Stmt}{e:Expr}{pos pos':Pos}
theorem Qz{K:QQq}{env:Ev}{σ:St}{H:Hp}{D:Ends}{r:Out Rv}{f:Rv->Ev->Fl}{R:VK}(h:tS K W env (r.fl f) D σ H)
  (k:∀x env1 v H1,Nx K env σ H env1 H1->gw K σ H H1 x v->tS K W env (f x env1) D σ H->R v H1):tM K W env r σ H R:=by
 obtain⟨S,h⟩:=h
 refine⟨S,?_⟩
 cases r with
 |bad=>exact h
 |exc c env1=>exact fun H' N=>h σ H' N.z
 |ok x env1=>exact fun v H1 N z=>k x env1 v H1 N z ⟨S,h⟩
theorem Bc{i:Nat}{env:Ev}{D:Ends}{σ:St}{H:Hp}{K:QQq}(q:tS K W env (ex c (.set i m) env) D σ H):tM K W env (ev c m env) σ H fun v H1=>D.nx (σ.set i (some v)) H1:=by
 simp only[x_5]at q
 refine Qz q fun x env1 v H1 N z q1=>?_
 cases e1:x.wZ with
 |none=>rw[e1]at q1;exact q1.2.elim
 |some s=>
  rw[e1]at q1
  simp only[Option.bind]at q1
  cases e2:cM i s env1 with
  |none=>rw[e2]at q1;exact q1.2.elim
  |some env2=>
   rw[e2]at q1
   exact q1.2 _ _ (Nz.put q1.1 N z e1 e2)
theorem JD{i:Nat}{x:Str}(h:GE X W c m e)(hN:X.N.Nodup)(hi:X.N[i]? =some x)(hx:Loc X.env.scope x)(hf:X.fn x=true\/X.env.scope.names.lookup x=some .local)
  (hs:swapsWith e (some (.Name x pos')) pos.line X.env=pure false):GS X W c (.set i m) (.Assign [.Name x pos'] e pos):=fun env=>
 PS.imp (T3 hN hi hx h.am hs hf) fun D σ H q=>⟨env,Bc q⟩
theorem G7{is:List Nat}{env:Ev}{D:Ends}{σ:St}{H:Hp}{K:QQq}(q:tS K W env (ex c (.setT is m) env) D σ H):tD K W env (ev c m env) σ H fun v H1=>tG K (.tup is) v σ H1 D.nx:=by
 simp only[x_6]at q
 refine pG q fun d env1 v H1 N Dv q1=>?_
 cases e2:bN (.tup is) d env1 with
 |none=>rw[e2]at q1;exact q1.2.elim
 |some env2=>
  rw[e2]at q1
  exact⟨env1,d,env2,q1.1,Dv,e2,fun σ' st=>q1.2 σ' H1 ⟨st.fD,fun i a z=>.inl (st.sub z),bU.refl _,fun _ _ z _=>z,fun _ z=>z,fun i xs e=>⟨⟨xs,(st.same i (st.bors i xs e)).1.trans e⟩,(st.same i (st.bors i xs e)).2⟩⟩⟩
theorem Ox{is:List Nat}{tg:Expr}(h:GE X W c m e)(hg:GG X (.tup is) tg)(hs:swapsWithSole [tg] e pos.line X.env=pure false)(hw:swappedStores [tg] e X.env=pure none)
  (h1:(assignEach [tg] X.env).map (·.2)=[assign tg X.env]):GS X W c (.setT is m) (.Assign [tg] e pos):=fun env=>
 PS.imp (Hx h.d hg hs hw h1) fun D σ H q=>⟨env,G7 q⟩
end
end Mini
end
section
namespace Mini
open PySem L2
theorem z8(env:Env):∀(names:List (Str×NameKind))(cs:List (Str×Addr)),(∀x∈names,x.2=.free->∃c,env.cells.lookup x.1=some c)->(∀x c,cs.lookup x=some c->env.cells.lookup x=some c)->
  ∃cl,(do
   let s<-forIn names cs (fun(x:Str×NameKind)cs=>match x with
    |(name,kind)=>if (kind==NameKind.free)=true then do
      let a<-cellOf env name
      pure (ForInStep.yield ((name,a)::cs))
     else pure (ForInStep.yield cs))
   pure s:Sem (List (Str×Addr)))=(pure cl:Sem _)/\
   (∀x c,cl.lookup x=some c->env.cells.lookup x=some c)/\(∀x,(x,NameKind.free)∈names->∃c,cl.lookup x=some c)/\∀x c,cs.lookup x=some c->∃c,cl.lookup x=some c:=by
 intro names
 induction names with
 |nil=>intro cs h1 h2;exact⟨cs,rfl,h2,by simp,fun x c e=>⟨c,e⟩⟩
 |cons p r ih=>
  intro cs h1 h2
  obtain⟨n,k⟩:=p
  by_cases hk:k=.free
  ·subst hk
   obtain⟨c,hc⟩:=h1 (n,.free) QYz rfl
   have q2:∀x d,((n,c)::cs).lookup x=some d->env.cells.lookup x=some d:=fun x d e=>by
    rw[List.lookup_cons]at e
    cases hx:x==n with
    |true=>rw[hx]at e;cases e;rw[eq_of_beq hx];exact hc
    |false=>rw[hx]at e;exact h2 x d e
   obtain⟨cl,e1,e2,e3,e4⟩:=ih ((n,c)::cs) (fun x hx=>h1 x (QYq _ hx)) q2
   have own:∃d,cl.lookup n=some d:=e4 n c (by simp[List.lookup_cons])
   refine⟨cl,?_,e2,fun x hx=>?_,fun x d e=>?_⟩
   ·rw[<-e1]
    have:cellOf env n=pure c:=by unfold cellOf;rw[hc]
    simp only[List.forIn_cons]
    rw[if_pos (show(NameKind.free==NameKind.free)=true from rfl),this]
    rfl
   ·rcases List.mem_cons.mp hx with z|z
    ·cases z;exact own
    ·exact e3 x z
   ·cases hx:x==n with
    |true=>rw[eq_of_beq hx];exact own
    |false=>exact e4 x d (by rw[List.lookup_cons,hx];exact e)
  ·obtain⟨cl,e1,e2,e3,e4⟩:=ih cs (fun x hx=>h1 x (QYq _ hx)) h2
   refine⟨cl,?_,e2,fun x hx=>?_,e4⟩
   ·rw[<-e1]
    simp only[List.forIn_cons]
    have hk':¬(k==NameKind.free)=true:=fun z=>hk (eq_of_beq z)
    rw[if_neg hk']
    rfl
   ·rcases List.mem_cons.mp hx with z|z
    ·cases z;exact absurd rfl hk
    ·exact e3 x z
theorem aeD{scope:Scope}{env:Env}(h:∀x∈scope.names,x.2=.free->∃c,env.cells.lookup x.1=some c):∃cl,K5 scope env cl:=by
 obtain⟨cl,e1,e2,e3,_⟩:=z8 env scope.names [] h (by simp)
 refine⟨cl,?_,e2,fun x hx=>e3 x (PySem.mem_of_lookup hx)⟩
 have q:closureFor scope env=(forIn scope.names [] (fun(x:Str×NameKind)cs=>match x with
    |(name,kind)=>if (kind==NameKind.free)=true then do
      let a<-cellOf env name
      pure (ForInStep.yield ((name,a)::cs))
     else pure (ForInStep.yield cs)):Sem (List (Str×Addr)))>>=pure:=rfl
 rw[q,e1]
 rfl
section
variable{X:Cx}{W:Wi}{c:Cf}{scope:Scope}{tgs:List Str}{tg:Tg}{it cond elt:E}{tgE iterE eltE:Expr}{ifs:List Expr}{pos spos py:Pos}
theorem CJ{nl:Nat}{env:Ev}{σ:St}{H:Hp}{K:QQq}{Q:VK}{R:It->Hp->Prop}
  (q:tM K W env (ev c (.comp nl tg it cond elt) env) σ H Q)
  (k:∀J H1 env1 xs ys τ,Nx K env σ H env1 H1->Gives K J xs H1->aO tg (ev c cond) (ev c elt) xs [] (List.replicate nl Sl.un++env1)=.ok ys τ->
   (∀v H2,Nx K env σ H (τ.drop nl) H2->gw K σ H H2 (.new (.lst ys)) v->Q v H2)->R J H1):tI K W env (ev c it env) σ H R:=by
 simp only[kJ]at q
 obtain⟨S,q⟩:=q
 refine⟨S,?_⟩
 cases r:ev c it env with
 |bad=>rw[r]at q;exact q
 |exc k env1=>rw[r]at q;exact q
 |ok x env1=>
  rw[r]at q
  have go:∀d,x.jo=some d->(match (match items d with
    |some xs=>match aO tg (ev c cond) (ev c elt) xs [] (List.replicate nl Sl.un++env1)with
     |.ok ys τ=>Out.ok (Rv.new (.lst ys)) (τ.drop nl)
     |_=>.bad
    |none=>.bad)with
   |.ok x env'=>∀v H',Nx K env σ H env' H'->gw K σ H H' x v->Q v H'
   |.exc c env'=>∀H',Nx K env σ H env' H'->W c env' σ H'
   |.bad=>False)->∃d xs,x.jo=some d/\items d=some xs/\∀J H',Nx K env σ H env1 H'->Gives K J xs H'->R J H':=fun d ed z=>by
   cases e1:items d with
   |none=>rw[e1]at z;exact z.elim
   |some xs=>
    rw[e1]at z
    simp only at z
    cases e2:aO tg (ev c cond) (ev c elt) xs [] (List.replicate nl Sl.un++env1)with
    |bad=>rw[e2]at z;exact z.elim
    |exc k τ=>rw[e2]at z;exact z.elim
    |ok ys τ=>
     rw[e2]at z
     exact⟨d,xs,ed,e1,fun J H1 N G=>k J H1 env1 xs ys τ N G e2 z⟩
  cases x with
  |val d=>exact go d rfl q
  |new o=>exact go o.d rfl q
  |ref i=>exact q.elim
  |tmp o=>exact q.elim
theorem Inv.letGo{QTz:QQz}{σ:St}{H:Hp}{s:Shared}{C:Addr}{h':Heap}(I:Inv X QTz σ H s)(f:gB X QTz H C)(hs:Heap.SameBut C s.heap h'):Inv X QTz σ H {s with heap:=h'}:=by
 exact I.turned (t':=s.toks) (fun b o hb e=>(hs.2 b hb).trans e) f.1 f.2.1 f.2.2.2.1 f.2.2.2.2.1 f.2.2.2.2.2
theorem FZ.cl{QTz:QQz}{σ:St}{H:Hp}{s:Shared}(sc:FZ X.env.scope scope tgs X.N)(I:Inv X QTz σ H s):∃cl,K5 scope X.env cl:=
 aeD fun x hx hf=>I.ok.has x.1 (sc.fre x hx hf)
theorem O3(B:yG X c scope tgs tg cond elt tgE eltE ifs)(hi:GI X W c it tgE iterE)(hc:X.calm=true)(hs:∀x,foldedSetIterable iterE X.env x=pure x):
  GE X W c (.comp tgs.length tg it cond elt) (.ListComp eltE [⟨tgE,iterE,ifs,0⟩] scope pos):=by
 intro env QTz s σ H Q I q
 obtain⟨cl,co⟩:=B.sc.cl I
 rw[eval_ListComp]
 refine wpAny_comprehension_free (use:=none) rfl hs co.eq B.sc.kind B.sc.locs (cB (hi env QTz s σ H _ I (CJ q (R:=fun J H1=>∃env1 xs ys τ,Nx X.K env σ H env1 H1/\Gives X.K J xs H1/\aO tg (ev c cond) (ev c elt) xs [] (List.replicate tgs.length Sl.un++env1)=.ok ys τ/\
  (∀v H2,Nx X.K env σ H (τ.drop tgs.length) H2->gw X.K σ H H2 (.new (.lst ys)) v->Q v H2)) fun J H1 env1 xs ys τ N G e z=>⟨env1,xs,ys,τ,N,G,e,z⟩)) fun v s1 h1=>cB h1 fun itv s2 h2=>?_)
 obtain⟨ita,fp,tn,J,H1,rfl,I1,T,t0,hf,env1,xs,ys,τ,N,G,e,z⟩:=h2
 refine uG (RR:=fun acc C=>compPost (model X.prog X.w) X.A X.xe none (EP X QTz σ Q) acc C) B hc co I1 N.fD T t0 hf G e fun D C s' H' vs m I' N' hD hl hn hC fC=>?_
 refine⟨m,hC,fun h' hs'=>⟨.ref D,H',Inv.letGo I' fC hs',rfl,z _ _ (N.trans N') ⟨D,rfl,⟨_,hD,vs,rfl,hl⟩,N.dom D hn⟩⟩⟩
theorem zQ{i:Nat}{x:Str}(B:yG X c scope tgs tg cond elt tgE eltE ifs)(hi:GI X W c it tgE iterE)(hc:X.calm=true)(hs:∀x,foldedSetIterable iterE X.env x=pure x)
  (hN:X.N.Nodup)(hx:X.N[i]? =some x)(hl:Loc X.env.scope x)(hf:X.fn x=true\/X.env.scope.names.lookup x=some .local)
  (hsw:swapsWith (.ListComp eltE [⟨tgE,iterE,ifs,0⟩] scope pos) (some (.Name x py)) spos.line X.env=pure true):
  GS X W c (.set i (.comp tgs.length tg it cond elt)) (.Assign [.Name x py] (.ListComp eltE [⟨tgE,iterE,ifs,0⟩] scope pos) spos):=by
 intro env QTz s σ H D I q
 have q:=Bc q
 obtain⟨cl,co⟩:=B.sc.cl I
 rw[exec_Assign_Name_used _ _ _ _ hsw]
 refine wpAny_bind (wpAny_standAt (wpAny_bind ?_))
 show wpAny _ _ (do let _<-comprehension (.ListComp eltE [⟨tgE,iterE,ifs,0⟩] scope pos) scope X.env _ (newList []) false (eval iterE X.env) (some (assign (.Name x py) X.env))) _ _ s
 refine wpAny_bind (wpAny_mono (wpAny_comprehension_free (use:=some (assign (.Name x py) X.env)) (Q:=fun _ s'=>SP X QTz D .next s') rfl hs co.eq B.sc.kind B.sc.locs
  (cB (hi env QTz s σ H _ I (CJ q (R:=fun J H1=>∃env1 xs ys τ,Nx X.K env σ H env1 H1/\Gives X.K J xs H1/\aO tg (ev c cond) (ev c elt) xs [] (List.replicate tgs.length Sl.un++env1)=.ok ys τ/\
  (∀v H2,Nx X.K env σ H (τ.drop tgs.length) H2->gw X.K σ H H2 (.new (.lst ys)) v->D.nx (σ.set i (some v)) H2)) fun J H1 env1 xs ys τ N G e z=>⟨env1,xs,ys,τ,N,G,e,z⟩)) fun v s1 h1=>cB h1 fun itv s2 h2=>?_))
  (fun _ s' hq=>wpAny_pure (wpAny_pure hq)) fun _ _ e=>e)
 obtain⟨ita,fp,tn,J,H1,rfl,I1,T,t0,hf',env1,xs,ys,τ,N,G,e,z⟩:=h2
 refine uG (RR:=fun acc C=>compPost (model X.prog X.w) X.A X.xe (some (assign (.Name x py) X.env)) (fun _ s'=>SP X QTz D .next s') acc C) B hc co I1 N.fD T t0 hf' G e fun A C s' H' vs m I' N' hD hl' hn hC fC=>?_
 show wpAny _ _ (assign (.Name x py) X.env (.ref A)) _ _ _
 refine wpAny_assign_Name (sX (v:=.ref A) I' hN hx hl rfl (fun s'' I''⟨a,ha,hor⟩=>?_) hf)
 have hCa:C≠a:=by
  rcases hor with rfl|hor
  ·exact fC.2.1
  ·exact fun z=>fC.2.2.2.2.1 x a hor z.symm
 refine⟨m,hC.sameBut ha hCa,fun h' hs'=>⟨_,H',Inv.letGo I'' fC hs',z _ _ (N.trans N') ⟨A,rfl,⟨_,hD,vs,rfl,hl'⟩,N.dom A hn⟩⟩⟩
end
end Mini
end
section
namespace Mini
open PySem L2
section
variable{K:QQq}{H:Hp}{a:Addr}{xs:List D}{vs:List V}
theorem Fj(hq:jl K H a vs)(l:aq K H xs vs)(hz:vs.length<=sizeLine):Gives K (Itt K a) xs H where
 go:=fun H1 p i d e=>by
  obtain⟨v,ev,_⟩:=l.get e
  exact⟨vs,v,p.Tc hq,ev⟩
 yld:=fun H1 p i d e x H2 y=>by
  obtain⟨rfl,y⟩:=y
  obtain⟨v,ev,dv⟩:=l.get e
  have:=y vs (p.Tc hq)
  rw[ev]at this
  cases this
  exact⟨dv.mono p,.inl rfl⟩
 stop:=fun H1 p i hi=>⟨vs,p.Tc hq,by rw[<-l.length];exact hi⟩
 len:=by rw[l.length];exact hz
theorem Fo(hq:K3 K H a vs)(l:aq K H xs vs)(hz:vs.length<=sizeLine):Gives K (Itl K a) xs H where
 go:=fun H1 p i d e=>by
  obtain⟨v,ev,_⟩:=l.get e
  exact⟨vs,v,(p.Ge hq).sq,ev⟩
 yld:=fun H1 p i d e x H2 y=>by
  obtain⟨rfl,y⟩:=y
  obtain⟨v,ev,dv⟩:=l.get e
  have:=y vs (p.Ge hq).sq
  rw[ev]at this
  cases this
  exact⟨dv.mono p,.inl rfl⟩
 stop:=fun H1 p i hi=>⟨vs,(p.Ge hq).sq,by rw[<-l.length];exact hi⟩
 len:=by rw[l.length];exact hz
def Its(x:Str):It:=⟨fun i _=>i<x.cps.size,fun i H v H'=>H'=H/\∃c,x.cps[i]? =some c/\v=.str ⟨#[c]⟩,fun i _=>x.cps.size<=i⟩
theorem signs_get{x:Str}{i:Nat}{d:D}(h:(signs x)[i]? =some d):∃c,x.cps[i]? =some c/\d=.str ⟨#[c]⟩:=by
 unfold signs at h
 rw[List.getElem?_map]at h
 cases e:x.cps.toList[i]? with
 |none=>rw[e]at h;cases h
 |some c=>rw[e]at h;cases h;exact⟨c,by simpa using e,rfl⟩
theorem mO(x:Str):(signs x).length=x.cps.size:=by simp[signs]
theorem uB{x:Str}(hz:x.cps.size<=sizeLine):Gives K (Its x) (signs x) H where
 go:=fun H1 p i d e=>by
  have:=(List.getElem?_eq_some_iff.mp e).1
  rw[mO]at this
  exact this
 yld:=fun H1 p i d e v H2 y=>by
  obtain⟨rfl,c,e1,rfl⟩:=y
  obtain⟨c',e2,rfl⟩:=signs_get e
  rw[e1]at e2
  cases e2
  exact⟨rfl,.inl rfl⟩
 stop:=fun H1 p i hi=>by rw[mO]at hi;exact hi
 len:=by rw[mO];exact hz
def Itk(a:Addr)(o:Obj)(kvs:List (Key×V)):It:=⟨fun i H=>H a=some (.frz o (.dK kvs))/\i<kvs.length,fun i H v H'=>H'=H/\∃k x,kvs[i]? =some (k,x)/\v=kV k,fun i H=>H a=some (.frz o (.dK kvs))/\kvs.length<=i⟩
theorem Oh(k:Key):bH K H (cI k) (kV k):=by cases k<;>rfl
theorem Fp{o:Obj}{kvs:List (Key×V)}(ha:H a=some (.frz o (.dK kvs)))(hz:kvs.length<=sizeLine):Gives K (Itk a o kvs) (kvs.map fun p=>cI p.1) H where
 go:=fun H1 p i d e=>by
  have:=(List.getElem?_eq_some_iff.mp e).1
  rw[List.length_map]at this
  exact⟨p.frzs _ _ _ ha,this⟩
 yld:=fun H1 p i d e v H2 y=>by
  obtain⟨rfl,k,x,e1,rfl⟩:=y
  rw[List.getElem?_map,e1]at e
  cases e
  exact⟨Oh k,.inl rfl⟩
 stop:=fun H1 p i hi=>by rw[List.length_map]at hi;exact⟨p.frzs _ _ _ ha,hi⟩
 len:=by rw[List.length_map];exact hz
end
section
variable{P:Program}{w:World}{K:QQq}{tg:Expr}
theorem wL(it:Addr)(x:Str)(t:Tok)(ty:String)(W:∀A':Around,A'.handled=none->Walks P w A' it [it] [it] x.cps.size (SignAt x) (fun i h=>h.IsStrIter it ty x t i))
  (hn:["enumerate","zip","dict_itemiterator","dict_reverseitemiterator","odict_iterator","itertools.zip_longest","itertools.pairwise"].contains ty=false)
  (hself:∀(A:Around)(i:Nat)(s:Shared)(Q:QZq)(E:QZq),s.heap.IsStrIter it ty x t i->Q (.ref it) s->wpAny (model P w) A (pyIter (.ref it)) Q E s):
  Turn P w K tg (Its x) [it] it (fun i h=>h.IsStrIter it ty x t i/\i<=x.cps.size) where
 mem:=by simp
 obj:=fun i h st b hb=>by
  have e:b=it:=by simpa using hb
  subst e
  obtain⟨⟨o,e,_,d⟩,_⟩:=st
  exact⟨o,e,fun v z=>by rw[d]at z;cases z⟩
 keep:=fun i h h' st k=>⟨let ⟨o,e,r⟩:=st.1;⟨o,k it (by simp) o e,r⟩,st.2⟩
 item:=by
  intro X hP hw hK hc i QTz s σ H E I hf st hg
  subst hP hw hK
  obtain⟨f0,f1,f2,f3,f4,f5⟩:=hf it (by simp)
  refine(W X.A (I.ok.hd hc)).item i s _ _ hg st.1 fun v h' tk hv st' kk=>?_
  obtain⟨c,t,hx,rfl⟩:=hv
  have I1:Inv X QTz σ H {s with heap:=h',toks:=tk}:=I.turned (fun b o hb e=>kk b o (by simpa using hb) e) f0 f1 f3 f4 f5
  obtain⟨o,e,cl,d⟩:=id st'
  exact⟨_,rfl,yg (s:={s with heap:=h',toks:=tk}) e cl d hn ⟨.str ⟨#[c]⟩,H,I1,⟨t,rfl⟩,⟨rfl,c,hx,rfl⟩,⟨st',hg⟩,fun b hb=>(hf b hb).1⟩⟩
 done:=by
  intro X hP hw hK hc i QTz s σ H E I hf st hg
  subst hP hw hK
  obtain⟨f0,f1,f2,f3,f4,f5⟩:=hf it (by simp)
  have e:i=x.cps.size:=Nat.le_antisymm st.2 hg
  subst e
  exact(W X.A (I.ok.hd hc)).done s _ _ st.1 fun h' tk kk=>⟨rfl,I.turned (fun b o hb e=>kk b o (by simpa using hb) e) f0 f1 f3 f4 f5⟩
 self:=fun A i s Q E st h=>hself A i s Q E st.1 h
theorem KV.at_{kvs:List (Key×V)}{vs:List (Key×Value)}(r:KV kvs vs):∀{i:Nat}{k:Key}{x:V},kvs[i]? =some (k,x)->∃u,vs[i]? =some (k,u):=by
 intro i k x e
 induction r generalizing i with
 |nil=>simp at e
 | @cons p q ps qs h t ih=>
  cases i with
  |zero=>
   simp at e
   subst e
   exact⟨q.2,by simp;rw[Prod.ext_iff];exact⟨h.1.symm,rfl⟩⟩
  |succ i=>exact ih (by simpa using e)
theorem uF{P:Program}{w:World}{h:Heap}{a:Addr}{o:Obj}{es:Array DictEntry}{ep:Nat}{vs:List (Key×Value)}(ho:h.get? a=some o)(hd:o.data=.dict es ep)(D:h.DictOf (bO P w) a vs):h.DictAt (bO P w) a vs ep:=by
 obtain⟨o',es',ep',e,x,d,r⟩:=D
 rw[ho]at e
 cases e
 rw[hd]at d
 cases d
 exact⟨o,es,ho,x,hd,r⟩
theorem Og{P:Program}{w:World}{k:Key}{v:Value}(h:(bO P w).is k v=true):RelV (kV k) v:=by
 rcases bV (k:=k) (v:=v) h with ⟨i,t,rfl,rfl⟩|⟨x,t,rfl,rfl⟩
 ·exact⟨t,rfl⟩
 ·exact⟨t,rfl⟩
theorem Gx(it a:Addr)(o:Obj)(es:Array DictEntry)(kvs:List (Key×V))(ep:Nat)(hep:o.data=.dict es ep):
  Turn P w K tg (Itk a o kvs) [it] it (fun i h=>h.IsKeyIter it a i kvs.length ep) where
 mem:=by simp
 obj:=fun i h st b hb=>by
  have e:b=it:=by simpa using hb
  subst e
  obtain⟨o,e,_,d⟩:=st
  exact⟨o,e,fun v z=>by rw[d]at z;cases z⟩
 keep:=fun i h h' st k=>st.at fun o e=>k it (by simp) o e
 item:=by
  intro X hP hw hK hc i QTz s σ H E I hf st hg
  subst hP hw hK
  obtain⟨f0,f1,f2,f3,f4,f5⟩:=hf it (by simp)
  obtain⟨ha,hi⟩:=hg
  obtain⟨ho,hz,_,vs,r,D⟩:=I.hok a _ ha
  have hl:kvs.length=vs.length:=Paired.length r
  obtain⟨⟨k,x⟩,hx⟩:∃p,kvs[i]? =some p:=⟨kvs[i],by simp[hi]⟩
  obtain⟨u,hu⟩:=KV.at_ r hx
  rw[hl]at st
  refine wpAny_pyNext_dict_item st (uF ho hep D) hu fun key h' hk st' sb=>?_
  have I1:Inv X QTz σ H {s with heap:=h'}:=I.turned (t':=s.toks) (fun b o hb e=>(sb.2 b hb).trans e) f0 f1 f3 f4 f5
  rw[<-hl]at st'
  obtain⟨oi,e,c,d⟩:=id st'
  exact⟨key,rfl,yg (s:={s with heap:=h'}) e c d (by decide) ⟨kV k,H,I1,Og hk,⟨rfl,k,x,hx,rfl⟩,st',fun b hb=>(hf b hb).1⟩⟩
 done:=by
  intro X hP hw hK hc i QTz s σ H E I hf st hg
  subst hP hw hK
  obtain⟨f0,f1,f2,f3,f4,f5⟩:=hf it (by simp)
  obtain⟨ha,hi⟩:=hg
  obtain⟨ho,hz,_,vs,r,D⟩:=I.hok a _ ha
  have hl:kvs.length=vs.length:=Paired.length r
  rw[hl]at st
  exact wpAny_pyNext_dict_end (I.ok.hd hc) st (uF ho hep D) (by simp;omega) fun h' eb=>⟨rfl,I.turned (t':=s.toks) (fun b o hb e=>eb b o hb e) f0 f1 f3 f4 f5⟩
 self:=fun A i s Q E st h=>wpAny_pyIter_keyiter st h
end
section
variable{X:Cx}{W:Wi}{c:Cf}{m:E}{tg e:Expr}
theorem Jm{QTz:QQz}{σ:St}{H:Hp}{s:Shared}{R:It->Hp->Prop}{d:D}{xs:List D}{v:V}{u:Value}(I:Inv X QTz σ H s)(rv:RelV v u)(hd:bH X.K H d v)(hi:items d=some xs)(q:∀J,Gives X.K J xs H->R J H):
  wpAny (model X.prog X.w) X.A (pyIter u) (PIE X QTz σ tg R) X.xe s:=by
 have fp:∀(s':Shared),s.heap.objs.size<=s'.heap.objs.size->True:=fun _ _=>trivial
 cases d with
 |tup ds=>
  cases hi
  obtain⟨a,vs,rfl,hq,l⟩:=cG hd
  cases rv
  obtain⟨its,r,p,hz⟩:=I.tuple hq
  refine wpAny_pyIter_tuple (show s.heap.IsTuple a its.toArray from p) ?_
  refine⟨s.heap.objs.size,[s.heap.objs.size],_,_,H,rfl,I.kept (t':=s.toks) fun b o e=>QXz _ e,yL a _,⟨_,Heap.get?_push_size _ rfl,rfl,rfl⟩,fun b hb=>?_,q _ (Fj hq l hz)⟩
  have e:b=s.heap.objs.size:=by simpa using hb
  subst e
  exact I.ym (QVq _) (I.hok.fresh (QVq _))
 |lst ds=>
  cases hi
  obtain⟨a,vs,rfl,hq,l⟩:=dF hd
  cases rv
  obtain⟨its,r,p,hz⟩:=I.list hq.sq
  refine wpAny_pyIter_list p.isList ?_
  refine⟨s.heap.objs.size,[s.heap.objs.size],_,_,H,rfl,I.kept (t':=s.toks) fun b o e=>QXz _ e,Di a _,⟨_,Heap.get?_push_size _ rfl,rfl,rfl⟩,fun b hb=>?_,q _ (Fo hq l hz)⟩
  have e:b=s.heap.objs.size:=by simpa using hb
  subst e
  exact I.ym (QVq _) (I.hok.fresh (QVq _))
 |str x=>
  simp only[items]at hi
  split at hi
  ·rename_i hf
   cases hi
   cases hd
   obtain⟨t,rfl⟩:=rv
   have hz:x.cps.size<=sizeLine:=fG hf
   have fin:∀b∈[s.heap.objs.size],gB X QTz H b:=fun b hb=>by
    have e:b=s.heap.objs.size:=by simpa using hb
    subst e
    exact I.ym (QVq _) (I.hok.fresh (QVq _))
   cases ha:x.cps.all (· <128)
   ·refine wpAny_pyIter_wide ha ?_
    exact⟨s.heap.objs.size,[s.heap.objs.size],_,_,H,rfl,I.kept (t':=s.toks) fun b o e=>QXz _ e,wL _ x t "str_iterator" (fun A' hA=>Walks.strWide hA _ x t) (by decide) (fun A i s Q E st h=>wpAny_pyIter_striter_wide st h),⟨⟨_,Heap.get?_push_size _ rfl,rfl,rfl⟩,Nat.zero_le _⟩,fin,q _ (uB hz)⟩
   ·refine wpAny_pyIter_ascii ha ?_
    exact⟨s.heap.objs.size,[s.heap.objs.size],_,_,H,rfl,I.kept (t':=s.toks) fun b o e=>QXz _ e,wL _ x t "str_ascii_iterator" (fun A' hA=>Walks.strAscii hA _ x t) (by decide) (fun A i s Q E st h=>wpAny_pyIter_striter_ascii st h),⟨⟨_,Heap.get?_push_size _ rfl,rfl,rfl⟩,Nat.zero_le _⟩,fin,q _ (uB hz)⟩
  ·cases hi
 |cC ks ds=>
  cases hi
  unfold bH at hd
  obtain⟨a,o,kvs,rfl,ha,rfl,l⟩:=hd
  cases rv
  obtain⟨ho,hz,hS,vs,r,D⟩:=I.hok a _ ha
  have hl:kvs.length=vs.length:=Paired.length r
  obtain⟨ep,o',es,e1,e2,e3,e4⟩:=D.dictAt
  rw[ho]at e1
  cases e1
  refine wpAny_pyIter_dict hS ⟨o,es,ho,e2,e3,e4⟩ ?_
  rw[<-hl]
  refine⟨s.heap.objs.size,[s.heap.objs.size],_,_,H,rfl,I.kept (t':=s.toks) fun b o e=>QXz _ e,Gx _ a o es kvs ep e3,⟨_,Heap.get?_push_size _ rfl,rfl,rfl⟩,fun b hb=>?_,q _ (Fp ha hz)⟩
  have e:b=s.heap.objs.size:=by simpa using hb
  subst e
  exact I.ym (QVq _) (I.hok.fresh (QVq _))
 |_=>cases hi
theorem aaE(h:GE X W c m e):GI X W c m tg e:=by
 intro env QTz s σ H R I q
 refine cB (h.d QTz s σ H (fun v H'=>∃d xs,bH X.K H' d v/\items d=some xs/\∀J,Gives X.K J xs H'->R J H') I ⟨env,q.1,?_⟩) fun u s1⟨v,H1,I1,r1,d,xs,hd,hi,q1⟩=>Jm I1 r1 hd hi q1
 have q2:=q.2
 cases r:ev c m env with
 |bad=>rw[r]at q2;exact q2
 |exc k env1=>rw[r]at q2;exact q2
 |ok x env1=>
  rw[r]at q2
  obtain⟨d,xs,ed,ei,q3⟩:=q2
  cases x with
  |val d'=>cases ed;exact fun v H' N Dv=>⟨d,xs,Dv,ei,fun J G=>q3 J H' N G⟩
  |new o=>cases ed;exact fun v H' N Dv=>⟨o.d,xs,Dv,ei,fun J G=>q3 J H' N G⟩
  |ref i=>cases ed
  |tmp o=>cases ed
end
end Mini
end
section
namespace Mini
open PySem L2
def Yb:Ty->String
 |.tup=>"tuple"
 |.lst=>"list"
 |.str=>"str"
 |.bool=>"bool"
 |.int=>"int"
 |.cC=>"dict"
section
variable{X:Cx}{W:Wi}{c:Cf}{m m1 m2:E}{a b e:Expr}{pos p p':Pos}
def adI(K:QQq):List V->Hp->VK->Prop:=fun xs H Q=>∃d v t,xs=[v,.ty (Yb t)]/\bH K H d v/\Q (.bl (iz t d)) H
theorem Kc:fK X (.builtin "isinstance") (adI X.K):=by
 intro QTz s σ H xs us Q I r h
 obtain⟨d,v,t,rfl,hd,q⟩:=h
 obtain⟨u,u',rfl,ru,rt⟩:=Vals.two r
 cases rt
 have fin:∀k,Q (.bl k) H->EP X QTz σ Q (.bool k) {s with toks:=s.toks+1}:=fun k z=>⟨.bl k,H,I.tok _,rfl,z⟩
 have fin0:∀k,Q (.bl k) H->EP X QTz σ Q (.bool k) s:=fun k z=>⟨.bl k,H,I,rfl,z⟩
 cases d with
 |non=>
  cases hd;cases ru
  cases t with
  |tup=>exact IsiPair.NoneType_tuple (fin _ q)
  |lst=>exact IsiPair.NoneType_list (fin _ q)
  |str=>exact IsiPair.NoneType_str (fin _ q)
  |bool=>exact IsiPair.NoneType_bool (fin _ q)
  |int=>exact IsiPair.NoneType_int (fin _ q)
  |cC=>exact IsiPair.NoneType_dict (fin _ q)
 |bl k=>
  cases hd;cases ru
  cases t with
  |tup=>exact IsiPair.bool_tuple (fin _ q)
  |lst=>exact IsiPair.bool_list (fin _ q)
  |str=>exact IsiPair.bool_str (fin _ q)
  |bool=>exact IsiPair.bool_bool (fin0 _ q)
  |int=>exact IsiPair.bool_int (fin0 _ q)
  |cC=>exact IsiPair.bool_dict (fin _ q)
 |int k=>
  cases hd;obtain⟨tk,rfl⟩:=ru
  cases t with
  |tup=>exact IsiPair.int_tuple (fin _ q)
  |lst=>exact IsiPair.int_list (fin _ q)
  |str=>exact IsiPair.int_str (fin _ q)
  |bool=>exact IsiPair.int_bool (fin _ q)
  |int=>exact IsiPair.int_int (fin0 _ q)
  |cC=>exact IsiPair.int_dict (fin _ q)
 |str k=>
  cases hd;obtain⟨tk,rfl⟩:=ru
  cases t with
  |tup=>exact IsiPair.str_tuple (fin _ q)
  |lst=>exact IsiPair.str_list (fin _ q)
  |str=>exact IsiPair.str_str (fin0 _ q)
  |bool=>exact IsiPair.str_bool (fin _ q)
  |int=>exact IsiPair.str_int (fin _ q)
  |cC=>exact IsiPair.str_dict (fin _ q)
 |tup ds=>
  obtain⟨a,vs,rfl,hq,_⟩:=cG hd
  cases ru
  obtain⟨its,_,⟨o,e,cl,_⟩,_⟩:=I.tuple hq
  cases t with
  |tup=>exact IsiPair.tuple_tuple e cl (fin0 _ q)
  |lst=>exact IsiPair.tuple_list e cl (fin _ q)
  |str=>exact IsiPair.tuple_str e cl (fin _ q)
  |bool=>exact IsiPair.tuple_bool e cl (fin _ q)
  |int=>exact IsiPair.tuple_int e cl (fin _ q)
  |cC=>exact IsiPair.tuple_dict e cl (fin _ q)
 |lst ds=>
  obtain⟨a,vs,rfl,hq,_⟩:=dF hd
  cases ru
  obtain⟨its,_,⟨o,n,e,cl,_⟩,_⟩:=I.list hq.sq
  cases t with
  |tup=>exact IsiPair.list_tuple e cl (fin _ q)
  |lst=>exact IsiPair.list_list e cl (fin0 _ q)
  |str=>exact IsiPair.list_str e cl (fin _ q)
  |bool=>exact IsiPair.list_bool e cl (fin _ q)
  |int=>exact IsiPair.list_int e cl (fin _ q)
  |cC=>exact IsiPair.list_dict e cl (fin _ q)
 |cC ks ds=>
  unfold bH at hd
  obtain⟨a,o,kvs,rfl,ha,_⟩:=hd
  cases ru
  obtain⟨e,_,_,_,_,o',_,_,e',ex,_⟩:=I.hok a _ ha
  rw[e]at e'
  cases e'
  have cl:=ex.1
  cases t with
  |tup=>exact IsiPair.dict_tuple e cl (fin _ q)
  |lst=>exact IsiPair.dict_list e cl (fin _ q)
  |str=>exact IsiPair.dict_str e cl (fin _ q)
  |bool=>exact IsiPair.dict_bool e cl (fin _ q)
  |int=>exact IsiPair.dict_int e cl (fin _ q)
  |cC=>exact IsiPair.dict_dict e cl (fin0 _ q)
theorem VG{t:Ty}{x:Str}(ha:GE X W c m a)(hx:x=Str.ofString (Yb t))(hg:Gl X x)(hm:X.mg x=none)(hi:Gl X "isinstance")(hmi:X.mg "isinstance"=none)
  (hs:starEach [a,.Name x p'] X.env=(false,eval a X.env)::starEach [.Name x p'] X.env):
  GE X W c (.isi m t) (.Call (.Name "isinstance" p) [a,.Name x p'] [] pos):=by
 intro env
 have hv:bootBuiltins x=some (.type (Yb t)):=by subst hx;cases t<;>kernel_rfl
 have hn:x≠"__name__":=by subst hx;cases t<;>decide+kernel
 have hd:(x==("__debug__":Str))=false:=by subst hx;cases t<;>decide+kernel
 have N:PE X (.Name x p') (tC (.ty (Yb t))):=Bq hg hm hv rfl hn hd
 refine PE.imp (jB Kc hi hmi (by kernel_rfl) (bI ha.d (bI N dg rfl) hs) (by decide+kernel) (by decide+kernel) hs rfl) fun σ H Q q=>?_
 simp only[Lr]at q
 exact⟨env,aN q fun d env1 v H1 N1 D1 q1=>⟨d,v,t,rfl,D1,dU q1 rfl⟩⟩
end
end Mini
end
section
namespace Mini
open PySem L2
def oV(X:Cx)(r:List V->Hp->VK->Prop)(f:D->Option Rv):Prop:=
 ∀(env:Ev)(σ:St)(H:Hp)(x:D)(z:Rv)(v:V)(Q:VK),Sat X.K env σ H->dM X.K H x v->f x=some z->(∀w H',Nx X.K env σ H env H'->gw X.K σ H H' z w->Q w H')->r [v] H Q
section
variable{X:Cx}{W:Wi}{c:Cf}{m m1 m2:E}{a b e:Expr}{pos p p':Pos}
theorem Kl{bb:Bi}{r:List V->Hp->VK->Prop}(R:oV X r (b1 bb)){env:Ev}{σ:St}{H:Hp}{Q:VK}(hv:m.az=none)(q:tM X.K W env (ev c (.bi bb m) env) σ H Q):aD X W c m σ H fun v H1=>r [v] H1 Q:=by
 simp only[mJ,hv]at q
 refine⟨env,aN q fun d env1 v H1 N1 D1 q1=>?_⟩
 obtain⟨z,ez,S,q3⟩:=cF q1
 exact R env1 σ H1 d z v Q S (.inl D1) ez q3
theorem CT{bb:Bi}{r:List V->Hp->VK->Prop}(R:oV X r (b1 bb)){env:Ev}{σ:St}{H:Hp}{Q:VK}{k:Nat}(hv:m.az=some k)(q:tM X.K W env (ev c (.bi bb m) env) σ H Q):Dl k σ H fun v H1=>r [v] H1 Q:=by
 simp only[mJ,hv]at q
 obtain⟨z,ez,S,q3⟩:=cF q
 cases e0:aW k env with
 |none=>rw[e0]at ez;cases ez
 |some d0=>
  rw[e0]at ez
  obtain⟨u,eu,Du⟩:=gb S e0
  exact⟨u,eu,R env σ H d0 z u Q S Du ez q3⟩
theorem vV{bb:Bi}{id:String}{x:Str}{r:List V->Hp->VK->Prop}(C:fK X (.builtin id) r)(R:oV X r (b1 bb))(ha:GE X W c m a)(hv:∀k,m.az=some k->∃x p,a=.Name x p/\gA X k x)
  (hg:Gl X x)(hm:X.mg x=none)(hb:bootBuiltins x=some (.builtin id))(hn:x≠"__name__")(hd:(x==("__debug__":Str))=false)(hs:starEach [a] X.env=[(false,eval a X.env)]):
  GE X W c (.bi bb m) (.Call (.Name x p) [a] [] pos):=by
 intro env
 cases q:m.az with
 |none=>exact PE.imp (jB C hg hm hb (bI ha.d dg hs) hn hd hs rfl) fun σ H Q h=>Kl R q h
 |some k=>
  obtain⟨y,p',rfl,nm⟩:=hv k q
  exact PE.imp (jB C hg hm hb (bI nm.pe dg hs) hn hd hs rfl) fun σ H Q h=>CT R q h
theorem zV{bb:Bi}{id:String}{x:Str}{r:List V->Hp->VK->Prop}(C:fK X (.type id) r)(R:oV X r (b1 bb))(ha:GE X W c m a)(hv:∀k,m.az=some k->∃x p,a=.Name x p/\gA X k x)
  (hg:Gl X x)(hm:X.mg x=none)(hb:bootBuiltins x=some (.type id))(hn:x≠"__name__")(hd:(x==("__debug__":Str))=false)(hs:starEach [a] X.env=[(false,eval a X.env)]):
  GE X W c (.bi bb m) (.Call (.Name x p) [a] [] pos):=by
 intro env
 cases q:m.az with
 |none=>exact PE.imp (jN C hg hm hb (bI ha.d dg hs) hn hd hs rfl) fun σ H Q h=>Kl R q h
 |some k=>
  obtain⟨y,p',rfl,nm⟩:=hv k q
  exact PE.imp (jN C hg hm hb (bI nm.pe dg hs) hn hd hs rfl) fun σ H Q h=>CT R q h
theorem dM.seq{K:QQq}{H:Hp}{d:D}{xs:List D}{v:V}(h:dM K H d v)(e:bj d=some xs):∃a vs,v=.ref a/\(jK K H a vs\/jl K H a vs)/\aq K H xs vs:=by
 cases d with
 |tup ys=>cases e;exact h.Mm
 |lst ys=>cases e;exact h.G9
 |_=>cases e
theorem dM.cC{K:QQq}{H:Hp}{ks ds:List D}{v:V}(h:dM K H (.cC ks ds) v):∃a kvs,v=.ref a/\Rd H a (.dK kvs)/\ks=kvs.map (fun p=>cI p.1)/\aq K H ds (kvs.map (·.2)):=by
 rcases h with h|⟨o,a,q,rfl,u,ha,hq⟩
 ·unfold bH at h
  obtain⟨a,o,kvs,rfl,ha,k,l⟩:=h
  exact⟨a,kvs,rfl,.inr ⟨o,ha⟩,k,l⟩
 ·cases o<;>cases q
  obtain⟨kvs,rfl,k,l⟩:=hq
  exact⟨a,kvs,rfl,.inl ha,k,l⟩
def Tz(K:QQq):List V->Hp->VK->Prop:=fun xs H Q=>(∃x n,xs=[x]/\Wm K x H n/\Q (.int n) H)\/∃a kvs,xs=[.ref a]/\Rd H a (.dK kvs)/\Q (.int kvs.length) H
theorem Fz:fK X (.builtin "len") (Tz X.K):=by
 intro QTz s σ H xs us Q I r h
 rcases h with h|⟨a,kvs,rfl,e,q⟩
 ·exact J9 QTz s σ H xs us Q I r h
 ·obtain⟨u,rfl,ru⟩:=vals1 r
  cases ru
  exact aaR I e fun t s' I'=>⟨.int kvs.length,H,I',⟨t,rfl⟩,q⟩
theorem Mx:oV X (Tz X.K) (b1 .len):=by
 intro env σ H x z v Q S Dx e q
 have go:∀(n:Nat),Ep x=some n->Wm X.K v H n->Tz X.K [v] H Q:=fun n en ln=>by
  simp only[b1,en]at e
  cases e
  exact .inl ⟨v,n,rfl,ln,q _ H (Nx.refl S) rfl⟩
 cases x with
 |tup xs=>
  obtain⟨a,vs,rfl,hq,l⟩:=Dx.Mm
  refine go xs.length rfl ?_
  rcases hq with hq|hq
  ·exact .inl ⟨vs,hq,l.length⟩
  ·exact .inr ⟨vs,hq,l.length⟩
 |lst xs=>
  obtain⟨a,vs,rfl,hq,l⟩:=Dx.G9
  refine go xs.length rfl ?_
  rcases hq with hq|hq
  ·exact .inl ⟨vs,hq,l.length⟩
  ·exact .inr ⟨vs,hq,l.length⟩
 |str y=>
  have:=Dx.str
  subst this
  by_cases hf:fits y.length=true
  ·exact go y.length (by simp[Ep,hf]) ⟨fG hf,rfl⟩
  ·simp[b1,Ep,hf]at e
 |cC ks ds=>
  cases e
  obtain⟨a,kvs,rfl,hr,hk,l⟩:=Dx.cC
  have e2:ks.length=kvs.length:=by rw[hk,List.length_map]
  exact .inr ⟨a,kvs,rfl,hr,by rw[<-e2];exact q _ H (Nx.refl S) rfl⟩
 |_=>cases e
theorem My:oV X (fun xs H Q=>(∃i,xs=[.int i]/\Q (.int i) H)\/∃k,xs=[.bl k]/\Q (.int (if k then 1 else 0)) H) (b1 .int):=by
 intro env σ H x z v Q S Dx e q
 cases x with
 |int i=>
  cases e
  have:=Dx.int
  subst this
  exact .inl ⟨i,rfl,q _ H (Nx.refl S) rfl⟩
 |bl k=>
  cases e
  rcases Dx with h|⟨o,a,q',_⟩
  ·cases h
   exact .inr ⟨k,rfl,q _ H (Nx.refl S) (by cases k<;>rfl)⟩
  ·cases o<;>cases q'
 |_=>cases e
theorem Dz:oV X (fun xs H Q=>∃p ys,xs=[.ref p]/\((jK X.K H p ys/\∀l,H l=none->Q (.ref l) (upd H l (.tup ys)))\/(jl X.K H p ys/\Q (.ref p) H))) (b1 .tuple):=by
 intro env σ H x z v Q S Dx e q
 simp only[b1]at e
 cases es:bj x with
 |none=>rw[es]at e;cases e
 |some xs=>
  rw[es]at e
  cases e
  obtain⟨a,vs,rfl,hq,l⟩:=Dx.seq es
  refine⟨a,vs,rfl,?_⟩
  rcases hq with hq|hq
  ·refine .inl ⟨hq,fun p hp=>?_⟩
   have N:=Nx.laid (o:=.tup vs) S hp
   exact q _ _ N (dZ (.inl (.inl aQ)) (l.mono N.pers))
  ·exact .inr ⟨hq,q _ H (Nx.refl S) (dZ hq l)⟩
theorem Hg:oV X (fun xs H Q=>∃p ys,xs=[.ref p]/\(jK X.K H p ys\/jl X.K H p ys)/\∀l,H l=none->Q (.ref l) (upd H l (.lst ys))) (b1 .list):=by
 intro env σ H x z v Q S Dx e q
 simp only[b1]at e
 cases es:bj x with
 |none=>rw[es]at e;cases e
 |some xs=>
  rw[es]at e
  cases e
  obtain⟨a,vs,rfl,hq,l⟩:=Dx.seq es
  exact⟨a,vs,rfl,hq,fun p hp=>q _ _ (Nx.laid S hp) (lO S l hp)⟩
theorem BoolsAre.get{vs:List Value}{bs:List Bool}(h:BoolsAre vs bs):∀{i:Nat}{v:Value},vs[i]? =some v->∃b,bs[i]? =some b/\v=.bool b:=by
 induction h with
 |nil=>intro i v e;simp at e
 |cons b t ih=>
  intro i v e
  cases i with
  |zero=>simp at e;subst e;exact⟨b,rfl,rfl⟩
  |succ i=>exact ih (by simpa using e)
theorem range_all(bs:List Bool):((List.range bs.length).all fun i=>bs.getD i false)=bs.all id:=by
 rw[Bool.eq_iff_iff]
 simp only[List.all_eq_true,List.mem_range,id]
 constructor
 ·intro h b hb
  obtain⟨i,hi,e⟩:=List.mem_iff_getElem.mp hb
  have:=h i hi
  rw[List.getD_eq_getElem?_getD,QXq hi]at this
  simpa[e]using this
 ·intro h i hi
  rw[List.getD_eq_getElem?_getD,QXq hi]
  exact h _ (List.getElem_mem hi)
theorem range_any(bs:List Bool):((List.range bs.length).any fun i=>bs.getD i false)=bs.any id:=by
 rw[Bool.eq_iff_iff]
 simp only[List.any_eq_true,List.mem_range,id]
 constructor
 ·rintro ⟨i,hi,h⟩
  rw[List.getD_eq_getElem?_getD,QXq hi]at h
  exact⟨bs[i],List.getElem_mem hi,by simpa using h⟩
 ·rintro ⟨b,hb,h⟩
  obtain⟨i,hi,e⟩:=List.mem_iff_getElem.mp hb
  exact⟨i,hi,by rw[List.getD_eq_getElem?_getD,QXq hi];simpa[e]using h⟩
def WY(K:QQq)(f:List Bool->Bool):List V->Hp->VK->Prop:=fun xs H Q=>∃p vs ds bs,xs=[.ref p]/\(jK K H p vs\/jl K H p vs)/\aq K H ds vs/\bools ds=some bs/\Q (.bl (f bs)) H
theorem nO{P:Program}{w:World}{A:Around}{its:List Value}{bs:List Bool}(hb:BoolsAre its bs):TruthOf P w A (fun i v=>its.toArray[i]? =some v) fun i=>bs.getD i false:=by
 intro i v s Q E hv h
 obtain⟨b,e,rfl⟩:=hb.get (i:=i) (v:=v) (by simpa using hv)
 have h:Q (bs.getD i false) s:=h
 rw[List.getD_eq_getElem?_getD,e]at h
 exact wpAny_truthy_bool h
theorem qT{id:String}{f:List Bool->Bool}{g:Nat->(Nat->Bool)->Bool}(hc:X.calm=true)(hg:∀bs:List Bool,g bs.length (fun i=>bs.getD i false)=f bs)
  (hcall:∀{E:QZq}{s:Shared}{x:Value}{Q:QZq},
   wpAny (model X.prog X.w) X.A.in1 (pyIter x) (fun it s₂=>∃I fp wr n P St tr,it=.ref I/\Walks X.prog X.w X.A.in1 I fp wr n P St/\St 0 s₂.heap/\TruthOf X.prog X.w X.A.in1 P tr/\
    ∀h' tk,(∀b o,b∉wr->s₂.heap.get? b=some o->h'.get? b=some o)->Q (.bool (g n tr)) {s₂ with heap:=h',toks:=tk}) E s->wpAny (model X.prog X.w) X.A (call (.builtin id) [x]) Q E s):
  fK X (.builtin id) (WY X.K f):=by
 intro QTz s σ H xs us Q I r h
 obtain⟨a,vs,ds,bs,rfl,hq,l,hb,q⟩:=h
 obtain⟨u,rfl,ru⟩:=Vals.one r
 cases ru
 have hh:X.A.in1.handled=none:=I.ok.hd hc
 refine hcall ?_
 have fin:∀(its:List Value)(o:Obj),Vals vs its->∀h' tk,(∀b o',b∉[s.heap.objs.size]->(s.heap.push o).get? b=some o'->h'.get? b=some o')->EP X QTz σ Q (.bool (g its.toArray.size fun i=>bs.getD i false)) {s with heap:=h',toks:=tk}:=fun its o rv h' tk k=>by
  have hl:its.toArray.size=bs.length:=by
   have:=(fV hb l rv).length
   simpa using this
  rw[hl,hg]
  refine⟨.bl (f bs),H,I.kept fun b o' e=>k b o' ?_ (QXz _ e),rfl,q⟩
  simp only[List.mem_singleton]
  exact Nat.ne_of_lt (Heap.lt_size e)
 rcases hq with hq|hq
 ·obtain⟨its,rv,p,hz⟩:=I.list hq
  have hlt:a≠s.heap.objs.size:=by
   obtain⟨o,n,e,_⟩:=p
   exact Nat.ne_of_lt (Heap.lt_size e)
  refine wpAny_pyIter_list p.isList ⟨s.heap.objs.size,[s.heap.objs.size,a],[s.heap.objs.size],its.toArray.size,_,_,_,rfl,Walks.list hh _ a hlt its.toArray,⟨⟨_,Heap.get?_push_size _ rfl,rfl,rfl⟩,p.isList.at fun o e=>QXz _ e⟩,nO (fV hb l rv),fin its _ rv⟩
 ·obtain⟨its,rv,p,hz⟩:=I.tuple hq
  have hlt:a≠s.heap.objs.size:=by
   obtain⟨o,e,_⟩:=p
   exact Nat.ne_of_lt (Heap.lt_size e)
  have p':s.heap.IsTuple a its.toArray:=p
  refine wpAny_pyIter_tuple p' ⟨s.heap.objs.size,[s.heap.objs.size,a],[s.heap.objs.size],its.toArray.size,_,_,_,rfl,Walks.tuple hh _ a hlt its.toArray,⟨⟨_,Heap.get?_push_size _ rfl,rfl,rfl⟩,p'.at fun o e=>QXz _ e⟩,nO (fV hb l rv),fin its _ rv⟩
theorem FQ(hc:X.calm=true):fK X (.builtin "all") (WY X.K (·.all id)):=qT (g:=fun n tr=>(List.range n).all tr) hc range_all call_all_walk
theorem FP(hc:X.calm=true):fK X (.builtin "any") (WY X.K (·.any id)):=qT (g:=fun n tr=>(List.range n).any tr) hc range_any call_any_walk
theorem tH{bb:Bi}{f:List Bool->Bool}(hb:∀xs,Rz bb xs=(bools xs).map fun bs=>.val (.bl (f bs)))(h1:∀x,b1 bb x=(bj x).bind (Rz bb)):oV X (WY X.K f) (b1 bb):=by
 intro env σ H x z v Q S Dx e q
 rw[h1]at e
 cases es:bj x with
 |none=>rw[es]at e;cases e
 |some xs=>
  rw[es]at e
  simp only[Option.bind,hb]at e
  cases eb:bools xs with
  |none=>rw[eb]at e;cases e
  |some bs=>
   rw[eb]at e
   cases e
   obtain⟨a,vs,rfl,hq,l⟩:=Dx.seq es
   exact⟨a,vs,xs,bs,rfl,hq,l,eb,q _ H (Nx.refl S) rfl⟩
theorem MF:oV X (WY X.K (·.all id)) (b1 .all):=tH (fun _=>rfl) fun _=>rfl
theorem Mz:oV X (WY X.K (·.any id)) (b1 .any):=tH (fun _=>rfl) fun _=>rfl
end
end Mini
end
section
namespace HT
open PySem PySem.Spec PyProof.Rows
section
variable{prog:Program}{w:World}{A:Around}{E:QZq}{s:Shared}
theorem j0{t sl:Addr}{items:Array Value}{vl vu:Value}{lo hi:Option Int}{Q:QZq}(ht:IsTup s.heap t items)(hs:s.heap.IsSliceOf sl vl vu .none)(pl:IsPart vl lo)(pu:IsPart vu hi)
  (hw:cY items.size 0 lo=0/\cY items.size items.size hi=items.size)(h:Q (.ref t) s):wpAny (model prog w) A (getItem (.ref t) (.ref sl)) Q E s:=by
 obtain⟨os,hos,hcs,hds⟩:=id hs
 have hTs:s.TypeIs (.ref sl) "slice":=⟨os,hos,hcs⟩
 unfold getItem
 try with_reducible refine wpAny_holding ?_
 first|refine wpAny_bind (wpAny_pure ?_)|skip
 refine wpAny_bind (wpAny_sequenceKey ht.typeIs (by decide) ?_)
 refine wpAny_bind (wpAny_callSpecial?_slot (name:=Str.ofString "__getitem__") ht.typeIs PyProof.Rows.slot_tuple_getitem
  (wpAny_call_entry PyProof.Rows.slot_tuple_getitem ht.typeIs entry_tuple_getitem ?_ (args_tuple_getitem _ _)))
 show wpAny _ _ (Builtin.Tuple.tupleItemsOf (.ref t)>>=_) _ _ s
 refine wpAny_bind (tupleItemsOf_ ht ?_)
 refine wpAny_bind (wpAny_typeOf hTs ?_)
 rw[if_pos (by decide)]
 refine wpAny_bind (ie hs pl pu ?_)
 have hno:((((cY items.size 0 lo:Nat):Int)==0&&(1:Int)==1&&(cY items.size items.size hi-cY items.size 0 lo)==items.size)=true):=by
  rw[hw.1,hw.2];simp
 show wpAny _ _ (if (((cY items.size 0 lo:Nat):Int)==0&&(1:Int)==1&&(cY items.size items.size hi-cY items.size 0 lo)==items.size)=true then _ else _) _ _ s
 rw[if_pos hno]
 refine wpAny_bind ?_
 unfold Builtin.Tuple.tupleIsExact
 refine wpAny_bind (wpAny_typeOf ht.typeIs (wpAny_pure ?_))
 rw[if_pos (by decide)]
 exact wpAny_bind (wpAny_rule (wpAny_pure ⟨_,rfl,wpAny_pure h⟩))
end
end HT
namespace Mini
open PySem L2
section
variable{X:Cx}{W:Wi}{c:Cf}{m m1 m2 m3:E}{a b e:Expr}{pos p p2:Pos}
def QJ(K:QQq):V->Option Int->Option Int->Hp->VK->Prop:=fun x lo hi H Q=>∃a xs,x=.ref a/\jl K H a xs/\
 (HT.cY xs.length 0 lo=0/\HT.cY xs.length xs.length hi=xs.length)/\Q (.ref a) H
theorem Mg:PX X (QJ X.K):=by
 intro QTz s σ H x v vl vu lo hi sl Q I rx hs pl pu h
 obtain⟨a,xs,rfl,hx,hw,q⟩:=h
 cases rx
 obtain⟨its,r,ht,hz⟩:=I.tuple hx
 have hlen:its.toArray.size=xs.length:=by rw[List.size_toArray];exact r.length.symm
 exact⟨"tuple",_,PyProof.Rows.slot_tuple_getitem.lookup,ht.typeIs,HT.j0 ht hs pl pu (by rw[hlen];exact hw) ⟨.ref a,H,I,rfl,q⟩⟩
def Zi(K:QQq):V->Option Int->Option Int->Hp->VK->Prop:=fun x lo hi H Q=>Zg K x lo hi H Q\/QJ K x lo hi H Q\/Zh K x lo hi H Q
theorem Tf:PX X (Zi X.K):=Te.or (Mg.or Mh)
theorem o6(n:Nat)(i:Int)(d:Nat):clip n i=HT.cY n d (some i):=by
 unfold clip HT.cY
 dsimp only
 by_cases h:i<0
 ·rw[if_pos h,if_pos h]
  split
  ·omega
  ·split<;>omega
 ·rw[if_neg h,if_neg h,if_neg h]
  split<;>omega
theorem V4{α:Type}(xs:List α)(a b:Nat):(xs.take b).drop a=(xs.drop a).take (b-a):=by
 rw[List.drop_take]
theorem v8{K:QQq}{H:Hp}{ds:List D}{vs:List V}(l:aq K H ds vs)(lo hi:Option Int):aq K H (cut ds lo hi) (qP vs lo hi):=by
 have hl:=l.length
 unfold cut qP
 dsimp only
 rw[V4]
 cases lo with
 |none=>
  cases hi with
  |none=>rw[HT.lF,HT.lF,<-hl];exact(l.drop _).take _
  |some j=>rw[HT.lF,<-hl,<-o6];exact(l.drop _).take _
 |some i=>
  cases hi with
  |none=>rw[HT.lF,<-hl,<-o6];exact(l.drop _).take _
  |some j=>rw[<-hl,<-o6,<-o6];exact(l.drop _).take _
theorem Fy{vs:List V}{lo hi:Option Int}(h:HT.cY vs.length 0 lo=0/\HT.cY vs.length vs.length hi=vs.length):qP vs lo hi=vs:=by
 unfold qP
 rw[h.1,h.2]
 simp
theorem yR{K:QQq}{env:Ev}{σ:St}{H:Hp}{d:D}{z:Rv}{v:V}{lo hi:Option Int}{Q:VK}(S:Sat K env σ H)(D1:bH K H d v)(e:fX d lo hi=some z)(q:∀w H',Nx K env σ H env H'->gw K σ H H' z w->Q w H'):Zi K v lo hi H Q:=by
 cases d with
 |tup xs=>
  cases e
  obtain⟨a,vs,rfl,hq,l⟩:=cG D1
  by_cases hw:HT.cY vs.length 0 lo=0/\HT.cY vs.length vs.length hi=vs.length
  ·refine .inr (.inl ⟨a,vs,rfl,hq,hw,q _ H (Nx.refl S) ?_⟩)
   have:=v8 l lo hi
   rw[Fy hw]at this
   exact dZ hq this
  ·refine .inl ⟨a,vs,rfl,hq,hw,fun p hp=>?_⟩
   have N:=Nx.laid (o:=.tup (qP vs lo hi)) S hp
   exact q _ _ N (dZ (.inl (.inl aQ)) ((v8 l lo hi).mono N.pers))
 |lst xs=>
  cases e
  obtain⟨a,vs,rfl,hq,l⟩:=dF D1
  exact .inr (.inr ⟨a,vs,rfl,hq.sq,fun p hp=>q _ _ (Nx.laid S hp) (lO S (v8 l lo hi) hp)⟩)
 |_=>cases e
def GO(X:Cx)(W:Wi)(c:Cf)(m:E)(eo:Option Expr):Prop:=(m=.noneE/\eo=Option.none)\/∃e,eo=Option.some e/\m.jg=false/\GE X W c m e
def tPt(X:Cx)(W:Wi)(c:Cf)(m:E):TO:=fun σ H Q=>∃env,tD X.K W env (ev c m env) σ H fun v H1=>∀d,bH X.K H1 d v->∃o,cH m.jg d=some o/\Q o H1
theorem GO.po{eo:Option Expr}(h:GO X W c m eo):PO X eo (tPt X W c m):=by
 rcases h with ⟨rfl,rfl⟩|⟨e,rfl,hn,h⟩
 ·intro QTz s σ H Q I q
  obtain⟨env,q⟩:=q
  simp only[v_0,v_1,X7,v_3,v_4,X6,v_6,WF,X5,Lk,u0,Gu,Gs,Dg,Lx,Sh,Lw,Gr,Gq,Ls,Lr,mJ,Lq,Sg,Gp,Lp,Ln,kJ]at q
  obtain⟨o,e,z⟩:=q.2 .non H (Nx.refl q.1) rfl .non rfl
  cases e
  exact M9 QTz s σ H Q I z
 ·intro QTz s σ H Q I q
  obtain⟨env,q⟩:=q
  refine M8 h.d QTz s σ H Q I ⟨env,q.1,?_⟩
  have q2:=q.2
  have go:∀d v H',bH X.K H' d v->(∀d,bH X.K H' d v->∃o,cH m.jg d=some o/\Q o H')->∃i,v=.int i/\Q (some i) H':=fun d v H' Dv z=>by
   obtain⟨o,e,z⟩:=z d Dv
   rw[hn]at e
   cases d with
   |int i=>cases e;exact⟨i,Dv,z⟩
   |_=>cases e
  cases r:ev c m env with
  |bad=>rw[r]at q2;exact q2
  |exc k env1=>rw[r]at q2;exact q2
  |ok x env1=>
   rw[r]at q2
   cases x with
   |val d=>exact fun v H' N Dv=>go d v H' Dv (q2 v H' N Dv)
   |new o=>exact fun v H' N Dv=>go o.d v H' Dv (q2 v H' N Dv)
   |ref i=>exact q2
   |tmp o=>exact q2
theorem xG{K:QQq}{H:Hp}{jg:Bool}{d d':D}{v:V}{o:Option Int}(h:bH K H d v)(e:cH jg d=some o)(h':bH K H d' v):cH jg d'=some o:=by
 cases jg with
 |true=>exact e
 |false=>
  cases d with
  |int i=>
   have hv:v=.int i:=h
   subst hv
   cases d' with
   |int j=>cases (show V.int i=V.int j from h');exact e
   |non=>cases (show V.int i=V.non from h')
   |bl b=>cases (show V.int i=V.bl b from h')
   |str x=>cases (show V.int i=V.str x from h')
   |tup ds=>obtain⟨a,vs,z,_⟩:=cG h';cases z
   |lst ds=>obtain⟨a,vs,z,_⟩:=dF h';cases z
   |cC ks ds=>unfold bH at h';obtain⟨a,o,kvs,z,_⟩:=h';cases z
  |_=>cases e
theorem Vw{lo hi:Option Expr}(ha:GE X W c m1 a)(hl:GO X W c m2 lo)(hh:GO X W c m3 hi):GE X W c (.slc m1 m2 m3) (.Subscript a (.Slice lo hi none p2) pos):=by
 intro env
 refine PE.imp (HF Tf ha.d hl.po hh.po) fun σ H Q q=>?_
 simp only[Lx]at q
 refine⟨env,aN q fun d env1 v H1 N1 D1 q1=>⟨env1,aN q1 fun dl env2 vl H2 N2 D2 q2 dl' D2'=>?_⟩⟩
 cases el:cH m2.jg dl with
 |none=>rw[el]at q2;exact q2.2.elim
 |some l=>
  rw[el]at q2
  refine⟨l,xG D2 el D2',env2,aN q2 fun dh env3 vh H3 N3 D3 q3 dh' D3'=>?_⟩
  obtain⟨z,ez,S,q4⟩:=cF q3
  cases eh:cH m3.jg dh with
  |none=>rw[eh]at ez;cases ez
  |some h=>
   rw[eh]at ez
   exact⟨h,xG D3 eh D3',yR S (D1.mono (N2.trans N3).pers) ez q4⟩
def abf(X:Cx)(x:Str)(d:D):Prop:=∃v u,X.mg x=some u/\RelV v u/\∀H,bH X.K H d v
theorem OJ{k:Nat}{x:Str}{d:D}(hk:c.gl k=some d)(h:abf X x d)(hg:Gl X x)(hd:(x==("__debug__":Str))=false):GE X W c (.glob k) (.Name x pos):=by
 obtain⟨v,u,hm,r,hD⟩:=h
 intro env
 refine PE.imp (Bp hg hm r hd) fun σ H Q q=>?_
 simp only[X7,hk]at q
 exact dU q (hD H)
end
end Mini
end
section
namespace Mini
open PySem L2
theorem lK{H:Hp}{a:Addr}{u u':HO}(h:H a=some u)(hu:Qf u):bU H (upd H a u'):=by
 refine⟨fun b xs q=>?_,fun b o' w q=>?_⟩
 ·rw[aC (fun z=>by subst z;rw[h]at q;cases q;exact hu.tup xs rfl)];exact q
 ·rw[aC (fun z=>by subst z;rw[h]at q;cases q;exact hu.frz o' w rfl)];exact q
theorem pB{k:Nat}{f:Ob->Option Ob}{env env':Ev}(h:cg k f env=some env'):∃o o',f o=some o'/\((env[k]? =some (.own o)/\env'=env.set k (.own o'))\/(env[k]? =some (.bor o)/\env'=env.set k (.bor o'))):=by
 unfold cg at h
 cases e:env[k]? with
 |none=>rw[e]at h;cases h
 |some s=>
  rw[e]at h
  cases s with
  |un=>cases h
  |val d=>cases h
  |own o=>
   cases e2:f o with
   |none=>simp only[e2]at h;cases h
   |some o'=>simp only[e2]at h;cases h;exact⟨o,o',e2,.inl ⟨rfl,rfl⟩⟩
  |bor o=>
   cases e2:f o with
   |none=>simp only[e2]at h;cases h
   |some o'=>simp only[e2]at h;cases h;exact⟨o,o',e2,.inr ⟨rfl,rfl⟩⟩
theorem Nx.turn{K:QQq}{env:Ev}{σ:St}{H:Hp}{k:Nat}{sl sl':Sl}{o o':Ob}{a:Addr}{u u':HO}(S:Sat K env σ H)(hs:(sl=.own o/\sl'=.own o')\/(sl=.bor o/\sl'=.bor o'))(e:env[k]? =some sl)(es:σ[k]? =some (some (.ref a)))
  (ha:H a=some u)(hu:Qf u)(hd:Gg K H o' u'):Nx K env σ H (env.set k sl') (upd H a u'):=by
 have p:=lK (u':=u') ha hu
 have ow:isOwn sl=some o/\isOwn sl'=some o':=by rcases hs with ⟨rfl,rfl⟩|⟨rfl,rfl⟩<;>exact⟨rfl,rfl⟩
 have oa:aJ env σ k a:=⟨⟨_,o,e,ow.1⟩,es⟩
 have hi:k<env.length:=(List.getElem?_eq_some_iff.mp e).1
 have sub:∀j b,aJ (env.set k sl') σ j b->aJ env σ j b:=fun j b z=>by
  obtain⟨⟨s,ys,e1,e2⟩,e3⟩:=z
  by_cases hj:k=j
  ·subst hj;exact⟨⟨sl,o,e,ow.1⟩,e3⟩
  ·rw[List.getElem?_set_ne hj]at e1;exact⟨⟨s,ys,e1,e2⟩,e3⟩
 refine⟨⟨by simpa using S.len,fun j s ej=>?_,fun j l b z w=>S.ne j l b (sub j b z) (sub l b w)⟩,sub,p,fun b w q n=>?_,fun b q=>?_,fun j ys ej=>?_⟩
 ·by_cases hj:k=j
  ·subst hj
   rw[List.getElem?_set_self hi]at ej
   cases ej
   have at_:jq K (upd H a u') o' a:=⟨u',aQ,hd.mono p⟩
   rcases hs with ⟨_,rfl⟩|⟨_,rfl⟩
   ·exact⟨a,by rw[es];rfl,at_⟩
   ·exact⟨a,by rw[es];rfl,at_⟩
  ·rw[List.getElem?_set_ne hj]at ej
   refine(S.sl j s ej).keep p fun b w ho ev hb=>?_
   have nb:b≠a:=fun z=>by
    subst z
    exact hj (S.ne k j b oa (vD ej ho ev))
   rw[aC nb];exact hb
 ·rw[aC (fun z=>by subst z;exact n k oa)];exact q
 ·by_cases hb:b=a
  ·subst hb;rw[aQ]at q;cases q
  ·rw[aC hb]at q;exact q
 ·by_cases hj:k=j
  ·subst hj
   rw[e]at ej
   cases ej
   rcases hs with ⟨z,_⟩|⟨_,rfl⟩
   ·cases z
   ·exact⟨o',by rw[List.getElem?_set_self hi]⟩
  ·exact⟨ys,by rw[List.getElem?_set_ne hj];exact ej⟩
theorem Ay{K:QQq}{env env':Ev}{σ:St}{H:Hp}{k:Nat}{f:Ob->Option Ob}(S:Sat K env σ H)(h:cg k f env=some env'):
  ∃o o' a u,f o=some o'/\σ[k]? =some (some (.ref a))/\H a=some u/\Gg K H o u/\aW k env=some o.d/\∀u',Gg K H o' u'->Nx K env σ H env' (upd H a u'):=by
 obtain⟨o,o',ef,hh⟩:=pB h
 rcases hh with ⟨e,rfl⟩|⟨e,rfl⟩
 ·obtain⟨a,e1,u,e2,e3⟩:=S.sl k _ e
  exact⟨o,o',a,u,ef,bY e1,e2,e3,by unfold aW;rw[e],fun u' hd=>Nx.turn S (.inl ⟨rfl,rfl⟩) e (bY e1) e2 e3.uc hd⟩
 ·obtain⟨a,e1,u,e2,e3⟩:=S.sl k _ e
  exact⟨o,o',a,u,ef,bY e1,e2,e3,by unfold aW;rw[e],fun u' hd=>Nx.turn S (.inr ⟨rfl,rfl⟩) e (bY e1) e2 e3.uc hd⟩
theorem Ib{f:List D->Option (List D)}{o o':Ob}(h:rP f o=some o'):∃xs ys,o=.lst xs/\f xs=some ys/\o'=.lst ys:=by
 cases o with
 |lst xs=>
  simp only[rP]at h
  cases e:f xs with
  |none=>rw[e]at h;cases h
  |some ys=>rw[e]at h;cases h;exact⟨xs,ys,rfl,e,rfl⟩
 |dct ks vs=>cases h
theorem wM{K:QQq}{env env':Ev}{σ:St}{H:Hp}{k:Nat}{f:List D->Option (List D)}(S:Sat K env σ H)(h:cg k (rP f) env=some env'):
  ∃xs ys a vs,f xs=some ys/\σ[k]? =some (some (.ref a))/\H a=some (.lst vs)/\aq K H xs vs/\aW k env=some (.lst xs)/\∀ws,aq K H ys ws->Nx K env σ H env' (upd H a (.lst ws)):=by
 obtain⟨o,o',a,u,ef,es,ha,hd,lk,N⟩:=Ay S h
 obtain⟨xs,ys,rfl,e,rfl⟩:=Ib ef
 obtain⟨vs,rfl,l⟩:=hd
 exact⟨xs,ys,a,vs,e,es,ha,l,lk,fun ws hw=>N _ ⟨ws,rfl,hw⟩⟩
theorem dM.lst{K:QQq}{H:Hp}{xs:List D}{v:V}(h:dM K H (.lst xs) v):∃a vs,v=.ref a/\jK K H a vs/\aq K H xs vs:=by
 rcases h with h|⟨o,a,q,rfl,u,ha,hq⟩
 ·obtain⟨a,vs,rfl,hq,l⟩:=dF h
  exact⟨a,vs,rfl,hq.sq,l⟩
 ·cases o<;>cases q
  obtain⟨vs,rfl,l⟩:=hq
  exact⟨a,vs,rfl,.inl (.inl ha),l⟩
structure Aj(X:Cx)(o:Expr)(name:Str)(apos:Pos)(e:Expr)(cpos:Pos):Prop where
 base:attributeBase o name X.env (eval o X.env)=eval o X.env
 line:(apos.endLine==cpos.line)=true
 star:starEach [e] X.env=[(false,eval e X.env)]
section
variable{X:Cx}{W:Wi}{c:Cf}{m m1 m2 m3:E}{o a b e:Expr}{pos p p2 apos cpos:Pos}{name:Str}
theorem Aj.few(h:Aj X o name apos e cpos):((backTo cpos (starEach [e] X.env)).all (fun x=> !x.1)&&(backToKw cpos (keywordEach [] X.env)).all (fun x=>x.1.isSome)
   &&decide ([e].length+([]:List Keyword).length+(if ([]:List Keyword).isEmpty then 0 else 1)<30))=true:=by
 rw[h.star];rfl
theorem QV{id:String}{r:V->List V->Hp->VK->Prop}{to:TE}{te:TE}(M:Aj X o name apos e cpos)(slot:Slot "list" name id)(hty:typeOf (.builtin id)=pure (.type "method_descriptor"))(hm:MtR X id r)(ho:PE X o to)(he:PE X e te):
  PE X (.Call (.Attribute o name apos) [e] [] cpos) (tBM X.K "list" r to (GZ te Yr)):=
 Zx PySem.F.plainAttrs_list slot hty hm ho (bI he dg M.star) M.base M.few M.line M.star rfl
theorem countV{K:QQq}{H:Hp}{p:D}{x:V}(Dp:bH K H p x)(fp:flat p=true):∀{ds:List D}{vs:List V}{us:List Value},aq K H ds vs->Vals vs us->ds.all flat=true->vs.all gJ=true/\us.countP (wF x)=eZ p ds:=by
 intro ds
 induction ds with
 |nil=>intro vs us l r _;rw[aq.bL.mp l]at r⊢;cases r;exact⟨rfl,rfl⟩
 |cons d ds ih=>
  intro vs us l r f
  obtain⟨v,vs',rfl,hd,l'⟩:=aq.bw.mp l
  rw[List.all_cons,QVz]at f
  cases r with
  |cons r1 r2=>
   obtain⟨i1,i2⟩:=ih l' r2 f.2
   obtain⟨j1,j2⟩:=vQ Dp fp (aq.eE hd aq.iR) (by simp[f.1])
   simp only[List.all_cons,List.all_nil,Bool.and_true]at j1
   have j3:JS v x=cL d p:=by simpa[inV,aU]using j2
   refine⟨by rw[List.all_cons,j1,i1];rfl,?_⟩
   rw[List.countP_cons,i2,zY r1 j1,j3,eZ]
   split<;>omega
def MP(K:QQq):V->List V->Hp->VK->Prop:=fun x ys H Q=>∃a vs ds d y,x=.ref a/\ys=[y]/\(jK K H a vs\/jl K H a vs)/\aq K H ds vs/\bH K H d y/\flat d=true/\ds.all flat=true/\Q (.int (eZ d ds)) H
theorem JP{K:QQq}{H:Hp}{d:D}{v:V}(h:bH K H d v)(f:flat d=true):gJ v=true:=by
 cases d with
 |non=>cases h;rfl
 |bl b=>cases h;rfl
 |int i=>cases h;rfl
 |str x=>cases h;rfl
 |_=>cases f
theorem Ej:MtR X "list.count" (fun x ys H Q=>(∃a vs,x=.ref a/\jK X.K H a vs)/\MP X.K x ys H Q):=by
 intro QTz s σ H x ys v us Q I rx ry h
 obtain⟨⟨a,vs,rfl,hq⟩,a',vs',ds,d,y,e1,rfl,hq',l,hd,f1,f2,q⟩:=h
 cases e1
 cases rx
 obtain⟨u,rfl,ru⟩:=Vals.one ry
 have hv:vs'=vs:=by
  rcases hq' with z|z
  ·exact I.xQ z hq
  ·obtain⟨_,_,⟨o,e,c,_⟩,_⟩:=I.tuple z
   obtain⟨_,_,⟨o',_,e',c',_⟩,_⟩:=I.list hq
   rw[e]at e';cases e';rw[c]at c';injection c' with z;exact absurd z (by decide)
 subst hv
 obtain⟨its,r,pl,hz⟩:=I.list hq
 obtain⟨⟨cls,dd,data,sl⟩,n,ho,hc,hdd,hdt⟩:=id pl
 simp only at hc hdt
 subst hc hdt
 obtain⟨g1,g2⟩:=countV hd f1 l r f2
 refine call_meets PySem.F.slot_list_count ⟨_,ho,rfl⟩ PySem.F.entry_list_count (PySem.F.args_list_count_2 _ _) (SeqAt.list_countAt a its.toArray n dd sl u (wF y)) ⟨ho,fun w hw=>f9 ru (JP hd f1) r g1 w (by simpa using hw),?_⟩
 refine⟨.int (eZ d ds),H,I.tok _,⟨s.toks,?_⟩,q⟩
 rw[show its.toArray.toList=its from rfl,g2]
theorem Ei:MtR X "tuple.count" (fun x ys H Q=>(∃a vs,x=.ref a/\jl X.K H a vs)/\MP X.K x ys H Q):=by
 intro QTz s σ H x ys v us Q I rx ry h
 obtain⟨⟨a,vs,rfl,hq⟩,a',vs',ds,d,y,e1,rfl,hq',l,hd,f1,f2,q⟩:=h
 cases e1
 cases rx
 obtain⟨u,rfl,ru⟩:=Vals.one ry
 have hv:vs'=vs:=by
  rcases hq' with z|z
  ·obtain⟨_,_,⟨o,e,c,_⟩,_⟩:=I.tuple hq
   obtain⟨_,_,⟨o',_,e',c',_⟩,_⟩:=I.list z
   rw[e]at e';cases e';rw[c]at c';injection c' with z;exact absurd z (by decide)
  ·exact I.sU z hq
 subst hv
 obtain⟨its,r,pl,hz⟩:=I.tuple hq
 obtain⟨⟨cls,dd,data,sl⟩,ho,hc,n,hdt⟩:=id pl
 simp only at hc hdt
 subst hc hdt
 obtain⟨g1,g2⟩:=countV hd f1 l r f2
 refine call_meets PySem.F.slot_tuple_count ⟨_,ho,rfl⟩ PySem.F.entry_tuple_count (PySem.F.args_tuple_count_2 _ _) (SeqAt.tuple_countAt a its.toArray n dd sl u (wF y)) ⟨ho,fun w hw=>f9 ru (JP hd f1) r g1 w (by simpa using hw),?_⟩
 refine⟨.int (eZ d ds),H,I.tok _,⟨s.toks,?_⟩,q⟩
 rw[show its.toArray.toList=its from rfl,g2]
def acW(K:QQq)(to te:TE):TE:=fun σ H Q=>to σ H fun x H1=>∃a vs,x=.ref a/\((jK K H1 a vs/\te σ H1 fun y H2=>(∃a vs,x=.ref a/\jK K H2 a vs)/\MP K x [y] H2 Q)\/(jl K H1 a vs/\te σ H1 fun y H2=>(∃a vs,x=.ref a/\jl K H2 a vs)/\MP K x [y] H2 Q))
theorem Ua{to te:TE}(M:Aj X o "count" apos e cpos)(ho:PE X o to)(he:PE X e te):PE X (.Call (.Attribute o "count" apos) [e] [] cpos) (acW X.K to te):=by
 intro QTz s σ H Q I h
 refine wpAny_Call_method_late M.base M.few M.line rfl (cB (ho QTz s σ H _ I h) fun v s1⟨x,H1,I1,r1,a,vs,ex,q1⟩=>?_)
 subst ex
 cases r1
 have arg:∀{id:String}{r:V->List V->Hp->VK->Prop},MtR X id r->(te σ H1 fun y H2=>r (.ref a) [y] H2 Q)->wpAny (model X.prog X.w) X.A (callWith cpos (.builtin id) [.ref a] (backTo cpos (starEach [e] X.env)) (backToKw cpos (keywordEach [] X.env))) (EP X QTz σ Q) X.xe s1:=fun{id r}hm z=>by
  have hA:=bI (X:=X) he dg M.star cpos QTz s1 σ H1 (fun vs H2=>r (.ref a) vs H2 Q) I1 z
  rw[M.star]at hA⊢
  exact Calls.callWith_builtin rfl (Calls.evalArgs_plain (cB hA fun us s2⟨vs,H2,I2,r2,q2⟩=>hm QTz s2 σ H2 (.ref a) vs (.ref a) us Q I2 rfl r2 q2))
 rcases q1 with ⟨hq,z⟩|⟨hq,z⟩
 ·obtain⟨its,r,pl,hz⟩:=I1.list hq
  refine⟨"list","list.count",PySem.F.plainAttrs_list,PySem.F.slot_list_count,PySem.F.type_list_count,pl.isList.typeIs,fun b eb=>?_,arg Ej z⟩
  cases eb
  obtain⟨o,n,e,c,hd,_⟩:=pl
  exact⟨o,e,hd⟩
 ·obtain⟨its,r,⟨o,eo,ec,hd,n,dt⟩,hz⟩:=I1.yN hq
  refine⟨"tuple","tuple.count",PySem.F.plainAttrs_tuple,PySem.F.slot_tuple_count,PySem.F.type_tuple_count,⟨o,eo,ec⟩,fun b eb=>?_,arg Ei z⟩
  cases eb
  exact⟨o,eo,hd⟩
theorem JH(M:Aj X o "count" apos e cpos)(ho:GE X W c m1 o)(he:GE X W c m2 e):GE X W c (.count m1 m2) (.Call (.Attribute o "count" apos) [e] [] cpos):=by
 intro env
 refine PE.imp (Ua M ho.d he.d) fun σ H Q q=>?_
 simp only[Lp]at q
 refine⟨env,aN q fun d env1 v H1 N1 D1 q1=>?_⟩
 cases d with
 |tup xs=>
  simp only[bj,Option.isNone_some,Bool.false_eq_true,if_false]at q1
  obtain⟨a,vs,rfl,hq,l⟩:=cG D1
  refine⟨a,vs,rfl,.inr ⟨hq,env1,aN q1 fun d2 env2 y H2 N2 D2 q2=>?_⟩⟩
  obtain⟨z,ez,S,q3⟩:=cF q2
  simp only[wk]at ez
  split at ez
  ·rename_i hf
   cases ez
   rw[QVz]at hf
   exact⟨⟨a,vs,rfl,N2.pers.Tc hq⟩,a,vs,xs,d2,y,rfl,rfl,.inr (N2.pers.Tc hq),l.mono N2.pers,D2,hf.1,hf.2,q3 _ H2 (Nx.refl S) rfl⟩
  ·cases ez
 |lst xs=>
  simp only[bj,Option.isNone_some,Bool.false_eq_true,if_false]at q1
  obtain⟨a,vs,rfl,hq,l⟩:=dF D1
  refine⟨a,vs,rfl,.inl ⟨hq.sq,env1,aN q1 fun d2 env2 y H2 N2 D2 q2=>?_⟩⟩
  obtain⟨z,ez,S,q3⟩:=cF q2
  simp only[wk]at ez
  split at ez
  ·rename_i hf
   cases ez
   rw[QVz]at hf
   exact⟨⟨a,vs,rfl,(N2.pers.Ge hq).sq⟩,a,vs,xs,d2,y,rfl,rfl,.inl (N2.pers.Ge hq).sq,l.mono N2.pers,D2,hf.1,hf.2,q3 _ H2 (Nx.refl S) rfl⟩
  ·cases ez
 |_=>exact q1.2.elim
theorem Jk{n:Nat}{i:Int}{j:Nat}(h:ix? n i=some j)(hn:n<=sizeLine): -(2 ^63)<=i/\i<2 ^63/\seqIndex? i n=some j/\j<n:=by
 have hl:sizeLine=16777216:=sizeLine_eq
 unfold ix? at h
 by_cases h0:i<0
 ·simp only[h0,if_true]at h
  by_cases hj:0<=i+(n:Int)/\i+(n:Int)<n
  ·rw[if_pos hj]at h
   have e:(i+(n:Int)).toNat=j:=Option.some.inj h
   exact⟨by omega,by omega,by rw[seqIndex_neg (by omega) (by omega),e],by omega⟩
  ·rw[if_neg hj]at h;cases h
 ·simp only[h0,if_false]at h
  by_cases hj:0<=i/\i< (n:Int)
  ·rw[if_pos hj]at h
   have e:i.toNat=j:=Option.some.inj h
   exact⟨by omega,by omega,by rw[seqIndex_of (by omega) (by omega),e],by omega⟩
  ·rw[if_neg hj]at h;cases h
theorem qu{d:Option D}(h:di d=true):∃xs,d=some (.lst xs):=by
 cases d with
 |none=>cases h
 |some d=>cases d with
  |lst xs=>exact⟨xs,rfl⟩
  |_=>cases h
theorem JG{k:Nat}{x:Str}(M:Aj X (.Name x p) "pop" apos e cpos)(nm:gA X k x)(he:GE X W c m e):GE X W c (.popAt k m) (.Call (.Attribute (.Name x p) "pop" apos) [e] [] cpos):=by
 intro env QTz s σ H Q I q
 refine PE.imp (QV M PySem.F.slot_list_pop PySem.F.type_list_pop Iu nm.pe he.d) (t':=fun σ' H' Q'=>σ'=σ/\H'=H/\Q'=Q) (fun σ' H' Q'⟨e1,e2,e3⟩=>?_) QTz s σ H Q I ⟨rfl,rfl,rfl⟩
 subst e1 e2 e3
 simp only[Ln]at q
 cases hl:di (aW k env)with
 |false=>rw[hl]at q;exact q.2.elim
 |true=>
  rw[hl]at q
  simp only[Bool.not_true,Bool.false_eq_true,if_false]at q
  obtain⟨xs0,e0⟩:=qu hl
  obtain⟨u,eu,Du⟩:=gb q.1 e0
  obtain⟨a0,vs0,rfl,hq0,l0⟩:=Du.lst
  refine⟨.ref a0,eu,.inl ⟨rfl,vs0,hq0⟩,env,aN q fun d env1 y H1 N1 D1 q1=>?_⟩
  unfold pY at q1
  cases d with
  |int i=>
   cases e1:aW k env1 with
   |none=>rw[e1]at q1;exact q1.2.elim
   |some d1=>
    rw[e1]at q1
    cases d1 with
    |lst xs=>
     simp only at q1
     cases hz:fits xs.length with
     |false=>rw[hz]at q1;exact q1.2.elim
     |true=>
     rw[hz]at q1
     simp only[Bool.not_true,Bool.false_eq_true,if_false]at q1
     cases e2:ix? xs.length i with
     |none=>rw[e2]at q1;exact q1.2.elim
     |some j=>
      rw[e2]at q1
      simp only at q1
      cases e3:xs[j]? with
      |none=>rw[e3]at q1;exact q1.2.elim
      |some dd=>
       cases e4:cg k (rP fun xs=>some (xs.eraseIdx j)) env1 with
       |none=>rw[e3,e4]at q1;exact q1.2.elim
       |some env2=>
        rw[e3,e4]at q1
        obtain⟨zs,ys,a,vs,ef,es,ha,l,lk,N⟩:=wM q1.1 e4
        rw[e1]at lk
        cases lk
        cases ef
        rw[eu]at es
        cases es
        have D1':y=.int i:=D1
        subst D1'
        obtain⟨w,ew,dw⟩:=l.get e3
        obtain⟨b1,b2,b3,b4⟩:=Jk e2 (fG hz)
        refine⟨a0,vs,i,j,w,rfl,rfl,ha,b1,b2,by rw[<-l.length];exact b3,ew,?_⟩
        exact q1.2 w _ (N _ (l.eraseIdx j)) (dw.mono (N _ (l.eraseIdx j)).pers)
    |_=>exact q1.2.elim
  |_=>exact q1.2.elim
theorem Fi{k:Nat}{x:Str}(M:Aj X (.Name x p) "append" apos e cpos)(nm:gA X k x)(he:GE X W c m e):GS X W c (.append k m) (.Expr (.Call (.Attribute (.Name x p) "append" apos) [e] [] cpos) pos):=by
 intro env
 refine PS.imp (Bm (QV M PySem.F.slot_list_append PySem.F.type_list_append uf nm.pe he.d) rfl) fun D σ H q=>?_
 simp only[x_9]at q
 cases hl:di (aW k env)with
 |false=>rw[hl]at q;exact q.2.elim
 |true=>
  rw[hl]at q
  simp only[Bool.not_true,Bool.false_eq_true,if_false]at q
  obtain⟨xs0,e0⟩:=qu hl
  obtain⟨u,eu,Du⟩:=gb q.1 e0
  obtain⟨a0,vs0,rfl,hq0,l0⟩:=Du.lst
  refine⟨.ref a0,eu,.inl ⟨rfl,vs0,hq0⟩,env,pG q fun d env1 y H1 N1 D1 q1=>?_⟩
  cases e4:cg k (rP fun xs=>if fits (xs.length+1)then some (xs++[d])else none) env1 with
  |none=>rw[e4]at q1;exact q1.2.elim
  |some env2=>
   rw[e4]at q1
   obtain⟨zs,ys,a,vs,ef,es,ha,l,lk,N⟩:=wM q1.1 e4
   rw[eu]at es
   cases es
   split at ef
   ·rename_i hf
    cases ef
    have l2:=l.append (aq.eE D1 aq.iR)
    have:=fG hf
    refine⟨a0,vs,y,rfl,rfl,ha,by rw[<-l.length];omega,q1.2 _ _ (N _ l2).z⟩
   ·cases ef
def QL:V->V->V->Hp->(Hp->Prop)->Prop:=fun o i v H Q=>∃a H',o=.ref a/\An H a i v H'/\Q H'
theorem Mj(hu:X.A.units+1<cLine):Qa X QL:=by
 intro QTz s σ H o i v ov iv u Q I ro ri rv h
 obtain⟨a,H',rfl,g,q⟩:=h
 cases ro
 exact Fw hu I g ri rv fun s4 I4=>⟨H',I4,q⟩
def Zj:V->V->V->Hp->(Hp->Prop)->Prop:=fun o i v H Q=>QK o i v H Q\/QL o i v H Q
theorem Ml(hu:X.A.units+1<cLine):Qa X Zj:=by
 intro QTz s σ H o i v ov iv u Q I ro ri rv h
 rcases h with h|h
 ·exact set_list QTz s σ H o i v ov iv u Q I ro ri rv h
 ·exact Mj hu QTz s σ H o i v ov iv u Q I ro ri rv h
theorem U9{n:Nat}{i:Int}{j:Nat}(h:ix? n i=some j):Om n i=some j:=by
 unfold ix? at h
 unfold Om
 by_cases h0:i<0
 ·simp only[h0,if_true]at h
  rw[if_neg (by omega)]
  by_cases hj:0<=i+(n:Int)/\i+(n:Int)<n
  ·rw[if_pos hj]at h;rw[if_pos (by omega)];exact h
  ·rw[if_neg hj]at h;cases h
 ·simp only[h0,if_false]at h
  rw[if_pos (by omega)]
  by_cases hj:0<=i/\i< (n:Int)
  ·rw[if_pos hj]at h;rw[if_pos hj.2];exact h
  ·rw[if_neg hj]at h;cases h
theorem UT(k k':Key):cL (cI k') (cI k)=decide (k'=k):=by
 cases k'<;>cases k<;>simp[cI,cL,Bool.beq_eq_decide_eq]
theorem w5{K:QQq}{H:Hp}{k:Key}{d:D}{v:V}(hv:bH K H d v):∀{kvs:List (Key×V)}{ds:List D},aq K H ds (kvs.map (·.2))->
  aq K H (Bj (cI k) d (kvs.map fun p=>cI p.1) ds) ((kvs.map fun kv=>if kv.1=k then(kv.1,v)else kv).map (·.2))
 |[],ds,l=>by
  rw[List.map_nil]at l
  have:ds=[]:=by have:=l.length;cases ds<;>simp_all
  subst this
  exact aq.iR
 |(k',u)::r,ds,l=>by
  rw[List.map_cons]at l
  cases ds with
  |nil=>have:=l.length;simp at this
  |cons x ds=>
   obtain⟨w,ws,e,h1,h2⟩:=aq.bw.mp l
   cases e
   have ih:=w5 (k:=k) hv h2
   simp only[List.map_cons,Bj,UT]
   by_cases q:k'=k
   ·simp only[q,decide_true,if_true]
    exact aq.eE hv ih
   ·simp only[q,decide_false,Bool.false_eq_true,if_false]
    exact aq.eE h1 ih
theorem tQ{k:Key}{v:V}:∀(kvs:List (Key×V)),(kvs.map fun kv=>if kv.1=k then(kv.1,v)else kv).map (fun p=>cI p.1)=kvs.map fun p=>cI p.1
 |[]=>rfl
 |(k',u)::r=>by
  simp only[List.map_cons,tQ r]
  split<;>rfl
theorem Bl{K:QQq}{H:Hp}{k:Key}{d:D}{v:V}(hv:bH K H d v){kvs:List (Key×V)}{ds:List D}(l:aq K H ds (kvs.map (·.2))):
  (putD (cI k) d (kvs.map fun p=>cI p.1) ds).1=(putK kvs k v).map (fun p=>cI p.1)/\aq K H (putD (cI k) d (kvs.map fun p=>cI p.1) ds).2 ((putK kvs k v).map (·.2)):=by
 unfold putD putK
 rw[<-jL,<-pA]
 split
 ·rename_i h
  exact⟨(tQ kvs).symm,w5 hv l⟩
 ·refine⟨by simp,?_⟩
  rw[List.map_append]
  exact l.append (aq.eE hv aq.iR)
theorem JC{k:Nat}{x:Str}{ix:E}{ixe:Expr}{tp:Pos}(nm:gA X k x)(he:GE X W c m e)(hi:GE X W c ix ixe)
  (ha:∀v,assign (.Subscript (.Name x p) ixe tp) X.env v=(do
   let ov<-holding [v] (eval (.Name x p) X.env)
   let iv<-holding [v,ov] (eval ixe X.env)
   standAt tp
   holding [v,ov,iv] (setItem ov iv v)
   release [v,ov,iv] []))
  (hs:swapsWithSole [.Subscript (.Name x p) ixe tp] e pos.line X.env=pure false)(hw:swappedStores [.Subscript (.Name x p) ixe tp] e X.env=pure none)(hu:X.A.units+1<cLine)
  (h1:(assignEach [.Subscript (.Name x p) ixe tp] X.env).map (·.2)=[assign (.Subscript (.Name x p) ixe tp) X.env]):
  GS X W c (.setIx k ix m) (.Assign [.Subscript (.Name x p) ixe tp] e pos):=by
 intro env
 refine PS.imp (Hx he.d (T6 nm.pe hi.d (Ml hu) ha) hs hw h1) fun D σ H q=>?_
 simp only[x_7]at q
 refine⟨env,pG q fun d env1 v H1 N1 D1 q1=>?_⟩
 cases e0:aW k env1 with
 |none=>rw[e0]at q1;exact q1.2.elim
 |some d0=>
  rw[e0]at q1
  simp only[Option.isNone_some,Bool.false_eq_true,if_false]at q1
  obtain⟨u,eu,Du⟩:=gb q1.1 e0
  refine⟨u,eu,env1,pG q1 fun d2 env2 y H2 N2 D2 q2=>?_⟩
  cases e4:cg k (vB d2 d) env2 with
  |none=>rw[e4]at q2;exact q2.2.elim
  |some env3=>
   rw[e4]at q2
   obtain⟨o,o',a,w,ef,es,hA,hd,lk,N⟩:=Ay q2.1 e4
   rw[eu]at es
   cases es
   cases o with
   |lst xs=>
    obtain⟨vs,rfl,l⟩:=hd
    cases d2 with
    |int i=>
     simp only[vB]at ef
     cases e5:ix? xs.length i with
     |none=>rw[e5]at ef;cases ef
     |some j=>
      rw[e5]at ef
      cases ef
      have D2':y=.int i:=D2
      subst D2'
      exact .inl ⟨a,vs,i,j,rfl,rfl,hA,by rw[<-l.length];exact U9 e5,q2.2 _ _ (N _ ⟨_,rfl,l.set (D1.mono N2.pers) j⟩).z⟩
    |_=>cases ef
   |dct ks ds=>
    obtain⟨kvs,rfl,rfl,l⟩:=hd
    simp only[vB]at ef
    split at ef
    ·rename_i hk
     rw[QVz]at hk
     cases ef
     obtain⟨kk,rfl⟩:=fU hk.1
     have ek:=jW D2
     subst ek
     obtain⟨g1,g2⟩:=Bl (k:=kk) (D1.mono N2.pers) l
     have hf:=fG hk.2
     rw[List.length_map]at hf
     exact .inr ⟨a,_,rfl,An.k hA (by omega),q2.2 _ _ (N _ ⟨_,rfl,g1,g2⟩).z⟩
    ·cases ef
end
end Mini
end
section
namespace Mini
open PySem L2
section
variable{X:Cx}{W:Wi}{c:Cf}{m m1 m2 m3:E}{o a b e:Expr}{pos p p2 apos cpos:Pos}{name:Str}
theorem Vn(he:GE X W c m e)(hv:∀k,m.az=some k->∃x p,e=.Name x p/\gA X k x):GS X W c (.ret m) (.Return (some e) pos):=by
 intro env
 have plain:∀D σ H,tS X.K W env ((ev c m env).fl mU) D σ H->Yo (aM X W c m) D σ H:=fun D σ H q=>by
  refine⟨env,Qz q fun x env1 v H1 N z q1=>?_⟩
  cases x with
  |val d=>exact q1.2 v σ H1 N.z z
  |new o=>
   obtain⟨a,e1,e2,e3⟩:=z
   exact q1.2 v σ H1 N.z ⟨a,e1,e2,.inl e3⟩
  |ref i=>exact q1.2.elim
  |tmp o=>exact q1.2.elim
 cases q0:m.az with
 |none=>exact PS.imp (kZ he.am) fun D σ H q=>plain D σ H (by simpa only[wK,q0]using q)
 |some k=>
  cases e0:env[k]? with
  |none=>exact PS.imp (kZ he.am) fun D σ H q=>plain D σ H (by simpa only[wK,q0,e0]using q)
  |some sl=>
   cases sl with
   |un=>exact PS.imp (kZ he.am) fun D σ H q=>plain D σ H (by simpa only[wK,q0,e0]using q)
   |val d=>exact PS.imp (kZ he.am) fun D σ H q=>plain D σ H (by simpa only[wK,q0,e0]using q)
   |bor o=>exact PS.imp (kZ he.am) fun D σ H q=>plain D σ H (by simpa only[wK,q0,e0]using q)
   |own o=>
    obtain⟨x,p,rfl,nm⟩:=hv k q0
    refine PS.imp (kZ nm.pe) fun D σ H q=>?_
    simp only[wK,q0,e0]at q
    obtain⟨a,e1,e2⟩:=q.1.sl k _ e0
    have es:=bY e1
    have hi:k<env.length:=(List.getElem?_eq_some_iff.mp e0).1
    have sub:∀j b,aJ (env.set k .un) σ j b->aJ env σ j b:=fun j b z=>by
     obtain⟨⟨s,ys,z1,z2⟩,z3⟩:=z
     by_cases hj:k=j
     ·subst hj;rw[List.getElem?_set_self hi]at z1;cases z1;cases z2
     ·rw[List.getElem?_set_ne hj]at z1;exact⟨⟨s,ys,z1,z2⟩,z3⟩
    refine⟨.ref a,es,q.2 (.ref a) σ H ⟨⟨by simpa using q.1.len,fun j s ej=>?_,fun j l b z w=>q.1.ne j l b (sub j b z) (sub l b w)⟩,fun j b z=>.inl (sub j b z),bU.refl H,fun _ _ z _=>z,fun _ z=>z,fun j ys ej=>?_⟩ ⟨a,rfl,e2,.inr ⟨k,o,e0,es⟩⟩⟩
    ·by_cases hj:k=j
     ·subst hj;rw[List.getElem?_set_self hi]at ej;cases ej;trivial
     ·rw[List.getElem?_set_ne hj]at ej;exact q.1.sl j s ej
    ·have hj:k≠j:=fun z=>by subst z;rw[e0]at ej;cases ej
     exact⟨⟨ys,by rw[List.getElem?_set_ne hj];exact ej⟩,rfl⟩
theorem Oz:GS X W c (.ret (.con .non)) (.Return none pos):=fun env=>PS.imp M7 fun D σ H q=>by
 simp only[wK,E.az,v_0,v_1,X7,v_3,v_4,X6,v_6,WF,X5,Lk,u0,Gu,Gs,Dg,Lx,Sh,Lw,Gr,Gq,Ls,Lr,mJ,Lq,Sg,Gp,Lp,Ln,kJ,Out.fl,mU]at q
 exact q.2 .non σ H (Nz.refl q.1) rfl
theorem kW(lo:Int):∀(n i:Nat)(d:D),(bD lo n)[i]? =some d->d=.int (lo+i)/\i<n
 |0,i=>fun d h=>by simp[bD]at h
 |n+1,0=>fun d h=>by simp[bD]at h;exact⟨by rw[<-h];simp,by omega⟩
 |n+1,i+1=>fun d h=>by
  rw[bD,List.getElem?_cons_succ]at h
  obtain⟨e,l⟩:=kW (lo+1) n i d h
  refine⟨by rw[e];congr 1;push_cast;omega,by omega⟩
theorem kO(lo:Int):∀n,(bD lo n).length=n
 |0=>rfl
 |n+1=>by rw[bD,List.length_cons,kO]
theorem yh{K:QQq}{H:Hp}{lo:Int}{n:Nat}(hz:n<=sizeLine):Gives K (Itr lo n) (bD lo n) H where
 go:=fun H1 p i d e=>(kW lo n i d e).2
 yld:=fun H1 p i d e x H2 y=>by
  obtain⟨rfl,rfl⟩:=y
  rw[(kW lo n i d e).1]
  exact⟨rfl,.inl rfl⟩
 stop:=fun H1 p i hi=>by rw[kO]at hi;exact hi
 len:=by rw[kO];exact hz
theorem Iw{i:Int}(h:rQ i=true): -(2 ^62)<=i/\i<2 ^62:=by
 simp only[rQ,QUq]at h
 omega
theorem Fq{tg:Expr}(ha:GE X W c m a)(hg:Gl X "range")(hm:X.mg "range"=none)(hs:starEach [a] X.env=[(false,eval a X.env)]):GI X W c (.range1 m) tg (.Call (.Name "range" p) [a] [] pos):=by
 intro env QTz s σ H R I q
 refine Eb hg hm (bI ha.d dg hs) hs QTz s σ H R I ⟨env,q.1,?_⟩
 have q2:=q.2
 simp only[Lq]at q2
 have go:∀d env1 v H',Nx X.K env σ H env1 H'->bH X.K H' d v->(match (lift env1 (match d with|.int n=>if fits n.toNat&&rQ n then some (Rv.val (.lst (bD 0 n.toNat)))else none|_=>none))with
   |.ok x env'=>∃d xs,x.jo=some d/\items d=some xs/\∀J H',Nx X.K env σ H env' H'->Gives X.K J xs H'->R J H'
   |.exc c env'=>∀H',Nx X.K env σ H env' H'->W c env' σ H'
   |.bad=>False)->∃j:Int,[v]=[.int j]/\ -(2 ^62)<=j/\j<2 ^62/\R (Itr 0 j.toNat) H':=fun d env1 v H' N Dv z=>by
  cases d with
  |int n=>
   simp only at z
   by_cases hf:(fits n.toNat&&rQ n)=true
   ·rw[if_pos hf]at z
    rw[QVz]at hf
    obtain⟨d',xs,e1,e2,z⟩:=z
    cases e1
    cases e2
    have hv:v=.int n:=Dv
    subst hv
    exact⟨n,rfl,(Iw hf.2).1,(Iw hf.2).2,z _ H' N (yh (fG hf.1))⟩
   ·rw[if_neg hf]at z;exact z.elim
  |_=>exact z.elim
 cases r:ev c m env with
 |bad=>rw[r]at q2;exact q2
 |exc k env1=>rw[r]at q2;exact q2
 |ok x env1=>
  rw[r]at q2
  cases x with
  |val d=>exact fun v H' N Dv=>go d env1 v H' N Dv q2
  |new o=>exact fun v H' N Dv=>go o.d env1 v H' N Dv q2
  |ref i=>exact q2
  |tmp o=>exact q2
theorem jm.z{K:QQq}{tg:Tg}{env env':Ev}{σ σ':St}{H:Hp}(st:jm K tg env σ env' σ' H):Nz K env σ H env' σ' H:=
 ⟨st.fD,fun i a z=>.inl (st.sub z),bU.refl _,fun _ _ z _=>z,fun _ z=>z,fun i xs e=>⟨⟨xs,(st.same i (st.bors i xs e)).1.trans e⟩,(st.same i (st.bors i xs e)).2⟩⟩
theorem Az{K:QQq}{env:Ev}{σ:St}{H:Hp}{f:Fl}{g:Ev->Fl}{D:Ends}{N:St->Hp->Prop}(q:tS K W env (f.turn g) D σ H)
  (k:∀env2 σ2 H2,Nz K env σ H env2 σ2 H2->tS K W env2 (g env2) D σ2 H2->N σ2 H2):tS K W env f {D with nx:=N,ct:=N,bk:=D.nx} σ H:=by
 refine⟨q.1,?_⟩
 cases f with
 |next env2=>exact fun σ2 H2 N2=>k env2 σ2 H2 N2 (pF q N2)
 |cont env2=>exact fun σ2 H2 N2=>k env2 σ2 H2 N2 (pF q N2)
 |brk env2=>exact q.2
 |ret r env2=>exact q.2
 |exc j env2=>exact q.2
 |bad=>exact q.2
theorem Vo{tg:Tg}{tgE iterE:Expr}{it:E}{b:S}{body:List Stmt}(hp:PassesOwn (model X.prog X.w) X.A X.env X.xe)(hc:X.calm=true)(hi:GI X W c it tgE iterE)(hg:GG X tg tgE)(hb:K1 X W c b body)
  (hs:∀x,foldedSetIterable iterE X.env x=pure x):GS X W c (.for_ tg it b) (.For tgE iterE body [] pos):=by
 intro env QTz s σ H D I q
 have P:=T4 (pos:=pos) hp hc (wi:=fun σ' H' R=>σ'=σ/\H'=H/\tI X.K W env (ev c it env) σ H R) (fun QTz s σ' H' R I'⟨e1,e2,z⟩=>by subst e1 e2;exact hi env QTz s _ _ R I' z) hg (tb:=fun D σ H=>∃env,tS X.K W env (ex c b env) D σ H) (fun QTz s σ H D I⟨env,z⟩=>hb env QTz s σ H D I z) hs
 refine P QTz s σ H D I ⟨rfl,rfl,?_⟩
 simp only[acI]at q
 have tur:∀env1 xs J H1,Nx X.K env σ H env1 H1->Gives X.K J xs H1->tS X.K W env1 (bF tg (ex c b) xs env1) D σ H1->∃W':Nat->Nat->St->Hp->Prop,(∃m,W' 0 m σ H1)/\∀i m σ H,W' i m σ H->
   (J.stop i H/\D.nx σ H)\/(J.go i H/\∃N:St->Hp->Prop,(∀σ' H',N σ' H'->∃m',m'<m/\W' (i+1) m' σ' H')/\∀x H',J.yld i H x H'->tG X.K tg x σ H' fun σ2 H2=>∃env,tS X.K W env (ex c b env) {D with nx:=N,ct:=N,bk:=D.nx} σ2 H2):=fun env1 xs J H1 N1 G z=>by
  refine⟨fun i m σ' H'=>i<=xs.length/\m=xs.length-i/\bU H1 H'/\∃env',tS X.K W env' (bF tg (ex c b) (xs.drop i) env') D σ' H',⟨xs.length,Nat.zero_le _,by simp,bU.refl _,env1,z⟩,?_⟩
  rintro i m σ' H' ⟨hi,rfl,pe,env',z⟩
  by_cases hl:i<xs.length
  ·obtain⟨d,hd⟩:∃d,xs[i]? =some d:=⟨xs[i],by simp[hl]⟩
   rw[uE hd,bF]at z
   cases e:bN tg d env' with
   |none=>rw[e]at z;exact z.2.elim
   |some env2=>
    rw[e]at z
    simp only at z
    refine .inr ⟨G.go H' pe i d hd,fun σ2 H2=>bU H1 H2/\∃env3,tS X.K W env3 (bF tg (ex c b) (xs.drop (i+1)) env3) D σ2 H2,fun σ2 H2⟨p2,w⟩=>⟨xs.length- (i+1),by omega,hl,rfl,p2,w⟩,fun x H2 y=>?_⟩
    obtain⟨Dx,lay⟩:=G.yld H' pe i d hd x H2 y
    have N2:=z.1.lay lay
    refine⟨env',d,env2,N2.fD,Dx,e,fun σ2 st=>⟨env2,Az (pF z (N2.z.trans st.z)) fun env3 σ3 H3 N3 w=>⟨(pe.trans N2.pers).trans N3.pers,env3,w⟩⟩⟩
  ·have e:i=xs.length:=by omega
   subst e
   rw[List.drop_length,bF]at z
   exact .inl ⟨G.stop H' pe _ (QVq _),z.2 σ' H' (Nz.refl z.1)⟩
 refine⟨q.1,?_⟩
 have go:∀(x:Rv)env1 d,x.jo=some d->(match (match items d with|some xs=>bF tg (ex c b) xs env1|none=>Fl.bad)with
   |.next env'=>∀σ' H',Nz X.K env σ H env' σ' H'->D.nx σ' H'
   |.ret r env'=>∀v σ' H',Nz X.K env σ H env' σ' H'->KR X.K env σ H H' r v->D.rt v H'
   |.brk env'=>∀σ' H',Nz X.K env σ H env' σ' H'->D.bk σ' H'
   |.cont env'=>∀σ' H',Nz X.K env σ H env' σ' H'->D.ct σ' H'
   |.exc c env'=>∀σ' H',Nz X.K env σ H env' σ' H'->W c env' σ' H'
   |.bad=>False)->∃d xs,x.jo=some d/\items d=some xs/\∀J H',Nx X.K env σ H env1 H'->Gives X.K J xs H'->∃W':Nat->Nat->St->Hp->Prop,(∃m,W' 0 m σ H')/\∀i m σ H,W' i m σ H->
   (J.stop i H/\D.nx σ H)\/(J.go i H/\∃N:St->Hp->Prop,(∀σ' H',N σ' H'->∃m',m'<m/\W' (i+1) m' σ' H')/\∀x H',J.yld i H x H'->tG X.K tg x σ H' fun σ2 H2=>∃env,tS X.K W env (ex c b env) {D with nx:=N,ct:=N,bk:=D.nx} σ2 H2):=fun x env1 d ed z=>by
  cases e1:items d with
  |none=>rw[e1]at z;exact z.elim
  |some xs=>
   rw[e1]at z
   exact⟨d,xs,ed,e1,fun J H1 N G=>tur env1 xs J H1 N G (pF (env:=env) (σ:=σ) (H:=H) ⟨q.1,z⟩ N.z)⟩
 have q2:=q.2
 cases r:ev c it env with
 |bad=>rw[r]at q2;exact q2
 |exc k env1=>rw[r]at q2;exact fun H' N=>q2 σ H' N.z
 |ok x env1=>
  rw[r]at q2
  cases x with
  |val d=>exact go _ env1 d rfl q2
  |new o=>exact go _ env1 o.d rfl q2
  |ref i=>exact q2.elim
  |tmp o=>exact q2.elim
theorem JB{t:E}{te:Expr}{b:S}{body:List Stmt}(hp:PassesOwn (model X.prog X.w) X.A X.env X.xe)(ht:GT X W c t te)(hb:K1 X W c b body):GS X W c (.while_ t b) (.While te body [] pos):=by
 intro env
 refine PS.imp (Hw hp ht (tb:=fun D σ H=>∃env,tS X.K W env (ex c b env) D σ H) (fun QTz s σ H D I⟨env,z⟩=>hb env QTz s σ H D I z)) fun D σ H q=>?_
 simp only[acH]at q
 refine⟨fun n σ' H'=>∃env',tS X.K W env' (cP (ev c t) (ex c b) n env') D σ' H',⟨c.turns,env,q⟩,?_⟩
 rintro n σ1 H1 ⟨env1,q1⟩
 cases n with
 |zero=>exact q1.2.elim
 |succ n=>
  rw[cP]at q1
  refine⟨env1,GX q1 fun k env2 H2 N2 q2=>?_⟩
  cases k with
  |true=>
   rw[if_pos rfl]at q2⊢
   refine⟨fun σ' H'=>∃env',tS X.K W env' (cP (ev c t) (ex c b) n env') D σ' H',fun σ' H' w=>⟨n,Nat.lt_succ_self n,w⟩,env2,Az q2 fun env3 σ3 H3 N3 w=>⟨env3,w⟩⟩
  |false=>
   rw[if_neg Bool.false_ne_true]at q2⊢
   exact q2.2 σ1 H2 (Nz.refl q2.1)
end
end Mini
end
section
namespace Mini
open PySem L2
structure Cz(K:QQq)(ps:List Sl)(vs:List V)(H:Hp)(qs:List Sl)(H':Hp):Prop where
 bor:∀(i:Nat)o,ps[i]? =some (.bor o)->∃o' a,qs[i]? =some (.bor o')/\vs[i]? =some (.ref a)/\jq K H' o' a
 pers:bU H H'
 keep:∀b u,H b=some u->(∀i,¬aJ ps (vs.map some) i b)->H' b=some u
 dom:∀b,H' b=none->H b=none
def aa9(K:QQq)(H H':Hp):Rv->V->Prop
 |.val d,v=>bH K H' d v
 |.new q,v=>∃a,v=.ref a/\jq K H' q a/\H a=none
 |_,_=>False
def noOwn(ps:List Sl):Prop:=∀(i:Nat)o,ps[i]? ≠some (.own o)
def lE(K:QQq)(n:Nat)(f:List Sl->Res):Sp:=fun vs H Q _=>∃ps,vs.length=n/\Sat K ps (vs.map some) H/\noOwn ps/\match f ps with
 |.ok r qs=>∀v H',Cz K ps vs H qs H'->aa9 K H H' r v->Q v H'
 |.exc _ qs=>∀H',Cz K ps vs H qs H'->False
 |.bad=>False
theorem vC{ps:List Sl}{vs:List V}{i k:Nat}{b:Addr}(hl:ps.length=vs.length):aJ (ps++List.replicate k .un) (vs.map some++List.replicate k none) i b↔aJ ps (vs.map some) i b:=by
 constructor
 ·rintro ⟨⟨s,o,e1,e2⟩,e3⟩
  by_cases hi:i<ps.length
  ·rw[List.getElem?_append_left hi]at e1
   rw[List.getElem?_append_left (by simpa[<-hl]using hi)]at e3
   exact⟨⟨s,o,e1,e2⟩,e3⟩
  ·rw[List.getElem?_append_right (by omega),List.getElem?_replicate]at e1
   split at e1
   ·cases e1;cases e2
   ·cases e1
 ·rintro ⟨⟨s,o,e1,e2⟩,e3⟩
  have hi:i<ps.length:=(List.getElem?_eq_some_iff.mp e1).1
  exact⟨⟨s,o,by rw[List.getElem?_append_left hi];exact e1,e2⟩,by rw[List.getElem?_append_left (by simpa[<-hl]using hi)];exact e3⟩
theorem Sat.pad{K:QQq}{ps:List Sl}{vs:List V}{H:Hp}(S:Sat K ps (vs.map some) H)(k:Nat):Sat K (ps++List.replicate k .un) (vs.map some++List.replicate k none) H:=by
 have hl:ps.length=vs.length:=by simpa using S.len
 refine⟨by simp[hl],fun i s e=>?_,fun i j a h1 h2=>S.ne i j a ((vC hl).mp h1) ((vC hl).mp h2)⟩
 by_cases hi:i<ps.length
 ·rw[List.getElem?_append_left hi]at e
  rw[List.getElem?_append_left (by simpa[<-hl]using hi)]
  exact S.sl i s e
 ·rw[List.getElem?_append_right (by omega),List.getElem?_replicate]at e
  split at e
  ·cases e;trivial
  ·cases e
theorem Nz.cz{K:QQq}{ps:List Sl}{vs:List V}{H H':Hp}{k n:Nat}{env':Ev}{σ':St}(S:Sat K ps (vs.map some) H)(hn:vs.length=n)(N:Nz K (ps++List.replicate k .un) (vs.map some++List.replicate k none) H env' σ' H'):Cz K ps vs H (env'.take n) H':=by
 have hl:ps.length=vs.length:=by simpa using S.len
 refine⟨fun i o e=>?_,N.pers,fun b u hb no=>N.keep b u hb fun i z=>no i ((vC hl).mp z),N.dom⟩
 have hi:i<ps.length:=(List.getElem?_eq_some_iff.mp e).1
 obtain⟨⟨o',e1⟩,e2⟩:=N.bors i o (by rw[List.getElem?_append_left hi];exact e)
 obtain⟨a,z1,z2⟩:=N.fD.sl i _ e1
 rw[e2,List.getElem?_append_left (by simpa[<-hl]using hi),List.getElem?_map]at z1
 refine⟨o',a,by rw[List.getElem?_take_of_lt (by omega)];exact e1,?_,z2⟩
 cases q:vs[i]? with
 |none=>rw[q]at z1;cases z1
 |some v=>rw[q]at z1;simp at z1;rw[z1]
section
variable{P:Program}{w:World}{K:QQq}{mg:QZz}{base:Heap}
theorem Cg{x qual:Str}{st:Stmt}{f:Addr}{fd:FuncData}{N ps:List Str}{k:Nat}{c:Cf}{g:Fn}(F:Qd K x qual st f fd)(S:eG N ps (aF st))(hp:g.pars=ps.length)(hn:g.names=N.length)
  (hb:∀(cdv:Value)(A:Around)(outer:List Env)(s:Shared)(H:Hp)(E:XK),gY k (A.deeper (PyProof.Rows.envOfC qual (aF st) s.heap.objs.size f cdv))->K1 (iD yF P w K mg base N qual (aF st) f cdv A outer s H E).QW W0 c g.body (cJ st)):
  gm P w K mg base yF (k+1) f fd ps (lE K ps.length (eO c g)):=by
 refine F.ok S (fun vs H Q E h=>?_) (fun cdv A outer s H vs Q E hr h=>?_)
 ·obtain⟨_,h,_⟩:=h
  exact h
 ·obtain⟨sl,hl,S0,no,q⟩:=h
  refine⟨_,hb cdv A outer s H E hr (sl++List.replicate (g.names-g.pars) .un),?_⟩
  have hlen:sl.length=vs.length:=by simpa using S0.len
  have hst:L2.start N vs=vs.map some++List.replicate (g.names-g.pars) none:=by
   unfold L2.start
   rw[hn,hp,hl]
  have e0:eO c g sl=match ex c g.body (sl++List.replicate (g.names-g.pars) .un)with
    |.next σ=>.ok (.val .non) (σ.take g.pars)
    |.ret r σ=>.ok r (σ.take g.pars)
    |.exc k σ=>.exc k (σ.take g.pars)
    |_=>.bad:=by
   unfold eO
   rw[if_pos (by rw[hp,<-hl,hlen])]<;>cases ex c g.body (sl++List.replicate (g.names-g.pars) .un)<;>rfl
  rw[e0]at q
  rw[hst]
  refine⟨S0.pad _,?_⟩
  have hg:vs.length=g.pars:=by rw[hl,hp]
  cases r:ex c g.body (sl++List.replicate (g.names-g.pars) .un)with
  |next env'=>rw[r]at q;exact fun σ' H' N=>q .non H' (N.cz S0 hg) rfl
  |ret rv env'=>
   rw[r]at q
   refine fun v σ' H' N z=>q v H' (N.cz S0 hg) ?_
   cases rv with
   |val d=>exact z
   |new o=>
    obtain⟨a,e1,e2,e3⟩:=z
    refine⟨a,e1,e2,?_⟩
    rcases e3 with e3|⟨i,ys,e3,_⟩
    ·exact e3
    ·by_cases hi:i<sl.length
     ·rw[List.getElem?_append_left hi]at e3
      exact absurd e3 (no i ys)
     ·rw[List.getElem?_append_right (by omega),List.getElem?_replicate]at e3
      split at e3<;>cases e3
   |ref i=>exact z.elim
   |tmp o=>exact z.elim
  |brk env'=>rw[r]at q;exact q.elim
  |cont env'=>rw[r]at q;exact q.elim
  |exc j env'=>rw[r]at q;exact fun σ' H' N=>q H' (N.cz S0 hg)
  |bad=>rw[r]at q;exact q.elim
end
inductive En(K:QQq)(env:Ev)(σ:St)(H0 H:Hp):List Rv->List Sl->List V->Prop
 |nil:En K env σ H0 H [] [] []
 |val {d:D} {v:V} {rs:List Rv} {ps:List Sl} {vs:List V}:bH K H d v->En K env σ H0 H rs ps vs->En K env σ H0 H (.val d::rs) (.val d::ps) (v::vs)
 |tmp {o:Ob} {a:Addr} {rs:List Rv} {ps:List Sl} {vs:List V}:jq K H o a->H0 a=none->(∀q,Rv.tmp q∉rs)->En K env σ H0 H rs ps vs->En K env σ H0 H (.tmp o::rs) (.bor o::ps) (.ref a::vs)
 |ref {o:Ob} {j:Nat} {a:Addr} {s:Sl} {rs:List Rv} {ps:List Sl} {vs:List V}:env[j]? =some s->isOwn s=some o->σ[j]? =some (some (.ref a))->jq K H o a->Rv.ref j∉rs->En K env σ H0 H rs ps vs->En K env σ H0 H (.ref j::rs) (.bor o::ps) (.ref a::vs)
section
variable{K:QQq}{env env1 env2:Ev}{σ:St}{H0 H H2:Hp}
theorem iC(S:Sat K env σ H):∀{rs:List Rv}{ps:List Sl}{vs:List V},enter rs env=some ps->iG K σ H0 H rs vs->En K env σ H0 H rs ps vs
 |[],ps,vs,h,r=>by
  cases h
  have:vs=[]:=r
  subst this
  exact .nil
 |x::rs,ps,vs,h,r=>by
  obtain⟨v,vr,rfl,h1,h2⟩:=r
  cases x with
  |val d=>
   simp only[enter]at h
   cases e:enter rs env with
   |none=>rw[e]at h;cases h
   |some ps'=>rw[e]at h;cases h;exact .val h1 (iC S e h2)
  |new o=>cases h
  |tmp o=>
   simp only[enter]at h
   split at h
   ·cases h
   ·rename_i hn
    cases e:enter rs env with
    |none=>rw[e]at h;cases h
    |some ps'=>
     rw[e]at h
     cases h
     obtain⟨a,rfl,oa,ha⟩:=h1
     refine .tmp oa ha (fun q hq=>hn ?_) (iC S e h2)
     exact List.any_eq_true.mpr ⟨_,hq,rfl⟩
  |ref j=>
   simp only[enter]at h
   split at h
   ·cases h
   ·rename_i hn
    have nr:Rv.ref j∉rs:=fun hq=>hn (List.any_eq_true.mpr ⟨_,hq,by simp[iW]⟩)
    cases e1:env[j]? with
    |none=>rw[e1]at h;cases h
    |some s=>
     rw[e1]at h
     have h1':σ[j]? =some (some v):=h1
     cases s with
     |un=>cases h
     |val d=>cases h
     |own o=>
      cases e:enter rs env with
      |none=>simp only[e]at h;cases h
      |some ps'=>
       simp only[e]at h
       cases h
       obtain⟨a,z1,z2⟩:=S.sl j _ e1
       rw[h1']at z1
       cases z1
       exact .ref e1 rfl h1' z2 nr (iC S e h2)
     |bor o=>
      cases e:enter rs env with
      |none=>simp only[e]at h;cases h
      |some ps'=>
       simp only[e]at h
       cases h
       obtain⟨a,z1,z2⟩:=S.sl j _ e1
       rw[h1']at z1
       cases z1
       exact .ref e1 rfl h1' z2 nr (iC S e h2)
theorem En.len{rs:List Rv}{ps:List Sl}{vs:List V}(h:En K env σ H0 H rs ps vs):ps.length=vs.length/\rs.length=vs.length:=by
 induction h with
 |nil=>exact⟨rfl,rfl⟩
 |val _ _ ih=>simp[ih.1,ih.2]
 |tmp _ _ _ _ ih=>simp[ih.1,ih.2]
 |ref _ _ _ _ _ _ ih=>simp[ih.1,ih.2]
theorem En.noOwn{rs:List Rv}{ps:List Sl}{vs:List V}(h:En K env σ H0 H rs ps vs):noOwn ps:=by
 induction h with
 |nil=>intro i o e;simp at e
 |val _ _ ih=>intro i o e;cases i with
  |zero=>simp at e
  |succ i=>exact ih i o (by simpa using e)
 |tmp _ _ _ _ ih=>intro i o e;cases i with
  |zero=>simp at e
  |succ i=>exact ih i o (by simpa using e)
 |ref _ _ _ _ _ _ ih=>intro i o e;cases i with
  |zero=>simp at e
  |succ i=>exact ih i o (by simpa using e)
theorem En.lent{rs:List Rv}{ps:List Sl}{vs:List V}(h:En K env σ H0 H rs ps vs):∀{i:Nat}{a:Addr},aJ ps (vs.map some) i a->(∃o,rs[i]? =some (.tmp o)/\H0 a=none)\/∃j,rs[i]? =some (.ref j)/\aJ env σ j a:=by
 induction h with
 |nil=>rintro i a ⟨⟨s,o,e,_⟩,_⟩;simp at e
 |val _ _ ih=>
  rintro i a ⟨⟨s,o,e1,e2⟩,e3⟩
  cases i with
  |zero=>simp at e1;subst e1;cases e2
  |succ i=>simpa using ih ⟨⟨s,o,by simpa using e1,e2⟩,by simpa using e3⟩
 | @tmp o b rs ps vs oa h0 _ _ ih=>
  rintro i a ⟨⟨s,o',e1,e2⟩,e3⟩
  cases i with
  |zero=>
   simp at e3
   subst e3
   exact .inl ⟨o,rfl,h0⟩
  |succ i=>simpa using ih ⟨⟨s,o',by simpa using e1,e2⟩,by simpa using e3⟩
 | @ref o j b s rs ps vs e1 e2 e3 oa nr _ ih=>
  rintro i a ⟨⟨s',o',z1,z2⟩,z3⟩
  cases i with
  |zero=>
   simp at z3
   subst z3
   exact .inr ⟨j,rfl,⟨⟨s,o,e1,e2⟩,e3⟩⟩
  |succ i=>simpa using ih ⟨⟨s',o',by simpa using z1,z2⟩,by simpa using z3⟩
theorem En.fD{env0:Ev}(S0:Sat K env0 σ H0)(S:Sat K env σ H)(sub:∀(i:Nat)a,aJ env σ i a->aJ env0 σ i a){rs:List Rv}{ps:List Sl}{vs:List V}(h:En K env σ H0 H rs ps vs):Sat K ps (vs.map some) H:=by
 refine⟨by simpa using h.len.1,?_,?_⟩
 ·clear S0 sub
  induction h with
  |nil=>intro i s e;simp at e
  |val hd _ ih=>
   intro i s e
   cases i with
   |zero=>simp at e;subst e;exact⟨_,rfl,hd⟩
   |succ i=>simpa using ih i s (by simpa using e)
  |tmp oa _ _ _ ih=>
   intro i s e
   cases i with
   |zero=>simp at e;subst e;exact⟨_,rfl,oa⟩
   |succ i=>simpa using ih i s (by simpa using e)
  |ref _ _ _ oa _ _ ih=>
   intro i s e
   cases i with
   |zero=>simp at e;subst e;exact⟨_,rfl,oa⟩
   |succ i=>simpa using ih i s (by simpa using e)
 ·--no two slots have one address
  have fresh:∀a,H0 a=none->∀j,¬aJ env σ j a:=fun a ha j z=>S0.mZ ha j (sub j a z)
  induction h with
  |nil=>rintro i j a ⟨⟨s,o,e,_⟩,_⟩;simp at e
  |val hd t ih=>
   rintro i j a ⟨⟨s,o,e1,e2⟩,e3⟩ ⟨⟨s',o',e1',e2'⟩,e3'⟩
   cases i with
   |zero=>simp at e1;subst e1;cases e2
   |succ i=>cases j with
    |zero=>simp at e1';subst e1';cases e2'
    |succ j=>rw[ih i j a ⟨⟨s,o,by simpa using e1,e2⟩,by simpa using e3⟩ ⟨⟨s',o',by simpa using e1',e2'⟩,by simpa using e3'⟩]
  | @tmp o b rs ps vs oa h0 nt t ih=>
   have clash:∀i,¬aJ ps (vs.map some) i b:=fun i z=>by
    rcases t.lent z with ⟨q,e,_⟩|⟨q,_,ow⟩
    ·exact nt q (List.mem_of_getElem? e)
    ·exact fresh b h0 q ow
   rintro i j a ⟨⟨s,o,e1,e2⟩,e3⟩ ⟨⟨s',o',e1',e2'⟩,e3'⟩
   cases i with
   |zero=>
    simp at e3
    subst e3
    cases j with
    |zero=>rfl
    |succ j=>exact absurd ⟨⟨s',o',by simpa using e1',e2'⟩,by simpa using e3'⟩ (clash j)
   |succ i=>cases j with
    |zero=>
     simp at e3'
     subst e3'
     exact absurd ⟨⟨s,o,by simpa using e1,e2⟩,by simpa using e3⟩ (clash i)
    |succ j=>rw[ih i j a ⟨⟨s,o,by simpa using e1,e2⟩,by simpa using e3⟩ ⟨⟨s',o',by simpa using e1',e2'⟩,by simpa using e3'⟩]
  | @ref o k b s0 rs ps vs z1 z2 z3 oa nr t ih=>
   have ok:aJ env σ k b:=⟨⟨s0,o,z1,z2⟩,z3⟩
   have clash:∀i,¬aJ ps (vs.map some) i b:=fun i z=>by
    rcases t.lent z with ⟨q,e,h0⟩|⟨q,e,ow⟩
    ·exact fresh b h0 k ok
    ·have:=S.ne k q b ok ow
     subst this
     exact nr (List.mem_of_getElem? e)
   rintro i j a ⟨⟨s,o,e1,e2⟩,e3⟩ ⟨⟨s',o',e1',e2'⟩,e3'⟩
   cases i with
   |zero=>
    simp at e3
    subst e3
    cases j with
    |zero=>rfl
    |succ j=>exact absurd ⟨⟨s',o',by simpa using e1',e2'⟩,by simpa using e3'⟩ (clash j)
   |succ i=>cases j with
    |zero=>
     simp at e3'
     subst e3'
     exact absurd ⟨⟨s,o,by simpa using e1,e2⟩,by simpa using e3⟩ (clash i)
    |succ j=>rw[ih i j a ⟨⟨s,o,by simpa using e1,e2⟩,by simpa using e3⟩ ⟨⟨s',o',by simpa using e1',e2'⟩,by simpa using e3'⟩]
end
end Mini
end
section
namespace Mini
open PySem L2
def Sl.Bx(o':Ob):Sl->Option Sl
 |.own _=>some (.own o')
 |.bor _=>some (.bor o')
 |_=>none
theorem Gw{j:Nat}{o':Ob}{env env':Ev}(h:cg j (fun _=>some o') env=some env'):∃s s',env[j]? =some s/\s.Bx o'=some s'/\env'=env.set j s':=by
 obtain⟨o,q,e,hh⟩:=pB h
 cases e
 rcases hh with ⟨e,rfl⟩|⟨e,rfl⟩
 ·exact⟨_,_,e,rfl,rfl⟩
 ·exact⟨_,_,e,rfl,rfl⟩
theorem nF:∀{rs:List Rv}{qs:List Sl}{env env2:Ev},giveBack rs qs env=some env2->env2.length=env.length/\∀j:Nat,
  ((∀i:Nat,rs[i]? ≠some (Rv.ref j))/\env2[j]? =env[j]?)\/∃(i:Nat)(o':Ob)(s s':Sl),rs[i]? =some (.ref j)/\qs[i]? =some (.bor o')/\env[j]? =some s/\s.Bx o'=some s'/\env2[j]? =some s'
 |[],[],env,env2,h=>by
  cases h
  exact⟨rfl,fun j=>.inl ⟨fun i=>by simp,rfl⟩⟩
 |[],_::_,env,env2,h=>by cases h
 |x::rs,[],env,env2,h=>by cases x<;>cases h
 |x::rs,q::qs,env,env2,h=>by
  have skip:giveBack rs qs env=some env2->(∀j,x≠ .ref j)->env2.length=env.length/\∀j:Nat,
    ((∀i:Nat,(x::rs)[i]? ≠some (Rv.ref j))/\env2[j]? =env[j]?)\/∃(i:Nat)(o':Ob)(s s':Sl),(x::rs)[i]? =some (.ref j)/\(q::qs)[i]? =some (.bor o')/\env[j]? =some s/\s.Bx o'=some s'/\env2[j]? =some s':=fun h nx=>by
   obtain⟨l,g⟩:=nF h
   refine⟨l,fun j=>?_⟩
   rcases g j with ⟨g1,g2⟩|⟨i,o',s,s',g1,g2,g3⟩
   ·refine .inl ⟨fun i e=>?_,g2⟩
    cases i with
    |zero=>simp at e;exact nx j e
    |succ i=>exact g1 i (by simpa using e)
   ·exact .inr ⟨i+1,o',s,s',by simpa using g1,by simpa using g2,g3⟩
  cases x with
  |val d=>exact skip h fun j z=>by cases z
  |new o=>exact skip h fun j z=>by cases z
  |tmp o=>exact skip h fun j z=>by cases z
  |ref k=>
   cases q with
   |bor o=>
    change Option.bind (cg k (fun _=>some o) env) (giveBack rs qs)=some env2 at h
    cases e:cg k (fun _=>some o) env with
    |none=>rw[e]at h;cases h
    |some env1=>
     rw[e]at h
     obtain⟨s0,s1,z1,z2,rfl⟩:=Gw e
     have hk:k<env.length:=(List.getElem?_eq_some_iff.mp z1).1
     obtain⟨l,g⟩:=nF h
     refine⟨by simpa using l,fun j=>?_⟩
     rcases g j with ⟨g1,g2⟩|⟨i,o',s,s',g1,g2,g3,g4,g5⟩
     ·by_cases hj:k=j
      ·subst hj
       rw[List.getElem?_set_self hk]at g2
       exact .inr ⟨0,o,s0,s1,rfl,rfl,z1,z2,g2⟩
      ·rw[List.getElem?_set_ne hj]at g2
       refine .inl ⟨fun i e=>?_,g2⟩
       cases i with
       |zero=>simp at e;exact hj e
       |succ i=>exact g1 i (by simpa using e)
     ·by_cases hj:k=j
      ·subst hj
       rw[List.getElem?_set_self hk]at g3
       cases g3
       refine .inr ⟨i+1,o',s0,s',by simpa using g1,by simpa using g2,z1,?_,g5⟩
       cases s0 with
       |own q=>cases z2;exact g4
       |bor q=>cases z2;exact g4
       |un=>cases z2
       |val d=>cases z2
      ·rw[List.getElem?_set_ne hj]at g3
       exact .inr ⟨i+1,o',s,s',by simpa using g1,by simpa using g2,g3,g4,g5⟩
   |un=>cases h
   |val d=>cases h
   |own o=>cases h
theorem IK{s s':Sl}{o':Ob}(h:s.Bx o'=some s'):(∃o,isOwn s=some o)/\isOwn s'=some o':=by
 cases s with
 |own q=>cases h;exact⟨⟨q,rfl⟩,rfl⟩
 |bor q=>cases h;exact⟨⟨q,rfl⟩,rfl⟩
 |un=>cases h
 |val d=>cases h
section
variable{K:QQq}{env0 env env2:Ev}{σ:St}{H0 H H2:Hp}{rs:List Rv}{ps qs:List Sl}{vs:List V}
theorem En.Tr(h:En K env σ H0 H rs ps vs):∀{i j:Nat},rs[i]? =some (.ref j)->∃o a,ps[i]? =some (.bor o)/\vs[i]? =some (.ref a)/\σ[j]? =some (some (.ref a)):=by
 induction h with
 |nil=>intro i j e;simp at e
 |val _ _ ih=>intro i j e;cases i with
  |zero=>simp at e
  |succ i=>simpa using ih (by simpa using e)
 |tmp _ _ _ _ ih=>intro i j e;cases i with
  |zero=>simp at e
  |succ i=>simpa using ih (by simpa using e)
 | @ref o k a s rs ps vs e1 e2 e3 oa nr t ih=>
  intro i j e
  cases i with
  |zero=>simp at e;subst e;exact⟨o,a,rfl,rfl,e3⟩
  |succ i=>simpa using ih (by simpa using e)
theorem ww(S0:Sat K env0 σ H0)(N:Nx K env0 σ H0 env H)(E:En K env σ H0 H rs ps vs)(C:Cz K ps vs H qs H2)(g:giveBack rs qs env=some env2):Nx K env0 σ H0 env2 H2:=by
 have S:=N.fD
 have sub:=N.sub
 obtain⟨gl,gs⟩:=nF g
 have fresh:∀a,H0 a=none->∀j,¬aJ env σ j a:=fun a ha j z=>S0.mZ ha j (sub j a z)
 have own2:∀j b,aJ env2 σ j b->aJ env σ j b:=fun j b z=>by
  obtain⟨⟨s,o,e1,e2⟩,e3⟩:=z
  rcases gs j with ⟨_,g2⟩|⟨i,o',s0,s1,_,_,g3,g4,g5⟩
  ·rw[g2]at e1;exact⟨⟨s,o,e1,e2⟩,e3⟩
  ·obtain⟨⟨q,hq⟩,_⟩:=IK g4
   exact⟨⟨s0,q,g3,hq⟩,e3⟩
 have notLent:∀j b,aJ env σ j b->(∀i:Nat,rs[i]? ≠some (Rv.ref j))->∀i,¬aJ ps (vs.map some) i b:=fun j b ow nr i z=>by
  rcases E.lent z with ⟨q,_,h0⟩|⟨k,e,ow'⟩
  ·exact fresh b h0 j ow
  ·have:=S.ne j k b ow ow'
   subst this
   exact nr i e
 refine⟨⟨by rw[gl];exact S.len,fun j s e=>?_,fun j k b z w=>S.ne j k b (own2 j b z) (own2 k b w)⟩,fun j b z=>sub j b (own2 j b z),N.pers.trans C.pers,fun b u hb no=>C.keep b u (N.keep b u hb no) fun i z=>?_,fun b z=>N.dom b (C.dom b z),fun j xs e=>?_⟩
 ·rcases gs j with ⟨g1,g2⟩|⟨i,o',s0,s1,g1,g2,g3,g4,g5⟩
  ·rw[g2]at e
   refine(S.sl j s e).keep C.pers fun b u ho ev hb=>?_
   exact C.keep b u hb (notLent j b (vD e ho ev) g1)
  ·rw[g5]at e
   cases e
   obtain⟨o,a,p1,p2,p3⟩:=E.Tr g1
   obtain⟨o'',a',c1,c2,c3⟩:=C.bor i o p1
   rw[g2]at c1
   cases c1
   rw[p2]at c2
   cases c2
   cases s0 with
   |own q=>cases g4;exact⟨a,by rw[p3];rfl,c3⟩
   |bor q=>cases g4;exact⟨a,by rw[p3];rfl,c3⟩
   |un=>cases g4
   |val d=>cases g4
 ·rcases E.lent z with ⟨q,_,h0⟩|⟨k,e,ow⟩
  ·rw[h0]at hb;cases hb
  ·exact no k (sub k b ow)
 ·obtain⟨xs,e⟩:=N.bors j xs e
  rcases gs j with ⟨g1,g2⟩|⟨i,o',s0,s1,g1,g2,g3,g4,g5⟩
  ·exact⟨xs,by rw[g2];exact e⟩
  ·rw[e]at g3
   cases g3
   cases g4
   exact⟨o',g5⟩
end
section
variable{X:Cx}{W:Wi}{c:Cf}{m:E}{e:Expr}{es:List Expr}{pos p:Pos}{CX:Aq}{k:Nat}{f:Addr}{fd:FuncData}{ps:List Str}{x:Str}{g:Nat}
theorem O5(F:gm X.prog X.w X.K X.mg X.base yF k f fd ps (lE X.K ps.length (c.fn g)))(hr:gY k X.A)(hg:Gl X x)(hm:X.mg x=some (.ref f))(hk:PySem.W.keepIn X.K (.ref f)=true)(hb:Binds X.K fd ps [])
  (hd:(x==("__debug__":Str))=false)(ha:GA X W c m (e::es))(he:starEach (e::es) X.env=(false,eval e X.env)::starEach es X.env)(hpl:(backTo pos (starEach es X.env)).any (·.1)=false)(hn:∀sl,c.fn g sl=.bad\/sl.length=ps.length):
  GE X W c (.call g m) (.Call (.Name x p) (e::es) [] pos):=by
 intro env QTz s σ H Q I q
 refine Nm F hr hg hm hk hb .nil Zz (t:=fun σ' H' R=>σ'=σ/\H'=H/\Yt X.K W env (evs c m env) σ H R) (fun p QTz s σ' H' R I'⟨e1,e2,z⟩=>by subst e1 e2;exact ha env p QTz s _ _ R I' z) hd he hpl QTz s σ H Q I ⟨rfl,rfl,?_⟩
 simp only[Lw]at q
 obtain⟨S,q⟩:=q
 refine⟨S,?_⟩
 cases r:evs c m env with
 |bad=>rw[r]at q;exact q
 |exc j env1=>rw[r]at q;exact q
 |ok rs env1=>
  rw[r]at q
  simp only[Out.bind,qW]at q
  intro vs H1 N rv
  rw[List.append_nil]
  cases e1:enter rs env1 with
  |none=>rw[e1]at q;exact q.elim
  |some sl=>
   rw[e1]at q
   simp only at q
   have E:=iC N.fD e1 rv
   refine⟨sl,?_,E.fD S N.fD N.sub,E.noOwn,?_⟩
   ·rcases hn sl with z|z
    ·rw[z]at q;exact q.elim
    ·rw[<-E.len.1,z]
   ·cases e2:c.fn g sl with
    |bad=>rw[e2]at q;exact q.elim
    |ok rv qs=>
     rw[e2]at q
     simp only at q
     intro v H2 C z
     cases e3:giveBack rs qs env1 with
     |none=>rw[e3]at q;exact q.elim
     |some env2=>
      rw[e3]at q
      refine q v H2 (ww S N E C e3) ?_
      cases rv with
      |val d=>exact z
      |new o=>obtain⟨a,z1,z2,z3⟩:=z;exact⟨a,z1,z2,N.dom a z3⟩
      |ref i=>exact z.elim
      |tmp o=>exact z.elim
    |exc j qs=>rw[e2]at q;exact q.elim
end
theorem tE(c:Cf)(g:Fn)(sl:List Sl):eO c g sl=.bad\/sl.length=g.pars:=by
 unfold eO
 split
 ·exact .inr (by assumption)
 ·exact .inl rfl
end Mini
end
section
namespace Mini
open PySem L2 PyProof.Rows
def oJ(b:Bool)(h:Heap)(it l:Addr)(k:Nat):Prop:=match b with|true=>h.IsListIter it l k|false=>h.IsTupleIter it l k
def wG(b:Bool)(h:Heap)(l:Addr)(xs:Array Value):Prop:=match b with|true=>h.IsList l xs|false=>h.IsTuple l xs
theorem oJ.at{b:Bool}{h h':Heap}{it l:Addr}{k:Nat}(x:oJ b h it l k)(e:∀o,h.get? it=some o->h'.get? it=some o):oJ b h' it l k:=by
 cases b<;>exact Exists.elim x fun o⟨h1,h2⟩=>⟨o,e o h1,h2⟩
theorem wG.at{b:Bool}{h h':Heap}{l:Addr}{xs:Array Value}(x:wG b h l xs)(e:∀o,h.get? l=some o->h'.get? l=some o):wG b h' l xs:=by
 cases b<;>exact Exists.elim x fun o⟨h1,h2⟩=>⟨o,e o h1,h2⟩
theorem oJ.obj{b:Bool}{h:Heap}{it l:Addr}{k:Nat}(x:oJ b h it l k):∃o,h.get? it=some o/\∀v,o.data≠ .cell v:=by
 cases b<;>exact Exists.elim x fun o⟨h1,_,h2⟩=>⟨o,h1,fun v z=>by rw[h2]at z;cases z⟩
theorem oJ.lt{b:Bool}{h:Heap}{it l:Addr}{k:Nat}(x:oJ b h it l k):it<h.objs.size:=let ⟨_,e,_⟩:=x.obj;Heap.lt_size e
section
variable{prog:Program}{w:World}{A:Around}{E:QZq}{s:Shared}
theorem lM{it l:Addr}{i:Nat}{items}{x:Value}{Q:QZq}(hit:s.heap.IsTupleIter it l i)
  (hl:s.heap.IsTuple l items)(hx:items[i]? =some x)
  (hQ:∀h',h'.IsTupleIter it l (i+1)->Heap.SameBut it s.heap h'->Q x {s with heap:=h'}):
  wpAny (model prog w) A (Builtin.SmallTypes.nextOf (.ref it)) Q E s:=by
 obtain⟨o,ho,hc,hd⟩:=id hit
 obtain⟨ol,hol,_,nl,hdl⟩:=hl
 unfold Builtin.SmallTypes.nextOf
 refine wpAny_bind (wpAny_callSpecial?_slot (name:=Str.ofString "__next__") hit.typeIs PySem.F.slot_tuple_iterator_next
  (wpAny_call_entry PySem.F.slot_tuple_iterator_next hit.typeIs PySem.F.entry_tuple_iterator_next ?_ (PySem.F.args_tuple_iterator_next_1 _)))
 show wpAny _ _ (field (.ref it) 0>>=_) _ _ s
 refine wpAny_bind (wpAny_field ho hd (x:=.ref l) rfl ?_)
 show wpAny _ _ (if (Value.ref l==Value.none)=true then _ else _) _ _ s
 rw[if_neg (show¬((Value.ref l==Value.none)=true)from Bool.false_ne_true)]
 show wpAny _ _ (field (.ref it) 1>>=_) _ _ s
 refine wpAny_bind (wpAny_field ho hd (x:=.int i 0) rfl ?_)
 show wpAny _ _ (seqItems? (.ref l)>>=_) _ _ s
 refine wpAny_bind (wpAny_seqItems hol hdl ?_)
 simp only[Int.toNat_natCast,hx]
 refine wpAny_bind (wpAny_setField ho hd (by simp) (wpAny_pure ⟨x,rfl,wpAny_pure (hQ _ ?_ (Heap.SameBut.update ..))⟩))
 exact⟨_,Heap.get?_update_self _ ho (Obj.isFreed_of_fields (Obj.data_mapFields hd _)),(Obj.cls_mapFields ..).trans hc,by
  rw[Obj.data_mapFields hd];simp[rawInt]⟩
theorem m5{it l:Addr}{i:Nat}{items}{Q:QZq}(hh:A.handled=none)
  (hit:s.heap.IsTupleIter it l i)(hl:s.heap.IsTuple l items)(hx:items[i]? =none)
  (hE:∀h' e,Heap.ExtBut it s.heap h'->(∃o,h'.get? e=some o/\o.cls=.type "StopIteration")->E (.ref e) {s with heap:=h'}):
  wpAny (model prog w) A (Builtin.SmallTypes.nextOf (.ref it)) Q E s:=by
 obtain⟨o,ho,hc,hd⟩:=id hit
 obtain⟨ol,hol,_,nl,hdl⟩:=hl
 unfold Builtin.SmallTypes.nextOf
 refine wpAny_bind (wpAny_callSpecial?_slot (name:=Str.ofString "__next__") hit.typeIs PySem.F.slot_tuple_iterator_next
  (wpAny_call_entry PySem.F.slot_tuple_iterator_next hit.typeIs PySem.F.entry_tuple_iterator_next ?_ (PySem.F.args_tuple_iterator_next_1 _)))
 show wpAny _ _ (field (.ref it) 0>>=_) _ _ s
 refine wpAny_bind (wpAny_field ho hd (x:=.ref l) rfl ?_)
 show wpAny _ _ (if (Value.ref l==Value.none)=true then _ else _) _ _ s
 rw[if_neg (show¬((Value.ref l==Value.none)=true)from Bool.false_ne_true)]
 show wpAny _ _ (field (.ref it) 1>>=_) _ _ s
 refine wpAny_bind (wpAny_field ho hd (x:=.int i 0) rfl ?_)
 show wpAny _ _ (seqItems? (.ref l)>>=_) _ _ s
 refine wpAny_bind (wpAny_seqItems hol hdl ?_)
 simp only[Int.toNat_natCast,hx]
 refine wpAny_bind (wpAny_rule (wpAny_bind (wpAny_setField ho hd (by simp) ?_)))
 show wpAny _ _ (newExc (.type "StopIteration") []>>=_) _ _ _
 refine wpAny_bind ?_
 simp only[newExc,newTuple]
 refine wpAny_bind (wpAny_newObj_type ?_ (by size_fits))
 refine wpAny_bind (m:=firstArgMember _ _) (wpAny_of_eq (a:=Value.none) (by first|rfl|(simp only[firstArgMember];rfl)) ?_)
 refine wpAny_newObj_type ?_ (by size_fits)
 simp only[raiseNew]
 refine wpAny_bind (wpAny_handled ?_)
 first|rw[show A.in1.handled=none from hh]|rw[hh]
 refine wpAny_bind (wpAny_pure (wpAny_throw (hE _ _ (((Heap.SameBut.update ..).extBut.push _).push _) ⟨_,Heap.get?_push_size _ rfl,rfl⟩)))
theorem eX{b:Bool}{it l:Addr}{i:Nat}{items}{x:Value}{Q:QZq}(hit:oJ b s.heap it l i)
  (hl:wG b s.heap l items)(hx:items[i]? =some x)(hQ:∀h',oJ b h' it l (i+1)->Heap.SameBut it s.heap h'->Q x {s with heap:=h'}):
  wpAny (model prog w) A (Builtin.SmallTypes.nextOf (.ref it)) Q E s:=by
 cases b with
 |true=>exact wpAny_nextOf_list_item hit hl hx hQ
 |false=>exact lM hit hl hx hQ
theorem jP{b:Bool}{it l:Addr}{i:Nat}{items}{Q:QZq}(hh:A.handled=none)
  (hit:oJ b s.heap it l i)(hl:wG b s.heap l items)(hx:items[i]? =none)
  (hE:∀h' e,Heap.ExtBut it s.heap h'->(∃o,h'.get? e=some o/\o.cls=.type "StopIteration")->E (.ref e) {s with heap:=h'}):
  wpAny (model prog w) A (Builtin.SmallTypes.nextOf (.ref it)) Q E s:=by
 cases b with
 |true=>exact wpAny_nextOf_list_end hh hit hl hx hE
 |false=>exact m5 hh hit hl hx hE
end
def gU(h:Heap)(z TI TO:Addr)(f0 f1:Value):Prop:=
 h.get? z=some {cls:=.type "zip",dict:=none,data:=.fields #[f0,f1,.bool false,.ref TI,.ref TO],slots:= #[]}
def F0(f0:Value):Prop:=f0=.none\/∃T:Nat,f0=rawInt T
section
variable{prog:Program}{w:World}{A:Around}{E:QZq}{s:Shared}
theorem lA{M:Model}{a:Addr}{Q:Option Obj->Shared->Prop}(h:Q (s.heap.get? a) s):wpAny M A (loadIfAlive a) Q E s:=fun Γ p hΓ=>by
 show Sem.wp M Γ (.loadIfAlive a .pure) _ _ p s
 rw[Sem.wp_loadIfAlive]
 exact(wpAny_pure (M:=M) (A:=A) (E:=E) h) Γ p hΓ
theorem wJ{z TI TO:Addr}{f0 f1:Value}{Q:Bool->Shared->Prop}(hz:gU s.heap z TI TO f0 f1)(h0:F0 f0)(hQ1:Q true s)
  (hQ2:∀h' g1,gU h' z TI TO f0 g1->Heap.SameBut z s.heap h'->Q false {s with heap:=h'}):wpAny (model prog w) A (Builtin.SmallTypes.ownedTupleIsFree (.ref z)) Q E s:=by
 unfold Builtin.SmallTypes.ownedTupleIsFree
 rcases h0 with rfl|⟨T,rfl⟩
 ·exact wpAny_bind (wpAny_field hz rfl (x:=.none) rfl (wpAny_pure hQ1))
 ·refine wpAny_bind (wpAny_field hz rfl (x:=rawInt T) rfl ?_)
  show wpAny _ _ (loadIfAlive ((T:Int).toNat)>>=_) _ _ s
  refine wpAny_bind (lA ?_)
  cases hT:s.heap.get? ((T:Int).toNat)with
  |none=>exact wpAny_pure hQ1
  |some o=>
   show wpAny _ _ (field (.ref z) 1>>=_) _ _ s
   refine wpAny_bind (wpAny_field hz rfl (x:=f1) rfl ?_)
   by_cases hf:(f1 != .bool true)=true
   ·rw[if_pos hf]
    refine wpAny_bind (wpAny_setField_rec hz (by simp) fun h' hz' hs'=>wpAny_pure (hQ2 h' (.bool true) hz' hs'))
   ·rw[if_neg hf]
    exact wpAny_pure (hQ2 s.heap f1 hz (Heap.SameBut.refl ..))
structure KH(z TI TO i1 i2:Addr)(b1 b2:Bool)(l1 l2:Addr)(k1 k2:Nat)(T:Addr)(x y:Value)(h h':Heap):Prop where
 zr:∃f0 f1,gU h' z TI TO f0 f1/\F0 f0
 ti:IsPair h' TI (.ref i1) (.ref i2)
 to:∃a b,IsPair h' TO a b
 it1:oJ b1 h' i1 l1 k1
 it2:oJ b2 h' i2 l2 k2
 new:IsPair h' T x y
 size:h'.objs.size=T+1
 keep:∀c o,c≠z->c≠TO->c≠i1->c≠i2->h.get? c=some o->h'.get? c=some o
theorem Dd{z TI TO i1 i2 l1 l2:Addr}{b1 b2:Bool}{k1 k2:Nat}{xs ys:Array Value}{x y a b f0 f1:Value}{Q:QZq}(D:ZipApart z TI TO i1 i2 l1 l2)
  (hz:gU s.heap z TI TO f0 f1)(h0:F0 f0)(hTI:IsPair s.heap TI (.ref i1) (.ref i2))(hTO:IsPair s.heap TO a b)
  (h1:oJ b1 s.heap i1 l1 k1)(h2:oJ b2 s.heap i2 l2 k2)(hl1:wG b1 s.heap l1 xs)(hl2:wG b2 s.heap l2 ys)(hx:xs[k1]? =some x)(hy:ys[k2]? =some y)
  (hQ:∀h',KH z TI TO i1 i2 b1 b2 l1 l2 (k1+1) (k2+1) s.heap.objs.size x y s.heap h'->Q (.ref s.heap.objs.size) {s with heap:=h'}):
  wpAny (model prog w) A (Builtin.«zip.__next__» ⟨[.ref z],[]⟩) (fun fin s'=>∃v,fin=.done (.ret v)/\Q v s') E s:=by
 show wpAny _ _ (field (.ref z) 2>>=_) _ _ _
 refine wpAny_bind (wpAny_field hz rfl (x:=.bool false) rfl ?_)
 show wpAny _ _ (field (.ref z) 3>>=_) _ _ _
 refine wpAny_bind (wpAny_field hz rfl (x:=.ref TI) rfl ?_)
 refine wpAny_bind (wpAny_seqItems hTI rfl ?_)
 show wpAny _ _ (Builtin.SmallTypes.ownedTupleIsFree (.ref z)>>=_) _ _ _
 refine wpAny_bind (wJ hz h0 ?_ ?_)
 ·--the tuple of its own is used again
  simp only[if_true]
  refine wpAny_bind (wpAny_rule ?_)
  refine wpAny_bind (wpAny_field hz rfl (x:=.ref TO) rfl ?_)
  refine wpAny_bind (wpAny_setField_rec hz (by simp) fun h₁ hz₁ hs₁=>?_)
  replace hz₁:gU h₁ z TI TO .ellipsis f1:=hz₁
  refine wpAny_bind ?_
  simp only[List.zipIdx_cons,List.zipIdx_nil,List.forIn_cons,List.forIn_nil]
  refine wpAny_bind (wpAny_bind (wpAny_onRaise ?_))
  show wpAny _ _ (Builtin.SmallTypes.nextOf (.ref i1)>>=_) _ _ _
  refine wpAny_bind (eX (h1.at fun o e=>hs₁.extBut _ _ D.i1z e) (hl1.at fun o e=>hs₁.extBut _ _ D.l1z e) hx fun h₂ h1₂ hs₂=>wpAny_pure ?_)
  have hTO₂:IsPair h₂ TO a b:=hs₂.extBut _ _ D.TOi1 (hs₁.extBut _ _ D.TOz hTO)
  refine wpAny_bind (wpAny_seqItems hTO₂ rfl ?_)
  refine wpAny_bind (wpAny_updateSeq_pair hTO₂ fun h₃ hTO₃ hs₃=>?_)
  replace hTO₃:IsPair h₃ TO x b:=hTO₃
  refine wpAny_bind (wpAny_letGo (wpAny_pure ?_))
  refine wpAny_bind (wpAny_bind (wpAny_onRaise ?_))
  show wpAny _ _ (Builtin.SmallTypes.nextOf (.ref i2)>>=_) _ _ _
  refine wpAny_bind (eX (h2.at fun o e=>hs₃.extBut _ _ D.TOi2.symm (hs₂.extBut _ _ D.i12.symm (hs₁.extBut _ _ D.i2z e)))
   (hl2.at fun o e=>hs₃.extBut _ _ D.l2TO (hs₂.extBut _ _ D.l2i1 (hs₁.extBut _ _ D.l2z e))) hy fun h₄ h2₄ hs₄=>wpAny_pure ?_)
  have hTO₄:IsPair h₄ TO x b:=hs₄.extBut _ _ D.TOi2 hTO₃
  refine wpAny_bind (wpAny_seqItems hTO₄ rfl ?_)
  refine wpAny_bind (wpAny_updateSeq_pair hTO₄ fun h₅ hTO₅ hs₅=>?_)
  replace hTO₅:IsPair h₅ TO x y:=hTO₅
  refine wpAny_bind (wpAny_letGo (wpAny_pure (wpAny_pure ?_)))
  refine wpAny_bind (wpAny_seqItems hTO₅ rfl ?_)
  refine wpAny_bind (wpAny_newTuple ?_)
  have hsz:h₅.objs.size=s.heap.objs.size:=by rw[hs₅.1,hs₄.1,hs₃.1,hs₂.1,hs₁.1]
  have hz₅:gU h₅ z TI TO .ellipsis f1:=hs₅.extBut _ _ D.TOz.symm (hs₄.extBut _ _ D.i2z.symm (hs₃.extBut _ _ D.TOz.symm (hs₂.extBut _ _ D.i1z.symm hz₁)))
  have hk₅:∀c o,c≠z->c≠TO->c≠i1->c≠i2->s.heap.get? c=some o->h₅.get? c=some o:=fun c o c1 c2 c3 c4 e=>
   hs₅.extBut _ _ c2 (hs₄.extBut _ _ c4 (hs₃.extBut _ _ c2 (hs₂.extBut _ _ c3 (hs₁.extBut _ _ c1 e))))
  have h1₅:oJ b1 h₅ i1 l1 (k1+1):=h1₂.at fun o e=>hs₅.extBut _ _ D.TOi1.symm (hs₄.extBut _ _ D.i12 (hs₃.extBut _ _ D.TOi1.symm e))
  have h2₅:oJ b2 h₅ i2 l2 (k2+1):=h2₄.at fun o e=>hs₅.extBut _ _ D.TOi2.symm e
  have hzlt:z<h₅.objs.size:=Heap.lt_size hz₅
  show wpAny _ _ (Builtin.SmallTypes.ownedTupleHandOut (.ref z) (.ref h₅.objs.size)>>=_) _ _ _
  refine wpAny_bind ?_
  unfold Builtin.SmallTypes.ownedTupleHandOut
  have hz₆:gU (h₅.push {cls:=.type "tuple",data:=.seq #[x,y]}) z TI TO .ellipsis f1:=QXz _ hz₅
  refine wpAny_bind (wpAny_setField_rec hz₆ (by simp) fun h₇ hz₇ hs₇=>?_)
  replace hz₇:gU h₇ z TI TO (rawInt h₅.objs.size) f1:=hz₇
  refine wpAny_setField_rec hz₇ (by simp) fun h₈ hz₈ hs₈=>?_
  replace hz₈:gU h₈ z TI TO (rawInt h₅.objs.size) (.bool false):=hz₈
  have up:∀c o,c≠z->h₅.get? c=some o->h₈.get? c=some o:=fun c o c1 e=>hs₈.extBut _ _ c1 (hs₇.extBut _ _ c1 (QXz _ e))
  have hT₈:IsPair h₈ h₅.objs.size x y:=hs₈.extBut _ _ (Nat.ne_of_gt hzlt) (hs₇.extBut _ _ (Nat.ne_of_gt hzlt) (Heap.get?_push_size _ rfl))
  have hz8:h₈.objs.size=h₅.objs.size+1:=by rw[hs₈.1,hs₇.1,Heap.size_push]
  rw[hsz]at hz₈ hT₈ hz8
  refine wpAny_pure ⟨_,rfl,?_⟩
  show Q (.ref h₅.objs.size) _
  rw[hsz]
  have hTI₅:IsPair h₅ TI (.ref i1) (.ref i2):=hk₅ _ _ D.TIz D.TITO D.TIi1 D.TIi2 hTI
  exact hQ h₈ ⟨⟨_,_,hz₈,.inr ⟨_,rfl⟩⟩,up _ _ D.TIz hTI₅,⟨_,_,up _ _ D.TOz hTO₅⟩,h1₅.at fun o e=>up _ o D.i1z e,h2₅.at fun o e=>up _ o D.i2z e,hT₈,hz8,fun c o c1 c2 c3 c4 e=>up c o c1 (hk₅ c o c1 c2 c3 c4 e)⟩
 ·--it was kept:a new one
  intro h₁ g1 hz₁ hs₁
  simp only[Bool.false_eq_true,if_false]
  refine wpAny_bind ?_
  show wpAny _ _ (forIn #[Value.ref i1,Value.ref i2] _ _) _ _ _
  rw[<-Array.forIn_toList]
  simp only[List.forIn_cons,List.forIn_nil]
  refine wpAny_bind (wpAny_bind (wpAny_holding ?_))
  show wpAny _ _ (Builtin.SmallTypes.nextOf (.ref i1)>>=_) _ _ _
  refine wpAny_bind (eX (h1.at fun o e=>hs₁.extBut _ _ D.i1z e) (hl1.at fun o e=>hs₁.extBut _ _ D.l1z e) hx fun h₂ h1₂ hs₂=>wpAny_pure ?_)
  refine wpAny_pure ?_
  refine wpAny_bind (wpAny_bind (wpAny_holding ?_))
  show wpAny _ _ (Builtin.SmallTypes.nextOf (.ref i2)>>=_) _ _ _
  refine wpAny_bind (eX (h2.at fun o e=>hs₂.extBut _ _ D.i12.symm (hs₁.extBut _ _ D.i2z e))
   (hl2.at fun o e=>hs₂.extBut _ _ D.l2i1 (hs₁.extBut _ _ D.l2z e)) hy fun h₄ h2₄ hs₄=>wpAny_pure ?_)
  refine wpAny_pure (wpAny_pure ?_)
  have hsz:h₄.objs.size=s.heap.objs.size:=by rw[hs₄.1,hs₂.1,hs₁.1]
  have hk:∀c o,c≠z->c≠i1->c≠i2->s.heap.get? c=some o->h₄.get? c=some o:=fun c o c1 c3 c4 e=>hs₄.extBut _ _ c4 (hs₂.extBut _ _ c3 (hs₁.extBut _ _ c1 e))
  refine wpAny_bind (wpAny_newTuple (wpAny_pure ⟨_,rfl,?_⟩) (by show 2<=sizeLine;rw[sizeLine_eq];decide))
  show Q (.ref h₄.objs.size) {s with heap:=h₄.push {cls:=.type "tuple",data:=.seq #[x,y]}}
  have T:KH z TI TO i1 i2 b1 b2 l1 l2 (k1+1) (k2+1) s.heap.objs.size x y s.heap (h₄.push {cls:=.type "tuple",data:=.seq #[x,y]}):=by
   refine⟨⟨f0,g1,QXz _ (hs₄.extBut _ _ D.i2z.symm (hs₂.extBut _ _ D.i1z.symm hz₁)),h0⟩,QXz _ (hk _ _ D.TIz D.TIi1 D.TIi2 hTI),⟨a,b,QXz _ (hk _ _ D.TOz D.TOi1 D.TOi2 hTO)⟩,
    h1₂.at fun o e=>QXz _ (hs₄.extBut _ _ D.i12 e),h2₄.at fun o e=>QXz _ e,?_,by rw[Heap.size_push,hsz],fun c o c1 c2 c3 c4 e=>QXz _ (hk c o c1 c3 c4 e)⟩
   rw[<-hsz]
   exact Heap.get?_push_size _ rfl
  rw[hsz]
  exact hQ _ T
theorem Gi{z TI TO i1 i2 l1 l2:Addr}{b1 b2:Bool}{k1 k2:Nat}{xs ys:Array Value}{a b f0 f1:Value}{Q:Fin->Shared->Prop}(hh:A.handled=none)(D:ZipApart z TI TO i1 i2 l1 l2)
  (hz:gU s.heap z TI TO f0 f1)(h0:F0 f0)(hTI:IsPair s.heap TI (.ref i1) (.ref i2))(hTO:IsPair s.heap TO a b)
  (h1:oJ b1 s.heap i1 l1 k1)(h2:oJ b2 s.heap i2 l2 k2)(hl1:wG b1 s.heap l1 xs)(hl2:wG b2 s.heap l2 ys)(hend:xs[k1]? =none\/ys[k2]? =none)
  (hE:∀h' e,(∀c o,c≠z->c≠TO->c≠i1->c≠i2->s.heap.get? c=some o->h'.get? c=some o)->(∃o,h'.get? e=some o/\o.cls=.type "StopIteration")->E (.ref e) {s with heap:=h'}):
  wpAny (model prog w) A (Builtin.«zip.__next__» ⟨[.ref z],[]⟩) Q E s:=by
 show wpAny _ _ (field (.ref z) 2>>=_) _ _ _
 refine wpAny_bind (wpAny_field hz rfl (x:=.bool false) rfl ?_)
 show wpAny _ _ (field (.ref z) 3>>=_) _ _ _
 refine wpAny_bind (wpAny_field hz rfl (x:=.ref TI) rfl ?_)
 refine wpAny_bind (wpAny_seqItems hTI rfl ?_)
 show wpAny _ _ (Builtin.SmallTypes.ownedTupleIsFree (.ref z)>>=_) _ _ _
 refine wpAny_bind (wJ hz h0 ?_ ?_)
 ·simp only[if_true]
  refine wpAny_bind (wpAny_rule ?_)
  refine wpAny_bind (wpAny_field hz rfl (x:=.ref TO) rfl ?_)
  refine wpAny_bind (wpAny_setField_rec hz (by simp) fun h₁ hz₁ hs₁=>?_)
  replace hz₁:gU h₁ z TI TO .ellipsis f1:=hz₁
  refine wpAny_bind ?_
  simp only[List.zipIdx_cons,List.zipIdx_nil,List.forIn_cons,List.forIn_nil]
  refine wpAny_bind (wpAny_bind (wpAny_onRaise ?_))
  show wpAny _ _ (Builtin.SmallTypes.nextOf (.ref i1)>>=_) _ _ _
  cases hx:xs[k1]? with
  |none=>
   refine wpAny_bind (jP hh (h1.at fun o e=>hs₁.extBut _ _ D.i1z e) (hl1.at fun o e=>hs₁.extBut _ _ D.l1z e) hx fun h₂ e hs₂ he=>?_)
   obtain⟨oe,hoe,hce⟩:=he
   have hz₂:gU h₂ z TI TO .ellipsis f1:=hs₂ _ _ D.i1z.symm hz₁
   have hez:e≠z:=fun x=>by subst x;unfold gU at hz₂;rw[hz₂]at hoe;cases hoe;simp at hce
   refine wpAny_setField_rec hz₂ (by simp) fun h₃ _ hs₃=>hE h₃ e (fun c o c1 _ c3 _ x=>hs₃.extBut _ _ c1 (hs₂ _ _ c3 (hs₁.extBut _ _ c1 x))) ⟨oe,hs₃.extBut _ _ hez hoe,hce⟩
  |some x=>
   have hy:ys[k2]? =none:=by
    rcases hend with h|h
    ·rw[hx]at h;cases h
    ·exact h
   refine wpAny_bind (eX (h1.at fun o e=>hs₁.extBut _ _ D.i1z e) (hl1.at fun o e=>hs₁.extBut _ _ D.l1z e) hx fun h₂ h1₂ hs₂=>wpAny_pure ?_)
   have hTO₂:IsPair h₂ TO a b:=hs₂.extBut _ _ D.TOi1 (hs₁.extBut _ _ D.TOz hTO)
   refine wpAny_bind (wpAny_seqItems hTO₂ rfl ?_)
   refine wpAny_bind (wpAny_updateSeq_pair hTO₂ fun h₃ hTO₃ hs₃=>?_)
   refine wpAny_bind (wpAny_letGo (wpAny_pure ?_))
   refine wpAny_bind (wpAny_bind (wpAny_onRaise ?_))
   show wpAny _ _ (Builtin.SmallTypes.nextOf (.ref i2)>>=_) _ _ _
   refine wpAny_bind (jP hh (h2.at fun o e=>hs₃.extBut _ _ D.TOi2.symm (hs₂.extBut _ _ D.i12.symm (hs₁.extBut _ _ D.i2z e)))
    (hl2.at fun o e=>hs₃.extBut _ _ D.l2TO (hs₂.extBut _ _ D.l2i1 (hs₁.extBut _ _ D.l2z e))) hy fun h₄ e hs₄ he=>?_)
   obtain⟨oe,hoe,hce⟩:=he
   have hz₄:gU h₄ z TI TO .ellipsis f1:=hs₄ _ _ D.i2z.symm (hs₃.extBut _ _ D.TOz.symm (hs₂.extBut _ _ D.i1z.symm hz₁))
   have hez:e≠z:=fun x=>by subst x;unfold gU at hz₄;rw[hz₄]at hoe;cases hoe;simp at hce
   refine wpAny_setField_rec hz₄ (by simp) fun h₅ _ hs₅=>hE h₅ e (fun c o c1 c2 c3 c4 x=>hs₅.extBut _ _ c1 (hs₄ _ _ c4 (hs₃.extBut _ _ c2 (hs₂.extBut _ _ c3 (hs₁.extBut _ _ c1 x))))) ⟨oe,hs₅.extBut _ _ hez hoe,hce⟩
 ·intro h₁ g1 hz₁ hs₁
  simp only[Bool.false_eq_true,if_false]
  refine wpAny_bind ?_
  show wpAny _ _ (forIn #[Value.ref i1,Value.ref i2] _ _) _ _ _
  rw[<-Array.forIn_toList]
  simp only[List.forIn_cons,List.forIn_nil]
  refine wpAny_bind (wpAny_bind (wpAny_holding ?_))
  show wpAny _ _ (Builtin.SmallTypes.nextOf (.ref i1)>>=_) _ _ _
  cases hx:xs[k1]? with
  |none=>
   exact wpAny_bind (jP hh (h1.at fun o e=>hs₁.extBut _ _ D.i1z e) (hl1.at fun o e=>hs₁.extBut _ _ D.l1z e) hx fun h₂ e hs₂ he=>hE h₂ e (fun c o c1 _ c3 _ x=>hs₂ _ _ c3 (hs₁.extBut _ _ c1 x)) he)
  |some x=>
   have hy:ys[k2]? =none:=by
    rcases hend with h|h
    ·rw[hx]at h;cases h
    ·exact h
   refine wpAny_bind (eX (h1.at fun o e=>hs₁.extBut _ _ D.i1z e) (hl1.at fun o e=>hs₁.extBut _ _ D.l1z e) hx fun h₂ h1₂ hs₂=>wpAny_pure ?_)
   refine wpAny_pure ?_
   refine wpAny_bind (wpAny_bind (wpAny_holding ?_))
   show wpAny _ _ (Builtin.SmallTypes.nextOf (.ref i2)>>=_) _ _ _
   exact wpAny_bind (jP hh (h2.at fun o e=>hs₂.extBut _ _ D.i12.symm (hs₁.extBut _ _ D.i2z e))
    (hl2.at fun o e=>hs₂.extBut _ _ D.l2i1 (hs₁.extBut _ _ D.l2z e)) hy fun h₄ e hs₄ he=>hE h₄ e (fun c o c1 _ c3 c4 x=>hs₄ _ _ c4 (hs₂.extBut _ _ c3 (hs₁.extBut _ _ c1 x))) he)
theorem oN{z TI TO i1 i2 l1 l2:Addr}{b1 b2:Bool}{k1 k2:Nat}{xs ys:Array Value}{x y a b f0 f1:Value}{Q:Option Value->Shared->Prop}(D:ZipApart z TI TO i1 i2 l1 l2)
  (hz:gU s.heap z TI TO f0 f1)(h0:F0 f0)(hTI:IsPair s.heap TI (.ref i1) (.ref i2))(hTO:IsPair s.heap TO a b)
  (h1:oJ b1 s.heap i1 l1 k1)(h2:oJ b2 s.heap i2 l2 k2)(hl1:wG b1 s.heap l1 xs)(hl2:wG b2 s.heap l2 ys)(hx:xs[k1]? =some x)(hy:ys[k2]? =some y)
  (hQ:∀h',KH z TI TO i1 i2 b1 b2 l1 l2 (k1+1) (k2+1) s.heap.objs.size x y s.heap h'->Q (some (.ref s.heap.objs.size)) {s with heap:=h'}):
  wpAny (model prog w) A (pyNext (.ref z)) Q E s:=by
 have hT:s.TypeIs (.ref z) "zip":=⟨_,hz,rfl⟩
 unfold pyNext
 exact wpAny_bind (wpAny_attempt (wpAny_callSpecial?_slot (name:=Str.ofString "__next__") hT PySem.F.slot_zip_next
  (wpAny_call_entry PySem.F.slot_zip_next hT PySem.F.entry_zip_next
   (Dd D hz h0 hTI hTO h1 h2 hl1 hl2 hx hy fun h' T=>wpAny_pure (hQ h' T)) (PySem.F.args_zip_next_1 _))))
theorem pX{z TI TO i1 i2 l1 l2:Addr}{b1 b2:Bool}{k1 k2:Nat}{xs ys:Array Value}{a b f0 f1:Value}{Q:Option Value->Shared->Prop}(hh:A.handled=none)(D:ZipApart z TI TO i1 i2 l1 l2)
  (hz:gU s.heap z TI TO f0 f1)(h0:F0 f0)(hTI:IsPair s.heap TI (.ref i1) (.ref i2))(hTO:IsPair s.heap TO a b)
  (h1:oJ b1 s.heap i1 l1 k1)(h2:oJ b2 s.heap i2 l2 k2)(hl1:wG b1 s.heap l1 xs)(hl2:wG b2 s.heap l2 ys)(hend:xs[k1]? =none\/ys[k2]? =none)
  (hQ:∀h',(∀c o,c≠z->c≠TO->c≠i1->c≠i2->s.heap.get? c=some o->h'.get? c=some o)->Q none {s with heap:=h'}):wpAny (model prog w) A (pyNext (.ref z)) Q E s:=by
 have hT:s.TypeIs (.ref z) "zip":=⟨_,hz,rfl⟩
 unfold pyNext
 refine wpAny_bind (wpAny_attempt (wpAny_callSpecial?_slot (name:=Str.ofString "__next__") hT PySem.F.slot_zip_next
  (wpAny_call_entry PySem.F.slot_zip_next hT PySem.F.entry_zip_next (Gi hh D hz h0 hTI hTO h1 h2 hl1 hl2 hend fun h' e hk he=>?_) (PySem.F.args_zip_next_1 _))))
 obtain⟨o,ho,hc⟩:=he
 refine wpAny_bind (wpAny_isInstance (T:="StopIteration") (b:=true) ⟨o,ho,hc⟩ isSubtype_stop ?_)
 exact wpAny_pure (hQ _ hk)
end
end Mini
end
section
namespace Mini
open PySem L2 PyProof.Rows
section
variable{prog:Program}{w:World}{A:Around}{E:QZq}{s:Shared}
theorem Eo{tg:Expr}{z TI TO T:Addr}{f0 f1:Value}{Q:Unit->Shared->Prop}(hz:gU s.heap z TI TO f0 f1)(h0:F0 f0)
  (hQ:∀h' g0,gU h' z TI TO g0 f1->F0 g0->Heap.SameBut z s.heap h'->Q () {s with heap:=h'}):wpAny (model prog w) A (letOwnedTupleGo tg (.ref z) (.ref T)) Q E s:=by
 have same:Q () s:=hQ s.heap f0 hz h0 (Heap.SameBut.refl ..)
 have go:wpAny (model prog w) A (do
   let o<-load z
   match o.cls,o.data with
   |.type n,.fields vs=>
    if ["enumerate","zip","dict_itemiterator","dict_reverseitemiterator","odict_iterator","itertools.zip_longest","itertools.pairwise"].contains n&&vs[0]? ==some (rawInt T)then
     rule "for.unpacks-the-owned-tuple"
     updateField z 0 .none
   |_,_=>pure ()) Q E s:=by
  refine wpAny_bind (wpAny_load hz ?_)
  show wpAny _ _ (if (["enumerate","zip","dict_itemiterator","dict_reverseitemiterator","odict_iterator","itertools.zip_longest","itertools.pairwise"].contains "zip"&&
   (#[f0,f1,.bool false,.ref TI,.ref TO]:Array Value)[0]? ==some (rawInt T))=true then _ else _) Q E s
  split
  ·refine wpAny_bind (wpAny_rule ?_)
   show wpAny _ _ (setField (.ref z) 0 .none) Q E s
   exact wpAny_setField_rec hz (by simp) fun h' hz' hs'=>hQ h' .none hz' (.inl rfl) hs'
  ·exact wpAny_pure same
 unfold letOwnedTupleGo
 cases tg<;>first
  |exact wpAny_pure same
  |exact go
theorem iQ{z TI TO:Addr}{f0 f1:Value}{Q:QZq}(hz:gU s.heap z TI TO f0 f1)(h:Q (.ref z) s):wpAny (model prog w) A (pyIter (.ref z)) Q E s:=by
 have hT:s.TypeIs (.ref z) "zip":=⟨_,hz,rfl⟩
 refine wpAny_pyIter_slot hT PySem.F.slot_zip_iter (wpAny_call_entry PySem.F.slot_zip_iter hT PySem.F.entry_zip_iter ?_ (PySem.F.args_zip_iter_1 _))
 show wpAny _ _ (ret (.ref z)) _ _ s
 exact wpAny_pure ⟨_,rfl,"zip",_,hT,PySem.F.slot_zip_next.lookup,h⟩
end
def itN(b:Bool):String:=if b then "list_iterator" else "tuple_iterator"
abbrev zH1(b1:Bool)(h:Heap)(l1:Addr):Heap:=h.push {cls:=.type (itN b1),data:=.fields #[.ref l1,.int 0 0]}
abbrev zH2(b1 b2:Bool)(h:Heap)(l1 l2:Addr):Heap:=(zH1 b1 h l1).push {cls:=.type (itN b2),data:=.fields #[.ref l2,.int 0 0]}
abbrev zH3(b1 b2:Bool)(h:Heap)(l1 l2:Addr):Heap:=(zH2 b1 b2 h l1 l2).push {cls:=.type "tuple",data:=.seq #[.ref h.objs.size,.ref (zH1 b1 h l1).objs.size]}
abbrev zH4(b1 b2:Bool)(h:Heap)(l1 l2:Addr):Heap:=(zH3 b1 b2 h l1 l2).push {cls:=.type "tuple",data:=.seq #[.none,.none]}
abbrev Lb(b1 b2:Bool)(h:Heap)(l1 l2:Addr):Heap:=(zH4 b1 b2 h l1 l2).push {cls:=.type "zip",data:=.fields #[.none,.bool false,.bool false,.ref (zH2 b1 b2 h l1 l2).objs.size,.ref (zH3 b1 b2 h l1 l2).objs.size]}
theorem Gh(b1 b2:Bool)(l1 l2:Addr)(xs ys:Array Value):
  Meets (Builtin.«zip.__new__» ⟨[.type "zip",.ref l1,.ref l2],[]⟩) (fun _ R s=>wG b1 s.heap l1 xs/\wG b2 s.heap l2 ys/\
   R (.ok (.ret (.ref (zH4 b1 b2 s.heap l1 l2).objs.size))) {s with heap:=Lb b1 b2 s.heap l1 l2}):=
 .of_wp fun prog w A R s h=>by
  obtain⟨hp,g,d,tk,os⟩:=s;obtain⟨hl1,hl2,h⟩:=h
  have hsub:=sub_zip
  cases b1<;>cases b2
  ·have hL1:Heap.IsTuple (Shared.heap ⟨hp,g,d,tk,os⟩) l1 xs:=hl1
   have hL2:Heap.IsTuple (Shared.heap ⟨hp.push {cls:=.type "tuple_iterator",data:=.fields #[.ref l1,.int 0 0]},g,d,tk,os⟩) l2 ys:=hl2.at (b:=false) fun o e=>QXz _ e
   wp_walk using wpAny_pyIter_tuple hL1,wpAny_pyIter_tuple hL2
   exact⟨_,rfl,h⟩
  ·have hL1:Heap.IsTuple (Shared.heap ⟨hp,g,d,tk,os⟩) l1 xs:=hl1
   have hL2:Heap.IsList (Shared.heap ⟨hp.push {cls:=.type "tuple_iterator",data:=.fields #[.ref l1,.int 0 0]},g,d,tk,os⟩) l2 ys:=hl2.at (b:=true) fun o e=>QXz _ e
   wp_walk using wpAny_pyIter_tuple hL1,wpAny_pyIter_list hL2
   exact⟨_,rfl,h⟩
  ·have hL1:Heap.IsList (Shared.heap ⟨hp,g,d,tk,os⟩) l1 xs:=hl1
   have hL2:Heap.IsTuple (Shared.heap ⟨hp.push {cls:=.type "list_iterator",data:=.fields #[.ref l1,.int 0 0]},g,d,tk,os⟩) l2 ys:=hl2.at (b:=false) fun o e=>QXz _ e
   wp_walk using wpAny_pyIter_list hL1,wpAny_pyIter_tuple hL2
   exact⟨_,rfl,h⟩
  ·have hL1:Heap.IsList (Shared.heap ⟨hp,g,d,tk,os⟩) l1 xs:=hl1
   have hL2:Heap.IsList (Shared.heap ⟨hp.push {cls:=.type "list_iterator",data:=.fields #[.ref l1,.int 0 0]},g,d,tk,os⟩) l2 ys:=hl2.at (b:=true) fun o e=>QXz _ e
   wp_walk using wpAny_pyIter_list hL1,wpAny_pyIter_list hL2
   exact⟨_,rfl,h⟩
end Mini
end
section
namespace Mini
open PySem L2 PyProof.Rows
structure yE(z TI TO i1 i2:Addr)(b1 b2:Bool)(l1 l2:Addr)(k:Nat)(h:Heap):Prop where
 zr:∃f0 f1,gU h z TI TO f0 f1/\F0 f0
 ti:IsPair h TI (.ref i1) (.ref i2)
 to:∃a b,IsPair h TO a b
 it1:oJ b1 h i1 l1 k
 it2:oJ b2 h i2 l2 k
section
variable{prog:Program}{w:World}{A:Around}{E:QZq}{s:Shared}
theorem uJ{b1 b2:Bool}{l1 l2:Addr}{xs ys:Array Value}{Q:QZq}(hl1:wG b1 s.heap l1 xs)(hl2:wG b2 s.heap l2 ys)
  (h:∀h',yE (s.heap.objs.size+4) (s.heap.objs.size+2) (s.heap.objs.size+3) s.heap.objs.size (s.heap.objs.size+1) b1 b2 l1 l2 0 h'->h'.objs.size=s.heap.objs.size+5->
   (∀c o,s.heap.get? c=some o->h'.get? c=some o)->Q (.ref (s.heap.objs.size+4)) {s with heap:=h'}):
  wpAny (model prog w) A (call (.type "zip") [.ref l1,.ref l2]) Q E s:=by
 refine callType_new PySem.F.called_zip (by decide) (PySem.F.typeCall_zip_2 _ _) (PySem.F.newCall_zip_2 _ _) (fun obj=>PySem.F.args_object_init_3 obj _ _) PySem.F.entry_zip_new
  (Gh b1 b2 l1 l2 xs ys) ⟨hl1,hl2,?_⟩
 have z1:(zH1 b1 s.heap l1).objs.size=s.heap.objs.size+1:=Heap.size_push ..
 have z2:(zH2 b1 b2 s.heap l1 l2).objs.size=s.heap.objs.size+2:=by rw[Heap.size_push,z1]
 have z3:(zH3 b1 b2 s.heap l1 l2).objs.size=s.heap.objs.size+3:=by rw[Heap.size_push,z2]
 have z4:(zH4 b1 b2 s.heap l1 l2).objs.size=s.heap.objs.size+4:=by rw[Heap.size_push,z3]
 have z5:(Lb b1 b2 s.heap l1 l2).objs.size=s.heap.objs.size+5:=by rw[Heap.size_push,z4]
 have g5:(Lb b1 b2 s.heap l1 l2).get? (zH4 b1 b2 s.heap l1 l2).objs.size=some _:=Heap.get?_push_size _ rfl
 have g4:(Lb b1 b2 s.heap l1 l2).get? (zH3 b1 b2 s.heap l1 l2).objs.size=some _:=QXz _ (Heap.get?_push_size _ rfl)
 have g3:(Lb b1 b2 s.heap l1 l2).get? (zH2 b1 b2 s.heap l1 l2).objs.size=some _:=QXz _ (QXz _ (Heap.get?_push_size _ rfl))
 have g2:(Lb b1 b2 s.heap l1 l2).get? (zH1 b1 s.heap l1).objs.size=some _:=QXz _ (QXz _ (QXz _ (Heap.get?_push_size _ rfl)))
 have g1:(Lb b1 b2 s.heap l1 l2).get? s.heap.objs.size=some _:=QXz _ (QXz _ (QXz _ (QXz _ (Heap.get?_push_size _ rfl))))
 show _/\_
 rw[z2,z3,z4]at g5
 rw[z1,z2]at g3
 rw[z3]at g4
 rw[z1]at g2
 rw[z4]
 have i1:oJ b1 (Lb b1 b2 s.heap l1 l2) s.heap.objs.size l1 0:=by cases b1<;>exact⟨_,g1,rfl,rfl⟩
 have i2:oJ b2 (Lb b1 b2 s.heap l1 l2) (s.heap.objs.size+1) l2 0:=by cases b2<;>exact⟨_,g2,rfl,rfl⟩
 exact⟨⟨_,g5,rfl⟩,h _ ⟨⟨_,_,g5,.inl rfl⟩,g3,⟨_,_,g4⟩,i1,i2⟩ z5 fun c o x=>
  QXz _ (QXz _ (QXz _ (QXz _ (QXz _ x))))⟩
end
theorem sO{n l1 l2:Addr}(h1:l1<n)(h2:l2<n):ZipApart (n+4) (n+2) (n+3) n (n+1) l1 l2:=zipApart_new h1 h2
theorem Inv.Lz{X:Cx}{QTz:QQz}{σ:L2.St}{H:Hp}{s:Shared}{h':Heap}{t':Nat}{ch:List Addr}(I:Inv X QTz σ H s)(k:∀b o,b∉ch->s.heap.get? b=some o->h'.get? b=some o)(hf:∀b∈ch,gB X QTz H b):
  Inv X QTz σ H {s with heap:=h',toks:=t'}:=by
 have nit:∀b u,H b=some u->b∉ch:=fun b u e z=>by rw[(hf b z).1]at e;cases e
 have nL:X.env.locals∉ch:=fun z=>(hf _ z).2.1 rfl
 refine I.step (g':=s.gens) (d':=s.drawn) (ch:=ch) (fun b hb=>⟨(hf b hb).2.2.2.1,(hf b hb).2.1,(hf b hb).2.2.2.2.1,(hf b hb).2.2.2.2.2⟩) (fun b o _ _ hc e _=>k b o hc e) (fun b o _ _ hc e _=>⟨o.slots,k b o hc e⟩) (fun _ _ _ _ n=>n)
  (fun b o hc e=>⟨o,k b o hc e⟩) (fun _ _ e=>e) (fun _ _ _ e=>e) (fun b ps e=>⟨#[],by rw[e];simp⟩) (fun m hm=>?_) (fun b u e=>?_) I.bare
 ·obtain⟨o,es,ep,ho,r⟩:=hm
  exact⟨o,es,ep,k _ o nL ho,r⟩
 ·refine(I.hok b u e).stay (fun c v hc q=>k c v ?_ q) (fun _ q=>q) fun _ _ q=>q
  rcases hc with z|z
  ·rw[z];exact nit b u e
  ·exact nit c _ z
theorem Inv.Dh{X:Cx}{QTz:QQz}{σ:L2.St}{H:Hp}{s:Shared}{h':Heap}{t':Nat}{ch:List Addr}{a:Addr}{u:HO}(I:Inv X QTz σ H s)(k:∀b o,b∉ch->s.heap.get? b=some o->h'.get? b=some o)(hf:∀b∈ch,gB X QTz H b)
  (ha:s.heap.objs.size<=a)(new:b8 X.prog X.w (upd H a u) h' a u):Inv X QTz σ (upd H a u) {s with heap:=h',toks:=t'}:=by
 have hn:H a=none:=I.hok.fresh ha
 have nit:∀b u,H b=some u->b∉ch:=fun b u e z=>by rw[(hf b z).1]at e;cases e
 have nL:X.env.locals∉ch:=fun z=>(hf _ z).2.1 rfl
 have ne:∀b w,H b=some w->b≠a:=fun b w e z=>by subst z;rw[hn]at e;cases e
 refine I.step (g':=s.gens) (d':=s.drawn) (ch:=ch) (fun b hb=>⟨(hf b hb).2.2.2.1,(hf b hb).2.1,(hf b hb).2.2.2.2.1,(hf b hb).2.2.2.2.2⟩) (fun b o _ _ hc e _=>k b o hc e) (fun b o _ _ hc e _=>⟨o.slots,k b o hc e⟩)
  (fun b o _ e n=>by rw[aC (Nat.ne_of_lt (Nat.lt_of_lt_of_le (Heap.lt_size e) ha))];exact n)
  (fun b o hc e=>⟨o,k b o hc e⟩) (fun b xs e=>by rw[aC (ne b _ e)];exact e) (fun b o w e=>by rw[aC (ne b _ e)];exact e) (fun b ps e=>⟨#[],by rw[aC (ne b _ e),e];simp⟩) (fun m hm=>?_) (fun b w e=>?_) I.bare
 ·obtain⟨o,es,ep,ho,r⟩:=hm
  exact⟨o,es,ep,k _ o nL ho,r⟩
 ·by_cases hb:b=a
  ·subst hb
   rw[aQ]at e
   cases e
   exact new
  ·rw[aC hb]at e
   refine(I.hok b w e).stay (fun c v hc q=>k c v ?_ q) (fun c q=>by rw[aC (ne c _ q)];exact q) fun c xs q=>by rw[aC (ne c _ q)];exact q
   rcases hc with z|z
   ·rw[z];exact nit b w e
   ·exact nit c _ z
def KN(K:QQq)(b:Bool)(H:Hp)(l:Addr)(vs:List V):Prop:=match b with|true=>K3 K H l vs|false=>jl K H l vs
theorem bU.vo{K:QQq}{b:Bool}{H H':Hp}{l:Addr}{vs:List V}(p:bU H H')(h:KN K b H l vs):KN K b H' l vs:=by
 cases b with
 |true=>exact p.Ge h
 |false=>exact p.Tc h
theorem Inv.vo{X:Cx}{QTz:QQz}{σ:L2.St}{H:Hp}{s:Shared}{b:Bool}{l:Addr}{vs:List V}(I:Inv X QTz σ H s)(h:KN X.K b H l vs):∃its:List Value,Vals vs its/\wG b s.heap l its.toArray/\vs.length<=sizeLine/\l<s.heap.objs.size:=by
 cases b with
 |true=>
  obtain⟨its,r,p,z⟩:=I.list (K3.sq h)
  obtain⟨o,e,_⟩:=p.isList
  exact⟨its,r,p.isList,z,Heap.lt_size e⟩
 |false=>
  obtain⟨its,r,p,z⟩:=I.tuple h
  obtain⟨o,e,_⟩:=id p
  exact⟨its,r,p,z,Heap.lt_size e⟩
def Itz(K:QQq)(b1 b2:Bool)(l1 l2:Addr)(vs ws:List V):It:=
 ⟨fun i H=>KN K b1 H l1 vs/\KN K b2 H l2 ws/\∃v u,vs[i]? =some v/\ws[i]? =some u,
  fun i H x H'=>∃p v u,H p=none/\x=.ref p/\vs[i]? =some v/\ws[i]? =some u/\H'=upd H p (.tup [v,u]),
  fun i H=>KN K b1 H l1 vs/\KN K b2 H l2 ws/\(vs.length<=i\/ws.length<=i)⟩
theorem jy{P:Program}{w:World}{K:QQq}{tg:Expr}{z TI TO i1 i2 l1 l2:Addr}{b1 b2:Bool}{vs ws:List V}(D:ZipApart z TI TO i1 i2 l1 l2):
  Turn P w K tg (Itz K b1 b2 l1 l2 vs ws) [z,TI,TO,i1,i2] z (fun i h=>yE z TI TO i1 i2 b1 b2 l1 l2 i h) where
 mem:=by simp
 obj:=fun i h st b hb=>by
  obtain⟨f0,f1,zr,_⟩:=st.zr
  obtain⟨x,y,to⟩:=st.to
  simp only[List.mem_cons,List.not_mem_nil,or_false]at hb
  rcases hb with rfl|rfl|rfl|rfl|rfl
  ·exact⟨_,zr,fun v z=>by cases z⟩
  ·exact⟨_,st.ti,fun v z=>by cases z⟩
  ·exact⟨_,to,fun v z=>by cases z⟩
  ·exact st.it1.obj
  ·exact st.it2.obj
 keep:=fun i h h' st k=>by
  obtain⟨f0,f1,zr,hf⟩:=st.zr
  obtain⟨x,y,to⟩:=st.to
  exact⟨⟨f0,f1,k z (by simp) _ zr,hf⟩,k TI (by simp) _ st.ti,⟨x,y,k TO (by simp) _ to⟩,st.it1.at fun o e=>k i1 (by simp) o e,st.it2.at fun o e=>k i2 (by simp) o e⟩
 item:=by
  intro X hP hw hK hc i QTz s σ H E I hf st hg
  subst hP hw hK
  obtain⟨hq1,hq2,v,u,ev,eu⟩:=hg
  obtain⟨its,r1,p1,_,_⟩:=Inv.vo I hq1
  obtain⟨its2,r2,p2,_,_⟩:=Inv.vo I hq2
  obtain⟨x,ex,rx⟩:=r1.get ev
  obtain⟨y,ey,ry⟩:=r2.get eu
  obtain⟨f0,f1,zr,h0⟩:=st.zr
  obtain⟨a,b,to⟩:=st.to
  refine oN D zr h0 st.ti to st.it1 st.it2 p1 p2 (x:=x) (y:=y) (by simpa using ex) (by simpa using ey) fun h' T=>?_
  obtain⟨g0,g1,zr',h0'⟩:=T.zr
  refine⟨_,rfl,Eo (s:={s with heap:=h'}) zr' h0' fun h'' q0 zr'' hq0 sb=>?_⟩
  have f1':∀b∈[z,TO,i1,i2],gB X QTz H b:=fun b hb=>hf b (by
   simp only[List.mem_cons,List.not_mem_nil,or_false]at hb⊢
   rcases hb with h|h|h|h<;>simp[h])
  have kk:∀b o,b∉[z,TO,i1,i2]->s.heap.get? b=some o->h''.get? b=some o:=fun b o hb e=>by
   simp only[List.mem_cons,List.not_mem_nil,or_false,not_or]at hb
   exact sb.extBut _ _ hb.1 (T.keep b o hb.1 hb.2.1 hb.2.2.1 hb.2.2.2 e)
  have new'':IsPair h'' s.heap.objs.size x y:=sb.extBut _ _ (by
   obtain⟨q,e,_⟩:∃q,s.heap.get? z=some q/\True:=⟨_,zr,trivial⟩
   exact Nat.ne_of_gt (Heap.lt_size e)) T.new
  have nz:∀b∈[z,TO,i1,i2],b<s.heap.objs.size:=fun b hb=>by
   simp only[List.mem_cons,List.not_mem_nil,or_false]at hb
   rcases hb with rfl|rfl|rfl|rfl
   ·exact Heap.lt_size zr
   ·exact Heap.lt_size to
   ·exact st.it1.lt
   ·exact st.it2.lt
  have I1:Inv X QTz σ (upd H s.heap.objs.size (.tup [v,u])) {s with heap:=h''}:=by
   refine Inv.Dh (t':=s.toks) I kk f1' (QVq _) ⟨by show 2<=sizeLine;rw[sizeLine_eq];decide,[x,y],.cons rx (.cons ry .nil),_,new'',rfl,rfl,_,rfl⟩
  refine⟨.ref s.heap.objs.size,upd H s.heap.objs.size (.tup [v,u]),I1,rfl,⟨_,v,u,I.hok.fresh (QVq _),rfl,ev,eu,rfl⟩,?_,fun b hb=>?_⟩
  ·have up:∀c o,c≠z->h'.get? c=some o->h''.get? c=some o:=fun c o hcz e=>sb.extBut _ _ hcz e
   obtain⟨a',b',to'⟩:=T.to
   exact⟨⟨q0,g1,zr'',hq0⟩,up _ _ D.TIz T.ti,⟨a',b',up _ _ D.TOz to'⟩,T.it1.at fun o e=>up _ o D.i1z e,T.it2.at fun o e=>up _ o D.i2z e⟩
  ·have lt:b<s.heap.objs.size:=by
    simp only[List.mem_cons,List.not_mem_nil,or_false]at hb
    rcases hb with rfl|rfl|rfl|rfl|rfl
    ·exact Heap.lt_size zr
    ·exact Heap.lt_size st.ti
    ·exact Heap.lt_size to
    ·exact st.it1.lt
    ·exact st.it2.lt
   rw[aC (Nat.ne_of_lt lt)]
   exact(hf b hb).1
 done:=by
  intro X hP hw hK hc i QTz s σ H E I hf st hg
  subst hP hw hK
  obtain⟨hq1,hq2,hend⟩:=hg
  obtain⟨its,r1,p1,_,_⟩:=Inv.vo I hq1
  obtain⟨its2,r2,p2,_,_⟩:=Inv.vo I hq2
  have l1:=r1.length
  have l2:=r2.length
  obtain⟨f0,f1,zr,h0⟩:=st.zr
  obtain⟨a,b,to⟩:=st.to
  refine pX (I.ok.hd hc) D zr h0 st.ti to st.it1 st.it2 p1 p2 ?_ fun h' kk=>⟨rfl,?_⟩
  ·rcases hend with h|h
   ·exact .inl (by simp;omega)
   ·exact .inr (by simp;omega)
  ·refine Inv.Lz (t':=s.toks) (ch:=[z,TO,i1,i2]) I (fun b o hb e=>?_) fun b hb=>hf b (by
    simp only[List.mem_cons,List.not_mem_nil,or_false]at hb⊢
    rcases hb with h|h|h|h<;>simp[h])
   simp only[List.mem_cons,List.not_mem_nil,or_false,not_or]at hb
   exact kk b o hb.1 hb.2.1 hb.2.2.1 hb.2.2.2 e
 self:=fun A i s Q E st h=>by
  obtain⟨f0,f1,zr,h0⟩:=st.zr
  exact iQ zr h
end Mini
end
section
namespace Mini
open PySem L2
theorem o9:∀{xs ys:List D}{i:Nat}{d:D},(aK xs ys)[i]? =some d->∃x y,xs[i]? =some x/\ys[i]? =some y/\d=.tup [x,y]
 |[],_,i,d,h=>by simp[aK]at h
 |_::_,[],i,d,h=>by simp[aK]at h
 |x::xs,y::ys,0,d,h=>by simp[aK]at h;exact⟨x,y,rfl,rfl,h.symm⟩
 |x::xs,y::ys,i+1,d,h=>by
  rw[aK,List.getElem?_cons_succ]at h
  simpa using o9 h
theorem o8:∀(xs ys:List D),(aK xs ys).length=min xs.length ys.length
 |[],ys=>by simp[aK]
 |_::_,[]=>by simp[aK]
 |x::xs,y::ys=>by rw[aK,List.length_cons,o8 xs ys,List.length_cons,List.length_cons];omega
theorem uA{K:QQq}{H:Hp}{b1 b2:Bool}{l1 l2:Addr}{vs ws:List V}{xs ys:List D}(h1:KN K b1 H l1 vs)(h2:KN K b2 H l2 ws)(d1:aq K H xs vs)(d2:aq K H ys ws)(hz:vs.length<=sizeLine):
  Gives K (Itz K b1 b2 l1 l2 vs ws) (aK xs ys) H where
 go:=fun H1 p i d e=>by
  obtain⟨x,y,ex,ey,_⟩:=o9 e
  obtain⟨v,ev,_⟩:=d1.get ex
  obtain⟨u,eu,_⟩:=d2.get ey
  exact⟨p.vo h1,p.vo h2,v,u,ev,eu⟩
 yld:=fun H1 p i d e x H2 y=>by
  obtain⟨a,v,u,hn,rfl,ev,eu,rfl⟩:=y
  obtain⟨dx,dy,ex,ey,rfl⟩:=o9 e
  obtain⟨v',ev',dv⟩:=d1.get ex
  obtain⟨u',eu',du⟩:=d2.get ey
  rw[ev]at ev'
  rw[eu]at eu'
  cases ev'
  cases eu'
  have pp:bU H1 (upd H1 a (.tup [v,u])):=by
   refine⟨fun b xs q=>?_,fun b o w q=>?_⟩
   ·rw[aC (fun z=>by subst z;rw[hn]at q;cases q)];exact q
   ·rw[aC (fun z=>by subst z;rw[hn]at q;cases q)];exact q
  exact⟨dZ (.inl (.inl aQ)) (aq.eE ((dv.mono p).mono pp) (aq.eE ((du.mono p).mono pp) aq.iR)),.inr ⟨a,_,hn,rfl⟩⟩
 stop:=fun H1 p i hi=>by
  rw[o8]at hi
  have:=d1.length
  have:=d2.length
  exact⟨p.vo h1,p.vo h2,by omega⟩
 len:=by rw[o8];have:=d1.length;omega
theorem bH.vo{K:QQq}{H:Hp}{d:D}{xs:List D}{v:V}(h:bH K H d v)(e:bj d=some xs):∃b l vs,v=.ref l/\KN K b H l vs/\aq K H xs vs:=by
 cases d with
 |tup ys=>cases e;obtain⟨a,vs,rfl,hq,l⟩:=cG h;exact⟨false,a,vs,rfl,hq,l⟩
 |lst ys=>cases e;obtain⟨a,vs,rfl,hq,l⟩:=dF h;exact⟨true,a,vs,rfl,hq,l⟩
 |_=>cases e
section
variable{K:QQq}{W:Wi}{env:Ev}{σ:St}{H:Hp}{R:It->Hp->Prop}
theorem Yu{env1:Ev}{H1:Hp}{r:Out Rv}(h:tI K W env r σ H R)(N:Nx K env σ H env1 H1):tI K W env1 r σ H1 R:=by
 obtain⟨_,h⟩:=h
 refine⟨N.fD,?_⟩
 cases r with
 |bad=>exact h
 |exc c env2=>exact fun H' N'=>h H' (N.trans N')
 |ok x env2=>
  obtain⟨d,xs,e1,e2,z⟩:=h
  exact⟨d,xs,e1,e2,fun J H' N' G=>z J H' (N.trans N') G⟩
theorem wV{r:Out Rv}{f:D->Ev->Out Rv}{R':VK}(h:tI K W env (r.ak f) σ H R)
  (k:∀d env1 v H1,Nx K env σ H env1 H1->bH K H1 d v->tI K W env1 (f d env1) σ H1 R->R' v H1):tD K W env r σ H R':=by
 have step:∀d env1,r.ak f=f d env1->∀v H1,Nx K env σ H env1 H1->bH K H1 d v->R' v H1:=fun d env1 e v H1 N D=>by
  rw[e]at h
  exact k d env1 v H1 N D (Yu h N)
 obtain⟨S,h⟩:=h
 refine⟨S,?_⟩
 cases r with
 |bad=>exact h
 |exc c env1=>exact h
 |ok x env1=>
  cases x with
  |val d=>exact fun v H1 N D=>step d env1 rfl v H1 N D
  |new xs=>exact fun v H1 N D=>step xs.d env1 rfl v H1 N D
  |ref i=>exact h
  |tmp xs=>exact h
end
section
variable{X:Cx}{W:Wi}{c:Cf}{m1 m2:E}{a b tg:Expr}{pos p:Pos}
theorem Vr(ha:GE X W c m1 a)(hb:GE X W c m2 b)(hg:Gl X "zip")(hm:X.mg "zip"=none)(hs:starEach [a,b] X.env=[(false,eval a X.env),(false,eval b X.env)])(hs2:starEach [b] X.env=[(false,eval b X.env)]):
  GI X W c (.zip m1 m2) tg (.Call (.Name "zip" p) [a,b] [] pos):=by
 intro env QTz s σ H R I q
 simp only[Gp]at q
 let RR:List V->Hp->Prop:=fun vs H'=>∃env2 d1 d2 xs ys v1 v2,vs=[v1,v2]/\bH X.K H' d1 v1/\bH X.K H' d2 v2/\bj d1=some xs/\bj d2=some ys/\Sat X.K env2 σ H'/\∀J H2,Nx X.K env2 σ H' env2 H2->Gives X.K J (aK xs ys) H2->R J H2
 have go:aD X W c m1 σ H fun v1 H1=>aD X W c m2 σ H1 fun v2 H2=>RR [v1,v2] H2:=by
  refine⟨env,wV q fun d1 env1 v1 H1 N1 D1 q1=>⟨env1,wV q1 fun d2 env2 v2 H2 N2 D2 q2=>?_⟩⟩
  cases e1:bj d1 with
  |none=>rw[e1]at q2;exact q2.2.elim
  |some xs=>
   cases e2:bj d2 with
   |none=>rw[e1,e2]at q2;exact q2.2.elim
   |some ys=>
    rw[e1,e2]at q2
    obtain⟨S,d,zs,z1,z2,z3⟩:=q2
    cases z1
    cases z2
    exact⟨env2,d1,d2,xs,ys,v1,v2,rfl,D1.mono N2.pers,D2,e1,e2,S,z3⟩
 refine wpAny_Call_Name_kw (jD I hg hm PyProof.Rows.boot_zip ?_ (by decide) (by decide))
 refine PyProof.Rows.callWith_type1 (cB (bI ha.d (bI hb.d dg hs2) (by rw[hs,hs2]) pos QTz s σ H RR I go) fun us s1⟨vs,H1,I1,r1,q1⟩=>?_) (by rw[hs,hs2]) (by rw[hs2];rfl)
 obtain⟨env2,d1,d2,xs,ys,v1,v2,rfl,D1,D2,e1,e2,S2,q3⟩:=q1
 obtain⟨b1,l1,vs,rfl,h1,dl1⟩:=D1.vo e1
 obtain⟨b2,l2,ws,rfl,h2,dl2⟩:=D2.vo e2
 obtain⟨u1,u2,rfl,ru1,ru2⟩:=Vals.two r1
 cases ru1
 cases ru2
 obtain⟨its,rr1,p1,z1,lt1⟩:=Inv.vo I1 h1
 obtain⟨its2,rr2,p2,z2,lt2⟩:=Inv.vo I1 h2
 refine uJ p1 p2 fun h' st sz kk=>?_
 obtain⟨f0,f1,zr,h0⟩:=st.zr
 refine iQ zr ?_
 refine⟨s1.heap.objs.size+4,[s1.heap.objs.size+4,s1.heap.objs.size+2,s1.heap.objs.size+3,s1.heap.objs.size,s1.heap.objs.size+1],_,_,H1,rfl,I1.kept (t':=s1.toks) kk,jy (vs:=vs) (ws:=ws) (sO lt1 lt2),st,fun b hb=>?_,q3 _ H1 (Nx.refl S2) (uA h1 h2 dl1 dl2 z1)⟩
 have hb':s1.heap.objs.size<=b:=by
  simp only[List.mem_cons,List.not_mem_nil,or_false]at hb
  rcases hb with rfl|rfl|rfl|rfl|rfl<;>omega
 exact I1.ym hb' (I1.hok.fresh hb')
end
end Mini
end
section
namespace Mini
open PySem
theorem ql{prog:Program}{w:World}{A:Around}{E:QZq}{s:Shared}{a:Addr}{xs:Array Value}{k:Nat}{sl:Array (Option Value)}{Q:Option Value->Shared->Prop}
  (hx:s.heap.get? a=some {cls:=.type "list",dict:=none,data:=.seq xs k,slots:=sl})(hA:A.handled=none)
  (h:∀h' tk,(∀b o,s.heap.get? b=some o->h'.get? b=some o)->Q none {s with heap:=h',toks:=tk}):
  wpAny (model prog w) A (getAttr? (.ref a) "keys") Q E s:=by
 obtain⟨hp,g,d,tk,os⟩:=s
 have hT:∀tk',(⟨hp,g,d,tk',os⟩:Shared).TypeIs (.ref a) "list":=fun _=>⟨_,hx,rfl⟩
 have f1:=sub_AttributeError
 have f3:=F.slot_list_getattribute.lookup
 have f4:=F.slot_list_getattribute.bind (.ref a)
 have f5:=am_list_getattr_none
 have hmiss:typeLookup (.type "list") "keys"=pure none:=am_miss_of_fast (by kernel_rfl)
 unfold getAttr? getAttrBy? getAttrBy
 repeat (any_goals (first|assumption|exact hT _|((with_reducible show wpAny _ _ (call (Value.builtin "list.__getattribute__") _ _) _ _ _);refine call_meets F.slot_list_getattribute (hT _) am_entry_list_getattribute (F.args_list_getattribute_2 _ _) (meets_getattribute_miss_list a xs k sl "keys" _ hmiss (by decide+kernel) (by size_fits)) ⟨hx,hA,fun h' tk' e hx'=>?_⟩)|wp_step))
 obtain⟨t',u',he⟩:=hx'.there
 show wpAny _ _ (getattributeRaised _ _ _ _ _ _ _) _ _ _
 unfold getattributeRaised
 repeat (any_goals (first|assumption|wp_step))
 all_goals exact h _ _ hx'.keeps
theorem oR{prog:Program}{w:World}{A:Around}{E:QZq}{s:Shared}{a:Addr}{xs:Array Value}{k:Nat}{sl:Array (Option Value)}{Q:Option Value->Shared->Prop}
  (hx:s.heap.get? a=some {cls:=.type "tuple",dict:=none,data:=.seq xs k,slots:=sl})(hA:A.handled=none)
  (h:∀h' tk,(∀b o,s.heap.get? b=some o->h'.get? b=some o)->Q none {s with heap:=h',toks:=tk}):
  wpAny (model prog w) A (getAttr? (.ref a) "keys") Q E s:=by
 obtain⟨hp,g,d,tk,os⟩:=s
 have hT:∀tk',(⟨hp,g,d,tk',os⟩:Shared).TypeIs (.ref a) "tuple":=fun _=>⟨_,hx,rfl⟩
 have f1:=sub_AttributeError
 have f3:=F.slot_tuple_getattribute.lookup
 have f4:=F.slot_tuple_getattribute.bind (.ref a)
 have f5:=am_tuple_getattr_none
 have hmiss:typeLookup (.type "tuple") "keys"=pure none:=am_miss_of_fast (by kernel_rfl)
 unfold getAttr? getAttrBy? getAttrBy
 repeat (any_goals (first|assumption|exact hT _|((with_reducible show wpAny _ _ (call (Value.builtin "tuple.__getattribute__") _ _) _ _ _);refine call_meets F.slot_tuple_getattribute (hT _) am_entry_tuple_getattribute (F.args_tuple_getattribute_2 _ _) (meets_getattribute_miss_tuple a xs k sl "keys" _ hmiss (by decide+kernel) (by size_fits)) ⟨hx,hA,fun h' tk' e hx'=>?_⟩)|wp_step))
 obtain⟨t',u',he⟩:=hx'.there
 show wpAny _ _ (getattributeRaised _ _ _ _ _ _ _) _ _ _
 unfold getattributeRaised
 repeat (any_goals (first|assumption|wp_step))
 all_goals exact h _ _ hx'.keeps
theorem j6:typeLookup (.type "zip") "__getattr__"=pure none:=by rw[typeLookup_type,builtinLookup_eq_fast];kernel_rfl
theorem cA:Slot "zip" "__getattribute__" "zip.__getattribute__":=
 .of (owner:="zip") (n:="__getattribute__") (by rw[typeLookup_type,builtinLookup_eq_fast];kernel_rfl) (by decide+kernel) (by decide+kernel) (by decide+kernel)
  (by first|exact .inl (by decide+kernel)|exact .inr (by decide+kernel)) (by rw[isSubtype_type];kernel_rfl)
theorem gq:entryFor table "zip.__getattribute__"=some Builtin.«object.__getattribute__»:=
 entryFor_alias (id':="object.__getattribute__") (by kernel_rfl) (by decide+kernel) (by decide+kernel) (by kernel_rfl)
theorem gR(a b:Value):argsOk "zip.__getattribute__" ⟨[a,b],[]⟩:=by
 unfold argsOk;kernel_rfl
theorem fQ(a:Addr)(xs:Array Value)(sl:Array (Option Value))(name:Str)(u:Tok)(hmiss:typeLookup (.type "zip") name=pure none)(hname:(["__module__","__name__","__qualname__","__doc__","__annotations__"]:List Str).contains name=false)(hsz:name.length+100<=sizeLine:=by size_fits):
  Meets (Builtin.«object.__getattribute__» ⟨[.ref a,.str name u],[]⟩) (fun A R s=>s.heap.get? a=some {cls:=.type "zip",dict:=none,data:=.fields xs,slots:=sl}/\raisesAttr (.ref a) name A R s):=
 Meets.of_wp fun prog w A R s hs=>by
  obtain⟨hp,g,d,tk,os⟩:=s
  obtain⟨hx,hs⟩:=hs
  have hT:(⟨hp,g,d,tk,os⟩:Shared).TypeIs (.ref a) "zip":=⟨_,hx,rfl⟩
  unfold Builtin.«object.__getattribute__»
  repeat (any_goals (first|assumption|wp_step))
  simp only[hname,Bool.false_eq_true,if_false]
  repeat (any_goals (first|assumption|wp_step))
  exact wpAny_raiseAttrError hs.1 hs.2 (attrMsg_fits (by decide+kernel) hsz)
theorem sy{prog:Program}{w:World}{A:Around}{E:QZq}{s:Shared}{a:Addr}{xs:Array Value}{sl:Array (Option Value)}{Q:Option Value->Shared->Prop}
  (hx:s.heap.get? a=some {cls:=.type "zip",dict:=none,data:=.fields xs,slots:=sl})(hA:A.handled=none)
  (h:∀h' tk,(∀b o,s.heap.get? b=some o->h'.get? b=some o)->Q none {s with heap:=h',toks:=tk}):
  wpAny (model prog w) A (getAttr? (.ref a) "keys") Q E s:=by
 obtain⟨hp,g,d,tk,os⟩:=s
 have hT:∀tk',(⟨hp,g,d,tk',os⟩:Shared).TypeIs (.ref a) "zip":=fun _=>⟨_,hx,rfl⟩
 have f1:=sub_AttributeError
 have f3:=cA.lookup
 have f4:=cA.bind (.ref a)
 have f5:=j6
 have hmiss:typeLookup (.type "zip") "keys"=pure none:=am_miss_of_fast (by kernel_rfl)
 unfold getAttr? getAttrBy? getAttrBy
 repeat (any_goals (first|assumption|exact hT _|((with_reducible show wpAny _ _ (call (Value.builtin "zip.__getattribute__") _ _) _ _ _);refine call_meets cA (hT _) gq (gR _ _) (fQ a xs sl "keys" _ hmiss (by decide+kernel) (by size_fits)) ⟨hx,hA,fun h' tk' e hx'=>?_⟩)|wp_step))
 obtain⟨t',u',he⟩:=hx'.there
 show wpAny _ _ (getattributeRaised _ _ _ _ _ _ _) _ _ _
 unfold getattributeRaised
 repeat (any_goals (first|assumption|wp_step))
 all_goals exact h _ _ hx'.keeps
end Mini
end
section
namespace Mini
open PySem L2
theorem Nx.chg{K:QQq}{env:Ev}{σ:St}{H0 H:Hp}{d:Addr}{u u':HO}(N:Nx K env σ H0 env H)(S:Sat K env σ H0)(h0:H0 d=none)(h:H d=some u)(hu:Qf u):Nx K env σ H0 env (upd H d u'):=by
 have p:=lK (u':=u') h hu
 refine⟨N.fD.keep p fun i b w ow hb=>?_,N.sub,N.pers.trans p,fun b w q n=>?_,fun b q=>?_,N.bors⟩
 ·rw[aC (fun z=>by subst z;exact S.mZ h0 i (N.sub i b ow))];exact hb
 ·rw[aC (fun z=>by subst z;rw[h0]at q;cases q)];exact N.keep b w q n
 ·refine N.dom b ?_
  by_cases hb:b=d
  ·subst hb;rw[aQ]at q;cases q
  ·rw[aC hb]at q;exact q
theorem J7{kvs:List (Key×V)}:Qf (.dK kvs):=by
 constructor
 all_goals (intros;intro z;cases z)
theorem CP{vs:List V}:Qf (.lst vs):=by
 constructor
 all_goals (intros;intro z;cases z)
def Cx.under(X:Cx)(A:Around):Cx:={X with A:=A}
theorem Inv.under{X:Cx}{A:Around}{QTz:QQz}{σ:St}{H:Hp}{s:Shared}(I:Inv X QTz σ H s)(h1:A.handled=X.A.handled)(h2:A.frames=X.A.frames):Inv (Cx.under X A) QTz σ H s:=
 ⟨⟨I.ok.mod,I.ok.kind,I.ok.glob,I.ok.blt,I.ok.above,I.ok.inj,I.ok.has,I.ok.cab,fun hc=>h1.trans (I.ok.hd hc),h2.trans I.ok.frames,I.ok.stk,I.ok.exf,I.ok.bs,I.ok.bsz,I.ok.noex,I.ok.exfs,I.ok.j4,I.ok.frf⟩,
  I.os,I.bare,I.base,I.loc,I.cell,I.free,I.freeC,I.pin,I.hok,I.len⟩
theorem Inv.back{X:Cx}{A:Around}{QTz:QQz}{σ:St}{H:Hp}{s:Shared}(I:Inv (Cx.under X A) QTz σ H s)(h1:X.A.handled=A.handled)(h2:X.A.frames=A.frames):Inv X QTz σ H s:=
 Inv.under (X:=Cx.under X A) (A:=X.A) I h1 h2
theorem Ce{M:Model}{A:Around}{β:Type}{x:Str}{p:Pos}{it u:Value}{m:Sem β}{Q:β->Shared->Prop}{E:QZq}{s:Shared}
  (h:wpAny M A (letOwnedTupleGo (.Name x p) it u) (fun _ s=>wpAny M A m Q E s) E s):wpAny M A m Q E s:=by
 have:=wpAny_bind (f:=fun _=>m) h
 exact this
theorem ji:entryFor table "dict.update.loop"=some Builtin.«dict.update.loop»:=entryFor_of_tree (by kernel_rfl)
theorem dC:plainId "dict.update.loop"=true:=by decide+kernel
theorem yr{ks vs r:List D}{d:D}{p:List D×List D}(h:dictOf ks vs (d::r)=some p):∃k v,d=.tup [k,v]/\keyOk k=true/\dictOf (putD k v ks vs).1 (putD k v ks vs).2 r=some p:=by
 unfold dictOf at h
 split at h
 ·rename_i e;cases e
 ·rename_i k v r' e
  cases e
  split at h
  ·rename_i hk
   exact⟨k,v,rfl,hk,h⟩
  ·cases h
 ·cases h
theorem Cp{xs:List D}{i:Nat}(h:i<xs.length):∃d,xs[i]? =some d/\xs.drop i=d::xs.drop (i+1):=⟨xs[i],QXq h,List.drop_eq_getElem_cons h⟩
section
variable{X:Cx}{A:Around}{QTz:QQz}{σ τ:St}{env:Ev}{R:Result->Shared->Prop}{J:It}{fp:List Addr}{it d:Addr}{tn:Nat->Heap->Prop}{x:Str}{p:Pos}{xs ks' vs':List D}{H0 H1:Hp}
theorem Ft(hA:X.A=A.in1)(hc:X.calm=true)(T:Turn X.prog X.w X.K (.Name x p) J fp it tn)(G:Gives X.K J xs H1)(S:Sat X.K env τ H0)(h0:H0 d=none)
  (fin:∀s H,Inv X QTz σ H s->Nx X.K env τ H0 env H->jq X.K H (.dct ks' vs') d->R (.ok (.ret .none)) s):
  ∀(n i:Nat)(s:Shared)(H:Hp)(kvs:List (Key×V))(vs:List D),xs.length-i=n->Inv X QTz σ H s->(∀b∈fp,gB X QTz H b)->tn i s.heap->bU H1 H->Nx X.K env τ H0 env H->H d=some (.dK kvs)->
   aq X.K H vs (kvs.map (·.2))->dictOf (kvs.map fun q=>cI q.1) vs (xs.drop i)=some (ks',vs')->kvs.length<=i->i<=xs.length->
   codeAny (model X.prog X.w) A (.builtin "dict.update.loop" ⟨[.ref d,.ref it,rawInt ((i:Nat):Int),.none],[]⟩) R s:=by
 intro n
 induction n with
 |zero=>
  intro i s H kvs vs hn I hf st P N hd dl ho hk hi
  refine codeAny_builtin ji ?_
  rw[Around.under_plainId dC _,<-hA]
  show wpAny _ X.A (pyNext (.ref it)>>=_) _ _ s
  refine wpAny_bind (wpAny_mono (T.done X rfl rfl rfl hc i QTz s σ H _ I hf st (G.stop H P i (by omega))) (fun r s1 h=>?_) fun _ _ h=>h)
  obtain⟨rfl,I1⟩:=h
  rw[List.drop_eq_nil_of_le (by omega)]at ho
  cases ho
  show wpAny _ X.A (Builtin.Dict.addKeywords d []>>=_) _ _ s1
  exact wpAny_bind (wpAny_pure (wpAny_pure (fin s1 H I1 N ⟨_,hd,kvs,rfl,rfl,dl⟩)))
 |succ n ih=>
  intro i s H kvs vs hn I hf st P N hd dl ho hk hi
  have hlt:i<xs.length:=by omega
  obtain⟨dd,ed,edr⟩:=Cp hlt
  rw[edr]at ho
  obtain⟨k,v,rfl,hkk,ho'⟩:=yr ho
  refine codeAny_builtin ji ?_
  rw[Around.under_plainId dC _,<-hA]
  show wpAny _ X.A (pyNext (.ref it)>>=_) _ _ s
  refine wpAny_bind (wpAny_mono (T.item X rfl rfl rfl hc i QTz s σ H _ I hf st (G.go H P i _ ed)) (fun r s1 h=>?_) fun _ _ h=>h)
  obtain⟨u,rfl,h⟩:=h
  refine Ce (wpAny_mono h (fun _ s2 h2=>?_) fun _ _ h=>h)
  obtain⟨y,H',I',ry,yl,st',nf⟩:=h2
  obtain⟨Dy,hH⟩:=G.yld H P i _ ed y H' yl
  obtain⟨a,ws,rfl,hq,l⟩:=cG Dy
  cases ry
  obtain⟨vk,r1,rfl,Dk,l⟩:=aq.bw.mp l
  obtain⟨vv,r2,rfl,Dv,l⟩:=aq.bw.mp l
  have:=aq.bL.mp l
  subst this
  obtain⟨kk,rfl⟩:=fU hkk
  have ek:=jW Dk
  subst ek
  obtain⟨its,rr,pt,_⟩:=I'.tuple hq
  obtain⟨uk,uv,rfl,rk,rv⟩:=Vals.two rr
  obtain⟨o,eo,ec,nn,edt⟩:=pt
  have N':Nx X.K env τ H0 env H'/\bU H H'/\H' d=some (.dK kvs):=by
   rcases hH with rfl|⟨q,ws,hq0,rfl⟩
   ·exact⟨N,bU.refl _,hd⟩
   ·have NL:=Nx.laid (o:=.tup ws) N.fD hq0
    exact⟨N.trans NL,NL.pers,by rw[aC (fun z=>by subst z;rw[hq0]at hd;cases hd)];exact hd⟩
  obtain⟨N',PP,hd'⟩:=N'
  show wpAny _ X.A (holding [.ref a] _>>=_) _ _ s2
  refine wpAny_bind (wpAny_holding ?_)
  refine wpAny_bind (wpAny_tryCatch ?_)
  unfold Builtin.Dict.pairItems
  have hty:s2.TypeIs (.ref a) "tuple":=⟨o,eo,ec⟩
  refine wpAny_bind (wpAny_typeOf hty ?_)
  rw[if_pos (by decide)]
  refine wpAny_bind (wpAny_seqItems eo edt (wpAny_pure ?_))
  show wpAny _ X.A (holding [uk,uv] (dictSet d uk uv)) _ _ s2
  refine wpAny_holding ?_
  obtain⟨z,hds,vvs,rel,dd⟩:=Rt I'.hok hd'
  have hz:vvs.length<=sizeLine:=by rw[<-rel.length];exact z
  have hG:=G.len
  have hl:(putK kvs kk vv).length<=i+1:=by have:=jC kvs kk vv;omega
  refine wpAny_dictSet_pairs (hsz:=hz) (qt rk) dd fun h' dd' hs=>?_
  have he:∃q,h'.get? d=some q:=let ⟨q,_,_,hq,_⟩:=dd';⟨q,hq⟩
  have I2:Inv X QTz σ (upd H' d (.dK (putK kvs kk vv))) {s2 with heap:=h',toks:=s2.toks+1}:=v7 I' (by rw[hd'];exact True.intro) hs he (JV (by omega) hds (rel.put kk rv) dd')
  have N2:=Nx.chg (u':=.dK (putK kvs kk vv)) N' S h0 hd' J7
  have p2:=lK (u':=.dK (putK kvs kk vv)) hd' J7
  obtain⟨g1,g2⟩:=Bl (k:=kk) Dv (dl.mono PP)
  refine wpAny_pure ⟨plainId_quiet dC _,?_⟩
  refine ih (i+1) _ _ (putK kvs kk vv) _ (by omega) I2 (fun b hb=>?_) (T.keep _ _ _ st' fun b hb o e=>?_) ((P.trans PP).trans p2) N2 aQ (g2.mono p2) ?_ hl (by omega)
  ·have nb:b≠d:=fun e=>by subst e;rw[nf b hb]at hd';cases hd'
   exact⟨by rw[aC nb];exact nf b hb,(hf b hb).2⟩
  ·have nb:b≠d:=fun e=>by subst e;rw[nf b hb]at hd';cases hd'
   exact(hs.2 b nb).trans e
  ·rw[<-g1];exact ho'
end
section
variable{X:Cx}{QTz:QQz}{σ τ:St}{env:Ev}{H:Hp}{s:Shared}{o:Addr}{ob:Obj}{T:String}{x:Str}{p:Pos}{xs:List D}{pr:List D×List D}{Q:QZq}{E:QZq}
theorem qU(hc:X.calm=true)(I:Inv X QTz σ H s)(S:Sat X.K env τ H)(ho:s.heap.get? o=some ob)(hcl:ob.cls=.type T)(hT:(T !="dict")=true)(hd:dictOf [] [] xs=some pr)
  (hkey:∀(s1:Shared)(E:QZq)(Q:Option Value->Shared->Prop),s1.heap.get? o=some ob->(∀h' tk,(∀b u,s1.heap.get? b=some u->h'.get? b=some u)->Q none {s1 with heap:=h',toks:=tk})->
   wpAny (model X.prog X.w) X.A.in1.in1 (getAttr? (.ref o) "keys") Q E s1)
  (hit:∀(s1:Shared)(u:HO)(E:QZq)(Q:QZq),Inv (Cx.under X X.A.in1.in1) QTz σ (upd H s.heap.objs.size u) s1->Nx X.K env τ H env (upd H s.heap.objs.size u)->(∀b u,s.heap.get? b=some u->s1.heap.get? b=some u)->
   (∀s2 it fp tn J,Inv (Cx.under X X.A.in1.in1) QTz σ (upd H s.heap.objs.size u) s2->Turn X.prog X.w X.K (.Name x p) J fp it tn->tn 0 s2.heap->(∀b∈fp,gB X QTz (upd H s.heap.objs.size u) b)->Gives X.K J xs (upd H s.heap.objs.size u)->Q (.ref it) s2)->
   wpAny (model X.prog X.w) X.A.in1.in1 (pyIter (.ref o)) Q E s1)
  (h:∀a s' H',Inv X QTz σ H' s'->Nx X.K env τ H env H'->jq X.K H' (.dct pr.1 pr.2) a->H a=none->Q (.ref a) s'):
  wpAny (model X.prog X.w) X.A (call (.type "dict") [.ref o]) Q E s:=by
 refine callType_codes (Q₁:=fun obj s₁=>obj=.ref s.heap.objs.size/\s₁={s with heap:=s.heap.push {cls:=.type "dict",data:=.dict #[]}}) PySem.F.kt_called_dict (PySem.F.kt_typeCall_dict_1 _) PySem.F.entry_dict_init (kt_code_dict_new _ ⟨rfl,rfl⟩) ?_
 rintro obj s₁ ⟨rfl,rfl⟩
 have hnew:(s.heap.push {cls:=.type "dict",data:=.dict #[]}).DictOf (bO X.prog X.w) s.heap.objs.size []:=Heap.DictOf.new s.heap
 have k1:∀b u,s.heap.get? b=some u->(s.heap.push {cls:=.type "dict",data:=.dict #[]}).get? b=some u:=fun _ _ q=>QXz _ q
 have hfr:H s.heap.objs.size=none:=I.hok.fresh (QVq _)
 have I1:=I.laid (a:=s.heap.objs.size) (o:=.dK []) (h':=s.heap.push {cls:=.type "dict",data:=.dict #[]}) (t':=s.toks) k1 (QVq _) (JW s.heap I.big)
 have N1:=Nx.laid (o:=.dK []) S hfr
 refine⟨hnew.typeIs,PySem.F.args_dict_init_2 _ _,?_⟩
 unfold Builtin.«dict.__init__»
 refine wpAny_bind ?_
 unfold Builtin.Dict.selfAndRest
 refine wpAny_bind (wpAny_notOrdered_dict hnew.typeIs ?_)
 show wpAny _ _ (pure (s.heap.objs.size,[Value.ref o])) _ _ _
 refine wpAny_pure ?_
 show wpAny _ _ (Builtin.Dict.updateFrom "dict.__init__" s.heap.objs.size (.ref o) [] .none) _ _ _
 unfold Builtin.Dict.updateFrom
 have hty:(⟨s.heap.push {cls:=.type "dict",data:=.dict #[]},s.gens,s.drawn,s.toks,s.os⟩:Shared).TypeIs (.ref o) T:=⟨ob,k1 o ob ho,hcl⟩
 refine wpAny_bind (wpAny_typeOf hty ?_)
 have ht:((Value.type T) !=(Value.type "dict"))=true:=by
  have:T≠"dict":=by simpa using hT
  simpa using this
 rw[if_pos ht]
 refine wpAny_bind (hkey _ _ _ (k1 o ob ho) fun h2 tk k2=>?_)
 simp only[Option.isNone_none,if_true]
 refine wpAny_bind (wpAny_rule ?_)
 have I2:Inv X QTz σ _ {s with heap:=h2,toks:=tk}:=I1.kept (t':=tk) k2
 refine wpAny_bind (hit _ _ _ _ (Inv.under I2 rfl rfl) N1 (fun b u q=>k2 b u (k1 b u q)) fun s3 it fp tn J I3 Tn st hf G=>?_)
 refine wpAny_bind (wpAny_pure (wpAny_pure ⟨plainId_quiet dC _,?_⟩))
 refine Ft (X:=Cx.under X X.A.in1.in1) (A:=X.A.in1) rfl hc Tn G S hfr (fun s4 H4 I4 N4 O4=>?_) xs.length 0 s3 _ [] [] rfl I3 hf st (bU.refl _) N1 aQ aq.iR hd (QVq _) (Nat.zero_le _)
 exact⟨rfl,h _ s4 H4 (Inv.back I4 rfl rfl) N4 O4 hfr⟩
end
end Mini
end
section
namespace Mini
open PySem L2
theorem yJ:typeLookup (.type "zip") "__len__"=pure none:=by rw[typeLookup_type,builtinLookup_eq_fast];kernel_rfl
theorem wH:typeLookup (.type "zip") "__length_hint__"=pure none:=by rw[typeLookup_type,builtinLookup_eq_fast];kernel_rfl
section
variable{X:Cx}{A:Around}{QTz:QQz}{σ τ:St}{env:Ev}{R:Result->Shared->Prop}{J:It}{fp:List Addr}{it d:Addr}{tn:Nat->Heap->Prop}{x:Str}{p:Pos}{xs:List D}{H0 H1:Hp}
theorem Inv.Zt{H:Hp}{s:Shared}{vs:List V}{y:V}{u:Value}{Q:Unit->Shared->Prop}{E:QZq}{A:Around}(I:Inv X QTz σ H s)(hd:H d=some (.lst vs))(ry:RelV y u)(hz:vs.length<sizeLine)
  (h:∀h',(∀b o,b≠d->s.heap.get? b=some o->h'.get? b=some o)->Inv X QTz σ (upd H d (.lst (vs++[y]))) {s with heap:=h'}->Q () {s with heap:=h'}):
  wpAny (model X.prog X.w) A (updateSeq d (·.push u)) Q E s:=by
 obtain⟨z,its,n,r,e⟩:=(show b8 X.prog X.w H s.heap d (.lst vs)from I.hok d _ hd)
 have hl:=r.length
 refine wpAny_updateSeq e rfl ?_ (by show its.toArray.size<=_;rw[List.size_toArray];omega) (by show(its.toArray.push u).size<=_;rw[Array.size_push,List.size_toArray];omega)
 have es:=Heap.get?_update_self (Obj.mapSeq (·.push u)) e rfl
 have oth:∀b o,b≠d->s.heap.get? b=some o->(s.heap.update d (Obj.mapSeq (·.push u))).get? b=some o:=fun b o hb q=>(Heap.get?_update_other _ _ (Ne.symm hb)).trans q
 refine h _ oth (I.write (t':=s.toks) (x:=d) (e:=d) (o:=.lst (vs++[y])) (by rw[hd];exact True.intro) (.inl rfl) (fun b q hb z=>oth b q hb z) ⟨_,es⟩ ?_)
 have ea:(its++[u]).toArray=its.toArray.push u:=by simp
 exact⟨by simp;omega,its++[u],_,Vals.append r (.cons ry .nil),by rw[ea];exact es⟩
theorem Em(hA:X.A=A.in1)(hc:X.calm=true)(T:Turn X.prog X.w X.K (.Name x p) J fp it tn)(G:Gives X.K J xs H1)(S:Sat X.K env τ H0)(h0:H0 d=none)
  (fin:∀s H,Inv X QTz σ H s->Nx X.K env τ H0 env H->jq X.K H (.lst xs) d->R (.ok (.ret .none)) s):
  ∀(n i:Nat)(s:Shared)(H:Hp)(vs:List V),xs.length-i=n->Inv X QTz σ H s->(∀b∈fp,gB X QTz H b)->tn i s.heap->bU H1 H->Nx X.K env τ H0 env H->H d=some (.lst vs)->
   aq X.K H (xs.take i) vs->i<=xs.length->
   codeAny (model X.prog X.w) A (.builtin "list.extend.loop" ⟨[.ref d,.ref it,.none],[]⟩) R s:=by
 intro n
 induction n with
 |zero=>
  intro i s H vs hn I hf st P N hd dl hi
  refine codeAny_builtin PySem.F.entry_extend_loop ?_
  rw[Around.under_plainId PySem.F.plain_extend_loop _,<-hA]
  show wpAny _ X.A (pyNext (.ref it)>>=_) _ _ s
  refine wpAny_bind (wpAny_mono (T.done X rfl rfl rfl hc i QTz s σ H _ I hf st (G.stop H P i (by omega))) (fun r s1 h=>?_) fun _ _ h=>h)
  obtain⟨rfl,I1⟩:=h
  rw[List.take_of_length_le (by omega)]at dl
  exact wpAny_pure (fin s1 H I1 N ⟨_,hd,vs,rfl,dl⟩)
 |succ n ih=>
  intro i s H vs hn I hf st P N hd dl hi
  have hlt:i<xs.length:=by omega
  obtain⟨dd,ed,edr⟩:=Cp hlt
  refine codeAny_builtin PySem.F.entry_extend_loop ?_
  rw[Around.under_plainId PySem.F.plain_extend_loop _,<-hA]
  show wpAny _ X.A (pyNext (.ref it)>>=_) _ _ s
  refine wpAny_bind (wpAny_mono (T.item X rfl rfl rfl hc i QTz s σ H _ I hf st (G.go H P i _ ed)) (fun r s1 h=>?_) fun _ _ h=>h)
  obtain⟨u,rfl,h⟩:=h
  refine Ce (wpAny_mono h (fun _ s2 h2=>?_) fun _ _ h=>h)
  obtain⟨y,H',I',ry,yl,st',nf⟩:=h2
  obtain⟨Dy,hH⟩:=G.yld H P i _ ed y H' yl
  have N':Nx X.K env τ H0 env H'/\bU H H'/\H' d=some (.lst vs):=by
   rcases hH with rfl|⟨q,ws,hq0,rfl⟩
   ·exact⟨N,bU.refl _,hd⟩
   ·have NL:=Nx.laid (o:=.tup ws) N.fD hq0
    exact⟨N.trans NL,NL.pers,by rw[aC (fun z=>by subst z;rw[hq0]at hd;cases hd)];exact hd⟩
  obtain⟨N',PP,hd'⟩:=N'
  have hG:=G.len
  have lv:=dl.length
  rw[List.length_take]at lv
  show wpAny _ X.A (updateSeq d (·.push u)>>=_) _ _ s2
  refine wpAny_bind (Inv.Zt I' hd' ry (by omega) fun h' oth I2=>?_)
  have N2:=Nx.chg (u':=.lst (vs++[y])) N' S h0 hd' CP
  have p2:=lK (u':=.lst (vs++[y])) hd' CP
  refine wpAny_pure ⟨plainId_quiet PySem.F.plain_extend_loop _,?_⟩
  refine ih (i+1) _ _ (vs++[y]) (by omega) I2 (fun b hb=>?_) (T.keep _ _ _ st' fun b hb o e=>?_) ((P.trans PP).trans p2) N2 aQ ?_ (by omega)
  ·have nb:b≠d:=fun e=>by subst e;rw[nf b hb]at hd';cases hd'
   exact⟨by rw[aC nb];exact nf b hb,(hf b hb).2⟩
  ·have nb:b≠d:=fun e=>by subst e;rw[nf b hb]at hd';cases hd'
   exact oth b o nb e
  ·have:xs.take (i+1)=xs.take i++[dd]:=by rw[List.take_add_one,ed];rfl
   rw[this]
   exact((dl.mono PP).append (aq.eE Dy aq.iR)).mono p2
end
section
variable{X:Cx}{QTz:QQz}{σ τ:St}{env:Ev}{H:Hp}{s:Shared}{o:Addr}{ob:Obj}{x:Str}{p:Pos}{xs:List D}{Q:QZq}{E:QZq}
theorem Ad(hc:X.calm=true)(I:Inv X QTz σ H s)(S:Sat X.K env τ H)(ho:s.heap.get? o=some ob)(hcl:ob.cls=.type "zip")
  (hself:∀(s1:Shared)(E:QZq)(Q:QZq),(∀b u,s.heap.get? b=some u->s1.heap.get? b=some u)->Q (.ref o) s1->wpAny (model X.prog X.w) X.A.in1.in1 (pyIter (.ref o)) Q E s1)
  (hit:∀(s1:Shared)(u:HO),Nx X.K env τ H env (upd H s.heap.objs.size u)->(∀b u,s.heap.get? b=some u->s1.heap.get? b=some u)->
   ∃fp tn J,Turn X.prog X.w X.K (.Name x p) J fp o tn/\tn 0 s1.heap/\(∀b∈fp,gB X QTz (upd H s.heap.objs.size u) b)/\Gives X.K J xs (upd H s.heap.objs.size u))
  (h:∀a s' H',Inv X QTz σ H' s'->Nx X.K env τ H env H'->jq X.K H' (.lst xs) a->H a=none->Q (.ref a) s'):
  wpAny (model X.prog X.w) X.A (call (.type "list") [.ref o]) Q E s:=by
 refine callType_codes (Q₁:=fun obj s₁=>obj=.ref s.heap.objs.size/\s₁={s with heap:=s.heap.push {cls:=.type "list",data:=.seq #[]}}) PySem.F.called_list (PySem.F.typeCall_list_1 _) PySem.F.entry_list_init
  (code_list_new _ ⟨rfl,rfl⟩) fun obj s₁ h₁=>?_
 obtain⟨rfl,rfl⟩:=h₁
 have k1:∀b u,s.heap.get? b=some u->(s.heap.push {cls:=.type "list",data:=.seq #[]}).get? b=some u:=fun _ _ q=>QXz _ q
 have hS:(s.heap.push {cls:=.type "list",data:=.seq #[]}).get? s.heap.objs.size=some {cls:=.type "list",data:=.seq #[]}:=Heap.get?_push_size _ rfl
 have hfr:H s.heap.objs.size=none:=I.hok.fresh (QVq _)
 have hne:s.heap.objs.size≠o:=fun e=>absurd (Heap.lt_size ho) (by rw[e];exact Nat.lt_irrefl _)
 have oth:∀(f:Array Value->Array Value)(h':Heap)b u,b≠s.heap.objs.size->h'.get? b=some u->(h'.update s.heap.objs.size (Obj.mapSeq f)).get? b=some u:=
  fun f h' b u hb e=>(Heap.get?_update_other _ _ (Ne.symm hb)).trans e
 have old:∀b u,s.heap.get? b=some u->b≠s.heap.objs.size:=fun b u e=>Nat.ne_of_lt (Heap.lt_size e)
 refine⟨⟨_,hS,rfl⟩,PySem.F.args_list_init_2 _ _,?_⟩
 show wpAny _ X.A.in1.in1 (do let old<-Builtin.List.listItems (.ref s.heap.objs.size);Builtin.List.listUpdate (.ref s.heap.objs.size) (fun _=> #[]);letGo old.toList.reverse;Builtin.List.listExtendWith (.ref s.heap.objs.size) (.ref o) .none) _ _ _
 refine wpAny_bind ?_
 unfold Builtin.List.listItems
 refine wpAny_bind (wpAny_seqItems hS rfl (wpAny_pure ?_))
 show wpAny _ X.A.in1.in1 (updateSeq s.heap.objs.size (fun _=> #[])>>=fun _=>letGo (#[]:Array Value).toList.reverse>>=fun _=>Builtin.List.listExtendWith (.ref s.heap.objs.size) (.ref o) .none) _ _ _
 refine wpAny_bind (wpAny_updateSeq hS rfl ?_)
 have hS₂:=Heap.get?_update_self (Obj.mapSeq (fun _=>(#[]:Array Value))) hS rfl
 have k2:∀b u,s.heap.get? b=some u->((s.heap.push {cls:=.type "list",data:=.seq #[]}).update s.heap.objs.size (Obj.mapSeq (fun _=>(#[]:Array Value)))).get? b=some u:=fun b u e=>oth _ _ b u (old b u e) (k1 b u e)
 refine wpAny_bind (wpAny_letGo ?_)
 unfold Builtin.List.listExtendWith
 have hty:(⟨(s.heap.push {cls:=.type "list",data:=.seq #[]}).update s.heap.objs.size (Obj.mapSeq (fun _=>(#[]:Array Value))),s.gens,s.drawn,s.toks,s.os⟩:Shared).TypeIs (.ref o) "zip":=⟨ob,k2 o ob ho,hcl⟩
 refine wpAny_bind (wpAny_typeOf hty ?_)
 have h1:Builtin.List.listSameRef (.ref s.heap.objs.size) (.ref o)=false:=by simp[Builtin.List.listSameRef,hne]
 have h2:(Value.type "zip"==Value.type "list")=false:=by decide
 have h3:(Value.type "zip"==Value.type "tuple")=false:=by decide
 simp only[h1,h2,h3,Bool.or_false,Bool.false_eq_true,if_false]
 refine wpAny_bind (hself _ _ _ k2 ?_)
 refine wpAny_bind (wpAny_holding ?_)
 unfold Builtin.List.listLengthHint
 refine wpAny_bind (wpAny_specialOf hty yJ ?_)
 show wpAny _ X.A.in1.in1 (specialOf (Value.ref o) (Str.ofString "__length_hint__")>>=_) _ _ _
 refine wpAny_bind (wpAny_specialOf hty wH ?_)
 refine wpAny_pure ?_
 show wpAny _ X.A.in1.in1 (rule "list.extend.makes-room">>=fun _=>Builtin.List.listTouch (.ref s.heap.objs.size)>>=fun _=>
  again (.builtin "list.extend.loop" ⟨[.ref s.heap.objs.size,.ref o,.none],[]⟩)) _ _ _
 refine wpAny_bind (wpAny_rule ?_)
 refine wpAny_bind ?_
 show wpAny _ X.A.in1.in1 (updateSeq s.heap.objs.size (·.push .none)>>=fun _=>updateSeq s.heap.objs.size (·.pop)) _ _ _
 refine wpAny_bind (wpAny_updateSeq hS₂ rfl ?_)
 have hS₃:=Heap.get?_update_self (Obj.mapSeq (·.push Value.none)) hS₂ rfl
 refine wpAny_updateSeq (hz:=by seq_fits) hS₃ rfl ?_
 have hS₄:=Heap.get?_update_self (Obj.mapSeq (·.pop)) hS₃ rfl
 have k4:∀b u,s.heap.get? b=some u->((((s.heap.push {cls:=.type "list",data:=.seq #[]}).update s.heap.objs.size (Obj.mapSeq (fun _=>(#[]:Array Value)))).update s.heap.objs.size (Obj.mapSeq (·.push Value.none))).update s.heap.objs.size (Obj.mapSeq (·.pop))).get? b=some u:=
  fun b u e=>oth _ _ b u (old b u e) (oth _ _ b u (old b u e) (k2 b u e))
 have I1:=I.laid (a:=s.heap.objs.size) (o:=.lst []) (t':=s.toks) k4 (QVq _) ⟨Nat.zero_le _,[],_,.nil,hS₄⟩
 have N1:=Nx.laid (o:=.lst []) S hfr
 obtain⟨fp,tn,J,Tn,st,hf,G⟩:=hit {s with heap:=_} _ N1 k4
 refine wpAny_pure ⟨plainId_quiet PySem.F.plain_extend_loop _,?_⟩
 refine Em (X:=Cx.under X X.A.in1.in1) (A:=X.A.in1) rfl hc Tn G S hfr (fun s4 H4 I4 N4 O4=>?_) xs.length 0 _ _ [] rfl (Inv.under I1 rfl rfl) hf st (bU.refl _) N1 aQ aq.iR (Nat.zero_le _)
 exact⟨rfl,h _ s4 H4 (Inv.back I4 rfl rfl) N4 O4 hfr⟩
end
end Mini
end
section
namespace Mini
open PySem L2
theorem Gives.mono{K:QQq}{J:It}{xs:List D}{H H':Hp}(g:Gives K J xs H)(p:bU H H'):Gives K J xs H':=
 ⟨fun H1 q=>g.go H1 (p.trans q),fun H1 q=>g.yld H1 (p.trans q),fun H1 q=>g.stop H1 (p.trans q),g.len⟩
theorem Inv.Qh{X:Cx}{E:QZq}{QTz:QQz}{σ:St}{H:Hp}{s:Shared}(I:Inv X QTz σ H s):Inv {X with xe:=E} QTz σ H s:=
 ⟨⟨I.ok.mod,I.ok.kind,I.ok.glob,I.ok.blt,I.ok.above,I.ok.inj,I.ok.has,I.ok.cab,I.ok.hd,I.ok.frames,I.ok.stk,I.ok.exf,I.ok.bs,I.ok.bsz,I.ok.noex,I.ok.exfs,I.ok.j4,I.ok.frf⟩,
  I.os,I.bare,I.base,I.loc,I.cell,I.free,I.freeC,I.pin,I.hok,I.len⟩
theorem Inv.unE{X:Cx}{E:QZq}{QTz:QQz}{σ:St}{H:Hp}{s:Shared}(I:Inv {X with xe:=E} QTz σ H s):Inv X QTz σ H s:=Inv.Qh (X:={X with xe:=E}) (E:=X.xe) I
theorem Inv.seqObj{X:Cx}{QTz:QQz}{σ:St}{H:Hp}{s:Shared}{b:Bool}{l:Addr}{vs:List V}(I:Inv X QTz σ H s)(h:KN X.K b H l vs):
  ∃(its:Array Value)(k:Nat)(sl:Array (Option Value)),s.heap.get? l=some {cls:=.type (if b then "list" else "tuple"),dict:=none,data:=.seq its k,slots:=sl}:=by
 cases b with
 |true=>
  obtain⟨its,r,⟨o,n,e,c,d,dt⟩,z⟩:=I.list (K3.sq h)
  obtain⟨oc,od,odt,os⟩:=o
  simp only at c d dt
  subst c d dt
  exact⟨_,_,_,e⟩
 |false=>
  obtain⟨its,r,⟨o,e,c,d,n,dt⟩,z⟩:=I.yN h
  obtain⟨oc,od,odt,os⟩:=o
  simp only at c d dt
  subst c d dt
  exact⟨_,_,_,e⟩
theorem vN{d:D}{xs:List D}(h:bj d=some xs):items d=some xs:=by
 cases d<;>simp[bj]at h<;>simp[items,h]
def QQ(K:QQq):List V->Hp->VK->Prop:=fun us H Q=>∃env τ v d xs pr,us=[v]/\Sat K env τ H/\bH K H d v/\bj d=some xs/\dictOf [] [] xs=some pr/\
 ∀a H',Nx K env τ H env H'->jq K H' (.dct pr.1 pr.2) a->H a=none->Q (.ref a) H'
section
variable{X:Cx}{W:Wi}{c:Cf}{m m1 m2:E}{a b e:Expr}{pos p p':Pos}
theorem Ae(hc:X.calm=true):fK X (.type "dict") (QQ X.K):=by
 intro QTz s σ H us ws Q I r h
 obtain⟨env,τ,v,d,xs,pr,rfl,S,Dv,es,hd,q⟩:=h
 obtain⟨u,rfl,ru⟩:=vals1 r
 obtain⟨bb,l,vs,rfl,hq,dl⟩:=Dv.vo es
 cases ru
 obtain⟨its,k,sl,eo⟩:=Inv.seqObj I hq
 refine qU (x:=("_":Str)) (p:=(default:Pos)) hc I S eo rfl (by cases bb<;>decide) hd (fun s1 E Q e1 k1=>?_) (fun s1 u E Q I1 N1 k1 hQ=>?_) fun a s' H' I' N' O' h'=>⟨.ref a,H',I',rfl,q a H' N' O' h'⟩
 ·cases bb with
  |true=>exact ql e1 (I.ok.hd hc) k1
  |false=>exact oR e1 (I.ok.hd hc) k1
 ·refine wpAny_mono (Jm (X:={(Cx.under X X.A.in1.in1)with xe:=E}) (tg:=.Name ("_":Str) (default:Pos)) (d:=d) (xs:=xs) (R:=fun J H'=>Gives X.K J xs H'/\H'=upd H s.heap.objs.size u) (Inv.Qh I1) (show RelV (.ref l) (.ref l)from rfl) (Dv.mono N1.pers) (vN es) fun J g=>⟨g,rfl⟩) (fun v2 s2 h2=>?_) fun _ _ h=>h
  obtain⟨it,fp,tn,J,H',rfl,I2,T,st,hf,g,rfl⟩:=h2
  exact hQ s2 it fp tn J (Inv.unE I2) T st hf g
theorem JZ{env:Ev}{σ:St}{H:Hp}{Q:VK}(hv:m.az=none)(q:tM X.K W env (ev c (.bi .dict m) env) σ H Q):aD X W c m σ H fun v H1=>QQ X.K [v] H1 Q:=by
 simp only[mJ,hv]at q
 refine⟨env,aN q fun d env1 v H1 N1 D1 q1=>?_⟩
 obtain⟨z,ez,S,q3⟩:=cF q1
 simp only[b1]at ez
 cases es:bj d with
 |none=>rw[es]at ez;cases ez
 |some xs=>
  rw[es]at ez
  simp only[Option.bind_some,Rz]at ez
  cases ed:dictOf [] [] xs with
  |none=>rw[ed]at ez;cases ez
  |some pr=>
   rw[ed]at ez
   cases ez
   exact⟨env1,σ,v,d,xs,pr,rfl,S,D1,es,ed,fun a H' N O h0=>q3 _ H' N ⟨a,rfl,O,h0⟩⟩
theorem O2(hc:X.calm=true)(ha:GE X W c m a)(hv:m.az=none)(hg:Gl X "dict")(hm:X.mg "dict"=none)(hs:starEach [a] X.env=[(false,eval a X.env)]):
  GE X W c (.bi .dict m) (.Call (.Name "dict" p) [a] [] pos):=fun env=>
 PE.imp (jN (Ae hc) hg hm PyProof.Rows.boot_dict (bI ha.d dg hs) (by decide) (by decide) hs rfl) fun σ H Q h=>JZ hv h
structure aeK(X:Cx)(W:Wi)(QTz:QQz)(σ:St)(Q:VK)(f:D->Ev->Out Rv)(v:Value)(s:Shared):Prop where
 go:∃z TI TO i1 i2 b1 b2 l1 l2 vs ws xs ys env H,v=.ref z/\Inv X QTz σ H s/\yE z TI TO i1 i2 b1 b2 l1 l2 0 s.heap/\ZipApart z TI TO i1 i2 l1 l2/\(∀b∈[z,TI,TO,i1,i2],gB X QTz H b)/\
  Gives X.K (Itz X.K b1 b2 l1 l2 vs ws) (aK xs ys) H/\tM X.K W env (f (.lst (aK xs ys)) env) σ H Q
theorem wI{env:Ev}{QTz:QQz}{s:Shared}{σ:St}{H:Hp}{Q:VK}{f:D->Ev->Out Rv}(ha:GE X W c m1 a)(hb:GE X W c m2 b)(hg:Gl X "zip")(hm:X.mg "zip"=none)
  (hs:starEach [a,b] X.env=[(false,eval a X.env),(false,eval b X.env)])(hs2:starEach [b] X.env=[(false,eval b X.env)])(I:Inv X QTz σ H s)(q:tM X.K W env ((ev c (.zip m1 m2) env).ak f) σ H Q):
  wpAny (model X.prog X.w) X.A (eval (.Call (.Name "zip" p) [a,b] [] pos) X.env) (aeK X W QTz σ Q f) X.xe s:=by
 simp only[Gp]at q
 let RR:List V->Hp->Prop:=fun vs H'=>∃env2 d1 d2 xs ys v1 v2,vs=[v1,v2]/\bH X.K H' d1 v1/\bH X.K H' d2 v2/\bj d1=some xs/\bj d2=some ys/\tM X.K W env2 (f (.lst (aK xs ys)) env2) σ H' Q
 have asc:∀(o:Out Rv)(g:D->Ev->Out Rv),(o.ak g).ak f=o.ak fun d e=>(g d e).ak f:=fun o g=>by
  cases o with
  |ok x e=>cases x<;>rfl
  |exc c e=>rfl
  |bad=>rfl
 rw[asc]at q
 have go:aD X W c m1 σ H fun v1 H1=>aD X W c m2 σ H1 fun v2 H2=>RR [v1,v2] H2:=by
  refine⟨env,aN q fun d1 env1 v1 H1 N1 D1 q1=>⟨env1,?_⟩⟩
  rw[asc]at q1
  refine aN q1 fun d2 env2 v2 H2 N2 D2 q2=>?_
  cases e1:bj d1 with
  |none=>rw[e1]at q2;exact q2.2.elim
  |some xs=>
   cases e2:bj d2 with
   |none=>rw[e1,e2]at q2;exact q2.2.elim
   |some ys=>
    rw[e1,e2]at q2
    exact⟨env2,d1,d2,xs,ys,v1,v2,rfl,D1.mono N2.pers,D2,e1,e2,q2⟩
 refine wpAny_Call_Name_kw (jD I hg hm PyProof.Rows.boot_zip ?_ (by decide) (by decide))
 refine PyProof.Rows.callWith_type1 (cB (bI ha.d (bI hb.d dg hs2) (by rw[hs,hs2]) pos QTz s σ H RR I go) fun us s1⟨vs,H1,I1,r1,q1⟩=>?_) (by rw[hs,hs2]) (by rw[hs2];rfl)
 obtain⟨env2,d1,d2,xs,ys,v1,v2,rfl,D1,D2,e1,e2,q3⟩:=q1
 obtain⟨b1,l1,vs,rfl,h1,dl1⟩:=D1.vo e1
 obtain⟨b2,l2,ws,rfl,h2,dl2⟩:=D2.vo e2
 obtain⟨u1,u2,rfl,ru1,ru2⟩:=Vals.two r1
 cases ru1
 cases ru2
 obtain⟨its,rr1,p1,z1,lt1⟩:=Inv.vo I1 h1
 obtain⟨its2,rr2,p2,z2,lt2⟩:=Inv.vo I1 h2
 refine uJ p1 p2 fun h' st sz kk=>?_
 refine⟨s1.heap.objs.size+4,s1.heap.objs.size+2,s1.heap.objs.size+3,s1.heap.objs.size,s1.heap.objs.size+1,b1,b2,l1,l2,vs,ws,xs,ys,env2,H1,rfl,I1.kept (t':=s1.toks) kk,st,sO lt1 lt2,fun b hb=>?_,uA h1 h2 dl1 dl2 z1,q3⟩
 have hb':s1.heap.objs.size<=b:=by
  simp only[List.mem_cons,List.not_mem_nil,or_false]at hb
  rcases hb with rfl|rfl|rfl|rfl|rfl<;>omega
 exact I1.ym hb' (I1.hok.fresh hb')
theorem yE.lt{z TI TO i1 i2:Addr}{b1 b2:Bool}{l1 l2:Addr}{k:Nat}{h:Heap}(st:yE z TI TO i1 i2 b1 b2 l1 l2 k h):∀b∈[z,TI,TO,i1,i2],b<h.objs.size:=by
 intro b hb
 obtain⟨f0,f1,zr,_⟩:=st.zr
 obtain⟨x,y,to⟩:=st.to
 simp only[List.mem_cons,List.not_mem_nil,or_false]at hb
 rcases hb with rfl|rfl|rfl|rfl|rfl
 ·exact Heap.lt_size zr
 ·exact Heap.lt_size st.ti
 ·exact Heap.lt_size to
 ·exact st.it1.lt
 ·exact st.it2.lt
theorem zU{q1 q2:Pos}(hc:X.calm=true)(ha:GE X W c m1 a)(hb:GE X W c m2 b)(hg:Gl X "zip")(hm:X.mg "zip"=none)
  (hs:starEach [a,b] X.env=[(false,eval a X.env),(false,eval b X.env)])(hs2:starEach [b] X.env=[(false,eval b X.env)])(hg':Gl X "dict")(hm':X.mg "dict"=none)
  (hs':starEach [.Call (.Name "zip" q1) [a,b] [] q2] X.env=[(false,eval (.Call (.Name "zip" q1) [a,b] [] q2) X.env)]):
  GE X W c (.bi .dict (.zip m1 m2)) (.Call (.Name "dict" p) [.Call (.Name "zip" q1) [a,b] [] q2] [] pos):=by
 intro env QTz s σ H Q I q
 simp only[mJ,E.az]at q
 refine wpAny_Call_Name_kw (jD I hg' hm' PyProof.Rows.boot_dict ?_ (by decide) (by decide))
 refine PyProof.Rows.callWith_type1 ?_ hs' rfl
 rw[hs']
 refine Calls.spliced_cons (cB (wI ha hb hg hm hs hs2 I (by simpa only[mJ]using q)) fun u s1 h1=>Calls.spliced_nil ?_)
 obtain⟨z,TI,TO,i1,i2,b1,b2,l1,l2,vs,ws,xs,ys,env1,H1,rfl,I1,st,ap,hf,G,q1⟩:=h1.go
 obtain⟨r,er,S,q3⟩:=cF q1
 simp only[Mini.b1,bj,Option.bind_some,Rz]at er
 cases ed:dictOf [] [] (aK xs ys)with
 |none=>rw[ed]at er;cases er
 |some pr=>
  rw[ed]at er
  cases er
  obtain⟨f0,f1,zr,h0⟩:=st.zr
  refine qU (x:=("_":Str)) (p:=(default:Pos)) hc I1 S zr rfl (by decide) ed (fun s2 E Q e1 k1=>sy e1 (I1.ok.hd hc) k1) (fun s2 u E Q I2 N2 k2 hQ=>?_)
   fun a s' H' I' N' O' h'=>⟨.ref a,H',I',rfl,q3 _ H' N' ⟨a,rfl,O',h'⟩⟩
  refine iQ (k2 _ _ zr) (hQ s2 z [z,TI,TO,i1,i2] _ _ I2 (jy (vs:=vs) (ws:=ws) ap) ((jy (P:=X.prog) (w:=X.w) (K:=X.K) (tg:=.Name ("_":Str) (default:Pos)) (vs:=vs) (ws:=ws) ap).keep 0 _ _ st fun b _ o e=>k2 b o e) (fun b hb=>⟨?_,(hf b hb).2⟩) (G.mono N2.pers))
  rw[aC (Nat.ne_of_lt (st.lt b hb))]
  exact(hf b hb).1
theorem zT{q1 q2:Pos}(hc:X.calm=true)(ha:GE X W c m1 a)(hb:GE X W c m2 b)(hg:Gl X "zip")(hm:X.mg "zip"=none)
  (hs:starEach [a,b] X.env=[(false,eval a X.env),(false,eval b X.env)])(hs2:starEach [b] X.env=[(false,eval b X.env)])(hg':Gl X "list")(hm':X.mg "list"=none)
  (hs':starEach [.Call (.Name "zip" q1) [a,b] [] q2] X.env=[(false,eval (.Call (.Name "zip" q1) [a,b] [] q2) X.env)]):
  GE X W c (.bi .list (.zip m1 m2)) (.Call (.Name "list" p) [.Call (.Name "zip" q1) [a,b] [] q2] [] pos):=by
 intro env QTz s σ H Q I q
 simp only[mJ,E.az]at q
 refine wpAny_Call_Name_kw (jD I hg' hm' PyProof.Rows.boot_list ?_ (by decide) (by decide))
 refine PyProof.Rows.callWith_type1 ?_ hs' rfl
 rw[hs']
 refine Calls.spliced_cons (cB (wI ha hb hg hm hs hs2 I (by simpa only[mJ]using q)) fun u s1 h1=>Calls.spliced_nil ?_)
 obtain⟨z,TI,TO,i1,i2,b1,b2,l1,l2,vs,ws,xs,ys,env1,H1,rfl,I1,st,ap,hf,G,q1⟩:=h1.go
 obtain⟨r,er,S,q3⟩:=cF q1
 simp only[Mini.b1,bj,Option.bind_some,Rz]at er
 cases er
 obtain⟨f0,f1,zr,h0⟩:=st.zr
 refine Ad (x:=("_":Str)) (p:=(default:Pos)) hc I1 S zr rfl (fun s2 E Q k2 hQ=>iQ (k2 _ _ zr) hQ) (fun s2 u N2 k2=>?_)
  fun a s' H' I' N' O' h'=>⟨.ref a,H',I',rfl,q3 _ H' N' ⟨a,rfl,O',h'⟩⟩
 refine⟨[z,TI,TO,i1,i2],_,_,jy (vs:=vs) (ws:=ws) ap,(jy (P:=X.prog) (w:=X.w) (K:=X.K) (tg:=.Name ("_":Str) (default:Pos)) (vs:=vs) (ws:=ws) ap).keep 0 _ _ st fun b _ o e=>k2 b o e,fun b hb=>⟨?_,(hf b hb).2⟩,G.mono N2.pers⟩
 rw[aC (Nat.ne_of_lt (st.lt b hb))]
 exact(hf b hb).1
end
end Mini
end
section
namespace Mini
open PySem L2
section
variable{prog:Program}{w:World}{A:Around}{E:QZq}{s:Shared}
theorem wz{a b:Bool}{Q:QZq}(h:Q (.bool (!a&&b)) s):wpAny (model prog w) A (call (.builtin "int.__lt__") [.bool a,.bool b]) Q E s:=by
 refine wpAny_call_entry PySem.F.slot_bool_lt (PyProof.Rows.typeIs_bool' s a) PySem.F.entry_int_lt ?_ (PySem.F.args_int_lt_2 _ _)
 have e:(decide ((if a=true then(1:Int)else 0)< (if b=true then(1:Int)else 0)))=(!a&&b):=by cases a<;>cases b<;>rfl
 have g:=PyProof.Rows.gives_int_lt_bools a b
 show wpAny _ _ (ret (.bool (decide ((if a=true then(1:Int)else 0)< (if b=true then(1:Int)else 0))))) _ _ s
 rw[e]
 exact wpAny_pure ⟨_,rfl,h⟩
theorem xJ{a b:Bool}{Q:Bool->Shared->Prop}(h:Q (!a&&b) s):wpAny (model prog w) A (PyProof.Rows.oneLt' true (.bool a) (.bool b)) Q E s:=by
 rw[PyProof.Rows.oneLt'_eq]
 simp only[if_true]
 refine wpAny_bind (wpAny_cRoomFor_byValue rfl ?_)
 refine wpAny_bind (wpAny_callSpecialIfBound?_slot (PyProof.Rows.typeIs_bool' s a) PySem.F.slot_bool_lt (wz ?_))
 exact wpAny_truthy_bool h
theorem zB{c a b:Bool}{Q:Bool->Shared->Prop}(h:Q (!a&&b) s):wpAny (model prog w) A (PyProof.Rows.oneLt' c (.bool a) (.bool b)) Q E s:=by
 cases c with
 |true=>exact xJ h
 |false=>exact PySem.W.kat_one _ _ (show wpAny (model prog w) A (richCompare .Lt (.bool a) (.bool b)) _ _ s from tR A s a b prog w _ _ h)
theorem uw{b fin:Bool}{Q:Bool->Shared->Prop}{nx ny:Nat}:∀{vs ws:List Value}{ns ms:List Bool}(i:Nat),BoolsAre vs ns->BoolsAre ws ms->ns.length+ny=ms.length+nx->fin=decide (nx<ny)->Q (jn ns ms) s->
  PySem.W.KatLex prog w A b fin Q (vs.zip ws) i s
 |_,_,_,_,i,.nil,hw=>fun hl hf h=>by
  rw[List.zip_nil_left]
  refine PySem.W.kat_nil ?_
  cases hw with
  |nil=>rw[By]at h;rw[hf];simp at hl;rw[decide_eq_false (by omega)];exact h
  |cons c hw=>rw[BJ]at h;rw[hf];simp at hl;rw[decide_eq_true (by omega)];exact h
 |_,_,_,_,i,.cons a hv,.nil=>fun hl hf h=>by
  rw[List.zip_nil_right]
  refine PySem.W.kat_nil ?_
  rw[BK]at h
  rw[hf]
  simp at hl
  rw[decide_eq_false (by omega)]
  exact h
 |_,_,_,_,i,.cons a hv,.cons c hw=>fun hl hf h=>by
  rw[List.zip_cons_cons]
  rw[um]at h
  simp only[List.length_cons]at hl
  refine PySem.W.kat_cons (SeqAt.EqAt.bool_bool (A:=A) (s:=s) a c prog w _ _ ?_)
  by_cases hac:a=c
  ·subst hac
   rw[if_pos rfl]at h
   rw[beq_self_eq_true]
   exact PySem.W.kat_yes (uw (i+1) hv hw (by omega) hf h)
  ·rw[if_neg hac]at h
   rw[beq_eq_false_iff_ne.mpr hac]
   exact PySem.W.kat_no (zB h)
theorem xT{b:Bool}{x y:Addr}{xs ys:Array Value}{ns ms:List Bool}{Q:Bool->Shared->Prop}(hx:∃o n,s.heap.get? x=some o/\o.data=.seq xs n)(hy:∃o n,s.heap.get? y=some o/\o.data=.seq ys n)(bx:BoolsAre xs.toList ns)(by':BoolsAre ys.toList ms)
  (h:Q (jn ns ms) s):wpAny (model prog w) A (PyProof.Rows.keyLt' (PyProof.Rows.tuples' b) (.ref x) (.ref y)) Q E s:=by
 obtain⟨ox,nx,ex,dx⟩:=hx
 obtain⟨oy,ny,ey,dy⟩:=hy
 have l1:=bx.length
 have l2:=by'.length
 simp at l1 l2
 exact PySem.W.kat_lt ex dx ey dy (uw (nx:=xs.size) (ny:=ys.size) 0 bx by' (by omega) rfl h)
end
end Mini
end
section
namespace Mini
open PySem L2 PyProof.Rows
section
variable{prog:Program}{w:World}{A:Around}{E:QZq}{s:Shared}
theorem vK{a:Addr}{vs out:List Value}{n:Nat}{P:PySem.Fin->Shared->Prop}(ho:s.heap.get? a=some (seqObj "list" vs.toArray n))(h64:vs.length<64)(hl:out.length=vs.length)
  (h1:vs.length<2->out=vs)
  (h2:2<=vs.length->∀h':Heap,(∀b o,b≠a->s.heap.get? b=some o->h'.get? b=some o)->wpAny (model prog w) A (keyKind' vs.toArray) (fun κ s'=>s'={s with heap:=h'}/\
   (PySem.W.kas_sort vs.length).kasWp (PySem.W.kas_ask prog w A κ vs) (fun p s''=>s''={s with heap:=h'}/\(p.toList.map fun i=>vs.getD i Value.none)=out) s') (fun _ _=>False) {s with heap:=h'})
  (h:P (.done (.ret .none)) {s with heap:=sortedHeap s.heap a vs out.toArray}):
  wpAny (model prog w) A (Builtin.«list.sort» ⟨[.ref a],[]⟩) P E s:=by
 rw[list_sort_plain]
 have ha:a<s.heap.objs.size:=Heap.lt_size ho
 have hz:vs.length<=sizeLine:=by rw[sizeLine_eq];omega
 refine wpAny_bind (listItems_at ho rfl ?_)
 refine wpAny_bind (listUpdate_at ho rfl ?_ (by rw[List.size_toArray];exact hz) (Nat.zero_le _))
 obtain⟨e1,ho1⟩:∃e1,(s.heap.update a (Obj.mapSeq fun _=> #[])).get? a=some (seqObj "list" #[] e1):=⟨_,get?_update_seq ho (fun _=> #[])⟩
 refine wpAny_bind (seqEpoch_at ho1 rfl ?_)
 refine wpAny_bind (wpAny_newTuple ?_ (by show vs.length<=_;exact hz))
 refine wpAny_bind (wpAny_newList ?_ (Nat.zero_le _))
 refine wpAny_holding ?_
 have ho6:(((s.heap.update a (Obj.mapSeq fun _=> #[])).push (seqObj "tuple" vs.toArray 0)).push (seqObj "list" #[] 0)).get? a=some (seqObj "list" #[] e1):=by
  rw[Heap.get?_push_ne _ _ _ (by rw[size_push',Heap.size_update];exact Nat.ne_of_lt (Nat.lt_succ_of_lt ha)),Heap.get?_push_ne _ _ _ (by rw[Heap.size_update];exact Nat.ne_of_lt ha)]
  exact ho1
 have kp:∀b o,b≠a->s.heap.get? b=some o->(((s.heap.update a (Obj.mapSeq fun _=> #[])).push (seqObj "tuple" vs.toArray 0)).push (seqObj "list" #[] 0)).get? b=some o:=fun b o hb e=>
  QXz _ (QXz _ ((Heap.get?_update_other _ _ (Ne.symm hb)).trans e))
 show wpAny (model prog w) A _ P E {s with heap:=((s.heap.update a (Obj.mapSeq fun _=> #[])).push (seqObj "tuple" vs.toArray 0)).push (seqObj "list" #[] 0)}
 dsimp only
 by_cases hn:vs.toArray.size<2
 ·rw[if_pos hn,if_pos hn]
  refine wpAny_bind (wpAny_pure ?_)
  rw[StateT.run_pure]
  refine wpAny_bind (wpAny_pure ?_)
  dsimp only
  have em:(arrOf (SortSt.mk' general' (vs.toArray.zip vs.toArray) #[] 7 none)).map (·.2)=out.toArray:=by
   rw[h1 (by simpa using hn)]
   show(vs.toArray.zip vs.toArray).map (·.2)=_
   apply Array.toList_inj.mp
   simp[List.map_snd_zip]
  refine wpAny_bind (seqEpoch_at ho6 rfl ?_)
  rw[em]
  refine wpAny_bind (listUpdate_at ho6 rfl ?_ (Nat.zero_le _) (by show out.toArray.size<=_;rw[List.size_toArray];omega))
  simp only[bne_self_eq_false,Bool.false_eq_true,if_false]
  exact wpAny_pure h
 ·rw[if_neg hn,if_neg hn]
  have hn2:2<=vs.length:=by simpa using hn
  refine wpAny_bind (wpAny_mono (h2 hn2 _ kp) (fun κ s0 hk=>?_) fun _ _ x=>x.elim)
  obtain⟨rfl,hk⟩:=hk
  refine wpAny_bind (wpAny_mono (PySem.W.kat_run (Q:=fun st' s'=>∃p:Array Nat,arrOf st'=p.map (PySem.W.kas_item (vs.toArray.zip vs.toArray))/\failedOf st'=none/\s'={s with heap:=((s.heap.update a (Obj.mapSeq fun _=> #[])).push (seqObj "tuple" vs.toArray 0)).push (seqObj "list" #[] 0)}/\(p.toList.map fun i=>vs.getD i Value.none)=out)
   rfl hn2 h64 (fun p' st' s' a1 a2 a3 a4=>⟨p',a2,a3,a4.1,a4.2⟩) hk) ?_ fun _ _ e=>e)
  rintro ⟨⟨⟩,st'⟩ s' ⟨p,har,hf,rfl,hp⟩
  dsimp only
  have em:(arrOf st').map (·.2)=out.toArray:=by rw[PySem.W.kat_snds rfl har,hp]
  refine wpAny_bind (seqEpoch_at ho6 rfl ?_)
  rw[em]
  refine wpAny_bind (listUpdate_at ho6 rfl ?_ (Nat.zero_le _) (by show out.toArray.size<=_;rw[List.size_toArray];omega))
  rw[hf]
  simp only[bne_self_eq_false,Bool.false_eq_true,if_false]
  exact wpAny_pure h
theorem sY{l:Addr}{vs out:List Value}{Q:QZq}(hls:s.heap.IsList l vs.toArray)(h64:vs.length<64)(hl:out.length=vs.length)(h1:vs.length<2->out=vs)
  (h2:2<=vs.length->∀h':Heap,(∀b o,s.heap.get? b=some o->h'.get? b=some o)->wpAny (model prog w) A.in1.in1 (keyKind' vs.toArray) (fun κ s'=>s'={s with heap:=h'}/\
   (PySem.W.kas_sort vs.length).kasWp (PySem.W.kas_ask prog w A.in1.in1 κ vs) (fun p s''=>s''={s with heap:=h'}/\(p.toList.map fun i=>vs.getD i Value.none)=out) s') (fun _ _=>False) {s with heap:=h'})
  (h:Q (.ref (s.heap.objs.size+1)) {s with heap:=sortedAll s.heap vs out.toArray}):
  wpAny (model prog w) A (call (.builtin "sorted") [.ref l]) Q E s:=by
 refine Calls.call_function_entry kind_sorted plain_sorted entry_sorted (args_sorted1 _) ?_
 unfold Builtin.«sorted»
 have hz:vs.length<=sizeLine:=by rw[sizeLine_eq];omega
 refine wpAny_bind (m:=checkCount "sorted" 1 1 _) (wpAny_pure ?_)
 refine wpAny_bind (collect_list hls ?_ hz)
 refine wpAny_bind (wpAny_newList ?_ hz)
 have hsz:((s.heap.push (seqObj "list" #[] 0)).update s.heap.objs.size (Obj.mapSeq (· ++vs.toArray))).objs.size=s.heap.objs.size+1:=by
  rw[Heap.size_update,size_push']
 have hoL:(((s.heap.push (seqObj "list" #[] 0)).update s.heap.objs.size (Obj.mapSeq (· ++vs.toArray))).push (seqObj "list" vs.toArray 0)).get? (s.heap.objs.size+1)=some (seqObj "list" vs.toArray 0):=by
  rw[<-hsz];exact Heap.get?_push_size _ rfl
 have keep:∀b o,s.heap.get? b=some o->(((s.heap.push (seqObj "list" #[] 0)).update s.heap.objs.size (Obj.mapSeq (· ++vs.toArray))).push (seqObj "list" vs.toArray 0)).get? b=some o:=fun b o q=>by
  have hlt:b<s.heap.objs.size:=Heap.lt_size q
  rw[Heap.get?_push_ne _ _ _ (by rw[hsz];exact Nat.ne_of_lt (Nat.lt_succ_of_lt hlt)),Heap.get?_update_ne _ _ _ _ (Nat.ne_of_lt hlt),Heap.get?_push_ne _ _ _ (Nat.ne_of_lt hlt)]
  exact q
 show wpAny _ _ _ _ _ {s with heap:=((s.heap.push (seqObj "list" #[] 0)).update s.heap.objs.size (Obj.mapSeq (· ++vs.toArray))).push (seqObj "list" vs.toArray 0)}
 rw[hsz]
 refine wpAny_bind (wpAny_holding (wpAny_call_entry slot_list_sort ⟨_,hoL,rfl⟩ entry_list_sort (vK hoL h64 hl h1 (fun hn h' kp=>?_) ⟨_,rfl,?_⟩) (args_list_sort _)))
 ·exact h2 hn h' fun b o e=>kp b o (Nat.ne_of_lt (Nat.lt_succ_of_lt (Heap.lt_size e))) (keep b o e)
 ·exact wpAny_pure ⟨_,rfl,h⟩
theorem qp{α:Type}{cmp:Nat->Nat->(Bool->Shared->Prop)->Shared->Prop}{f:Nat->Nat->Option Bool}{Q:α->Shared->Prop}{a:α}(hc:∀i j b(C:Bool->Shared->Prop),f i j=some b->C b s->cmp i j C s):
  ∀(t:PySem.W.KasT α),Hf f t=some a->Q a s->t.kasWp cmp Q s
 |.ret x=>fun e q=>by cases e;exact q
 |.ask i j k=>fun e q=>by
  simp only[Hf]at e
  cases z:f i j with
  |none=>rw[z]at e;cases e
  |some b=>rw[z]at e;exact hc i j b _ z (qp hc (k b) e q)
end
end Mini
end
section
namespace Mini
open PySem L2
inductive fM(h:Heap):List Value->List (List Bool)->Prop
 |nil:fM h [] []
 |cons {a:Addr} {o:Obj} {arr:Array Value} {n:Nat} {b:Bool} {bs:List Bool} {vs:List Value} {rs:List (List Bool)}:h.get? a=some o->o.cls=.type "tuple"->o.data=.seq arr n->BoolsAre arr.toList (b::bs)->fM h vs rs->fM h (.ref a::vs) ((b::bs)::rs)
theorem fM.mono{h h':Heap}(k:∀b o,h.get? b=some o->h'.get? b=some o):∀{vs:List Value}{rs:List (List Bool)},fM h vs rs->fM h' vs rs
 |_,_,.nil=>.nil
 |_,_,.cons e c d b r=>.cons (k _ _ e) c d b (fM.mono k r)
theorem fM.tups{h:Heap}:∀{vs:List Value}{rs:List (List Bool)},fM h vs rs->∃fs,PySem.W.KatTups h vs fs/\fs.length=vs.length/\∀v∈fs,∃b,v=.bool b
 |_,_,.nil=>⟨[],PySem.W.KatTups.nil,rfl,fun v z=>nomatch z⟩
 |_,_,.cons (b:=b) e c d bb r=>by
  obtain⟨fs,t,l,f⟩:=r.tups
  have h0:∃x,(‹Array Value›)[0]? =some x/\x=.bool b:=by
   rename_i arr _ _ _ _
   cases q:arr.toList with
   |nil=>rw[q]at bb;cases bb
   |cons x xs=>
    rw[q]at bb
    cases bb
    refine⟨.bool b,?_,rfl⟩
    have:arr=(Value.bool b::xs).toArray:=by rw[<-q]
    rw[this]
    rfl
  obtain⟨x,hx,rfl⟩:=h0
  refine⟨.bool b::fs,PySem.W.KatTups.cons e c d hx t,by simp[l],fun v z=>?_⟩
  rcases List.mem_cons.mp z with rfl|z
  ·exact⟨b,rfl⟩
  ·exact f v z
theorem fM.at{h:Heap}:∀{vs:List Value}{rs:List (List Bool)},fM h vs rs->∀{i:Nat}{r:List Bool},rs[i]? =some r->∃a o arr n,vs.getD i Value.none=.ref a/\h.get? a=some o/\o.data=.seq arr n/\BoolsAre arr.toList r
 |_,_,.cons e c d b t,0,r,q=>by cases q;exact⟨_,_,_,_,rfl,e,d,b⟩
 |_,_,.cons e c d b t,i+1,r,q=>by
  obtain⟨a,o,arr,n,z⟩:=t.at (i:=i) (r:=r) (by simpa using q)
  exact⟨a,o,arr,n,by simpa using z⟩
theorem qX{K:QQq}{H:Hp}:∀{ys:List D}{bs:List Bool}{vs:List V}{us:List Value},bools ys=some bs->aq K H ys vs->Vals vs us->BoolsAre us bs
 |[],bs,vs,us,e,d,v=>by
  cases e
  rw[aq.bL.mp d]at v
  cases v
  exact .nil
 |y::ys,bs,vs,us,e,d,v=>by
  obtain⟨w,ws,rfl,h1,h2⟩:=aq.bw.mp d
  cases v with
  |cons r t=>
   cases y with
   |bl b=>
    simp only[bools]at e
    cases q:bools ys with
    |none=>rw[q]at e;cases e
    |some bs'=>
     rw[q]at e
     cases e
     cases h1
     cases r
     exact .cons b (qX q h2 t)
   |_=>simp[bools]at e
theorem Bh{X:Cx}{QTz:QQz}{σ:St}{H:Hp}{s:Shared}(I:Inv X QTz σ H s):∀{xs:List D}{rs:List (List Bool)}{vs:List V}{us:List Value},je xs=some rs->aq X.K H xs vs->Vals vs us->fM s.heap us rs
 |[],rs,vs,us,e,d,v=>by
  cases e
  rw[aq.bL.mp d]at v
  cases v
  exact .nil
 |y::ys,rs,vs,us,e,d,v=>by
  obtain⟨w,ws,rfl,h1,h2⟩:=aq.bw.mp d
  cases v with
  |cons r t=>
   cases y with
   |tup zs=>
    simp only[je]at e
    cases q:bools zs with
    |none=>rw[q]at e;cases e
    |some bs=>
     cases bs with
     |nil=>rw[q]at e;cases e
     |cons b bs=>
      rw[q]at e
      simp only at e
      cases q2:je ys with
      |none=>rw[q2]at e;cases e
      |some rs'=>
       rw[q2]at e
       cases e
       obtain⟨a,us',rfl,hq,l⟩:=cG h1
       cases r
       obtain⟨its,rr,⟨o,eo,c,n,dt⟩,_⟩:=I.tuple hq
       exact .cons eo c dt (by simpa using qX q l rr) (Bh I q2 h2 t)
   |_=>simp[je]at e
theorem nU{K:QQq}{H:Hp}{xs:List D}{vs:List V}{us:List Value}(d:aq K H xs vs)(v:Vals vs us):∀{is:List Nat}{ys:List D},qz xs is=some ys->∃ws,aq K H ys ws/\Vals ws (is.map fun i=>us.getD i Value.none)
 |[],ys,e=>by cases e;exact⟨[],aq.iR,.nil⟩
 |i::is,ys,e=>by
  simp only[qz]at e
  cases q:xs[i]? with
  |none=>rw[q]at e;cases e
  |some x=>
   rw[q]at e
   simp only[Option.bind_some]at e
   cases q2:qz xs is with
   |none=>rw[q2]at e;cases e
   |some ys'=>
    rw[q2]at e
    cases e
    obtain⟨ws,h1,h2⟩:=nU d v q2
    obtain⟨w,ew,dw⟩:=d.get q
    obtain⟨u,eu,ru⟩:=v.get ew
    refine⟨w::ws,aq.eE dw h1,?_⟩
    rw[List.map_cons]
    have:us.getD i Value.none=u:=by simp[List.getD,eu]
    rw[this]
    exact .cons ru h2
theorem dM.adP{K:QQq}{H:Hp}{xs:List D}{v:V}(h:dM K H (.lst xs) v):∃a vs,v=.ref a/\jK K H a vs/\aq K H xs vs:=by
 rcases h with h|⟨o,a,q,rfl,u,ha,hq⟩
 ·obtain⟨a,vs,rfl,hq,l⟩:=dF h
  exact⟨a,vs,rfl,hq.sq,l⟩
 ·cases o<;>cases q
  obtain⟨vs,rfl,l⟩:=hq
  exact⟨a,vs,rfl,.inl (.inl ha),l⟩
def QH(K:QQq):List V->Hp->VK->Prop:=fun us H Q=>∃l vs xs ys,us=[.ref l]/\jK K H l vs/\aq K H xs vs/\nQ xs=some ys/\∀ws,aq K H ys ws->∀a,H a=none->Q (.ref a) (upd H a (.lst ws))
section
variable{X:Cx}
theorem wu:fK X (.builtin "sorted") (QH X.K):=by
 intro QTz s σ H us ws Q I r h
 obtain⟨l,vs,xs,ys,rfl,hq,dl,es,q⟩:=h
 obtain⟨u,rfl,ru⟩:=vals1 r
 cases ru
 obtain⟨its,rr,pl,hz⟩:=I.list hq
 have lx:=dl.length
 have lv:=rr.length
 have fin:∀(zs:List V)(out:List Value),aq X.K H ys zs->Vals zs out->out.length<=sizeLine->EP X QTz σ Q (.ref (s.heap.objs.size+1)) {s with heap:=PyProof.Rows.sortedAll s.heap its out.toArray}:=fun zs out d v lz=>by
  obtain⟨e,ea⟩:=PyProof.Rows.sortedAll_at s.heap its out.toArray
  exact⟨.ref (s.heap.objs.size+1),_,I.laid (t':=s.toks) (fun b o x=>PyProof.Rows.sortedAll_old x) (Nat.le_succ _) (show b8 X.prog X.w _ _ _ (.lst zs)from⟨by rw[v.length];exact lz,out,e,v,ea⟩),rfl,q zs d _ (I.hok.fresh (Nat.le_succ _))⟩
 unfold nQ at es
 by_cases h1:xs.length<2
 ·rw[if_pos h1]at es
  cases es
  exact sY pl.isList (by omega) rfl (fun _=>rfl) (fun z=>absurd z (by omega)) (fin vs its dl rr (by omega))
 ·rw[if_neg h1]at es
  by_cases h64:xs.length<64
  ·rw[if_pos h64]at es
   unfold aaZ at es
   cases e1:je xs with
   |none=>
    rw[e1]at es
    cases es
   |some rs=>
    rw[e1]at es
    simp only[Option.bind_some]at es
    cases e2:Hf (PB rs) (PySem.W.kas_sort xs.length)with
    |none=>rw[e2]at es;cases es
    |some p=>
     rw[e2]at es
     simp only[Option.bind_some]at es
     by_cases e3:p.size=xs.length
     ·rw[if_pos e3]at es
      obtain⟨zs,d,v⟩:=nU dl rr es
      have RA:=Bh I e1 dl rr
      have lo:(p.toList.map fun i=>its.getD i Value.none).length=its.length:=by rw[List.length_map,Array.length_toList];omega
      refine sY pl.isList (by omega) lo (fun z=>absurd z (by omega)) (fun _ h' kp=>?_) (fin zs _ d v (by omega))
      have RA':=RA.mono kp
      obtain⟨fs,t,lf,fb⟩:=RA'.tups
      refine PySem.W.kat_kind (T:=.type "bool") t (by omega) (fun v hv=>?_) (by decide) ⟨rfl,?_⟩
      ·obtain⟨b,rfl⟩:=fb v hv
       exact PySem.W.Looks.of_pure rfl
      ·have el:its.length=xs.length:=by omega
       rw[el]
       refine qp (f:=PB rs) (fun i j b C e c=>?_) _ e2 ⟨rfl,rfl⟩
       unfold PB at e
       cases ei:rs[i]? with
       |none=>rw[ei]at e;cases e
       |some ri=>
        cases ej:rs[j]? with
        |none=>rw[ei,ej]at e;cases e
        |some rj=>
         rw[ei,ej]at e
         cases e
         obtain⟨ai,oi,arri,ni,x1,x2,x3,x4⟩:=RA'.at ei
         obtain⟨aj,oj,arrj,nj,y1,y2,y3,y4⟩:=RA'.at ej
         show wpAny _ _ (PyProof.Rows.keyLt' _ (its.getD i Value.none) (its.getD j Value.none)) _ _ _
         rw[x1,y1]
         exact xT ⟨oi,ni,x2,x3⟩ ⟨oj,nj,y2,y3⟩ x4 y4 c
     ·rw[if_neg e3]at es;cases es
  ·rw[if_neg h64]at es;cases es
theorem yU:oV X (QH X.K) (b1 .sorted):=by
 intro env σ H x z v Q S Dx e q
 simp only[b1]at e
 cases x with
 |lst xs=>
  simp only[jf,Option.bind_some,Rz]at e
  cases es:nQ xs with
  |none=>rw[es]at e;cases e
  |some ys=>
   rw[es]at e
   cases e
   obtain⟨a,vs,rfl,hq,l⟩:=Dx.adP
   exact⟨a,vs,xs,ys,rfl,hq,l,es,fun ws d p hp=>q _ _ (Nx.laid S hp) (lO S d hp)⟩
 |_=>simp[jf]at e
end
end Mini
end
section
namespace Mini
open PySem L2
section
variable{X:Cx}{W:Wi}{c:Cf}{m m1 m2 m3:E}{e a b:Expr}{pos:Pos}
theorem Vx{k:Nat}{x:Str}(nm:gA X k x):GE X W c (.ref k) (.Name x pos):=by
 intro env
 refine PE.imp nm.pe fun σ H Q q=>?_
 simp only[Gr]at q
 have go:∀o,(env[k]? =some (.own o)\/env[k]? =some (.bor o))->tM X.K W env (.ok (.ref k) env) σ H Q->Dl k σ H Q:=fun o e q=>by
  have:∃a,(σ[k]?).join=some (.ref a):=by
   rcases e with e|e
   ·obtain⟨a,z,_⟩:=q.1.sl k _ e;exact⟨a,z⟩
   ·obtain⟨a,z,_⟩:=q.1.sl k _ e;exact⟨a,z⟩
  obtain⟨a,z⟩:=this
  exact⟨.ref a,bY z,q.2 _ H (Nx.refl q.1) (bY z)⟩
 cases e:env[k]? with
 |none=>rw[e]at q;exact q.2.elim
 |some s=>
  rw[e]at q
  cases s with
  |un=>exact q.2.elim
  |val d=>exact q.2.elim
  |own o=>exact go o (.inl e) q
  |bor o=>exact go o (.inr e) q
theorem Vv(h:GE X W c m e):GE X W c (.tmp m) e:=by
 intro env
 refine PE.imp (h env) fun σ H Q q=>?_
 simp only[Ls]at q
 refine⟨q.1,?_⟩
 have q2:=q.2
 cases r:ev c m env with
 |bad=>rw[r]at q2;exact q2
 |exc k env1=>rw[r]at q2;exact q2
 |ok x env1=>
  rw[r]at q2
  cases x with
  |val d=>exact False.elim q2
  |ref i=>exact False.elim q2
  |tmp o=>exact False.elim q2
  |new o=>exact q2
theorem GR{K:QQq}{env:Ev}{σ:St}{H:Hp}{r:Out Rv}{f:Bool->Ev->Out Rv}{Q R:Bool->Hp->Prop}(h:tT K W env (r.cj iH f) σ H Q)
  (k:∀b env1 H1,Nx K env σ H env1 H1->tT K W env1 (f b env1) σ H1 Q->R b H1):tT K W env r σ H R:=by
 have step:∀d env1 x,x.jo=some d->r=.ok x env1->∃b,iH d=some b/\∀H1,Nx K env σ H env1 H1->R b H1:=fun d env1 x ex er=>by
  subst er
  cases q:iH d with
  |none=>
   cases x with
   |val d'=>cases ex;simp only[Out.cj,Out.ak,q]at h;exact h.2.elim
   |new xs=>cases ex;simp only[Out.cj,Out.ak,q]at h;exact h.2.elim
   |ref i=>cases ex
   |tmp xs=>cases ex
  |some b=>
   refine⟨b,rfl,fun H1 N=>k b env1 H1 N (Qy ?_ N)⟩
   cases x with
   |val d'=>cases ex;simp only[Out.cj,Out.ak,q]at h;exact h
   |new xs=>cases ex;simp only[Out.cj,Out.ak,q]at h;exact h
   |ref i=>cases ex
   |tmp xs=>cases ex
 refine⟨h.1,?_⟩
 cases r with
 |bad=>exact h.2
 |exc c env1=>exact h.2
 |ok x env1=>
  cases x with
  |val d=>obtain⟨b,e,q⟩:=step d env1 _ rfl rfl;exact⟨d,b,rfl,e,q⟩
  |new xs=>obtain⟨b,e,q⟩:=step xs.d env1 _ rfl rfl;exact⟨xs.d,b,rfl,e,q⟩
  |ref i=>exact h.2.elim
  |tmp xs=>exact h.2.elim
theorem Vk{t:Expr}(ht:GT X W c m1 t)(ha:GT X W c m2 a)(hb:GT X W c m3 b):GT X W c (.ite m1 m2 m3) (.IfExp t a b pos):=by
 intro QTz s σ H Q I ⟨env,q⟩
 have e:∀w,isTrue (.IfExp t a b pos) X.env w=(isTrue t X.env (eval t X.env)>>=fun q=>if q=true then isTrue a X.env (eval a X.env)else isTrue b X.env (eval b X.env)):=fun w=>by first|rfl|rw[PySem.isTrue]|simp only[PySem.isTrue]
 rw[e]
 simp only[Gs]at q
 refine wpAny_bind (cB (ht QTz s σ H (fun k H1=>∃env1,tT X.K W env1 (if k=true then ev c m2 env1 else ev c m3 env1) σ H1 Q) I ⟨env,GR q fun k env1 H1 N q1=>⟨env1,q1⟩⟩) fun k s1⟨H1,I1,env1,q1⟩=>?_)
 cases k with
 |true=>rw[if_pos rfl]at q1⊢;exact ha QTz s1 σ H1 Q I1 ⟨env1,q1⟩
 |false=>rw[if_neg Bool.false_ne_true]at q1⊢;exact hb QTz s1 σ H1 Q I1 ⟨env1,q1⟩
end
end Mini
end
section
namespace Mini
open PySem L2
section
variable{X:Cx}{W:Wi}{c:Cf}{m m1 m2 m3:E}{o a b e:Expr}{pos p p2 apos cpos:Pos}{name:Str}
end
end Mini
end
section
namespace Mini
open PySem L2
section
variable{X:Cx}{W:Wi}{c:Cf}{m m1 m2 m3:E}{o a b e f:Expr}{pos p apos cpos:Pos}
theorem O1(hu:X.A.units+1<cLine)(M:M2 X o "get" apos e f cpos)(hd:GE X W c m1 o)(hk:GE X W c m2 e)(hx:GE X W c m3 f):GE X W c (.get2 m1 m2 m3) (.Call (.Attribute o "get" apos) [e,f] [] cpos):=by
 intro env
 refine PE.imp (HS hu hd.d hk.d hx.d M) fun σ H Q q=>?_
 simp only[acL]at q
 refine⟨env,aN q fun d env1 v H1 N1 D1 q1=>?_⟩
 cases d with
 |cC ks ds=>
  simp only[j8,Bool.not_true,Bool.false_eq_true,if_false]at q1
  unfold bH at D1
  obtain⟨a,ob,kvs,rfl,ha,rfl,l⟩:=D1
  refine⟨a,rfl,.inl ⟨kvs,.inr ⟨ob,ha⟩⟩,env1,aN q1 fun k env2 y H2 N2 D2 q2=>⟨env2,aN q2 fun x env3 z H3 N3 D3 q3=>?_⟩⟩
  obtain⟨r,er,S,q4⟩:=cF q3
  have P:=N2.pers.trans N3.pers
  simp only[uD]at er
  split at er
  ·rename_i hk
   cases er
   obtain⟨kk,rfl⟩:=fU hk
   have ek:=jW D2
   subst ek
   refine⟨gZ kvs kk,.inl ⟨kvs,kk,.inr ⟨ob,P.frzs _ _ _ ha⟩,rfl,rfl⟩,q4 _ H3 (Nx.refl S) ?_⟩
   show bH _ _ _ _
   cases e1:eQ (cI kk) (kvs.map fun p=>cI p.1) ds with
   |some d=>
    obtain⟨w,e2,e3⟩:=m9 kk e1 l
    rw[e2]
    exact e3.mono P
   |none=>
    have n:=jL (kvs:=kvs) kk
    have e4:∀{ks vs:List D},vs.length=ks.length->eQ (cI kk) ks vs=none->aU (cI kk) ks=false:=by
     intro ks
     induction ks with
     |nil=>intro vs _ _;rfl
     |cons k' ks ih=>
      intro vs hl h
      cases vs with
      |nil=>simp at hl
      |cons v vs=>
       simp only[eQ]at h
       split at h
       ·cases h
       ·rename_i ne
        simp[aU,ne,ih (by simpa using hl) h]
    rw[e4 (by have:=l.length;simpa using this) e1]at n
    have e5:gZ kvs kk=none:=by
     cases e6:gZ kvs kk with
     |none=>rfl
     |some w=>rw[e6]at n;cases n
    rw[e5]
    exact D3
  ·cases er
 |_=>exact q1.2.elim
def aA(X:Cx)(W:Wi)(c:Cf)(m:E):TE:=fun σ H Q=>∃env,tA X.K W env (ev c m env) σ H Q
inductive Kv(X:Cx)(W:Wi)(c:Cf):E->List (Option Expr)->List Expr->List (TE×TE)->Prop
 |nil:Kv X W c .nil [] [] []
 |cons {k v r:E} {ke ve:Expr} {ks:List (Option Expr)} {vs:List Expr} {GD:List (TE×TE)}:GE X W c k ke->GE X W c v ve->Kv X W c r ks vs GD->Kv X W c (.cons k (.cons v r)) (some ke::ks) (ve::vs) ((aA X W c k,aA X W c v)::GD)
end
end Mini
end
section
namespace Mini
open PySem
structure Ct where
 N:List Str
 sc:Scope
 fns:List (Str×List Bool)
 jr:List Str
 exs:List Str:=[]
def nC:List Str->Str->Option Nat
 |[],_=>none
 |y::r,x=>if x=y then some 0 else(nC r x).map (· +1)
def J4:Const->Option D
 |.none=>some .non
 |.bool b=>some (.bl b)
 |.int i=>some (.int i)
 |.str x=>some (.str x)
 |_=>none
def R9(sc:Scope)(x:Str):Bool:=match sc.names.lookup x with
 |some .local=>true
 |some .cell=>true
 |some .free=>true
 |_=>false
def yI(sc:Scope)(x:Str):Bool:=sc.names.lookup x==some .globalImplicit
def Ii(x:Str):Bool:= !(x==("__debug__":Str))&& !(x==("__classdict__":Str))
def jz(C:Ct)(x:Str):Option E:=
 if Ii x then
  match nC C.N x with
  |some k=>if R9 C.sc x then some (.var k)else none
  |none=>if yI C.sc x then(nC C.jr x).map .glob else none
 else none
def opB:Operator->Option La
 |.Add=>some .add
 |.Sub=>some .sub
 |.Mult=>some .mul
 |.Mod=>some .mod
 |.FloorDiv=>some .fdiv
 |.Pow=>some .pow
 |_=>none
def cmB:CmpOp->Option Cm
 |.Eq=>some .eq
 |.NotEq=>some .ne
 |.Lt=>some .lt
 |.LtE=>some .le
 |.Gt=>some .gt
 |.GtE=>some .ge
 |.In=>some .isin
 |.NotIn=>some .notin
 |.Is=>some .jg
 |.IsNot=>some .notN
def tyB(x:Str):Option Ty:=
 if x="tuple" then some .tup else if x="list" then some .lst else if x="str" then some .str else if x="bool" then some .bool else if x="int" then some .int else if x="dict" then some .cC else none
def Xp(x:Str):Option Bi:=
 if x="len" then some .len else if x="int" then some .int else if x="tuple" then some .tuple else if x="list" then some .list else if x="all" then some .all else if x="any" then some .any
 else if x="sorted" then some .sorted else if x="dict" then some .dict else none
def plain:Expr->Bool
 |.BoolOp .. |.BinOp .. |.UnaryOp .. |.IfExp .. |.ListComp .. |.Compare .. |.Call .. |.Constant .. |.Subscript .. |.Name .. |.List .. |.Tuple .. |.Dict .. =>true
 |_=>false
def E.Rf:E->Bool
 |.nil=>true
 |_=>false
def fnAt(C:Ct)(x:Str):Option (Nat×List Bool):=(nC (C.fns.map (·.1)) x).bind fun g=>(C.fns[g]?).map fun p=>(g,p.2)
def pQ(scope outer:Scope):Scope:=
 {scope with names:=scope.names.map fun(n,k)=>if (k== .free&&outer.kind== .function&&outer.names.lookup n==some .cell)then(n,.cell)else(n,k)}
def pN(tgs N:List Str):List Str:=tgs++N.map fun x=>if tgs.contains x then(".":Str)++x else x
def rZ:Expr->Option Str
 |.Name x _=>some x
 |_=>none
def Sx:Expr->Option (List Str×Tg)
 |.Name x _=>some ([x],.name 0)
 |.Tuple es _ _=>(es.mapM rZ).map fun xs=>(xs,.tup (List.range xs.length))
 |_=>none
def Th(outer inner:Scope)(tgs N:List Str):Bool:=
 decide (inner.kind=.function)&&decide ((pN tgs N).Nodup)
 &&(inner.names.all fun p=>(p.2 != .local)||((tgs.contains p.1||p.1==(".0":Str))&&inner.names.lookup p.1==some .local))
 &&(tgs.all fun x=>inner.names.lookup x==some .local)
 &&(inner.names.all fun p=>p.2 != .cell)
 &&(inner.names.all fun p=>(p.2 != .free)||outer.names.lookup p.1==some .cell||outer.names.lookup p.1==some .free)
 &&(N.all fun x=> !tgs.contains x||(inner.names.lookup ((".":Str)++x)).isNone)
 && !N.contains (".0":Str)
def isCall:Expr->Bool
 |.Call .. =>true
 |_=>false
def Ie(ap cp:Pos):Bool:=ap.endLine==cp.line
mutual
def dB:Nat->Ct->Expr->Option E
 |0,_,_=>none
 |n+1,C,e=>match e with
  |.Constant k _ _=>(J4 k).map .con
  |.Name x _=>jz C x
  |.Tuple es _ _=>(vf n C es).map .tup
  |.List es _=>(vf n C es).map .lis
  |.BinOp a o b _=>(opB o).bind fun o=>(dB n C a).bind fun a=>(dB n C b).map fun b=>.op o a b
  |.UnaryOp o a _=>match o with
   |.USub=>(dB n C a).map .neg
   |.Not=>(dB n C a).map .not
   |_=>none
  |.BoolOp o es _=>(vf n C es).bind fun m=>if m.Rf then none else match o with
   |.And=>some (.and m)
   |.Or=>some (.or m)
  |.Compare a ops cs _=>match ops,cs with
   |[o],[b]=>(cmB o).bind fun o=>(dB n C a).bind fun a=>(dB n C b).map fun b=>.cmp o a b
   |[o,o2],[b,d]=>(cmB o).bind fun o=>(cmB o2).bind fun o2=>(dB n C a).bind fun a=>(dB n C b).bind fun b=>(dB n C d).map fun d=>.chain o o2 a b d
   |_,_=>none
  |.IfExp t a b _=>(dB n C t).bind fun t=>(dB n C a).bind fun a=>(dB n C b).map fun b=>.ite t a b
  |.Subscript a i _=>match i with
   |.Slice lo hi st _=>match st with
    |none=>(dB n C a).bind fun a=>(Sw n C lo).bind fun lo=>(Sw n C hi).map fun hi=>.slc a lo hi
    |some _=>none
   |i=>(dB n C a).bind fun a=>(dB n C i).map fun i=>.idx a i
  |.Call f args kw cp=>match kw with
   |[]=>match f with
    |.Name x _=>if Ii x&&yI C.sc x then(match fnAt C x with
      |some (g,fl)=>(Gb n C fl args).bind fun m=>if m.Rf then none else some (.call g m)
      |none=>Yk n C x args)else none
    |.Attribute o name ap=>if Ie ap cp then(match args with
      |[e]=>if name="count" then(dB n C o).bind fun m1=>(if plain o&& !isCall o then some ()else none).bind fun _=>(dB n C e).map fun m2=>.count m1 m2
       else if name="pop" then(match o with
        |.Name x _=>(jz C x).bind fun m=>match m with
         |.var k=>(dB n C e).map fun m2=>.popAt k m2
         |_=>none
        |_=>none)
       else none
      |[e,f]=>if name="get" then(dB n C o).bind fun m1=>(if plain o&& !isCall o then some ()else none).bind fun _=>(dB n C e).bind fun m2=>(dB n C f).map fun m3=>.get2 m1 m2 m3 else none
      |_=>none)else none
    |_=>none
   |_=>none
  |.ListComp elt gens sc _=>match gens with
   |[g]=>Yj n C elt g sc
   |_=>none
  |_=>none
def GF:Nat->Ct->List (Option Expr)->List Expr->Option E
 |0,_,_,_=>none
 |n+1,C,ks,vs=>match ks,vs with
  |[],[]=>some .nil
  |some k::ks,v::vs=>(dB n C k).bind fun k=>(dB n C v).bind fun v=>(GF n C ks vs).map fun r=>.cons k (.cons v r)
  |_,_=>none
def Yj:Nat->Ct->Expr->Comprehension->Scope->Option E
 |0,_,_,_,_=>none
 |n+1,C,elt,g,sc=>if g.is_async=0 then(Sx g.target).bind fun(tgs,tg)=>
   if Th C.sc sc tgs C.N then
    let C2:Ct:={C with N:=pN tgs C.N,sc:=pQ sc C.sc}
    (WN n C g.iter).bind fun it=>(match g.ifs with
     |[]=>some (E.con (.bl true))
     |[c]=>dB n C2 c
     |_=>none).bind fun cond=>(dB n C2 elt).map fun m=>.comp tgs.length tg it cond m
   else none else none
def WN:Nat->Ct->Expr->Option E
 |0,_,_=>none
 |n+1,C,e=>match e with
  |.Call f args kw cp=>match f,args,kw with
   |.Name x _,[a],[]=>if x="range"&&yI C.sc x&&(fnAt C x).isNone then(dB n C a).map .range1 else dB n C e
   |.Name x _,[a,b],[]=>if x="zip"&&yI C.sc x&&(fnAt C x).isNone then(dB n C a).bind fun a=>(dB n C b).map fun b=>.zip a b else dB n C e
   |_,_,_=>dB n C e
  |_=>dB n C e
def Yk:Nat->Ct->Str->List Expr->Option E
 |0,_,_,_=>none
 |n+1,C,x,args=>match args with
  |[a,t]=>if x="isinstance" then(match t with
    |.Name y _=>if yI C.sc y then(tyB y).bind fun t=>(dB n C a).map fun a=>.isi a t else none
    |_=>none)else none
  |[a]=>match a with
   |.Call f zs kw _=>(match f,zs,kw with
    |.Name z _,[p,q],[]=>if z="zip"&&yI C.sc z&&(fnAt C z).isNone then
      (if x="dict" then(dB n C p).bind fun p=>(dB n C q).map fun q=>.bi .dict (.zip p q)
       else if x="list" then(dB n C p).bind fun p=>(dB n C q).map fun q=>.bi .list (.zip p q)else none)
     else(Xp x).bind fun b=>(dB n C a).bind fun m=>if b=.dict&&m.az.isSome then some (.bi b (.rd m))else some (.bi b m)
    |_,_,_=>(Xp x).bind fun b=>(dB n C a).bind fun m=>if b=.dict&&m.az.isSome then some (.bi b (.rd m))else some (.bi b m))
   |a=>(Xp x).bind fun b=>(dB n C a).bind fun m=>if b=.dict&&m.az.isSome then some (.bi b (.rd m))else some (.bi b m)
  |_=>none
def Gb:Nat->Ct->List Bool->List Expr->Option E
 |0,_,_,_=>none
 |n+1,C,fl,es=>match fl,es with
  |[],[]=>some .nil
  |false::fl,e::es=>(dB n C e).bind fun m=>(Gb n C fl es).map fun ms=>.cons m ms
  |true::fl,e::es=>(match e with
    |.Name x _=>(jz C x).bind fun m=>match m with
     |.var k=>some (E.ref k)
     |_=>none
    |e=>(dB n C e).map E.tmp).bind fun m=>(Gb n C fl es).map fun ms=>.cons m ms
  |_,_=>none
def Sw:Nat->Ct->Option Expr->Option E
 |0,_,_=>none
 |n+1,C,o=>match o with
  |none=>some .noneE
  |some e=>dB n C e
def vf:Nat->Ct->List Expr->Option E
 |0,_,_=>none
 |n+1,C,es=>match es with
  |[]=>some .nil
  |e::es=>(dB n C e).bind fun m=>(vf n C es).map fun ms=>.cons m ms
end
def yZ(C:Ct)(e f:Option Expr):Nat:=match e,f with
 |some (.Call (.Name x _) [.Constant (.str _) _ _] [] _),none=>if yI C.sc x&&Ii x then(match nC C.exs x with|some k=>k+1|none=>0)else 0
 |_,_=>0
def El(sc:Scope)(x:Str):Bool:=sc.names.lookup x==some .local||sc.names.lookup x==some .cell
def slotsOf(C:Ct):List Expr->Option (List Nat)
 |[]=>some []
 |.Name x _::es=>if El C.sc x then(nC C.N x).bind fun i=>(slotsOf C es).map (i:: ·)else none
 |_=>none
def GK(C:Ct):Expr->Option Tg
 |.Name x _=>if El C.sc x then(nC C.N x).map .name else none
 |.Tuple es _ _=>(slotsOf C es).map .tup
 |_=>none
def isTup:Expr->Bool
 |.Tuple .. =>true
 |_=>false
def nD:Expr->Bool
 |.ListComp .. =>true
 |_=>false
def isSlice:Expr->Bool
 |.Slice .. =>true
 |_=>false
mutual
def Qw:Nat->Ct->Stmt->Option S
 |0,_,_=>none
 |n+1,C,st=>match st with
  |.Return v _=>match v with
   |none=>some (.ret (.con .non))
   |some e=>(dB n C e).map .ret
  |.Assign ts e _=>match ts with
   |[t]=>match t with
    |.Name x _=>if El C.sc x then(nC C.N x).bind fun i=>(dB n C e).map fun m=>.set i m else none
    |.Tuple es _ _=>if isTup e||nD e then none else(slotsOf C es).bind fun is=>(dB n C e).map fun m=>.setT is m
    |.Subscript o ix _=>match o with
     |.Name x _=>if nD e||isSlice ix then none else(jz C x).bind fun v=>match v with
      |.var k=>(dB n C ix).bind fun i=>(dB n C e).map fun m=>.setIx k i m
      |_=>none
     |_=>none
    |_=>none
   |_=>none
  |.Expr e _=>match e with
   |.Call f args kw cp=>match f,args,kw with
    |.Attribute o name ap,[a],[]=>match o with
     |.Name x _=>if Ie ap cp&&name="append" then(jz C x).bind fun v=>(match v with
       |.var k=>(dB n C a).map fun m=>.append k m
       |_=>none)
      else(dB n C e).map .expr
     |_=>none
    |_,_,_=>(dB n C e).map .expr
   |_=>none
  |.If t a b _=>(dB n C t).bind fun t=>(pD n C a).bind fun a=>(pD n C b).map fun b=>.ite t a b
  |.For tg it b el _=>match el with
   |[]=>(GK C tg).bind fun tg=>(WN n C it).bind fun it=>(pD n C b).map fun b=>.for_ tg it b
   |_=>none
  |.While t b el _=>match el with
   |[]=>(dB n C t).bind fun t=>(pD n C b).map fun b=>.while_ t b
   |_=>none
  |.Raise e f _=>some (.raise (yZ C e f))
  |_=>none
def pD:Nat->Ct->List Stmt->Option S
 |0,_,_=>none
 |n+1,C,ss=>match ss with
  |[]=>some .nil
  |s::ss=>(Qw n C s).bind fun m=>(pD n C ss).map fun ms=>.cons m ms
end
end Mini
end
section
namespace Mini
open PySem L2
def o7:List Str:=["isinstance","tuple","list","str","bool","int","dict","len","all","any","sorted","zip","range"]
def Wo(X:Cx)(c:Cf)(g:Nat)(x:Str):Prop:=∃k f fd ps,gm X.prog X.w X.K X.mg X.base yF k f fd ps (lE X.K ps.length (c.fn g))/\gY k X.A/\X.mg x=some (.ref f)/\PySem.W.keepIn X.K (.ref f)=true/\Binds X.K fd ps []/\∀sl,c.fn g sl=.bad\/sl.length=ps.length
structure jd(C:Ct)(X:Cx)(c:Cf):Prop where
 N:X.N=C.N
 sc:X.env.scope=C.sc
 nd:C.N.Nodup
 calm:X.calm=true
 hu:X.A.units+60<cLine
 bi:∀x∈o7,X.mg x=none
 gl:∀k x,C.jr[k]? =some x->∃d,c.gl k=some d/\abf X x d
 fn:∀g x fl,C.fns[g]? =some (x,fl)->Wo X c g x
structure Sd(X:Cx)(c:Cf)(m:E)(e:Expr):Prop where
 ge:GE X W0 c m e
 gt:GT X W0 c m e
 pl:plain e=true
 va:∀k,m.az=some k->∃x p,e=.Name x p/\gA X k x
 nn:m.jg=false
theorem gG:∀{N:List Str}{x:Str}{k:Nat},nC N x=some k->N[k]? =some x
 |[],_,_,h=>by cases h
 |y::r,x,k,h=>by
  unfold nC at h
  split at h
  ·rename_i e;cases h;subst e;rfl
  ·cases q:nC r x with
   |none=>rw[q]at h;cases h
   |some j=>rw[q]at h;cases h;simpa using gG q
theorem R8{sc:Scope}{x:Str}(h:R9 sc x=true):Wh sc x:=by
 unfold R9 at h
 unfold Wh
 cases q:sc.names.lookup x with
 |none=>rw[q]at h;cases h
 |some k=>rw[q]at h;cases k<;>simp at h<;>simp
theorem vI{x:Str}(h:Ii x=true):(x==("__debug__":Str))=false/\(x==("__classdict__":Str))=false:=by
 unfold Ii at h
 rw[QVz]at h
 exact⟨by simpa using h.1,by simpa using h.2⟩
section
variable{C:Ct}{X:Cx}{c:Cf}{e a b:Expr}{m m1 m2 m3:E}{pos p:Pos}{x:Str}
theorem lY(O:jd C X c)(h:yI C.sc x=true):Gl X x:=by
 unfold yI at h
 show X.env.scope.names.lookup x=_
 rw[O.sc]
 simpa using h
theorem bG(h:plain e=true)(es:List Expr)(env:Env):starEach (e::es) env=(false,eval e env)::starEach es env:=by
 cases e<;>first|rfl|exact absurd (show false=true from h) Bool.false_ne_true
theorem qe(h:plain e=true)(o:CmpOp):behindInMarks o e=false:=by
 cases e<;>first|rfl|exact absurd (show false=true from h) Bool.false_ne_true
theorem vW(h:plain e=true)(env:Env)(x:Value):foldedSetIterable e env x=pure x:=by
 cases e<;>first|rfl|exact absurd (show false=true from h) Bool.false_ne_true
theorem zq(h:plain e=true):wC e:=by
 intro o i
 cases e<;>first|rfl|exact absurd (show false=true from h) Bool.false_ne_true
def tame:Expr->Bool
 |.UnaryOp .Not .. |.BoolOp .. |.IfExp .. |.Compare .. =>false
 |_=>true
theorem Jy(h:GE X W0 c m e)(hp:plain e=true)(ht:tame e=true):GT X W0 c m e:=by
 refine h.t fun whole=>?_
 cases e with
 |UnaryOp o a q=>cases o<;>first|rfl|exact absurd (show false=true from ht) Bool.false_ne_true
 |_=>first|rfl|exact absurd (show false=true from hp) Bool.false_ne_true|exact absurd (show false=true from ht) Bool.false_ne_true
theorem Be(O:jd C X c)(h:jz C x=some m):Sd X c m (.Name x p):=by
 unfold jz at h
 split at h
 ·rename_i nb
  obtain⟨n1,n2⟩:=vI nb
  cases q:nC C.N x with
  |some k=>
   rw[q]at h
   simp only at h
   split at h
   ·rename_i hv
    cases h
    have nm:gA X k x:=⟨by rw[O.N];exact gG q,by rw[O.sc];exact R8 hv,n1,n2⟩
    exact⟨nm.ge,Jy nm.ge rfl rfl,rfl,fun k' e=>by cases e;exact⟨x,p,rfl,nm⟩,rfl⟩
   ·cases h
  |none=>
   rw[q]at h
   simp only at h
   split at h
   ·rename_i hg
    cases q2:nC C.jr x with
    |none=>rw[q2]at h;cases h
    |some k=>
     rw[q2]at h
     cases h
     obtain⟨d,hk,ok⟩:=O.gl k x (gG q2)
     have ge:GE X W0 c (.glob k) (.Name x p):=OJ hk ok (lY O hg) n1
     exact⟨ge,Jy ge rfl rfl,rfl,fun k' e=>(by cases e),rfl⟩
   ·cases h
 ·cases h
theorem Bs(O:jd C X c){k:Nat}(h:jz C x=some (.var k)):gA X k x:=by
 obtain⟨y,q,e,nm⟩:=(Be (p:=default) O h).va k rfl
 cases e
 exact nm
inductive Al(X:Cx)(c:Cf):E->List Expr->Prop
 |nil:Al X c .nil []
 |cons {m ms:E} {e:Expr} {es:List Expr}:Sd X c m e->Al X c ms es->Al X c (.cons m ms) (e::es)
theorem Al.ga:∀{ms:E}{es:List Expr},Al X c ms es->GA X W0 c ms es
 |_,_,.nil=>zW
 |_,_,.cons h t=>mj h.ge t.ga (bG h.pl _ _)
theorem Al.and{es:List Expr}:∀{m ms:E}{e:Expr},Al X c (.cons m ms) (e::es)->GE X W0 c (.and (.cons m ms)) (.BoolOp .And (e::es) pos)/\GW X W0 c (.and (.cons m ms)) (.BoolOp .And (e::es) pos):=by
 induction es with
 |nil=>intro m ms e h;cases h with|cons h t=>cases t;exact⟨O6 h.ge,Ov h.gt⟩
 |cons e2 es ih=>intro m ms e h;cases h with|cons h t=>cases t with|cons h2 t=>exact⟨VM h.ge (ih (.cons h2 t)).1,Vm h.gt (ih (.cons h2 t)).2⟩
theorem Al.or{es:List Expr}:∀{m ms:E}{e:Expr},Al X c (.cons m ms) (e::es)->GE X W0 c (.or (.cons m ms)) (.BoolOp .Or (e::es) pos)/\GW X W0 c (.or (.cons m ms)) (.BoolOp .Or (e::es) pos):=by
 induction es with
 |nil=>intro m ms e h;cases h with|cons h t=>cases t;exact⟨Vy h.ge,Vi h.gt⟩
 |cons e2 es ih=>intro m ms e h;cases h with|cons h t=>cases t with|cons h2 t=>exact⟨aaF h.ge (ih (.cons h2 t)).1,aaA h.gt (ih (.cons h2 t)).2⟩
theorem Uo{o:Operator}{q:La}(h:opB o=some q):o=ZL q:=by
 cases o<;>first|(cases (show some _=some q from h);rfl)|cases (show none=some q from h)
theorem z7{o:CmpOp}{q:Cm}(h:cmB o=some q):o=eF q:=by
 cases o<;>first|(cases (show some _=some q from h);rfl)|cases (show none=some q from h)
theorem J3{k:Const}{d:D}(h:J4 k=some d):Eg d k=true:=by
 cases k<;>simp[J4]at h<;>subst h<;>simp[Eg]
theorem Su{t:Ty}(h:tyB x=some t):x=Str.ofString (Yb t)/\x∈o7:=by
 unfold tyB at h
 split at h
 ·rename_i e;cases h;subst e;exact⟨rfl,by decide⟩
 split at h
 ·rename_i e;cases h;subst e;exact⟨rfl,by decide⟩
 split at h
 ·rename_i e;cases h;subst e;exact⟨rfl,by decide⟩
 split at h
 ·rename_i e;cases h;subst e;exact⟨rfl,by decide⟩
 split at h
 ·rename_i e;cases h;subst e;exact⟨rfl,by decide⟩
 split at h
 ·rename_i e;cases h;subst e;exact⟨rfl,by decide⟩
 cases h
theorem Rk(O:jd C X c){bb:Bi}(h:Xp x=some bb)(hg:yI C.sc x=true)(ha:Sd X c m a)(hd:bb=.dict->m.az=none):GE X W0 c (.bi bb m) (.Call (.Name x p) [a] [] pos):=by
 have hs:=bG ha.pl [] X.env
 have hG:=lY O hg
 unfold Xp at h
 split at h
 ·rename_i e;cases h;subst e;exact vV Fz Mx ha.ge ha.va hG (O.bi _ (by decide)) PySem.boot_len (by decide) (by decide) hs
 split at h
 ·rename_i e;cases h;subst e;exact zV uK My ha.ge ha.va hG (O.bi _ (by decide)) PyProof.Rows.boot_int (by decide) (by decide) hs
 split at h
 ·rename_i e;cases h;subst e;exact zV sH Dz ha.ge ha.va hG (O.bi _ (by decide)) PyProof.Rows.boot_tuple (by decide) (by decide) hs
 split at h
 ·rename_i e;cases h;subst e;exact zV wy Hg ha.ge ha.va hG (O.bi _ (by decide)) PyProof.Rows.boot_list (by decide) (by decide) hs
 split at h
 ·rename_i e;cases h;subst e;exact vV (FQ O.calm) MF ha.ge ha.va hG (O.bi _ (by decide)) PyProof.Rows.boot_all (by decide) (by decide) hs
 split at h
 ·rename_i e;cases h;subst e;exact vV (FP O.calm) Mz ha.ge ha.va hG (O.bi _ (by decide)) PyProof.Rows.boot_any (by decide) (by decide) hs
 split at h
 ·rename_i e;cases h;subst e;exact vV wu yU ha.ge ha.va hG (O.bi _ (by decide)) PyProof.Rows.boot_sorted (by decide) (by decide) hs
 split at h
 ·rename_i e;cases h;subst e;exact O2 O.calm ha.ge (hd rfl) hG (O.bi _ (by decide)) hs
 cases h
end
end Mini
end
section
namespace Mini
open PySem L2
theorem yW{sc outer:Scope}{env:Env}(h:env.scope=outer):relabel sc env=pQ sc outer:=by
 subst h
 rfl
theorem Hb{outer inner:Scope}{tgs N:List Str}(h:Th outer inner tgs N=true):(pN tgs N).Nodup:=by
 unfold Th at h
 simp only[QVz,QUq]at h
 exact h.1.1.1.1.1.1.2
theorem Ha{outer inner:Scope}{tgs N:List Str}(h:Th outer inner tgs N=true):FZ outer inner tgs N:=by
 unfold Th at h
 simp only[QVz,QUq,List.all_eq_true,Bool.or_eq_true,bne_iff_ne,beq_iff_eq,Bool.not_eq_true',ne_eq]at h
 obtain⟨⟨⟨⟨⟨⟨⟨h1,h2⟩,h3⟩,h4⟩,h5⟩,h6⟩,h7⟩,h8⟩:=h
 refine⟨h1,h2,fun x hx=>?_,fun p hp hl=>?_,h4,h5,fun p hp hf=>?_,fun x hx ht=>?_,fun hx=>?_⟩
 ·rcases h3 (x,.local) (PySem.mem_of_lookup hx)with z|z
  ·exact absurd rfl z
  ·rcases z.1 with z|z
   ·exact .inl (by simpa using z)
   ·exact .inr z
 ·rcases h3 p hp with z|z
  ·exact absurd hl z
  ·exact z.2
 ·rcases h6 p hp with (z|z)|z
  ·exact absurd hf z
  ·exact .inl z
  ·exact .inr z
 ·rcases h7 x hx with z|z
  ·rw[ht]at z;cases z
  ·simpa using z
 ·have:N.contains (".0":Str)=true:=by simpa using hx
  rw[this]at h8;cases h8
section
variable{C:Ct}{X:Cx}{c:Cf}{sc:Scope}{tgs:List Str}
theorem jd.blk(O:jd C X c)(hs:Th C.sc sc tgs C.N=true){cl:List (Str×Addr)}{fp:List Addr}{s₀:Shared}{H₀:Hp}:jd {C with N:=pN tgs C.N,sc:=pQ sc C.sc} (Mini.blk X sc cl (bJ tgs X.N) fp s₀ H₀) c:=
 ⟨by show bJ tgs X.N=pN tgs C.N;rw[O.N];rfl,yW O.sc,Hb hs,O.calm,O.hu,O.bi,O.gl,O.fn⟩
theorem p6{sc:Scope}{N:List Str}:∀{es:List Expr}{xs:List Str}(k:Nat),es.mapM rZ=some xs->(∀j x,xs[j]? =some x->N[k+j]? =some x)->(∀x∈xs,sc.names.lookup x=some .local)->gD sc N (List.range' k xs.length) es=true
 |[],xs,k,h,_,_=>by
  simp at h;subst h;rfl
 |e::es,xs,k,h,hN,hl=>by
  rw[List.mapM_cons]at h
  cases q:rZ e with
  |none=>rw[q]at h;cases h
  |some x=>
   rw[q]at h
   cases q2:es.mapM rZ with
   |none=>rw[q2]at h;cases h
   |some ys=>
    rw[q2]at h
    cases h
    cases e<;>simp[rZ]at q
    subst q
    rw[List.length_cons,List.range'_succ]
    unfold gD
    rw[p6 (k+1) q2 (fun j y e=>by have:=hN (j+1) y (by simpa using e);rw[<-this];congr 1;omega) (fun y hy=>hl y (QYq _ hy))]
    have:=hN 0 _ rfl
    simp at this
    simp[this,hl _ QYz]
theorem qd{env:Env}:∀{es:List Expr}{xs:List Str},es.mapM rZ=some xs->(assignEach es env).length=xs.length/\(assignEach es env).findIdx? (·.1)=none
 |[],xs,h=>by simp at h;subst h;exact⟨rfl,rfl⟩
 |e::es,xs,h=>by
  rw[List.mapM_cons]at h
  cases q:rZ e with
  |none=>rw[q]at h;cases h
  |some x=>
   rw[q]at h
   cases q2:es.mapM rZ with
   |none=>rw[q2]at h;cases h
   |some ys=>
    rw[q2]at h
    cases h
    obtain⟨i1,i2⟩:=qd (env:=env) q2
    cases e<;>simp[rZ]at q
    subst q
    constructor
    ·show(_::assignEach es env).length=_
     simp[i1]
    ·show(List.findIdx? (·.1) ((false,_)::assignEach es env))=none
     rw[List.findIdx?_cons]
     simp[i2]
theorem Yl(O:jd C X c){tg:Tg}{tgE:Expr}(ht:Sx tgE=some (tgs,tg))(hs:Th C.sc sc tgs C.N=true):(∀i∈slots tg,i<tgs.length)/\∀(cl:List (Str×Addr))(fp:List Addr)(s₀:Shared)(H₀:Hp),GG (Mini.blk X sc cl (bJ tgs X.N) fp s₀ H₀) tg tgE:=by
 have S:=Ha hs
 have lc:∀x∈tgs,∀(cl:List (Str×Addr))(fp:List Addr)(s₀:Shared)(H₀:Hp),(Mini.blk X sc cl (bJ tgs X.N) fp s₀ H₀).env.scope.names.lookup x=some .local:=fun x hx cl fp s₀ H₀=>lookup_relabel_local (S.tg x hx)
 have nd:∀(cl:List (Str×Addr))(fp:List Addr)(s₀:Shared)(H₀:Hp),(Mini.blk X sc cl (bJ tgs X.N) fp s₀ H₀).N.Nodup:=fun cl fp s₀ H₀=>by
  show(bJ tgs X.N).Nodup
  rw[O.N]
  exact Hb hs
 cases tgE<;>simp only[Sx]at ht<;>try (cases ht;done)
 ·rename_i x q
  cases ht
  refine⟨fun i hi=>?_,fun cl fp s₀ H₀=>vU (nd cl fp s₀ H₀) rfl (.inl (lc x (by simp) cl fp s₀ H₀)) (.inr (lc x (by simp) cl fp s₀ H₀))⟩
  simp[slots]at hi
  subst hi
  simp
 ·rename_i es k q
  cases qm:es.mapM rZ with
  |none=>rw[qm]at ht;cases ht
  |some xs=>
   rw[qm]at ht
   cases ht
   refine⟨fun i hi=>by simpa[slots]using hi,fun cl fp s₀ H₀=>?_⟩
   obtain⟨l1,l2⟩:=qd (env:=(Mini.blk X sc cl (bJ tgs X.N) fp s₀ H₀).env) qm
   refine zR (nd cl fp s₀ H₀) O.calm (Ij ?_) (by simp[l1]) l2
   have:=p6 (sc:=(Mini.blk X sc cl (bJ tgs X.N) fp s₀ H₀).env.scope) (N:=(Mini.blk X sc cl (bJ tgs X.N) fp s₀ H₀).N) 0 qm (fun j x e=>?_) (fun x hx=>lc x hx cl fp s₀ H₀)
   ·rwa[List.range_eq_range']
   ·show(bJ tgs X.N)[0+j]? =some x
    unfold bJ
    rw[Nat.zero_add,List.getElem?_append_left (List.getElem?_eq_some_iff.mp e).1]
    exact e
end
end Mini
end
section
namespace Mini
open PySem L2
inductive Ar(X:Cx)(c:Cf):E->List Expr->Prop
 |nil:Ar X c .nil []
 |cons {m ms:E} {e:Expr} {es:List Expr}:GE X W0 c m e->plain e=true->Ar X c ms es->Ar X c (.cons m ms) (e::es)
theorem Ar.ga{X:Cx}{c:Cf}:∀{ms:E}{es:List Expr},Ar X c ms es->GA X W0 c ms es
 |_,_,.nil=>zW
 |_,_,.cons h p t=>mj h t.ga (bG p _ _)
theorem Ar.plain{X:Cx}{c:Cf}{pos:Pos}:∀{ms:E}{es:List Expr},Ar X c ms es->(backTo pos (starEach es X.env)).any (·.1)=false
 |_,_,.nil=>rfl
 |_,_,.cons h p t=>by
  rw[bG p]
  have:=t.plain (pos:=pos)
  simpa[backTo]using this
def Ao(X:Cx)(c:Cf)(m:E)(elt:Expr)(g:Comprehension)(sc:Scope):Prop:=
 ∃tgs tg it cond m',m=.comp tgs.length tg it cond m'/\yG X c sc tgs tg cond m' g.target elt g.ifs/\GI X W0 c it g.target g.iter/\plain g.iter=true/\g.is_async=0
structure Ih(c:Cf)(n:Nat):Prop where
 e:∀C X e m,jd C X c->dB n C e=some m->Sd X c m e
 es:∀C X es m,jd C X c->vf n C es=some m->Al X c m es
 a:∀C X fl es m,jd C X c->Gb n C fl es=some m->Ar X c m es
 o:∀C X o m,jd C X c->Sw n C o=some m->GO X W0 c m o
 b:∀C X x args m p pos,jd C X c->yI C.sc x=true->Yk n C x args=some m->GE X W0 c m (.Call (.Name x p) args [] pos)/\m.az=none/\m.jg=false
 i:∀C X tg e m,jd C X c->WN n C e=some m->GI X W0 c m tg e/\plain e=true
 k:∀C X elt g sc m,jd C X c->Yj n C elt g sc=some m->Ao X c m elt g sc
 d:∀C X ks vs m,jd C X c->GF n C ks vs=some m->∃GD,Kv X W0 c m ks vs GD/\ks.all (·.isSome)=true
theorem ih0(c:Cf):Ih c 0:=by
 constructor
 all_goals (intros;rename_i h;first|(rw[dB]at h;cases h)|(rw[vf]at h;cases h)|(rw[Gb]at h;cases h)|(rw[Sw]at h;cases h)|(rw[Yk]at h;cases h)|(rw[WN]at h;cases h)|(rw[Yj]at h;cases h)|(rw[GF]at h;cases h))
section
variable{c:Cf}{n:Nat}{C:Ct}{X:Cx}{m:E}
theorem Ma(I:Ih c n)(O:jd C X c){es:List Expr}(h:vf (n+1) C es=some m):Al X c m es:=by
 cases es with
 |nil=>rw[vf]at h;cases h;exact .nil
 |cons e es=>
  rw[vf]at h
  simp only[QJq,QJz]at h
  obtain⟨m1,h1,m2,h2,rfl⟩:=h
  exact .cons (I.e C X e m1 O h1) (I.es C X es m2 O h2)
theorem S7(I:Ih c n)(O:jd C X c){ks:List (Option Expr)}{vs:List Expr}(h:GF (n+1) C ks vs=some m):∃GD,Kv X W0 c m ks vs GD/\ks.all (·.isSome)=true:=by
 unfold GF at h
 split at h
 ·cases h;exact⟨[],.nil,rfl⟩
 ·simp only[QJq,QJz]at h
  obtain⟨k1,h1,v1,h2,r,h3,rfl⟩:=h
  obtain⟨GD,K,a⟩:=I.d C X _ _ r O h3
  exact⟨_,.cons (I.e C X _ k1 O h1).ge (I.e C X _ v1 O h2).ge K,by simpa using a⟩
 ·cases h
theorem SQ(I:Ih c n)(O:jd C X c){o:Option Expr}(h:Sw (n+1) C o=some m):GO X W0 c m o:=by
 cases o with
 |none=>rw[Sw]at h;cases h;exact .inl ⟨rfl,rfl⟩
 |some e=>
  rw[Sw]at h
  have s:=I.e C X e m O h
  exact .inr ⟨e,rfl,s.nn,s.ge⟩
theorem S9(I:Ih c n)(O:jd C X c){fl:List Bool}{es:List Expr}(h:Gb (n+1) C fl es=some m):Ar X c m es:=by
 cases fl with
 |nil=>
  cases es with
  |nil=>rw[Gb]at h;cases h;exact .nil
  |cons e es=>rw[Gb]at h<;>first|cases h|(intros;simp_all)
 |cons f fl=>
  cases es with
  |nil=>rw[Gb]at h<;>first|cases h|(intros;simp_all)
  |cons e es=>
   cases f with
   |false=>
    rw[Gb]at h
    simp only[QJq,QJz]at h
    obtain⟨m1,h1,m2,h2,rfl⟩:=h
    have s:=I.e C X e m1 O h1
    exact .cons s.ge s.pl (I.a C X fl es m2 O h2)
   |true=>
    by_cases hN:∃x p,e=.Name x p
    ·obtain⟨x,p,rfl⟩:=hN
     rw[Gb]at h
     simp only[QJq,QJz]at h
     obtain⟨m1,⟨m3,h3,h4⟩,m2,h2,rfl⟩:=h
     split at h4
     ·cases h4
      exact .cons (Vx (Bs O h3)) rfl (I.a C X fl es m2 O h2)
     ·cases h4
    ·rw[Gb]at h
     ·simp only[QJq,QJz]at h
      obtain⟨m1,⟨m3,h3,rfl⟩,m2,h2,rfl⟩:=h
      have s:=I.e C X e m3 O h3
      exact .cons (Vv s.ge) s.pl (I.a C X fl es m2 O h2)
     ·exact fun x p z=>hN ⟨x,p,z⟩
theorem Tv{x:Str}(O:jd C X c)(h:(decide (x="range")&&yI C.sc x&&(fnAt C x).isNone)=true):x="range"/\Gl X "range":=by
 simp only[QVz,QUq]at h
 obtain⟨⟨rfl,h2⟩,_⟩:=h
 exact⟨rfl,lY O h2⟩
theorem XQ{x:Str}(O:jd C X c)(h:(decide (x="zip")&&yI C.sc x&&(fnAt C x).isNone)=true):x="zip"/\Gl X "zip":=by
 simp only[QVz,QUq]at h
 obtain⟨⟨rfl,h2⟩,_⟩:=h
 exact⟨rfl,lY O h2⟩
theorem S5(I:Ih c n)(O:jd C X c){tg e:Expr}(h:WN (n+1) C e=some m):GI X W0 c m tg e/\plain e=true:=by
 have dflt:dB n C e=some m->GI X W0 c m tg e/\plain e=true:=fun h=>let s:=I.e C X e m O h;⟨aaE s.ge,s.pl⟩
 unfold WN at h
 split at h
 ·split at h
  ·split at h
   ·rename_i hr
    obtain⟨rfl,hg⟩:=Tv O hr
    simp only[QJz]at h
    obtain⟨m1,h1,rfl⟩:=h
    have s:=I.e C X _ m1 O h1
    exact⟨Fq s.ge hg (O.bi _ (by decide)) (bG s.pl _ _),rfl⟩
   ·exact dflt h
  ·split at h
   ·rename_i hr
    obtain⟨rfl,hg⟩:=XQ O hr
    simp only[QJq,QJz]at h
    obtain⟨m1,h1,m2,h2,rfl⟩:=h
    have s1:=I.e C X _ m1 O h1
    have s2:=I.e C X _ m2 O h2
    exact⟨Vr s1.ge s2.ge hg (O.bi _ (by decide)) (by rw[bG s1.pl,bG s2.pl];rfl) (bG s2.pl _ _),rfl⟩
   ·exact dflt h
  ·exact dflt h
 ·exact dflt h
theorem SX(I:Ih c n)(O:jd C X c){elt:Expr}{g:Comprehension}{sc:Scope}(h:Yj (n+1) C elt g sc=some m):Ao X c m elt g sc:=by
 rw[Yj]at h
 split at h
 ·rename_i ha
  simp only[QJq]at h
  obtain⟨⟨tgs,tg⟩,ht,h⟩:=h
  simp only at h
  split at h
  ·rename_i hs
   simp only[QJq,QJz]at h
   obtain⟨it,h1,cond,h2,m',h3,rfl⟩:=h
   obtain⟨sm,gg⟩:=Yl O ht hs
   have S:=Ha hs
   obtain⟨gi,gp⟩:=I.i C X g.target g.iter it O h1
   refine⟨tgs,tg,it,cond,m',rfl,⟨by rw[O.sc,O.N];exact S,sm,fun cl fp s₀ H₀ _=>gg cl fp s₀ H₀,?_,fun cl fp s₀ H₀ _=>(I.e _ _ elt m' (O.blk hs) h3).ge⟩,gi,gp,ha⟩
   split at h2
   ·rename_i hi
    cases h2
    exact .inl ⟨hi,rfl⟩
   ·rename_i ce hi
    exact .inr ⟨ce,hi,fun cl fp s₀ H₀ _=>(I.e _ _ ce cond (O.blk hs) h2).gt⟩
   ·cases h2
  ·cases h
 ·cases h
end
end Mini
end
section
namespace Mini
open PySem L2
section
variable{c:Cf}{n:Nat}{C:Ct}{X:Cx}{m:E}
theorem Ia(I:Ih c n)(O:jd C X c){x:Str}{a:Expr}{p pos:Pos}(hg:yI C.sc x=true)(h:((Xp x).bind fun b=>(dB n C a).bind fun m=>if (decide (b=.dict)&&m.az.isSome)=true then some (E.bi b (.rd m))else some (E.bi b m))=some m):
  GE X W0 c m (.Call (.Name x p) [a] [] pos)/\m.az=none/\m.jg=false:=by
 simp only[QJq]at h
 obtain⟨bb,h1,m1,h2,h3⟩:=h
 split at h3
 ·cases h3
  have s:=I.e C X a m1 O h2
  have gr:GE X W0 c (.rd m1) a:=fun env=>PE.imp (s.ge env) fun σ H Q q=>by simpa only[Gq]using q
  have sr:Sd X c (.rd m1) a:=⟨gr,fun QTz sh σ H Q I⟨env,q⟩=>s.gt QTz sh σ H Q I ⟨env,by simpa only[Gq]using q⟩,s.pl,fun k z=>(by cases z),rfl⟩
  exact⟨Rk O h1 hg sr fun _=>rfl,rfl,rfl⟩
 ·rename_i hn
  cases h3
  refine⟨Rk O h1 hg (I.e C X a m1 O h2) (fun z=>?_),rfl,rfl⟩
  subst z
  cases q:m1.az with
  |none=>rfl
  |some k=>rw[q]at hn;exact absurd rfl hn
theorem S8(I:Ih c n)(O:jd C X c){x:Str}{args:List Expr}{p pos:Pos}(hg:yI C.sc x=true)(h:Yk (n+1) C x args=some m):GE X W0 c m (.Call (.Name x p) args [] pos)/\m.az=none/\m.jg=false:=by
 unfold Yk at h
 split at h
 ·--isinstance
  split at h
  ·rename_i hx
   subst hx
   split at h
   ·split at h
    ·rename_i hy
     simp only[QJq,QJz]at h
     obtain⟨t,h1,m1,h2,rfl⟩:=h
     have s:=I.e C X _ m1 O h2
     obtain⟨e1,e2⟩:=Su h1
     exact⟨VG s.ge e1 (lY O hy) (O.bi _ e2) (lY O hg) (O.bi _ (by decide)) (bG s.pl _ _),rfl,rfl⟩
    ·cases h
   ·cases h
  ·cases h
 ·split at h
  ·split at h
   ·split at h
    ·rename_i hz
     obtain⟨rfl,hgz⟩:=XQ O hz
     split at h
     ·rename_i hx
      subst hx
      simp only[QJq,QJz]at h
      obtain⟨m1,h1,m2,h2,rfl⟩:=h
      have s1:=I.e C X _ m1 O h1
      have s2:=I.e C X _ m2 O h2
      exact⟨zU O.calm s1.ge s2.ge hgz (O.bi _ (by decide)) (by rw[bG s1.pl,bG s2.pl];rfl) (bG s2.pl _ _) (lY O hg) (O.bi _ (by decide)) rfl,rfl,rfl⟩
     ·split at h
      ·rename_i hx
       subst hx
       simp only[QJq,QJz]at h
       obtain⟨m1,h1,m2,h2,rfl⟩:=h
       have s1:=I.e C X _ m1 O h1
       have s2:=I.e C X _ m2 O h2
       exact⟨zT O.calm s1.ge s2.ge hgz (O.bi _ (by decide)) (by rw[bG s1.pl,bG s2.pl];rfl) (bG s2.pl _ _) (lY O hg) (O.bi _ (by decide)) rfl,rfl,rfl⟩
      ·cases h
    ·exact Ia I O hg h
   ·exact Ia I O hg h
  ·exact Ia I O hg h
 ·cases h
theorem ig{e:Expr}(ge:GE X W0 c m e)(hp:plain e=true)(hv:m.az=none)(hi:m.jg=false)(ht:tame e=true):Sd X c m e:=
 ⟨ge,Jy ge hp ht,hp,fun k z=>(by rw[hv]at z;cases z),hi⟩
theorem hu1(O:jd C X c):X.A.units+1<cLine:=by have:=O.hu;omega
theorem O7{x:Str}{g:Nat}{fl:List Bool}(h:fnAt C x=some (g,fl)):C.fns[g]? =some (x,fl):=by
 unfold fnAt at h
 simp only[QJq,QJz]at h
 obtain⟨g',h1,⟨y,fl'⟩,h2,h3⟩:=h
 cases h3
 have:=gG h1
 rw[List.getElem?_map,h2]at this
 simp at this
 rw[h2,this]
theorem mC{o:Expr}{name:Str}{env:Env}(h:isCall o=false):attributeBase o name env (eval o env)=eval o env:=by
 cases o<;>first|rfl|simp[isCall]at h
theorem S6(I:Ih c n)(O:jd C X c){e:Expr}(h:dB (n+1) C e=some m):Sd X c m e:=by
 have no:∀{P:Prop},(none:Option E)=some m->P:=fun z=>nomatch z
 unfold dB at h
 split at h
 ·simp only[QJz]at h
  obtain⟨d,h1,rfl⟩:=h
  exact ig (VJ (J3 h1)) rfl rfl rfl rfl
 ·exact Be O h
 ·simp only[QJz]at h
  obtain⟨m1,h1,rfl⟩:=h
  exact ig (Vu (I.es C X _ m1 O h1).ga) rfl rfl rfl rfl
 ·simp only[QJz]at h
  obtain⟨m1,h1,rfl⟩:=h
  exact ig (VD (I.es C X _ m1 O h1).ga) rfl rfl rfl rfl
 ·simp only[QJq,QJz]at h
  obtain⟨o,h0,m1,h1,m2,h2,rfl⟩:=h
  rw[Uo h0]
  exact ig (aaG (I.e C X _ m1 O h1).ge (I.e C X _ m2 O h2).ge) rfl rfl rfl rfl
 ·split at h
  ·simp only[QJz]at h
   obtain⟨m1,h1,rfl⟩:=h
   exact ig (VB (I.e C X _ m1 O h1).ge) rfl rfl rfl rfl
  ·simp only[QJz]at h
   obtain⟨m1,h1,rfl⟩:=h
   have s:=I.e C X _ m1 O h1
   exact⟨Vz s.ge,Vj s.gt,rfl,fun k z=>(by cases z),rfl⟩
  ·exact no h
 ·simp only[QJq]at h
  obtain⟨m1,h1,h2⟩:=h
  have A:=I.es C X _ m1 O h1
  split at h2
  ·exact no h2
  ·rename_i hn
   cases A with
   |nil=>exact absurd rfl hn
   |cons s t=>
    split at h2
    ·cases h2
     exact⟨(Al.cons s t).and.1,(Al.cons s t).and.2.t,rfl,fun k z=>(by cases z),rfl⟩
    ·cases h2
     exact⟨(Al.cons s t).or.1,(Al.cons s t).or.2.t,rfl,fun k z=>(by cases z),rfl⟩
 ·split at h
  ·simp only[QJq,QJz]at h
   obtain⟨o,h0,m1,h1,m2,h2,rfl⟩:=h
   rw[z7 h0]
   have s1:=I.e C X _ m1 O h1
   have s2:=I.e C X _ m2 O h2
   exact⟨VL (mV O.hu o) s1.ge s2.ge s2.va (qe s2.pl _),Vl (mV O.hu o) s1.ge s2.ge s2.va (qe s2.pl _),rfl,fun k z=>(by cases z),rfl⟩
  ·simp only[QJq,QJz]at h
   obtain⟨o,h0,o2,h02,m1,h1,m2,h2,m3,h3,rfl⟩:=h
   rw[z7 h0,z7 h02]
   have s1:=I.e C X _ m1 O h1
   have s2:=I.e C X _ m2 O h2
   have s3:=I.e C X _ m3 O h3
   have hm:∀b,lastMarks [eF o,eF o2] [b,_]=false:=fun b=>qe s3.pl (eF o2)
   exact⟨JK (mV O.hu o) (mV O.hu o2) s1.ge s2.ge s3.ge (hm _),Jz (mV O.hu o) (mV O.hu o2) s1.ge s2.ge s3.ge (hm _),rfl,fun k z=>(by cases z),rfl⟩
  ·exact no h
 ·simp only[QJq,QJz]at h
  obtain⟨m1,h1,m2,h2,m3,h3,rfl⟩:=h
  have s1:=I.e C X _ m1 O h1
  have s2:=I.e C X _ m2 O h2
  have s3:=I.e C X _ m3 O h3
  exact⟨VF s1.gt s2.ge s3.ge,Vk s1.gt s2.gt s3.gt,rfl,fun k z=>(by cases z),rfl⟩
 ·split at h
  ·split at h
   ·simp only[QJq,QJz]at h
    obtain⟨m1,h1,m2,h2,m3,h3,rfl⟩:=h
    exact ig (Vw (I.e C X _ m1 O h1).ge (I.o C X _ m2 O h2) (I.o C X _ m3 O h3)) rfl rfl rfl rfl
   ·exact no h
  ·simp only[QJq,QJz]at h
   obtain⟨m1,h1,m2,h2,rfl⟩:=h
   have s1:=I.e C X _ m1 O h1
   have s2:=I.e C X _ m2 O h2
   exact ig (VH (hu1 O) s1.ge s2.ge s1.va (zq s2.pl)) rfl rfl rfl rfl
 ·split at h
  ·split at h
   ·split at h
    ·rename_i hx
     rw[QVz]at hx
     split at h
     ·rename_i g fl hf
      simp only[QJq]at h
      obtain⟨m1,h1,h2⟩:=h
      split at h2
      ·exact no h2
      ·rename_i hn
       cases h2
       have A:=I.a C X _ _ m1 O h1
       obtain⟨k,f,fd,ps,F,hr,hm,hk,hb,hl⟩:=O.fn g _ fl (O7 hf)
       cases A with
       |nil=>exact absurd rfl hn
       |cons ge pl t=>
        exact ig (O5 F hr (lY O hx.2) hm hk hb (vI hx.1).1 (Ar.cons ge pl t).ga (bG pl _ _) t.plain hl) rfl rfl rfl rfl
     ·obtain⟨ge,h1,h2⟩:=I.b C X _ _ m _ _ O hx.2 h
      exact ig ge rfl h1 h2 rfl
    ·exact no h
   ·split at h
    ·rename_i hl
     split at h
     ·split at h
      ·rename_i hx
       subst hx
       simp only[QJq,QJz]at h
       obtain⟨m1,h1,u,h0,m2,h2,rfl⟩:=h
       split at h0
       ·rename_i hp
        rw[QVz]at hp
        have s1:=I.e C X _ m1 O h1
        have s2:=I.e C X _ m2 O h2
        exact ig (JH ⟨mC (by simpa using hp.2),hl,bG s2.pl _ _⟩ s1.ge s2.ge) rfl rfl rfl rfl
       ·cases h0
      ·split at h
       ·rename_i hx
        subst hx
        split at h
        ·simp only[QJq]at h
         obtain⟨v,h1,h2⟩:=h
         split at h2
         ·simp only[QJz]at h2
          obtain⟨m2,h3,rfl⟩:=h2
          have s2:=I.e C X _ m2 O h3
          exact ig (JG ⟨rfl,hl,bG s2.pl _ _⟩ (Bs O h1) s2.ge) rfl rfl rfl rfl
         ·exact no h2
        ·exact no h
       ·exact no h
     ·split at h
      ·rename_i hx
       subst hx
       simp only[QJq,QJz]at h
       obtain⟨m1,h1,u,h0,m2,h2,m3,h3,rfl⟩:=h
       split at h0
       ·rename_i hp
        rw[QVz]at hp
        have s1:=I.e C X _ m1 O h1
        have s2:=I.e C X _ m2 O h2
        have s3:=I.e C X _ m3 O h3
        exact ig (O1 (hu1 O) ⟨mC (by simpa using hp.2),by rw[bG s2.pl,bG s3.pl];rfl,hl,by rw[bG s2.pl,bG s3.pl];rfl⟩ s1.ge s2.ge s3.ge) rfl rfl rfl rfl
       ·cases h0
      ·exact no h
     ·exact no h
    ·exact no h
   ·exact no h
  ·exact no h
 ·split at h
  ·rename_i elt sc pos g
   obtain⟨tgs,tg,it,cond,m',rfl,B,gi,gp,ha⟩:=I.k C X _ _ _ m O h
   obtain⟨ta,ti,tf,tn⟩:=g
   simp only at ha
   subst ha
   exact ig (O3 B gi O.calm (fun x=>vW gp _ _)) rfl rfl rfl rfl
  ·exact no h
 ·exact no h
end
theorem ih(c:Cf):∀n,Ih c n
 |0=>ih0 c
 |n+1=>let I:=ih c n
  ⟨fun C X e m O h=>S6 I O h,fun C X es m O h=>Ma I O h,fun C X fl es m O h=>S9 I O h,fun C X o m O h=>SQ I O h,fun C X x args m p pos O hg h=>S8 I O hg h,fun C X tg e m O h=>S5 I O h,fun C X elt g sc m O h=>SX I O h,fun C X ks vs m O h=>S7 I O h⟩
end Mini
end
section
namespace Mini
open PySem L2
def NE{α:Type}(r:Out α):Prop:=∀k σ,r≠ .exc k σ
section
variable{α β:Type}
theorem NE.ok(a:α)(σ:Ev):NE (.ok a σ):=fun _ _ z=>nomatch z
theorem NE.bad:NE (.bad:Out α):=fun _ _ z=>nomatch z
theorem NE.lift(σ:Ev)(o:Option α):NE (lift σ o):=by cases o<;>(intro _ _ z;cases z)
theorem NE.bind{r:Out α}{f:α->Ev->Out β}(h:NE r)(g:∀a σ,NE (f a σ)):NE (r.bind f):=by
 cases r with
 |ok a σ=>exact g a σ
 |exc k σ=>exact absurd rfl (h k σ)
 |bad=>exact NE.bad
theorem NE.ak{r:Out Rv}{f:D->Ev->Out β}(h:NE r)(g:∀a σ,NE (f a σ)):NE (r.ak f):=by
 cases r with
 |ok a σ=>cases a<;>first|exact g _ _|exact NE.bad
 |exc k σ=>exact absurd rfl (h k σ)
 |bad=>exact NE.bad
theorem NE.cj{tr:D->Option Bool}{r:Out Rv}{f:Bool->Ev->Out β}(h:NE r)(g:∀a σ,NE (f a σ)):NE (r.cj tr f):=
 NE.ak h fun d σ=>by
  cases tr d with
  |none=>exact NE.bad
  |some b=>exact g b σ
theorem NE.ite{p:Prop}[Decidable p]{a b:Out α}(h:NE a)(g:NE b):NE (if p then a else b):=by split<;>assumption
end
theorem NZ(c:Cf)(f:Nat)(as:List Rv)(σ:Ev):NE (qW c f as σ):=by
 unfold qW
 split
 ·exact NE.bad
 ·split
  ·split
   ·exact NE.ok _ _
   ·exact NE.bad
  ·exact NE.bad
theorem Io(c:Cf)(f:Nat)(hs:List (Nat×D))(as:List Rv)(σ:Ev):NE (iK c f hs as σ):=by
 unfold iK
 split
 ·exact NE.bad
 ·split
  ·split
   ·exact NE.ok _ _
   ·exact NE.bad
  ·split
   ·exact NE.ok _ _
   ·exact NE.bad
  ·exact NE.bad
theorem Ur(k:Nat)(y:D)(σ:Ev):NE (pY k y σ):=by
 unfold pY
 split
 ·refine NE.ite NE.bad ?_
  split
  ·split
   ·exact NE.ok _ _
   ·exact NE.bad
  ·exact NE.bad
 ·exact NE.bad
theorem NT(k:Nat)(σ:Ev):NE (pR k σ):=by
 unfold pR
 split<;>first|exact NE.ok _ _|exact NE.bad
theorem zE(c:Cf):∀(m:E)(σ:Ev),NE (ev c m σ)/\NE (evs c m σ)/\NE (fJ c m σ)/\NE (jE c m σ):=by
 have k3:∀{m:E},(∀σ,NE (ev c m σ))->(∀σ,evs c m σ=.bad)->(∀σ,fJ c m σ=.bad)->(∀σ,jE c m σ=.bad)->∀σ,NE (ev c m σ)/\NE (evs c m σ)/\NE (fJ c m σ)/\NE (jE c m σ):=fun h a b d σ=>by
  rw[a,b,d]
  exact⟨h σ,NE.bad,NE.bad,NE.bad⟩
 intro m
 induction m with
 |var i=>exact k3 (fun σ=>NT i σ) (fun _=>rfl) (fun _=>rfl) fun _=>rfl
 |con d=>exact k3 (fun σ=>NE.ok _ _) (fun _=>rfl) (fun _=>rfl) fun _=>rfl
 |glob k=>exact k3 (fun σ=>by rw[X7];split<;>first|exact NE.ok _ _|exact NE.bad) (fun _=>rfl) (fun _=>rfl) fun _=>rfl
 |nil=>exact fun σ=>⟨NE.bad,NE.ok _ _,NE.bad,NE.bad⟩
 |cons h t ih jh=>
  intro σ
  refine⟨NE.bad,NE.bind (ih σ).1 fun x σ=>NE.bind (jh σ).2.1 fun _ _=>NE.ok _ _,?_,?_⟩
  ·cases t with
   |nil=>exact(ih σ).1
   |_=>exact NE.ak (ih σ).1 fun x σ=>(by split<;>first|exact(jh σ).2.2.1|exact NE.ok _ _|exact NE.bad)
  ·cases t with
   |nil=>exact(ih σ).1
   |_=>exact NE.ak (ih σ).1 fun x σ=>(by split<;>first|exact(jh σ).2.2.2|exact NE.ok _ _|exact NE.bad)
 |tup es ih=>exact k3 (fun σ=>NE.bind (ih σ).2.1 fun _ _=>NE.lift _ _) (fun _=>rfl) (fun _=>rfl) fun _=>rfl
 |lis es ih=>exact k3 (fun σ=>NE.bind (ih σ).2.1 fun _ _=>NE.lift _ _) (fun _=>rfl) (fun _=>rfl) fun _=>rfl
 |op o a b ih jh=>exact k3 (fun σ=>NE.ak (ih σ).1 fun _ σ=>NE.ak (jh σ).1 fun _ _=>NE.lift _ _) (fun _=>rfl) (fun _=>rfl) fun _=>rfl
 |neg a ih=>exact k3 (fun σ=>NE.ak (ih σ).1 fun _ σ=>NE.lift _ _) (fun _=>rfl) (fun _=>rfl) fun _=>rfl
 |cmp o a b ih jh=>exact k3 (fun σ=>NE.ak (ih σ).1 fun _ σ=>by split<;>first|exact NE.lift _ _|exact NE.ak (jh σ).1 fun _ _=>NE.lift _ _) (fun _=>rfl) (fun _=>rfl) fun _=>rfl
 |chain o p a b d ih jh kh=>exact k3 (fun σ=>NE.ak (ih σ).1 fun _ σ=>NE.ak (jh σ).1 fun _ σ=>NE.bind (NE.lift _ _) fun _ σ=>NE.ite (NE.ak (kh σ).1 fun _ _=>NE.lift _ _) (NE.ok _ _)) (fun _=>rfl) (fun _=>rfl) fun _=>rfl
 |and es ih=>exact k3 (fun σ=>(ih σ).2.2.1) (fun _=>rfl) (fun _=>rfl) fun _=>rfl
 |or es ih=>exact k3 (fun σ=>(ih σ).2.2.2) (fun _=>rfl) (fun _=>rfl) fun _=>rfl
 |not a ih=>exact k3 (fun σ=>NE.cj (ih σ).1 fun _ _=>NE.ok _ _) (fun _=>rfl) (fun _=>rfl) fun _=>rfl
 |ite t a b ih jh kh=>exact k3 (fun σ=>NE.cj (ih σ).1 fun _ σ=>NE.ite (jh σ).1 (kh σ).1) (fun _=>rfl) (fun _=>rfl) fun _=>rfl
 |idx a i ih jh=>exact k3 (fun σ=>by rw[Dg];split<;>first|exact NE.ite NE.bad (NE.ak (jh σ).1 fun _ _=>NE.lift _ _)|exact NE.ak (ih σ).1 fun _ σ=>NE.ak (jh σ).1 fun _ _=>NE.lift _ _) (fun _=>rfl) (fun _=>rfl) fun _=>rfl
 |slc a lo hi ih jh kh=>exact k3 (fun σ=>NE.ak (ih σ).1 fun _ σ=>NE.ak (jh σ).1 fun _ σ=>by split<;>first|exact NE.bad|exact NE.ak (kh σ).1 fun _ _=>NE.lift _ _) (fun _=>rfl) (fun _=>rfl) fun _=>rfl
 |noneE=>exact k3 (fun σ=>NE.ok _ _) (fun _=>rfl) (fun _=>rfl) fun _=>rfl
 |call f as ih=>exact k3 (fun σ=>NE.bind (ih σ).2.1 fun _ _=>NZ _ _ _ _) (fun _=>rfl) (fun _=>rfl) fun _=>rfl
 |ref i=>exact k3 (fun σ=>by rw[Gr];split<;>first|exact NE.ok _ _|exact NE.bad) (fun _=>rfl) (fun _=>rfl) fun _=>rfl
 |tmp e ih=>exact k3 (fun σ=>NE.bind (ih σ).1 fun _ _=>NE.lift _ _) (fun _=>rfl) (fun _=>rfl) fun _=>rfl
 |rd e ih=>exact k3 (fun σ=>(ih σ).1) (fun _=>rfl) (fun _=>rfl) fun _=>rfl
 |isi a t ih=>exact k3 (fun σ=>NE.ak (ih σ).1 fun _ _=>NE.ok _ _) (fun _=>rfl) (fun _=>rfl) fun _=>rfl
 |bi b a ih=>exact k3 (fun σ=>by rw[mJ];split<;>first|exact NE.lift _ _|exact NE.ak (ih σ).1 fun _ _=>NE.lift _ _) (fun _=>rfl) (fun _=>rfl) fun _=>rfl
 |range1 a ih=>exact k3 (fun σ=>NE.ak (ih σ).1 fun _ _=>NE.lift _ _) (fun _=>rfl) (fun _=>rfl) fun _=>rfl
 |range2 a b ih jh=>exact k3 (fun σ=>NE.ak (ih σ).1 fun _ σ=>NE.ak (jh σ).1 fun _ _=>NE.lift _ _) (fun _=>rfl) (fun _=>rfl) fun _=>rfl
 |zip a b ih jh=>exact k3 (fun σ=>NE.ak (ih σ).1 fun _ σ=>NE.ak (jh σ).1 fun _ _=>NE.lift _ _) (fun _=>rfl) (fun _=>rfl) fun _=>rfl
 |count a b ih jh=>exact k3 (fun σ=>NE.ak (ih σ).1 fun _ σ=>NE.ite NE.bad (NE.ak (jh σ).1 fun _ _=>NE.lift _ _)) (fun _=>rfl) (fun _=>rfl) fun _=>rfl
 |popAt i a ih=>exact k3 (fun σ=>NE.ite NE.bad (NE.ak (ih σ).1 fun _ _=>Ur _ _ _)) (fun _=>rfl) (fun _=>rfl) fun _=>rfl
 |index a b ih jh=>exact k3 (fun σ=>NE.ak (ih σ).1 fun _ σ=>NE.ite NE.bad (NE.ak (jh σ).1 fun _ _=>NE.lift _ _)) (fun _=>rfl) (fun _=>rfl) fun _=>rfl
 |get2 a b d ih jh kh=>exact k3 (fun σ=>NE.ak (ih σ).1 fun _ σ=>NE.ite NE.bad (NE.ak (jh σ).1 fun _ σ=>NE.ak (kh σ).1 fun _ _=>NE.lift _ _)) (fun _=>rfl) (fun _=>rfl) fun _=>rfl
 |dsp es ih=>exact k3 (fun σ=>NE.bind (ih σ).2.1 fun _ _=>NE.lift _ _) (fun _=>rfl) (fun _=>rfl) fun _=>rfl
 |tcall f as hs ih=>exact k3 (fun σ=>NE.bind (ih σ).2.1 fun _ _=>Io _ _ _ _ _) (fun _=>rfl) (fun _=>rfl) fun _=>rfl
 |comp nl tg it cond elt ih _ _=>
  refine k3 (fun σ=>?_) (fun _=>rfl) (fun _=>rfl) fun _=>rfl
  rw[kJ]
  refine NE.ak (ih σ).1 fun _ σ=>?_
  split
  ·split
   ·exact NE.ok _ _
   ·exact NE.bad
  ·exact NE.bad
section
variable{X:Cx}{W:Wi}{c:Cf}{m:E}{e tg:Expr}
theorem GE.w(h:GE X W0 c m e):GE X W c m e:=fun env=>PE.imp (h env) fun σ H Q⟨S,q⟩=>by
 refine⟨S,?_⟩
 cases r:ev c m env with
 |exc k σ'=>exact absurd r ((zE c m env).1 k σ')
 |_=>rw[r]at q;exact q
theorem GT.w(h:GT X W0 c m e):GT X W c m e:=PT.imp h fun σ H Q⟨env,S,q⟩=>by
 refine⟨env,S,?_⟩
 cases r:ev c m env with
 |exc k σ'=>exact absurd r ((zE c m env).1 k σ')
 |_=>rw[r]at q;exact q
theorem GI.w(h:GI X W0 c m tg e):GI X W c m tg e:=fun env QTz s σ H R I q=>h env QTz s σ H R I (by
 unfold tI at q⊢
 obtain⟨S,q⟩:=q
 refine⟨S,?_⟩
 cases r:ev c m env with
 |exc k σ'=>exact absurd r ((zE c m env).1 k σ')
 |_=>rw[r]at q;exact q)
end
end Mini
end
section
namespace Mini
open PySem L2
structure Top(C:Ct)(X:Cx)(W:Wi)(c:Cf):Prop where
 fn:∀x,X.fn x=true
 po:PassesOwn (model X.prog X.w) X.A X.env X.xe
 ra:∀e f p n m,Qw (n+1) C (.Raise e f p)=some m->GS X W c m (.Raise e f p)
section
variable{c:Cf}{n:Nat}{C:Ct}{X:Cx}{W:Wi}{m:E}
theorem Pk(O:jd C X c):∀{n:Nat}{elt:Expr}{gens:List Comprehension}{sc:Scope}{pos:Pos},dB n C (.ListComp elt gens sc pos)=some m->∃g,gens=[g]/\Ao X c m elt g sc
 |0,_,_,_,_,h=>by rw[dB]at h;cases h
 |n+1,elt,gens,sc,pos,h=>by
  unfold dB at h
  simp only at h
  split at h
  ·exact⟨_,rfl,(ih c n).k C X _ _ _ m O h⟩
  ·cases h
theorem qg(O:jd C X c){x:Str}(h:El C.sc x=true):Loc X.env.scope x:=by
 unfold El at h
 rw[O.sc]
 rw[Bool.or_eq_true]at h
 rcases h with h|h
 ·exact .inl (by simpa using h)
 ·exact .inr (by simpa using h)
theorem lC{e:Expr}{t:Option Expr}{l:Nat}{env:Env}(hp:plain e=true)(hc:nD e=false):swapsWith e t l env=pure false:=by
 cases e<;>first|rfl|exact absurd (show false=true from hp) Bool.false_ne_true|exact absurd (show true=false from hc) (fun h=>Bool.false_ne_true h.symm)
theorem yP{e:Expr}{es:List Expr}{k:Nat}{q:Pos}{env:Env}(h:isTup e=false):swappedStores [.Tuple es k q] e env=pure none:=by
 cases e<;>first|rfl|exact absurd (show true=false from h) (fun h=>Bool.false_ne_true h.symm)
theorem wX{e o i:Expr}{q:Pos}{env:Env}:swappedStores [.Subscript o i q] e env=pure none:=by
 cases e<;>rfl
theorem Bb{t e:Expr}{l:Nat}{env:Env}:swapsWithSole [t] e l env=swapsWith e (some t) l env:=rfl
theorem PJ{o i:Expr}{tp:Pos}{env:Env}{v:Value}(h:isSlice i=false):assign (.Subscript o i tp) env v=(do
   let ov<-holding [v] (eval o env)
   let iv<-holding [v,ov] (eval i env)
   standAt tp
   holding [v,ov,iv] (setItem ov iv v)
   release [v,ov,iv] []):=by
 rw[assign]
 cases i<;>first|rfl|(simp[isSlice]at h;done)
theorem pL(O:jd C X c)(T:Top C X W c):∀{es:List Expr}{is:List Nat},slotsOf C es=some is->rK X is es/\(assignEach es X.env).length=is.length/\(assignEach es X.env).findIdx? (·.1)=none
 |[],is,h=>by cases h;exact⟨.nil,rfl,rfl⟩
 |e::es,is,h=>by
  cases e<;>simp only[slotsOf]at h<;>try (cases h;done)
  rename_i x q
  split at h
  ·rename_i hl
   simp only[QJq,QJz]at h
   obtain⟨i,h1,js,h2,rfl⟩:=h
   obtain⟨a1,a2,a3⟩:=pL O T h2
   refine⟨.cons (by rw[O.N];exact gG h1) (qg O hl) (.inl (T.fn x)) a1,?_,?_⟩
   ·show(_::assignEach es X.env).length=_
    simp[a2]
   ·show(List.findIdx? (·.1) ((false,_)::assignEach es X.env))=none
    rw[List.findIdx?_cons]
    simp[a3]
  ·cases h
theorem ue(O:jd C X c):X.N.Nodup:=by rw[O.N];exact O.nd
theorem GJ(O:jd C X c)(T:Top C X W c){tg:Tg}{e:Expr}(h:GK C e=some tg):GG X tg e:=by
 cases e<;>simp only[GK]at h<;>try (cases h;done)
 ·rename_i x q
  split at h
  ·rename_i hl
   simp only[QJz]at h
   obtain⟨i,h1,rfl⟩:=h
   exact vU (ue O) (by rw[O.N];exact gG h1) (qg O hl) (.inl (T.fn x))
  ·cases h
 ·simp only[QJz]at h
  obtain⟨is,h1,rfl⟩:=h
  obtain⟨a1,a2,a3⟩:=pL O T h1
  exact zR (ue O) O.calm a1 a2 a3
theorem Ff(O:jd C X c)(T:Top C X W c){scope:Scope}{tgs:List Str}{tg:Tg}{it cond elt:E}{tgE iterE eltE:Expr}{ifs:List Expr}{cp sp np:Pos}{i:Nat}{x:Str}(B:yG X c scope tgs tg cond elt tgE eltE ifs)(hi:GI X W c it tgE iterE)(gp:plain iterE=true)
  (ge:GE X W c (.comp tgs.length tg it cond elt) (.ListComp eltE [⟨tgE,iterE,ifs,0⟩] scope cp))(hN:X.N[i]? =some x)(hl:El C.sc x=true):
  GS X W c (.set i (.comp tgs.length tg it cond elt)) (.Assign [.Name x np] (.ListComp eltE [⟨tgE,iterE,ifs,0⟩] scope cp) sp):=by
 have key:∃b:Bool,swapsWith (.ListComp eltE [⟨tgE,iterE,ifs,0⟩] scope cp) (some (.Name x np)) sp.line X.env=pure b:=⟨_,rfl⟩
 obtain⟨b,hb⟩:=key
 cases b with
 |false=>exact JD ge (ue O) hN (qg O hl) (.inl (T.fn x)) hb
 |true=>exact zQ B hi O.calm (fun x=>vW gp _ _) (ue O) hN (qg O hl) (.inl (T.fn x)) hb
structure IhS(c:Cf)(n:Nat):Prop where
 s:∀C X W st m,jd C X c->Top C X W c->Qw n C st=some m->GS X W c m st
 ss:∀C X W st m,jd C X c->Top C X W c->pD n C st=some m->K1 X W c m st
theorem aed(c:Cf):IhS c 0:=by
 constructor
 all_goals (intros;rename_i h;first|(rw[Qw]at h;cases h)|(rw[pD]at h;cases h))
theorem LR(I:IhS c n)(O:jd C X c)(T:Top C X W c){st:List Stmt}{m:S}(h:pD (n+1) C st=some m):K1 X W c m st:=by
 cases st with
 |nil=>rw[pD]at h;cases h;exact Cd
 |cons s st=>
  rw[pD]at h
  simp only[QJq,QJz]at h
  obtain⟨m1,h1,m2,h2,rfl⟩:=h
  exact ye (I.s C X W s m1 O T h1) (I.ss C X W st m2 O T h2)
theorem SN(I:IhS c n)(O:jd C X c)(T:Top C X W c){st:Stmt}{m:S}(h0:Qw (n+1) C st=some m):GS X W c m st:=by
 have J:=ih c n
 have no:∀{P:Prop},(none:Option S)=some m->P:=fun z=>nomatch z
 have h:=h0
 unfold Qw at h
 split at h
 ·split at h
  ·cases h;exact Oz
  ·simp only[QJz]at h
   obtain⟨m1,h1,rfl⟩:=h
   have s:=J.e C X _ m1 O h1
   exact Vn s.ge.w s.va
 ·split at h
  ·split at h
   ·rename_i e _ _ _ x _
    split at h
    ·rename_i hl
     simp only[QJq,QJz]at h
     obtain⟨i,h1,m1,h2,rfl⟩:=h
     have s:=J.e C X _ m1 O h2
     have hN:X.N[i]? =some x:=by rw[O.N];exact gG h1
     cases hc:nD e with
     |false=>exact JD s.ge.w (ue O) hN (qg O hl) (.inl (T.fn x)) (lC s.pl hc)
     |true=>
      cases e<;>simp[nD]at hc
      rename_i elt gens sc cp
      obtain⟨g,rfl,tgs,tg,it,cond,m',rfl,B,gi,gp,ha⟩:=Pk O h2
      obtain⟨ta,ti,tf,tn⟩:=g
      simp only at ha
      subst ha
      exact Ff O T B gi.w gp s.ge.w hN hl
    ·exact no h
   ·split at h
    ·exact no h
    ·rename_i hx
     rw[Bool.not_eq_true,Bool.or_eq_false_iff]at hx
     simp only[QJq,QJz]at h
     obtain⟨is,h1,m1,h2,rfl⟩:=h
     have s:=J.e C X _ m1 O h2
     obtain⟨a1,a2,a3⟩:=pL O T h1
     exact Ox s.ge.w (zR (ue O) O.calm a1 a2 a3) (by rw[Bb];exact lC s.pl hx.2) (yP hx.1) rfl
   ·split at h
    ·split at h
     ·exact no h
     ·rename_i hx
      rw[Bool.not_eq_true,Bool.or_eq_false_iff]at hx
      simp only[QJq]at h
      obtain⟨v,h1,h⟩:=h
      split at h
      ·simp only[QJq,QJz]at h
       obtain⟨i,h2,m1,h3,rfl⟩:=h
       have s1:=J.e C X _ i O h2
       have s:=J.e C X _ m1 O h3
       exact JC (Bs O h1) s.ge.w s1.ge.w (fun v=>PJ hx.2) (by rw[Bb];exact lC s.pl hx.1) wX (hu1 O) rfl
      ·exact no h
    ·exact no h
   ·exact no h
  ·exact no h
 ·--an expression alone
  split at h
  ·have dflt:∀(e:Expr)(q:Pos),nD e=false->(dB n C e).map S.expr=some m->GS X W c m (.Expr e q):=fun e q hc z=>by
    simp only[QJz]at z
    obtain⟨m1,h1,rfl⟩:=z
    have s:=J.e C X _ m1 O h1
    exact OD s.ge.w (lC s.pl hc)
   split at h
   ·split at h
    ·split at h
     ·rename_i hx
      simp only[QVz,QUq]at hx
      obtain⟨hl,rfl⟩:=hx
      simp only[QJq]at h
      obtain⟨v,h1,h⟩:=h
      split at h
      ·simp only[QJz]at h
       obtain⟨m1,h2,rfl⟩:=h
       have s:=J.e C X _ m1 O h2
       exact Fi ⟨rfl,hl,bG s.pl _ _⟩ (Bs O h1) s.ge.w
      ·exact no h
     ·exact dflt _ _ rfl h
    ·exact no h
   ·exact dflt _ _ rfl h
  ·exact no h
 ·simp only[QJq,QJz]at h
  obtain⟨t,h1,a,h2,b,h3,rfl⟩:=h
  exact aaB (J.e C X _ t O h1).gt.w (I.ss C X W _ a O T h2) (I.ss C X W _ b O T h3)
 ·split at h
  ·simp only[QJq,QJz]at h
   obtain⟨tg,h1,it,h2,b,h3,rfl⟩:=h
   obtain⟨gi,gp⟩:=J.i C X _ _ it O h2
   exact Vo T.po O.calm gi.w (GJ O T h1) (I.ss C X W _ b O T h3) (fun x=>vW gp _ _)
  ·exact no h
 ·split at h
  ·simp only[QJq,QJz]at h
   obtain⟨t,h1,b,h3,rfl⟩:=h
   exact JB T.po (J.e C X _ t O h1).gt.w (I.ss C X W _ b O T h3)
  ·exact no h
 ·exact T.ra _ _ _ _ _ h0
 ·exact no h
end
theorem Bk{C:Ct}{e f:Option Expr}{p:Pos}{n:Nat}{m:S}(h:Qw (n+1) C (.Raise e f p)=some m):m=.raise (yZ C e f):=by
 unfold Qw at h
 simp only at h
 cases h
 rfl
theorem Top.plain{C:Ct}{X:Cx}{c:Cf}(hf:∀x,X.fn x=true)(hp:PassesOwn (model X.prog X.w) X.A X.env X.xe):Top C X W0 c:=
 ⟨hf,hp,fun e f p n m h=>by rw[Bk h];exact JF⟩
theorem ihS(c:Cf):∀n,IhS c n
 |0=>aed c
 |n+1=>let I:=ihS c n
  ⟨fun C X W st m O T h=>SN I O T h,fun C X W st m O T h=>LR I O T h⟩
end Mini
end
section
namespace Mini
open PySem L2
structure Df where
 x:Str
 st:Stmt
 N:List Str
 ps:List Str
 fl:List Bool
 exs:List Str:=[]
def acZ(ds:List Df):List (Str×List Bool):=ds.map fun d=>(d.x,d.fl)
def Pj(ds:List Df)(jr:List Str)(d:Df):Ct:={N:=d.N,sc:=aF d.st,fns:=acZ ds,jr:=jr,exs:=d.exs}
def fnOf(ds:List Df)(jr:List Str)(d:Df):Option Fn:=(pD 60 (Pj ds jr d) (cJ d.st)).map fun b=>{pars:=d.ps.length,names:=d.N.length,body:=b}
structure kI(K:QQq)(mg:QZz)(d:Df)(f:Addr)(fd:FuncData):Prop where
 fu:Qd K d.x d.x d.st f fd
 bi:Binds K fd d.ps []
 at_:mg d.x=some (.ref f)
section
variable{P:Program}{w:World}{K:QQq}{mg:QZz}{base:Heap}{ds:List Df}{jr:List Str}{p:Pg}{fa:Nat->Addr}{fd:Nat->FuncData}
end
theorem Td{K:QQq}{f:List Sl->Res}{H:Hp}{a:Addr}{ns:List Int}(hO:Only H)(hS:jK K H a (ns.map V.int))(hf:∃qs,f [.val (.lst (ns.map D.int))]=.ok (.val (.bl true)) qs)(E:XK):
  lE K 1 f [.ref a] H (fun v _=>v=.bl true) E:=by
 have den:bH K H (.lst (ns.map D.int)) (.ref a):=by
  have fr:K3 K H a (ns.map V.int):=by
   rcases hS with (h|⟨o,h⟩)|h
   ·rcases hO a with z|⟨o,xs,z⟩
    ·rw[z]at h;cases h
    ·rw[z]at h;cases h
   ·exact .inl ⟨o,h⟩
   ·exact .inr h
  have l:∀(ns:List Int),aq K H (ns.map D.int) (ns.map V.int):=fun ns=>by
   induction ns with
   |nil=>exact aq.iR
   |cons i r ih=>exact aq.eE rfl ih
  unfold bH
  exact⟨a,_,rfl,fr,l ns⟩
 obtain⟨qs,hf⟩:=hf
 refine⟨[.val (.lst (ns.map D.int))],rfl,⟨rfl,fun i s e=>?_,fun i j b h1=>?_⟩,fun i o e=>?_,?_⟩
 ·cases i with
  |zero=>simp at e;subst e;exact⟨.ref a,rfl,den⟩
  |succ i=>simp at e
 ·obtain⟨⟨s,o,e1,e2⟩,_⟩:=h1
  cases i with
  |zero=>simp at e1;subst e1;cases e2
  |succ i=>simp at e1
 ·cases i with
  |zero=>simp at e
  |succ i=>simp at e
 ·rw[hf]
  exact fun v H' _ z=>z
end Mini
end
section
namespace Mini
open PySem L2
def Ub(a:Arguments):List Str:=a.args.map (·.arg)
def namesOf(st:Stmt):List Str:=Ub (dG st)++(((aF st).names.filter fun p=>(p.2== .local||p.2== .cell)&& !(Ub (dG st)).contains p.1).map (·.1))
def bW(x:Str)(st:Stmt)(fl:List Bool):Df:={x:=x,st:=st,N:=namesOf st,ps:=Ub (dG st),fl:=fl}
def Mq(d:Df):Bool:=
 decide ((aF d.st).kind=.function)&& !(aF d.st).isCoroutine&& !(aF d.st).isGenerator&&decide d.N.Nodup&&decide (d.N.take d.ps.length=d.ps)
 &&(d.ps.all fun x=>(aF d.st).names.lookup x==some .local||(aF d.st).names.lookup x==some .cell)&&((aF d.st).names.all fun y=>y.2 != .free)
theorem Mp{d:Df}(h:Mq d=true):eG d.N d.ps (aF d.st):=by
 unfold Mq at h
 simp only[QVz,QUq,Bool.not_eq_true',List.all_eq_true,Bool.or_eq_true,beq_iff_eq,bne_iff_ne,ne_eq]at h
 obtain⟨⟨⟨⟨⟨⟨h1,h2⟩,h3⟩,h4⟩,h5⟩,h6⟩,h7⟩:=h
 exact⟨h1,h2,h3,h4,h5,h6,h7⟩
def X8:Value->D->Bool
 |.none,.non=>true
 |.bool a,.bl b=>a==b
 |.int i _,.int j=>i==j
 |.str x _,.str y=>decide (x=y)
 |_,_=>false
def De:List Value->List D->Bool
 |[],[]=>true
 |u::us,d::ds=>X8 u d&&De us ds
 |_,_=>false
def Gz(o:Obj)(ds:List D):Bool:=o.cls== .type "tuple"&&o.dict.isNone&&match o.data with
 |.seq its _=>De its.toList ds&&decide (its.size<=1000)
 |_=>false
def Qc(K:QQq)(mg:QZz)(x:Str)(d:D):Prop:=∃v u,mg x=some u/\RelV v u/\∀H,bH K H d v
theorem Gv{K:QQq}{u:Value}{d:D}(h:X8 u d=true):∃v,RelV v u/\∀H,bH K H d v:=by
 cases u<;>cases d<;>simp[X8]at h
 ·exact⟨.non,rfl,fun H=>rfl⟩
 ·subst h;exact⟨.bl _,rfl,fun H=>rfl⟩
 ·subst h;exact⟨.int _,⟨_,rfl⟩,fun H=>rfl⟩
 ·subst h;exact⟨.str _,⟨_,rfl⟩,fun H=>rfl⟩
theorem Ax{K:QQq}:∀{us:List Value}{ds:List D},De us ds=true->∃vs,Vals vs us/\∀H,aq K H ds vs
 |[],[]=>fun _=>⟨[],.nil,fun H=>aq.iR⟩
 |u::us,d::ds=>fun h=>by
  unfold De at h
  rw[QVz]at h
  obtain⟨v,r,e⟩:=Gv (K:=K) h.1
  obtain⟨vs,rs,es⟩:=Ax (K:=K) h.2
  exact⟨v::vs,.cons r rs,fun H=>aq.eE (e H) (es H)⟩
 |[],_::_=>fun h=>by simp[De]at h
 |_::_,[]=>fun h=>by simp[De]at h
section
variable{K:QQq}{mg:QZz}{h:Heap}{x:Str}{d:D}{u:Value}{a:Addr}{o:Obj}{ds:List D}
theorem Vp(X:K.In h)(G:h.Ns mainGlobals mg)(e:PySem.W.nsIn K mainGlobals x=some (some u))(hv:X8 u d=true):Qc K mg x d:=by
 obtain⟨v,r,q⟩:=Gv (K:=K) hv
 exact⟨v,u,PySem.W.mg_of X G e,r,q⟩
theorem Vq(X:K.In h)(G:h.Ns mainGlobals mg)(e:PySem.W.nsIn K mainGlobals x=some (some (.ref a)))(l:K.lookup a=some o)(hv:Gz o ds=true):Qc K mg x (.tup ds):=by
 unfold Gz at hv
 simp only[QVz,beq_iff_eq,Option.isNone_iff_eq_none]at hv
 obtain⟨⟨hc,hd⟩,hv⟩:=hv
 split at hv
 ·rename_i its n hs
  rw[QVz,QUq]at hv
  obtain⟨vs,r,q⟩:=Ax (K:=K) hv.1
  exact⟨.ref a,_,PySem.W.mg_of X G e,rfl,fun H=>dZ (.inr ⟨o,its,n,l,hc,hd,hs,Nat.le_of_lt (Ds hv.2),r⟩) (q H)⟩
 ·cases hv
end
def Dc(K:QQq)(mg:QZz):List Df->List (Addr×FuncData)->Prop
 |[],[]=>True
 |d::ds,(f,fd)::r=>kI K mg d f fd/\Dc K mg ds r
 |_,_=>False
theorem Dc.at{K:QQq}{mg:QZz}:∀{ds:List Df}{fs:List (Addr×FuncData)},Dc K mg ds fs->∀(i:Nat)d,ds[i]? =some d->∃q,fs[i]? =some q/\kI K mg d q.1 q.2
 |[],_,_,i=>fun d e=>by simp at e
 |_::_,[],h,_=>fun _ _=>h.elim
 |d::ds,(f,fd)::r,h,0=>fun d' e=>by cases e;exact⟨(f,fd),rfl,h.1⟩
 |d::ds,(f,fd)::r,h,i+1=>fun d' e=>h.2.at i d' e
def CW(K:QQq)(mg:QZz):List Str->List D->Prop
 |[],[]=>True
 |x::xs,d::ds=>Qc K mg x d/\CW K mg xs ds
 |_,_=>False
theorem CW.at{K:QQq}{mg:QZz}:∀{xs:List Str}{ds:List D},CW K mg xs ds->∀(k:Nat)x,xs[k]? =some x->∃d,ds[k]? =some d/\Qc K mg x d
 |[],_,_,k=>fun x e=>by simp at e
 |_::_,[],h,_=>fun _ _=>h.elim
 |x::xs,d::ds,h,0=>fun x' e=>by cases e;exact⟨d,rfl,h.1⟩
 |x::xs,d::ds,h,k+1=>fun x' e=>h.2.at k x' e
end Mini
end
section
namespace Mini
open PySem L2
def K4(K:QQq)(x:Str)(st:Stmt):Prop:=∃(f:Addr)(od an:Option Addr)(sl:Array (Option Value))(oc kV dc pm cd ct:Value),
 PySem.W.nsIn K mainGlobals x=some (some (.ref f))/\K.lookup f=some ⟨oc,od,.func (PySem.W.fnOf x x (dG st) (cJ st) (aF st) .none kV dc pm an cd ct),sl⟩/\PySem.W.codeIn K cd x=true/\PySem.W.keepIn K (.ref f)=true
theorem dIn{K:QQq}{x:Str}{st:Stmt}{f:Addr}{od an:Option Addr}{sl:Array (Option Value)}{oc kV dc pm cd ct:Value}(a:PySem.W.nsIn K mainGlobals x=some (some (.ref f)))
  (l:K.lookup f=some ⟨oc,od,.func (PySem.W.fnOf x x (dG st) (cJ st) (aF st) .none kV dc pm an cd ct),sl⟩)(c:PySem.W.codeIn K cd x=true)(p:PySem.W.keepIn K (.ref f)=true):K4 K x st:=⟨f,od,an,sl,oc,kV,dc,pm,cd,ct,a,l,c,p⟩
def AllIn(K:QQq):List (Str×Stmt)->Prop
 |[]=>True
 |(x,s)::r=>K4 K x s/\AllIn K r
def Bd(d:Df):Prop:=∀(kV dc pm:Value)(an:Option Addr)(cd ct:Value)(us:List Value),us.length=d.ps.length->bindArgs (PySem.W.fnOf d.x d.x (dG d.st) (cJ d.st) (aF d.st) .none kV dc pm an cd ct) ⟨us,[]⟩=pure (d.ps.zip us)
theorem su{us:List Value}(h:us.length=1):∃a,us=[a]:=List.length_eq_one_iff.mp h
theorem Od{us:List Value}{n:Nat}(h:us.length=n+1):∃a r,us=a::r/\r.length=n:=by
 cases us with
 |nil=>simp at h
 |cons a r=>exact⟨a,r,rfl,by simpa using h⟩
theorem nu{us:List Value}(h:us.length=2):∃a b,us=[a,b]:=by
 obtain⟨a,r,rfl,h2⟩:=Od h;obtain⟨b,rfl⟩:=su h2;exact⟨a,b,rfl⟩
theorem iu{us:List Value}(h:us.length=3):∃a b c,us=[a,b,c]:=by
 obtain⟨a,r,rfl,h2⟩:=Od h;obtain⟨b,c,rfl⟩:=nu h2;exact⟨a,b,c,rfl⟩
theorem zJ{us:List Value}(h:us.length=4):∃a b c d,us=[a,b,c,d]:=by
 obtain⟨a,r,rfl,h2⟩:=Od h;obtain⟨b,c,d,rfl⟩:=iu h2;exact⟨a,b,c,d,rfl⟩
theorem Z1{us:List Value}(h:us.length=5):∃a b c d e,us=[a,b,c,d,e]:=by
 obtain⟨a,r,rfl,h2⟩:=Od h;obtain⟨b,c,d,e,rfl⟩:=zJ h2;exact⟨a,b,c,d,e,rfl⟩
def CZ:List Df->Prop
 |[]=>True
 |d::r=>Bd d/\CZ r
inductive Wn(K:QQq)(x:Str):D->Prop
 |v {u:Value} {d:D}:PySem.W.nsIn K mainGlobals x=some (some u)->X8 u d=true->Wn K x d
 |t {a:Addr} {o:Obj} {ds:List D}:PySem.W.nsIn K mainGlobals x=some (some (.ref a))->K.lookup a=some o->Gz o ds=true->Wn K x (.tup ds)
def wD(K:QQq):List Str->List D->Prop
 |[],[]=>True
 |x::xs,d::ds=>Wn K x d/\wD K xs ds
 |_,_=>False
def K7(K:QQq):List Str->Prop
 |[]=>True
 |x::r=>PySem.W.nsIn K mainGlobals x=some none/\K7 K r
section
variable{K:QQq}{h:Heap}{mg:QZz}
theorem Kz(X:K.In h)(G:h.Ns mainGlobals mg):∀(ds:List Df),CZ ds->AllIn K (ds.map fun d=>(d.x,d.st))->
  ∃fs,Dc K mg ds fs/\∀(i:Nat)d,ds[i]? =some d->∃q,fs[i]? =some q/\kI K mg d q.1 q.2/\∀(s:Shared)(us:List Value),us.length=d.ps.length->BindsTo s q.2 ⟨us,[]⟩ (d.ps.zip us)
 |[],_,_=>⟨[],trivial,fun i d e=>by simp at e⟩
 |d::ds,⟨b,bs⟩,⟨⟨f,od,an,sl,oc,kV,dc,pm,cd,ct,a,l,c,p⟩,is⟩=>by
  obtain⟨fs,A,B⟩:=Kz X G ds bs is
  have F:=VN l c p
  have D:kI K mg d f (PySem.W.fnOf d.x d.x (dG d.st) (cJ d.st) (aF d.st) .none kV dc pm an cd ct):=⟨F,F.binds b,PySem.W.mg_of X G a⟩
  refine⟨(f,_)::fs,⟨D,A⟩,fun i e he=>?_⟩
  cases i with
  |zero=>cases he;exact⟨_,rfl,D,fun s us hl=>.of_eq (b kV dc pm an cd ct us hl)⟩
  |succ i=>exact B i e he
theorem Ky(X:K.In h)(G:h.Ns mainGlobals mg):∀(xs:List Str)(ds:List D),wD K xs ds->CW K mg xs ds
 |[],[],_=>trivial
 |_::xs,_::ds,⟨g,r⟩=>⟨by cases g with
  |v e hv=>exact Vp X G e hv
  |t e l hv=>exact Vq X G e l hv,Ky X G xs ds r⟩
 |[],_::_,h=>h.elim
 |_::_,[],h=>h.elim
theorem Kw(X:K.In h)(G:h.Ns mainGlobals mg):∀(xs:List Str),K7 K xs->∀x∈xs,mg x=none
 |[],_=>fun x hx=>by cases hx
 |_::r,⟨e,es⟩=>fun x hx=>by
  rcases List.mem_cons.mp hx with rfl|hx
  ·exact PySem.W.mg_none_of X G e
  ·exact Kw X G r es x hx
end
theorem Gk{l:PySem.W.OpenLaw}{q:Program}{loose:List Str}{XP:QZz->Heap->Prop}{YP:World->Heap->Prop}{d:DefRec}{K:Params->QQq}{p:Pg}{L:Nat}{y:Str}(hn:l.most=some 63)(hdf:d.params.defaults=[])
  (hY:∀(w:World)(h:Heap),YP w h->(K w.params).In h)(math:∀ns:List Int,ns.length<=63->∃qs,p.fn 60 L [.val (.lst (ns.map D.int))]=.ok (.val (.bl true)) qs)
  (F:∀(w:World)(mg:QZz)(fa:Addr)(h:Heap),(K w.params).In h->h.Ns mainGlobals mg->mg d.name=some (.ref fa)->
   ∃fd:FuncData,(∀(s:Shared)(u:Value),BindsTo s fd ⟨[u],[]⟩ [(y,u)])/\∀base:Heap,(K w.params).In base->base.Ns mainGlobals mg->gm l.prog w (K w.params) mg base yF 60 fa fd [y] (lE (K w.params) 1 (p.fn 60 L))):
  PySem.W.WalkO q loose XP YP l.row.toRowW d [] (fun f vs=>PySem.call f vs):=
 L2.Ld (n:=63) (k:=60) (x:=y) (CX:=fun _=>yF) (sp:=fun w=>lE (K w.params) 1 (p.fn 60 L)) hn (by decide) hdf ⟨rfl,by decide,by decide⟩ hY F (fun _ _ a ns hl hO hS=>Td hO hS (math ns hl) _) fun _ _ _ _ _ z=>z
end Mini
end
section
namespace Mini
section
variable{α β:Type}{σ:Ev}{d:D}{o:Ob}{b:Bool}{i:Int}{k:Nat}{xs:List D}
@[simp]theorem acs{a:α}{f:α->Ev->Out β}:(Out.ok a σ).bind f=f a σ:=rfl
@[simp]theorem aaW{f:α->Ev->Out β}:(Out.exc k σ).bind f=.exc k σ:=rfl
@[simp]theorem aaX{f:α->Ev->Out β}:(Out.bad:Out α).bind f=.bad:=rfl
@[simp]theorem bQ{f:D->Ev->Out β}:(Out.ok (.val d) σ).ak f=f d σ:=rfl
@[simp]theorem jX{f:D->Ev->Out β}:(Out.ok (.new o) σ).ak f=f o.d σ:=rfl
@[simp]theorem Xn{f:D->Ev->Out β}:(Out.exc k σ).ak f=.exc k σ:=rfl
@[simp]theorem Xo{f:D->Ev->Out β}:(Out.bad).ak f=.bad:=rfl
@[simp]theorem dq{f:Bool->Ev->Out β}:(Out.ok (.val (.bl b)) σ).cj iH f=f b σ:=rfl
@[simp]theorem Xk{f:Bool->Ev->Out β}:(Out.ok (.val (.int i)) σ).cj iH f=f (i !=0) σ:=rfl
@[simp]theorem Xi{f:Bool->Ev->Out β}:(Out.ok (.val (.tup xs)) σ).cj iH f=f (!xs.isEmpty) σ:=rfl
@[simp]theorem Xj{f:Bool->Ev->Out β}:(Out.ok (.val (.lst xs)) σ).cj iH f=f (!xs.isEmpty) σ:=rfl
@[simp]theorem Xl{f:Bool->Ev->Out β}:(Out.exc k σ).cj iH f=.exc k σ:=rfl
@[simp]theorem Xm{f:Bool->Ev->Out β}:(Out.bad).cj iH f=.bad:=rfl
@[simp]theorem aft{a:α}{f:α->Ev->Fl}:(Out.ok a σ).fl f=f a σ:=rfl
@[simp]theorem aem{f:α->Ev->Fl}:(Out.exc k σ:Out α).fl f=.exc k σ:=rfl
@[simp]theorem aen{f:α->Ev->Fl}:(Out.bad:Out α).fl f=.bad:=rfl
@[simp]theorem ab8{f:D->Ev->Fl}:(Out.ok (.val d) σ).jt f=f d σ:=rfl
@[simp]theorem ab9{f:D->Ev->Fl}:(Out.ok (.new o) σ).jt f=f o.d σ:=rfl
@[simp]theorem aca{f:D->Ev->Fl}:(Out.exc k σ).jt f=.exc k σ:=rfl
@[simp]theorem acb{f:D->Ev->Fl}:(Out.bad).jt f=.bad:=rfl
@[simp]theorem aeo{f:Bool->Ev->Fl}:(Out.ok (.val (.bl b)) σ).Gf f=f b σ:=rfl
@[simp]theorem ab6{f:Bool->Ev->Fl}:(Out.exc k σ).Gf f=.exc k σ:=rfl
@[simp]theorem ab7{f:Bool->Ev->Fl}:(Out.bad).Gf f=.bad:=rfl
@[simp]theorem uh{a:α}:Mini.lift σ (some a)=.ok a σ:=rfl
@[simp]theorem W9:Mini.lift σ (none:Option α)=.bad:=rfl
@[simp]theorem YQ{f:Ev->Fl}:(Fl.next σ).seq f=f σ:=rfl
@[simp]theorem abx{r:Rv}{f:Ev->Fl}:(Fl.ret r σ).seq f=.ret r σ:=rfl
@[simp]theorem aby{f:Ev->Fl}:(Fl.exc k σ).seq f=.exc k σ:=rfl
@[simp]theorem abz{f:Ev->Fl}:(Fl.brk σ).seq f=.brk σ:=rfl
@[simp]theorem YS{f:Ev->Fl}:(Fl.cont σ).seq f=.cont σ:=rfl
@[simp]theorem abA{f:Ev->Fl}:(Fl.bad).seq f=.bad:=rfl
@[simp]theorem mK{f:Ev->Fl}:(Fl.next σ).turn f=f σ:=rfl
@[simp]theorem WK{f:Ev->Fl}:(Fl.cont σ).turn f=f σ:=rfl
@[simp]theorem Ye{f:Ev->Fl}:(Fl.brk σ).turn f=.next σ:=rfl
@[simp]theorem Yc{r:Rv}{f:Ev->Fl}:(Fl.ret r σ).turn f=.ret r σ:=rfl
@[simp]theorem Yd{f:Ev->Fl}:(Fl.exc k σ).turn f=.exc k σ:=rfl
@[simp]theorem Yg{f:Ev->Fl}:(Fl.bad).turn f=.bad:=rfl
@[simp]theorem YT:mU (.val d) σ=.ret (.val d) σ:=rfl
@[simp]theorem YW:mU (.new o) σ=.ret (.new o) σ:=rfl
@[simp]theorem ZP{τ:Ev}:oO (some τ)=.next τ:=rfl
@[simp]theorem ZQ:oO none=.bad:=rfl
@[simp]theorem aa4:argv (.val d)=.val d:=rfl
@[simp]theorem aa7:argv (.new o)=.val o.d:=rfl
@[simp]theorem aa6:argv (.ref k)=.ref k:=rfl
@[simp]theorem aa5:argv (.tmp o)=.tmp o:=rfl
@[simp]theorem YD:Rv.wZ (.val d)=some (.val d):=rfl
@[simp]theorem YF:Rv.wZ (.new o)=some (.own o):=rfl
@[simp]theorem acn:Rv.jo (.val d)=some d:=rfl
@[simp]theorem aco:Rv.jo (.new o)=some o.d:=rfl
@[simp]theorem J1:Ob.d (.lst xs)=.lst xs:=rfl
@[simp]theorem af0{ys:List D}:Ob.d (.dct xs ys)=.cC xs ys:=rfl
@[simp]theorem abH:Ep (.tup xs)=some xs.length:=rfl
@[simp]theorem abI:Ep (.lst xs)=some xs.length:=rfl
@[simp]theorem acw:b1 .len (.tup xs)=some (.val (.int xs.length)):=rfl
@[simp]theorem acx:b1 .len (.lst xs)=some (.val (.int xs.length)):=rfl
@[simp]theorem acy:b1 .int (.int i)=some (.val (.int i)):=rfl
@[simp]theorem acz:b1 .int (.bl b)=some (.val (.int (b2i b))):=rfl
@[simp]theorem aaY:b1 .tuple d=(bj d).bind fun xs=>some (.val (.tup xs)):=rfl
@[simp]theorem acv:b1 .list d=(bj d).bind fun xs=>some (.new (.lst xs)):=rfl
@[simp]theorem Kp:b1 .all d=(bj d).bind fun xs=>(bools xs).map fun bs=>.val (.bl (bs.all id)):=rfl
@[simp]theorem aeI:b1 .any d=(bj d).bind fun xs=>(bools xs).map fun bs=>.val (.bl (bs.any id)):=rfl
@[simp]theorem acA:b1 .dict d=(bj d).bind fun xs=>(dictOf [] [] xs).map fun p=>.new (.dct p.1 p.2):=rfl
@[simp]theorem Xq:b1 .sorted d=(jf d).bind fun xs=>(nQ xs).map fun ys=>.new (.lst ys):=rfl
@[simp]theorem WR:bj (.tup xs)=some xs:=rfl
@[simp]theorem tB:bj (.lst xs)=some xs:=rfl
@[simp]theorem W5:jf (.lst xs)=some xs:=rfl
@[simp]theorem ab3:getD (.tup xs) (.int i)=at? xs i:=rfl
@[simp]theorem ab4:getD (.lst xs) (.int i)=at? xs i:=rfl
@[simp]theorem add_int{j:Int}:binop .add (.int i) (.int j)=some (.val (.int (i+j))):=rfl
@[simp]theorem sub_int{j:Int}:binop .sub (.int i) (.int j)=some (.val (.int (i-j))):=rfl
@[simp]theorem mul_int{j:Int}:binop .mul (.int i) (.int j)=if small i||small j then some (.val (.int (i*j)))else none:=rfl
@[simp]theorem mod_int{j:Int}:binop .mod (.int i) (.int j)=if 0<j then some (.val (.int (i%j)))else none:=rfl
@[simp]theorem lt_int{j:Int}:aH .lt (.int i) (.int j)=some (decide (i<j)):=rfl
@[simp]theorem gt_int{j:Int}:aH .gt (.int i) (.int j)=some (decide (j<i)):=rfl
@[simp]theorem le_int{j:Int}:aH .le (.int i) (.int j)=some (decide (i<=j)):=rfl
@[simp]theorem ge_int{j:Int}:aH .ge (.int i) (.int j)=some (decide (j<=i)):=rfl
@[simp]theorem afo{d:D}:aH .jg d .non=some (nT d):=rfl
@[simp]theorem adM{d:D}:aH .notN d .non=some (!nT d):=rfl
@[simp]theorem Xb{xs:List D}:nT (.tup xs)=false:=rfl
@[simp]theorem Xc:nT .non=true:=rfl
@[simp]theorem eq_int{j:Int}:aH .eq (.int i) (.int j)=some (i==j):=rfl
@[simp]theorem ne_int{j:Int}:aH .ne (.int i) (.int j)=some (!(i==j)):=rfl
@[simp]theorem afZ{c:Bool}:aH .eq (.bl b) (.bl c)=some (b==c):=rfl
@[simp]theorem afe{c:Bool}:aH .ne (.bl b) (.bl c)=some (!(b==c)):=rfl
@[simp]theorem eq_str{x y:PySem.Str}:aH .eq (.str x) (.str y)=some (decide (x=y)):=rfl
@[simp]theorem ne_str{x y:PySem.Str}:aH .ne (.str x) (.str y)=some (!decide (x=y)):=rfl
@[simp]theorem Xu:E.az (.var k)=some k:=rfl
@[simp]theorem XH(d:D):E.az (.con d)=none:=rfl
@[simp]theorem We(k:Nat):E.az (.glob k)=none:=rfl
@[simp]theorem Xv(a:E):E.az (.tup a)=none:=rfl
@[simp]theorem Xz(a:E):E.az (.lis a)=none:=rfl
@[simp]theorem aa2(o:La)(a b:E):E.az (.op o a b)=none:=rfl
@[simp]theorem Xy(a:E):E.az (.neg a)=none:=rfl
@[simp]theorem XJ(o:Cm)(a b:E):E.az (.cmp o a b)=none:=rfl
@[simp]theorem RD(o p:Cm)(a b c:E):E.az (.chain o p a b c)=none:=rfl
@[simp]theorem XM(a:E):E.az (.and a)=none:=rfl
@[simp]theorem aa1(a:E):E.az (.or a)=none:=rfl
@[simp]theorem Xx(a:E):E.az (.not a)=none:=rfl
@[simp]theorem XC(a b c:E):E.az (.ite a b c)=none:=rfl
@[simp]theorem XF(a b:E):E.az (.idx a b)=none:=rfl
@[simp]theorem Xw(a b c:E):E.az (.slc a b c)=none:=rfl
@[simp]theorem Wf(f:Nat)(a:E):E.az (.call f a)=none:=rfl
@[simp]theorem aa3(b:Bi)(a:E):E.az (.bi b a)=none:=rfl
@[simp]theorem XD(a:E)(t:Ty):E.az (.isi a t)=none:=rfl
@[simp]theorem Xr(a b:E):E.az (.zip a b)=none:=rfl
@[simp]theorem PL(a:E):E.az (.range1 a)=none:=rfl
@[simp]theorem PK(a b:E):E.az (.range2 a b)=none:=rfl
@[simp]theorem RC(a b:E):E.az (.count a b)=none:=rfl
@[simp]theorem RB(i:Nat)(a:E):E.az (.popAt i a)=none:=rfl
@[simp]theorem rH(n:Nat)(tg:Tg)(a b c:E):E.az (.comp n tg a b c)=none:=rfl
@[simp]theorem aa0(a:E):E.az (.rd a)=none:=rfl
theorem gk(xs:List D)(j:Nat)(h:j<xs.length):at? xs (j:Int)=xs[j]? :=by
 unfold at? ix?
 rw[if_neg (by omega:¬(j:Int)<0),if_pos ⟨by omega,by omega⟩]
 simp
@[simp]theorem at0{a:D}:at? (a::xs) 0=some a:=(gk (a::xs) 0 (by simp)).trans rfl
@[simp]theorem at1{a b:D}:at? (a::b::xs) 1=some b:=(gk (a::b::xs) 1 (by simp)).trans rfl
@[simp]theorem at2{a b c:D}:at? (a::b::c::xs) 2=some c:=(gk (a::b::c::xs) 2 (by simp)).trans rfl
@[simp]theorem at3{a b c e:D}:at? (a::b::c::e::xs) 3=some e:=(gk (a::b::c::e::xs) 3 (by simp)).trans rfl
end
end Mini
end
section
namespace Mini
def aB(bs:List Bool):D:=.tup (bs.map .bl)
def cZ:Nat->List (List Bool)
 |0=>[[]]
 |k+1=>(cZ k).map (· ++[false])++(cZ k).map (· ++[true])
def masks:Nat->List (List Bool)
 |0=>[[]]
 |k+1=>(masks k).map (false:: ·)++(masks k).map (true:: ·)
theorem ug:∀(bs:List Bool),bs∈masks bs.length
 |[]=>by simp[masks]
 |b::bs=>by
  have:=ug bs
  cases b<;>simp[masks,this]
def j7{α:Type}:List Bool->List α->List α
 |b::bs,x::xs=>if b then x::j7 bs xs else j7 bs xs
 |_,_=>[]
def xY:List (List Bool)->Bool
 |a::b::r=>jn a b&&xY (b::r)
 |_=>true
def pJ(k:Nat)(bs:List Bool):Bool:=match nQ (j7 bs ((cZ k).map aB))with
 |some ws=>if ws.isEmpty then true else match je ws with
  |some rs=>(rs.all fun r=>r.length==k)&&xY rs
  |none=>false
 |none=>false
theorem YC:(masks 2).all (pJ 1)=true:=by decide+kernel
theorem YB:(masks 4).all (pJ 2)=true:=by decide+kernel
theorem Yz:(masks 8).all (pJ 3)=true:=by decide+kernel
theorem uL:∀{ys:List D}{bs:List Bool},bools ys=some bs->ys=bs.map .bl
 |[],bs,e=>by cases e;rfl
 |y::ys,bs,e=>by
  cases y with
  |bl b=>
   simp only[bools]at e
   cases q:bools ys with
   |none=>rw[q]at e;cases e
   |some r=>rw[q]at e;cases e;rw[uL q];rfl
  |_=>cases e
theorem tL:∀{xs:List D}{rs:List (List Bool)},je xs=some rs->xs=rs.map aB
 |[],rs,e=>by cases e;rfl
 |y::ys,rs,e=>by
  cases y with
  |tup zs=>
   simp only[je]at e
   cases q:bools zs with
   |none=>rw[q]at e;cases e
   |some bs=>
    cases bs with
    |nil=>rw[q]at e;cases e
    |cons b bs=>
     rw[q]at e
     simp only at e
     cases q2:je ys with
     |none=>rw[q2]at e;cases e
     |some rs'=>
      rw[q2]at e
      cases e
      rw[tL q2,uL q]
      rfl
  |_=>cases e
theorem mR:∀k,(cZ k).length=2 ^k
 |0=>rfl
 |k+1=>by simp[cZ,mR k];omega
theorem Dn(k:Nat)(h1:1<=k)(h3:k<=3)(bs:List Bool)(hl:bs.length=2 ^k):∃rs,nQ (j7 bs ((cZ k).map aB))=some (rs.map aB)/\(∀r∈rs,r.length=k)/\xY rs=true:=by
 have ok:pJ k bs=true:=by
  have hm:=ug bs
  rw[hl]at hm
  rcases (by omega:k=1\/k=2\/k=3)with rfl|rfl|rfl
  ·exact List.all_eq_true.mp YC bs hm
  ·exact List.all_eq_true.mp YB bs hm
  ·exact List.all_eq_true.mp Yz bs hm
 unfold pJ at ok
 cases q:nQ (j7 bs ((cZ k).map aB))with
 |none=>rw[q]at ok;cases ok
 |some ws=>
  rw[q]at ok
  simp only at ok
  split at ok
  ·rename_i he
   have:ws=[]:=by simpa using he
   subst this
   exact⟨[],rfl,fun r h=>(by cases h),rfl⟩
  ·cases q2:je ws with
   |none=>rw[q2]at ok;cases ok
   |some rs=>
    rw[q2]at ok
    simp only[QVz,List.all_eq_true,beq_iff_eq]at ok
    exact⟨rs,by rw[tL q2],ok.1,ok.2⟩
end Mini
end
section
namespace Mini
theorem filter_tt{α:Type}:∀(xs:List α),xs.filter (fun _=>true)=xs
 |[]=>rfl
 |x::xs=>by rw[List.filter_cons_of_pos rfl,filter_tt xs]
def bR(s:Sl):Prop:=s=.un\/∃d,s=.val d
theorem mQ{s:Sl}(h:bR s)(d:D)(r:Ev):bN (.name 0) d (s::r)=some (.val d::r):=by
 rcases h with rfl|⟨e,rfl⟩<;>rfl
theorem tu{s t:Sl}(h:bR s)(h':bR t)(a b:D)(r:Ev):bN (.tup [0,1]) (.tup [a,b]) (s::t::r)=some (.val a:: .val b::r):=by
 rcases h with rfl|⟨e,rfl⟩<;>rcases h' with rfl|⟨e',rfl⟩<;>rfl
theorem J2(c:Cf)(d:D)(σ:Ev):ev c (.con d) σ=.ok (.val d) σ:=rfl
section
variable{c:Cf}{τ:Ev}{cond elt:Ev->Out Rv}
theorem go1{f:D->D}{p:D->Bool}:∀(xs acc:List D)(s:Sl),bR s->(∀x∈xs,cond (.val x::τ)=.ok (.val (.bl (p x))) (.val x::τ))->(∀x∈xs,p x=true->elt (.val x::τ)=.ok (.val (f x)) (.val x::τ))->
  ∃s',bR s'/\aO (.name 0) cond elt xs acc (s::τ)=.ok (acc++(xs.filter p).map f) (s'::τ)
 |[]=>fun acc s hs _ _=>⟨s,hs,by simp[aO]⟩
 |x::xs=>fun acc s hs hc he=>by
  have c1:=hc x QYz
  rw[aO,mQ hs]
  simp only
  rw[c1,dq]
  cases q:p x with
  |true=>
   obtain⟨s',a1,a2⟩:=go1 (f:=f) (p:=p) xs (acc++[f x]) (.val x) (.inr ⟨x,rfl⟩) (fun y hy=>hc y (QYq _ hy)) (fun y hy=>he y (QYq _ hy))
   refine⟨s',a1,?_⟩
   rw[if_pos rfl,he x QYz q,bQ,a2]
   simp[q]
  |false=>
   obtain⟨s',a1,a2⟩:=go1 (f:=f) (p:=p) xs acc (.val x) (.inr ⟨x,rfl⟩) (fun y hy=>hc y (QYq _ hy)) (fun y hy=>he y (QYq _ hy))
   refine⟨s',a1,?_⟩
   rw[if_neg (by simp),a2]
   simp[q]
def pairD(p:D×D):D:=.tup [p.1,p.2]
theorem go2{f:D×D->D}{p:D×D->Bool}:∀(xs:List (D×D))(acc:List D)(s t:Sl),bR s->bR t->(∀x∈xs,cond (.val x.1:: .val x.2::τ)=.ok (.val (.bl (p x))) (.val x.1:: .val x.2::τ))->
  (∀x∈xs,p x=true->elt (.val x.1:: .val x.2::τ)=.ok (.val (f x)) (.val x.1:: .val x.2::τ))->
  ∃s' t',aO (.tup [0,1]) cond elt (xs.map pairD) acc (s::t::τ)=.ok (acc++(xs.filter p).map f) (s'::t'::τ)
 |[]=>fun acc s t hs ht _ _=>⟨s,t,by simp[aO]⟩
 |x::xs=>fun acc s t hs ht hc he=>by
  have c1:=hc x QYz
  rw[List.map_cons,aO,show pairD x=.tup [x.1,x.2]from rfl,tu hs ht]
  simp only
  rw[c1,dq]
  cases q:p x with
  |true=>
   obtain⟨s',t',a2⟩:=go2 (f:=f) (p:=p) xs (acc++[f x]) (.val x.1) (.val x.2) (.inr ⟨_,rfl⟩) (.inr ⟨_,rfl⟩) (fun y hy=>hc y (QYq _ hy)) (fun y hy=>he y (QYq _ hy))
   refine⟨s',t',?_⟩
   rw[if_pos rfl,he x QYz q,bQ,a2]
   simp[q]
  |false=>
   obtain⟨s',t',a2⟩:=go2 (f:=f) (p:=p) xs acc (.val x.1) (.val x.2) (.inr ⟨_,rfl⟩) (.inr ⟨_,rfl⟩) (fun y hy=>hc y (QYq _ hy)) (fun y hy=>he y (QYq _ hy))
   refine⟨s',t',?_⟩
   rw[if_neg (by simp),a2]
   simp[q]
end
section
variable{c:Cf}{σ τ:Ev}{it co el:E}{r:Rv}{d:D}{xs:List D}
theorem wg(f:D->D)(p:D->Bool)(hi:ev c it σ=.ok r τ)(hr:r.jo=some d)(hd:items d=some xs)(hc:∀x∈xs,ev c co (.val x::τ)=.ok (.val (.bl (p x))) (.val x::τ))(he:∀x∈xs,p x=true->ev c el (.val x::τ)=.ok (.val (f x)) (.val x::τ)):
  ev c (.comp 1 (.name 0) it co el) σ=.ok (.new (.lst ((xs.filter p).map f))) τ:=by
 obtain⟨s',_,a⟩:=go1 (f:=f) (p:=p) xs [] .un (.inl rfl) hc he
 rw[kJ,hi]
 have b:∀{β:Type}(g:D->Ev->Out β),(Out.ok r τ).ak g=g d τ:=fun g=>by cases r<;>simp[Rv.jo]at hr<;>subst hr<;>rfl
 rw[b]
 simp only[hd]
 rw[show List.replicate 1 Sl.un++τ=.un::τ from rfl,a]
 simp
theorem uH(f:D->D)(hi:ev c it σ=.ok r τ)(hr:r.jo=some d)(hd:items d=some xs)(he:∀x∈xs,ev c el (.val x::τ)=.ok (.val (f x)) (.val x::τ)):
  ev c (.comp 1 (.name 0) it (.con (.bl true)) el) σ=.ok (.new (.lst (xs.map f))) τ:=by
 have:=wg (co:=.con (.bl true)) f (fun _=>true) hi hr hd (fun x _=>J2 c _ _) (fun x hx _=>he x hx)
 rw[filter_tt]at this
 exact this
theorem V6{ps:List (D×D)}(f:D×D->D)(p:D×D->Bool)(hi:ev c it σ=.ok r τ)(hr:r.jo=some d)(hd:items d=some (ps.map pairD))(hc:∀x∈ps,ev c co (.val x.1:: .val x.2::τ)=.ok (.val (.bl (p x))) (.val x.1:: .val x.2::τ))
  (he:∀x∈ps,p x=true->ev c el (.val x.1:: .val x.2::τ)=.ok (.val (f x)) (.val x.1:: .val x.2::τ)):
  ev c (.comp 2 (.tup [0,1]) it co el) σ=.ok (.new (.lst ((ps.filter p).map f))) τ:=by
 obtain⟨s',t',a⟩:=go2 (f:=f) (p:=p) ps [] .un .un (.inl rfl) (.inl rfl) hc he
 rw[kJ,hi]
 have b:∀{β:Type}(g:D->Ev->Out β),(Out.ok r τ).ak g=g d τ:=fun g=>by cases r<;>simp[Rv.jo]at hr<;>subst hr<;>rfl
 rw[b]
 simp only[hd]
 rw[show List.replicate 2 Sl.un++τ=.un:: .un::τ from rfl,a]
 simp
theorem Ru{ps:List (D×D)}(f:D×D->D)(hi:ev c it σ=.ok r τ)(hr:r.jo=some d)(hd:items d=some (ps.map pairD))(he:∀x∈ps,ev c el (.val x.1:: .val x.2::τ)=.ok (.val (f x)) (.val x.1:: .val x.2::τ)):
  ev c (.comp 2 (.tup [0,1]) it (.con (.bl true)) el) σ=.ok (.new (.lst (ps.map f))) τ:=by
 have:=V6 (co:=.con (.bl true)) f (fun _=>true) hi hr hd (fun x _=>J2 c _ _) (fun x hx _=>he x hx)
 rw[filter_tt]at this
 exact this
end
section
variable{c:Cf}{σ τ0 τ:Ev}{it co el:E}{r:Rv}{d:D}
theorem V7{x0:D}{xs:List D}(f:D->D)(p:D->Bool)(hi:ev c it σ=.ok r τ0)(hr:r.jo=some d)(hd:items d=some (x0::xs))(hc0:ev c co (.val x0::τ0)=.ok (.val (.bl (p x0))) (.val x0::τ))(hc:∀x∈xs,ev c co (.val x::τ)=.ok (.val (.bl (p x))) (.val x::τ))
  (he:∀x∈x0::xs,p x=true->ev c el (.val x::τ)=.ok (.val (f x)) (.val x::τ)):ev c (.comp 1 (.name 0) it co el) σ=.ok (.new (.lst (((x0::xs).filter p).map f))) τ:=by
 rw[kJ,hi]
 have b:∀{β:Type}(g:D->Ev->Out β),(Out.ok r τ0).ak g=g d τ0:=fun g=>by cases r<;>simp[Rv.jo]at hr<;>subst hr<;>rfl
 rw[b]
 simp only[hd]
 rw[show List.replicate 1 Sl.un++τ0=.un::τ0 from rfl,aO,mQ (.inl rfl)]
 simp only
 rw[hc0,dq]
 cases q:p x0 with
 |true=>
  obtain⟨s',_,a⟩:=go1 (cond:=ev c co) (elt:=ev c el) (f:=f) (p:=p) (τ:=τ) xs ([]++[f x0]) (.val x0) (.inr ⟨_,rfl⟩) hc (fun x hx=>he x (QYq _ hx))
  rw[if_pos rfl,he x0 QYz q,bQ,a]
  simp[q]
 |false=>
  obtain⟨s',_,a⟩:=go1 (cond:=ev c co) (elt:=ev c el) (f:=f) (p:=p) (τ:=τ) xs [] (.val x0) (.inr ⟨_,rfl⟩) hc (fun x hx=>he x (QYq _ hx))
  rw[if_neg (by simp),a]
  simp[q]
theorem V5{x0:D×D}{ps:List (D×D)}(f:D×D->D)(p:D×D->Bool)(hi:ev c it σ=.ok r τ0)(hr:r.jo=some d)(hd:items d=some ((x0::ps).map pairD))(hc0:ev c co (.val x0.1:: .val x0.2::τ0)=.ok (.val (.bl (p x0))) (.val x0.1:: .val x0.2::τ))
  (hc:∀x∈ps,ev c co (.val x.1:: .val x.2::τ)=.ok (.val (.bl (p x))) (.val x.1:: .val x.2::τ))
  (he:∀x∈x0::ps,p x=true->ev c el (.val x.1:: .val x.2::τ)=.ok (.val (f x)) (.val x.1:: .val x.2::τ)):ev c (.comp 2 (.tup [0,1]) it co el) σ=.ok (.new (.lst (((x0::ps).filter p).map f))) τ:=by
 rw[kJ,hi]
 have b:∀{β:Type}(g:D->Ev->Out β),(Out.ok r τ0).ak g=g d τ0:=fun g=>by cases r<;>simp[Rv.jo]at hr<;>subst hr<;>rfl
 rw[b]
 simp only[hd]
 rw[show List.replicate 2 Sl.un++τ0=.un:: .un::τ0 from rfl,List.map_cons,aO,show pairD x0=.tup [x0.1,x0.2]from rfl,tu (.inl rfl) (.inl rfl)]
 simp only
 rw[hc0,dq]
 cases q:p x0 with
 |true=>
  obtain⟨s',t',a⟩:=go2 (cond:=ev c co) (elt:=ev c el) (f:=f) (p:=p) (τ:=τ) ps ([]++[f x0]) (.val x0.1) (.val x0.2) (.inr ⟨_,rfl⟩) (.inr ⟨_,rfl⟩) hc (fun x hx=>he x (QYq _ hx))
  rw[if_pos rfl,he x0 QYz q,bQ,a]
  simp[q]
 |false=>
  obtain⟨s',t',a⟩:=go2 (cond:=ev c co) (elt:=ev c el) (f:=f) (p:=p) (τ:=τ) ps [] (.val x0.1) (.val x0.2) (.inr ⟨_,rfl⟩) (.inr ⟨_,rfl⟩) hc (fun x hx=>he x (QYq _ hx))
  rw[if_neg (by simp),a]
  simp[q]
end
theorem jF:∀(bs:List Bool),bools (bs.map D.bl)=some bs
 |[]=>rfl
 |b::bs=>by simp[bools,jF bs]
theorem qY:∀{α:Type}(xs:List α),bools (xs.map fun _=>D.bl true)=some (xs.map fun _=>true)
 |_,[]=>rfl
 |_,x::xs=>by simp[bools,qY xs]
theorem Ag:∀{α:Type}(xs:List α),(xs.map fun _=>true).all id=true
 |_,[]=>rfl
 |_,x::xs=>by simpa using Ag xs
section
variable{c:Cf}{σ τ:Ev}{it el:E}{r:Rv}{d:D}
theorem all1{xs:List D}(hi:ev c it σ=.ok r τ)(hr:r.jo=some d)(hd:items d=some xs)(he:∀x∈xs,ev c el (.val x::τ)=.ok (.val (.bl true)) (.val x::τ)):
  ev c (.bi .all (.comp 1 (.name 0) it (.con (.bl true)) el)) σ=.ok (.val (.bl true)) τ:=by
 have e:=uH (fun _=>.bl true) hi hr hd he
 rw[mJ]
 simp only[rH]
 rw[e,jX]
 simp only[J1,Kp,tB,Option.bind_some]
 rw[qY]
 simp only[Option.map_some,uh,Ag]
theorem all2{ps:List (D×D)}(hi:ev c it σ=.ok r τ)(hr:r.jo=some d)(hd:items d=some (ps.map pairD))(he:∀x∈ps,ev c el (.val x.1:: .val x.2::τ)=.ok (.val (.bl true)) (.val x.1:: .val x.2::τ)):
  ev c (.bi .all (.comp 2 (.tup [0,1]) it (.con (.bl true)) el)) σ=.ok (.val (.bl true)) τ:=by
 have e:=Ru (fun _=>.bl true) hi hr hd he
 rw[mJ]
 simp only[rH]
 rw[e,jX]
 simp only[J1,Kp,tB,Option.bind_some]
 rw[qY]
 simp only[Option.map_some,uh,Ag]
end
theorem cN:∀(xs ys:List D),aK xs ys=(xs.zip ys).map pairD
 |[],_=>by simp[aK]
 |_::_,[]=>by simp[aK]
 |x::xs,y::ys=>by simp[aK,cN xs ys,pairD]
end Mini
end
section
namespace Mini
open PySem
def fin(k:Nat):Fl->Res
 |.next σ=>.ok (.val .non) (σ.take k)
 |.ret r σ=>.ok r (σ.take k)
 |.exc c σ=>.exc c (σ.take k)
 |_=>.bad
theorem aG(c:Cf)(f:Fn)(ps:List Sl)(h:ps.length=f.pars):eO c f ps=fin f.pars (ex c f.body (ps++List.replicate (f.names-f.pars) .un)):=by
 unfold eO
 rw[if_pos h]
 cases ex c f.body (ps++List.replicate (f.names-f.pars) .un)<;>rfl
@[simp]theorem aaI(k σ):fin k (.next σ)=.ok (.val .non) (σ.take k):=rfl
@[simp]theorem acd(k r σ):fin k (.ret r σ)=.ok r (σ.take k):=rfl
@[simp]theorem ace(k c σ):fin k (.exc c σ)=.exc c (σ.take k):=rfl
def j9{α:Type}(b:Bool)(r:Out α):Out α:=if b then .bad else r
def Km(b:Bool)(r:Fl):Fl:=if b then .bad else r
def vH{α:Type}(b:Bool)(r:Option α):Option α:=if b then none else r
@[simp]theorem acu{α:Type}(r:Out α):j9 false r=r:=rfl
@[simp]theorem aeH(r:Fl):Km false r=r:=rfl
@[simp]theorem ZS{α:Type}(r:Option α):vH false r=r:=rfl
@[simp]theorem ZR{α:Type}(r:Option α):vH true r=none:=rfl
def w6(i:Nat)(σ:Ev):Option Sl->Out Rv
 |some (.val d)=>.ok (.val d) σ
 |some (.own o)=>.ok (.val o.d) (σ.set i (.val o.d))
 |_=>.bad
@[simp]theorem Y6(i:Nat)(σ:Ev):pR i σ=w6 i σ σ[i]? :=rfl
@[simp]theorem WT(i σ d):w6 i σ (some (.val d))=.ok (.val d) σ:=rfl
@[simp]theorem WW(i σ o):w6 i σ (some (.own o))=.ok (.val o.d) (σ.set i (.val o.d)):=rfl
@[simp]theorem WX(i σ o):w6 i σ (some (.bor o))=.bad:=rfl
@[simp]theorem Y7(i σ):w6 i σ (some .un)=.bad:=rfl
def xP:Option Sl->Option D
 |some (.val d)=>some d
 |some (.own o)=>some o.d
 |some (.bor o)=>some o.d
 |_=>none
@[simp]theorem ZZ(i:Nat)(σ:Ev):aW i σ=xP σ[i]? :=rfl
@[simp]theorem W6(d):xP (some (.val d))=some d:=rfl
@[simp]theorem W7(o):xP (some (.own o))=some o.d:=rfl
@[simp]theorem W8(o):xP (some (.bor o))=some o.d:=rfl
@[simp]theorem Z0:xP (some .un)=none:=rfl
def G8(i:Nat)(σ:Ev)(s:Sl):Option Sl->Option Ev
 |some (.bor _)=>none
 |some _=>some (σ.set i s)
 |none=>none
@[simp]theorem YJ(i:Nat)(s:Sl)(σ:Ev):cM i s σ=G8 i σ s σ[i]? :=rfl
@[simp]theorem YK(i σ s d):G8 i σ s (some (.val d))=some (σ.set i s):=rfl
@[simp]theorem YL(i σ s o):G8 i σ s (some (.own o))=some (σ.set i s):=rfl
@[simp]theorem abw(i σ s):G8 i σ s (some .un)=some (σ.set i s):=rfl
@[simp]theorem YM(i σ s o):G8 i σ s (some (.bor o))=none:=rfl
def Gy(i:Nat)(f:Ob->Option Ob)(σ:Ev):Option Sl->Option Ev
 |some (.own o)=>(f o).map fun q=>σ.set i (.own q)
 |some (.bor o)=>(f o).map fun q=>σ.set i (.bor q)
 |_=>none
def vA(i:Nat)(σ:Ev)(q:Ob):Ev:=σ.set i (.own q)
def Hs(i:Nat)(σ:Ev)(q:Ob):Ev:=σ.set i (.bor q)
@[simp]theorem W2(i σ q):vA i σ q=σ.set i (.own q):=rfl
@[simp]theorem W3(i σ q):Hs i σ q=σ.set i (.bor q):=rfl
@[simp]theorem Yh(i:Nat)(f:Ob->Option Ob)(σ:Ev):cg i f σ=Gy i f σ σ[i]? :=rfl
@[simp]theorem WL(i f σ o):Gy i f σ (some (.own o))=(f o).map (vA i σ):=rfl
@[simp]theorem WM(i f σ o):Gy i f σ (some (.bor o))=(f o).map (Hs i σ):=rfl
def okB(r:Rv):Option Ev->Out Rv
 |some σ=>.ok r σ
 |none=>.bad
def Kd(as:List Rv)(σ:Ev):Res->Out Rv
 |.ok r qs=>okB r (giveBack as qs σ)
 |_=>.bad
def Rx(c:Cf)(f:Nat)(as:List Rv)(σ:Ev):Option (List Sl)->Out Rv
 |none=>.bad
 |some ps=>Kd as σ (c.fn f ps)
@[simp]theorem afb(r σ):okB r (some σ)=.ok r σ:=rfl
@[simp]theorem aaU(as σ r qs):Kd as σ (.ok r qs)=okB r (giveBack as qs σ):=rfl
@[simp]theorem acr(c f as σ ps):Rx c f as σ (some ps)=Kd as σ (c.fn f ps):=rfl
@[simp]theorem aaV(c:Cf)(f:Nat)(as:List Rv)(σ:Ev):qW c f as σ=Rx c f as σ (enter as σ):=rfl
@[simp]theorem ack(σ):enter [] σ=some []:=rfl
@[simp]theorem acj(d as σ):enter (.val d::as) σ=(enter as σ).map (.val d:: ·):=rfl
@[simp]theorem aci(o as σ):enter (.tmp o::as) σ=vH (as.any xX) ((enter as σ).map (.bor o:: ·)):=rfl
def VV(r:Option (List Sl)):Option Sl->Option (List Sl)
 |some (.own o)=>r.map (.bor o:: ·)
 |some (.bor o)=>r.map (.bor o:: ·)
 |_=>none
@[simp]theorem aaL(r o):VV r (some (.own o))=r.map (.bor o:: ·):=rfl
@[simp]theorem aaM(r o):VV r (some (.bor o))=r.map (.bor o:: ·):=rfl
@[simp]theorem ach(i as σ):enter (.ref i::as) σ=vH (as.any (iW i)) (VV (enter as σ) σ[i]?):=rfl
@[simp]theorem ahH(c:Cf)(i σ):ev c (.var i) σ=pR i σ:=rfl
@[simp]theorem ahG(c:Cf)(d σ):ev c (.con d) σ=.ok (.val d) σ:=rfl
@[simp]theorem ahF(c:Cf)(k σ):ev c (.glob k) σ=match c.gl k with|some d=>.ok (.val d) σ|none=>.bad:=rfl
def Sv(ds:List D):Option Rv:=if fits ds.length then some (.val (.tup ds))else none
def Ux(ds:List D):Option Rv:=if fits ds.length then some (.new (.lst ds))else none
def Z5(rs:List Rv)(σ:Ev):Out Rv:=lift σ ((aV rs).bind Sv)
def aag(rs:List Rv)(σ:Ev):Out Rv:=lift σ ((aV rs).bind Ux)
@[simp]theorem abu(ds):Sv ds=if fits ds.length then some (.val (.tup ds))else none:=rfl
@[simp]theorem abG(ds):Ux ds=if fits ds.length then some (.new (.lst ds))else none:=rfl
@[simp]theorem abL(rs σ):Z5 rs σ=lift σ ((aV rs).bind Sv):=rfl
@[simp]theorem abR(rs σ):aag rs σ=lift σ ((aV rs).bind Ux):=rfl
@[simp]theorem ahE(c:Cf)(es σ):ev c (.tup es) σ=(evs c es σ).bind Z5:=rfl
@[simp]theorem ahD(c:Cf)(es σ):ev c (.lis es) σ=(evs c es σ).bind aag:=rfl
def U0(o:La)(x y:D)(σ:Ev):Out Rv:=lift σ (binop o x y)
def kOp(c:Cf)(o:La)(b:E)(x:D)(σ:Ev):Out Rv:=(ev c b σ).ak (U0 o x)
@[simp]theorem abP(o x y σ):U0 o x y σ=lift σ (binop o x y):=rfl
@[simp]theorem adU(c o b x σ):kOp c o b x σ=(ev c b σ).ak (U0 o x):=rfl
@[simp]theorem ahC(c:Cf)(o a b σ):ev c (.op o a b) σ=(ev c a σ).ak (kOp c o b):=rfl
@[simp]theorem ahB(c:Cf)(a σ):ev c (.neg a) σ=(ev c a σ).ak fun x σ=>lift σ (match x with|.int i=>some (.val (.int (-i)))|_=>none):=rfl
def qV(q:Bool):Rv:=.val (.bl q)
@[simp]theorem ae9(q):qV q=.val (.bl q):=rfl
def V8(o:Cm)(x d:D):Option Rv:=(aH o x d).map qV
@[simp]theorem acp(o x d):V8 o x d=(aH o x d).map qV:=rfl
def xU(o:Cm)(x y:D)(σ:Ev):Out Rv:=lift σ ((aH o x y).map qV)
@[simp]theorem aau(o x y σ):xU o x y σ=lift σ ((aH o x y).map qV):=rfl
def Oi(c:Cf)(o:Cm)(b:E)(x:D)(σ:Ev):Option Nat->Out Rv
 |some k=>lift σ ((aW k σ).bind (V8 o x))
 |none=>(ev c b σ).ak (xU o x)
@[simp]theorem adZ(c o b x σ k):Oi c o b x σ (some k)=lift σ ((aW k σ).bind (V8 o x)):=rfl
@[simp]theorem ad0(c o b x σ):Oi c o b x σ none=(ev c b σ).ak (xU o x):=rfl
def Rc(c:Cf)(o:Cm)(b:E)(x:D)(σ:Ev):Out Rv:=Oi c o b x σ b.az
@[simp]theorem aav(c o b x σ):Rc c o b x σ=Oi c o b x σ b.az:=rfl
@[simp]theorem ahA(c:Cf)(o a b σ):ev c (.cmp o a b) σ=(ev c a σ).ak (Rc c o b):=rfl
def Oj(c:Cf)(o:Cm)(d:E)(y:D)(q:Bool)(σ:Ev):Out Rv:=if q then(ev c d σ).ak (xU o y)else .ok (.val (.bl false)) σ
@[simp]theorem ad2(c o d y σ):Oj c o d y true σ=(ev c d σ).ak (xU o y):=rfl
@[simp]theorem ad3(c o d y σ):Oj c o d y false σ=.ok (.val (.bl false)) σ:=rfl
def U6(c:Cf)(o p:Cm)(d:E)(x y:D)(σ:Ev):Out Rv:=(lift σ (aH o x y)).bind (Oj c p d y)
@[simp]theorem ab0(c o p d x y σ):U6 c o p d x y σ=(lift σ (aH o x y)).bind (Oj c p d y):=rfl
def kCh(c:Cf)(o p:Cm)(b d:E)(x:D)(σ:Ev):Out Rv:=(ev c b σ).ak (U6 c o p d x)
@[simp]theorem ad1(c o p b d x σ):kCh c o p b d x σ=(ev c b σ).ak (U6 c o p d x):=rfl
@[simp]theorem ahz(c:Cf)(o₁ o₂ a b d σ):ev c (.chain o₁ o₂ a b d) σ=(ev c a σ).ak (kCh c o₁ o₂ b d):=rfl
@[simp]theorem ahy(c:Cf)(es σ):ev c (.and es) σ=fJ c es σ:=rfl
@[simp]theorem afY(c:Cf)(es σ):ev c (.or es) σ=jE c es σ:=rfl
def aac(b:Bool)(σ:Ev):Out Rv:=.ok (.val (.bl (!b))) σ
@[simp]theorem abQ(b σ):aac b σ=.ok (.val (.bl (!b))) σ:=rfl
@[simp]theorem afX(c:Cf)(a σ):ev c (.not a) σ=(ev c a σ).cj iH aac:=rfl
def Jc(c:Cf)(a b:E)(q:Bool)(σ:Ev):Out Rv:=if q then ev c a σ else ev c b σ
@[simp]theorem abT(c a b σ):Jc c a b true σ=ev c a σ:=rfl
@[simp]theorem abU(c a b σ):Jc c a b false σ=ev c b σ:=rfl
@[simp]theorem afW(c:Cf)(t a b σ):ev c (.ite t a b) σ=(ev c t σ).cj iH (Jc c a b):=rfl
def Vs(y d:D):Option Rv:=(getD d y).map Rv.val
@[simp]theorem ab5(y d):Vs y d=(getD d y).map Rv.val:=rfl
def U5(k:Nat)(y:D)(σ:Ev):Out Rv:=lift σ ((aW k σ).bind (Vs y))
@[simp]theorem abW(k y σ):U5 k y σ=lift σ ((aW k σ).bind (Vs y)):=rfl
def Jd(x y:D)(σ:Ev):Out Rv:=lift σ ((getD x y).map Rv.val)
@[simp]theorem aai(x y σ):Jd x y σ=lift σ ((getD x y).map Rv.val):=rfl
def Je(c:Cf)(i:E)(x:D)(σ:Ev):Out Rv:=(ev c i σ).ak (Jd x)
@[simp]theorem aaj(c i x σ):Je c i x σ=(ev c i σ).ak (Jd x):=rfl
def Vc(c:Cf)(a i:E)(σ:Ev):Option Nat->Out Rv
 |some k=>j9 (aW k σ).isNone ((ev c i σ).ak (U5 k))
 |none=>(ev c a σ).ak (Je c i)
@[simp]theorem aef(c a i σ k):Vc c a i σ (some k)=j9 (aW k σ).isNone ((ev c i σ).ak (U5 k)):=rfl
@[simp]theorem aeg(c a i σ):Vc c a i σ none=(ev c a σ).ak (Je c i):=rfl
@[simp]theorem afV(c:Cf)(a i σ):ev c (.idx a i) σ=Vc c a i σ a.az:=rfl
def UV(hi:E)(x:D)(l:Option Int)(h:D)(σ:Ev):Out Rv:=lift σ ((cH hi.jg h).bind (fX x l))
@[simp]theorem abM(hi x l h σ):UV hi x l h σ=lift σ ((cH hi.jg h).bind (fX x l)):=rfl
def slM(c:Cf)(hi:E)(x:D)(σ:Ev):Option (Option Int)->Out Rv
 |none=>.bad
 |some l=>(ev c hi σ).ak (UV hi x l)
@[simp]theorem aeZ(c hi x σ l):slM c hi x σ (some l)=(ev c hi σ).ak (UV hi x l):=rfl
def UW(c:Cf)(lo hi:E)(x l:D)(σ:Ev):Out Rv:=slM c hi x σ (cH lo.jg l)
@[simp]theorem abN(c lo hi x l σ):UW c lo hi x l σ=slM c hi x σ (cH lo.jg l):=rfl
def kSl(c:Cf)(lo hi:E)(x:D)(σ:Ev):Out Rv:=(ev c lo σ).ak (UW c lo hi x)
@[simp]theorem adT(c lo hi x σ):kSl c lo hi x σ=(ev c lo σ).ak (UW c lo hi x):=rfl
@[simp]theorem afU(c:Cf)(a lo hi σ):ev c (.slc a lo hi) σ=(ev c a σ).ak (kSl c lo hi):=rfl
@[simp]theorem afT(c:Cf)(σ):ev c .noneE σ=.ok (.val .non) σ:=rfl
@[simp]theorem afS(c:Cf)(f as σ):ev c (.call f as) σ=(evs c as σ).bind (qW c f):=rfl
def Tt(i:Nat)(σ:Ev):Option Sl->Out Rv
 |some (.own _)=>.ok (.ref i) σ
 |some (.bor _)=>.ok (.ref i) σ
 |_=>.bad
@[simp]theorem Y4(i σ o):Tt i σ (some (.own o))=.ok (.ref i) σ:=rfl
@[simp]theorem Y5(i σ o):Tt i σ (some (.bor o))=.ok (.ref i) σ:=rfl
@[simp]theorem afR(c:Cf)(i σ):ev c (.ref i) σ=Tt i σ σ[i]? :=rfl
@[simp]theorem afQ(c:Cf)(e σ):ev c (.rd e) σ=ev c e σ:=rfl
def Z7(x:Rv)(σ:Ev):Out Rv:=lift σ (match x with|.new o=>some (.tmp o)|_=>none)
@[simp]theorem Z6(o σ):Z7 (.new o) σ=.ok (.tmp o) σ:=rfl
@[simp]theorem afP(c:Cf)(e σ):ev c (.tmp e) σ=(ev c e σ).bind Z7:=rfl
def aah(t:Ty)(x:D)(σ:Ev):Out Rv:=.ok (.val (.bl (iz t x))) σ
@[simp]theorem abV(t x σ):aah t x σ=.ok (.val (.bl (iz t x))) σ:=rfl
@[simp]theorem afO(c:Cf)(a t σ):ev c (.isi a t) σ=(ev c a σ).ak (aah t):=rfl
def kBi(b:Bi)(x:D)(σ:Ev):Out Rv:=lift σ (b1 b x)
@[simp]theorem ad4(b x σ):kBi b x σ=lift σ (b1 b x):=rfl
def biM(c:Cf)(b:Bi)(a:E)(σ:Ev):Option Nat->Out Rv
 |some k=>lift σ ((aW k σ).bind (b1 b))
 |none=>(ev c a σ).ak (kBi b)
@[simp]theorem af4(c b a σ k):biM c b a σ (some k)=lift σ ((aW k σ).bind (b1 b)):=rfl
@[simp]theorem af5(c b a σ):biM c b a σ none=(ev c a σ).ak (kBi b):=rfl
@[simp]theorem afN(c:Cf)(b a σ):ev c (.bi b a) σ=biM c b a σ a.az:=rfl
def aab(x:D)(σ:Ev):Out Rv:=lift σ (match x with|.int n=>if fits n.toNat&&rQ n then some (.val (.lst (bD 0 n.toNat)))else none|_=>none)
@[simp]theorem aaa(n:Int)(σ):aab (.int n) σ=lift σ (if fits n.toNat&&rQ n then some (.val (.lst (bD 0 n.toNat)))else none):=rfl
@[simp]theorem afM(c:Cf)(a σ):ev c (.range1 a) σ=(ev c a σ).ak aab:=rfl
@[simp]theorem afL(c:Cf)(a b σ):ev c (.range2 a b) σ=(ev c a σ).ak fun x σ=>(ev c b σ).ak fun y σ=>lift σ (match x,y with|.int m,.int n=>if fits (n-m).toNat&&rQ m&&rQ n then some (.val (.lst (bD m (n-m).toNat)))else none|_,_=>none):=rfl
def RK(xs ys:List D):Rv:=.val (.lst (aK xs ys))
@[simp]theorem abi(xs ys):RK xs ys=.val (.lst (aK xs ys)):=rfl
def RL(y:D)(xs:List D):Option Rv:=(bj y).map (RK xs)
@[simp]theorem abj(y xs):RL y xs=(bj y).map (RK xs):=rfl
def Ja(x y:D)(σ:Ev):Out Rv:=lift σ ((bj x).bind (RL y))
@[simp]theorem Z2(x y σ):Ja x y σ=lift σ ((bj x).bind (RL y)):=rfl
def Z3(c:Cf)(b:E)(x:D)(σ:Ev):Out Rv:=(ev c b σ).ak (Ja x)
@[simp]theorem abJ(c b x σ):Z3 c b x σ=(ev c b σ).ak (Ja x):=rfl
@[simp]theorem afK(c:Cf)(a b σ):ev c (.zip a b) σ=(ev c a σ).ak (Z3 c b):=rfl
def Ji(x y:D)(σ:Ev):Out Rv:=lift σ (wk x y)
@[simp]theorem aas(x y σ):Ji x y σ=lift σ (wk x y):=rfl
def aat(c:Cf)(b:E)(x:D)(σ:Ev):Out Rv:=j9 (bj x).isNone ((ev c b σ).ak (Ji x))
@[simp]theorem abZ(c b x σ):aat c b x σ=j9 (bj x).isNone ((ev c b σ).ak (Ji x)):=rfl
@[simp]theorem afJ(c:Cf)(a b σ):ev c (.count a b) σ=(ev c a σ).ak (aat c b):=rfl
@[simp]theorem afI(c:Cf)(k a σ):ev c (.popAt k a) σ=j9 (!di (aW k σ)) ((ev c a σ).ak (pY k)):=rfl
def Rb(c:Cf)(nl:Nat)(tg:Tg)(cond elt:E)(x:D)(σ:Ev):Out Rv:=match items x with
  |some xs=>match aO tg (ev c cond) (ev c elt) xs [] (List.replicate nl .un++σ)with
   |.ok ys τ=>.ok (.new (.lst ys)) (τ.drop nl)
   |_=>.bad
  |none=>.bad
@[simp]theorem aar(c nl tg cond elt x σ):Rb c nl tg cond elt x σ=match items x with
  |some xs=>match aO tg (ev c cond) (ev c elt) xs [] (List.replicate nl .un++σ)with
   |.ok ys τ=>.ok (.new (.lst ys)) (τ.drop nl)
   |_=>.bad
  |none=>.bad:=rfl
@[simp]theorem afH(c:Cf)(nl tg it cond elt σ):ev c (.comp nl tg it cond elt) σ=(ev c it σ).ak (Rb c nl tg cond elt):=rfl
def Jh(x:Rv)(xs:List Rv)(σ:Ev):Out (List Rv):=.ok (argv x::xs) σ
@[simp]theorem aao(x xs σ):Jh x xs σ=.ok (argv x::xs) σ:=rfl
def aap(c:Cf)(t:E)(x:Rv)(σ:Ev):Out (List Rv):=(evs c t σ).bind (Jh x)
@[simp]theorem abX(c t x σ):aap c t x σ=(evs c t σ).bind (Jh x):=rfl
@[simp]theorem afC(c:Cf)(σ):evs c .nil σ=.ok [] σ:=rfl
@[simp]theorem afB(c:Cf)(h t σ):evs c (.cons h t) σ=(ev c h σ).bind (aap c t):=rfl
@[simp]theorem ahx(c:Cf)(σ):ex c .nil σ=.next σ:=rfl
@[simp]theorem ahw(c:Cf)(h t σ):ex c (.cons h t) σ=(ex c h σ).seq (ex c t):=rfl
@[simp]theorem ahv(c:Cf)(σ):ex c .pass σ=.next σ:=rfl
@[simp]theorem ahu(c:Cf)(σ):ex c .brk σ=.brk σ:=rfl
@[simp]theorem aht(c:Cf)(σ):ex c .cont σ=.cont σ:=rfl
def yS(i:Nat)(σ:Ev)(s:Sl):Option Ev:=cM i s σ
@[simp]theorem WQ(i σ s):yS i σ s=cM i s σ:=rfl
def Z9(i:Nat)(x:Rv)(σ:Ev):Fl:=oO (x.wZ.bind (yS i σ))
@[simp]theorem abO(i x σ):Z9 i x σ=oO (x.wZ.bind (yS i σ)):=rfl
@[simp]theorem ahs(c:Cf)(i e σ):ex c (.set i e) σ=(ev c e σ).fl (Z9 i):=rfl
def Q6(is:List Nat)(x:D)(σ:Ev):Fl:=oO (bN (.tup is) x σ)
@[simp]theorem Z8(is x σ):Q6 is x σ=oO (bN (.tup is) x σ):=rfl
@[simp]theorem ahr(c:Cf)(is e σ):ex c (.setT is e) σ=(ev c e σ).jt (Q6 is):=rfl
def U3(k:Nat)(x y:D)(σ:Ev):Fl:=oO (cg k (vB y x) σ)
@[simp]theorem abS(k x y σ):U3 k x y σ=oO (cg k (vB y x) σ):=rfl
def kIx(c:Cf)(k:Nat)(ix:E)(x:D)(σ:Ev):Fl:=Km (aW k σ).isNone ((ev c ix σ).jt (U3 k x))
@[simp]theorem adV(c k ix x σ):kIx c k ix x σ=Km (aW k σ).isNone ((ev c ix σ).jt (U3 k x)):=rfl
@[simp]theorem ahq(c:Cf)(k ix e σ):ex c (.setIx k ix e) σ=(ev c e σ).jt (kIx c k ix):=rfl
def Q7(_:D)(σ:Ev):Fl:=.next σ
@[simp]theorem aad(d σ):Q7 d σ=.next σ:=rfl
@[simp]theorem ahp(c:Cf)(e σ):ex c (.expr e) σ=(ev c e σ).jt Q7:=rfl
def Wg(x:D)(xs:List D):Option (List D):=if fits (xs.length+1)then some (xs++[x])else none
@[simp]theorem acC(x xs):Wg x xs=if fits (xs.length+1)then some (xs++[x])else none:=rfl
def aaw(k:Nat)(x:D)(σ:Ev):Fl:=oO (cg k (rP (Wg x)) σ)
@[simp]theorem ab1(k x σ):aaw k x σ=oO (cg k (rP (Wg x)) σ):=rfl
@[simp]theorem aho(c:Cf)(k e σ):ex c (.append k e) σ=Km (!di (aW k σ)) ((ev c e σ).jt (aaw k)):=rfl
@[simp]theorem afA(c:Cf)(k e σ):ex c (.extend k e) σ=if !di (aW k σ)then .bad else(ev c e σ).jt fun x σ=>oO ((jf x).bind fun ys=>cg k (rP fun xs=>if fits (xs.length+ys.length)then some (xs++ys)else none) σ):=rfl
def Hj(c:Cf)(e:E)(i:Nat)(σ:Ev):Option Sl->Fl
 |some (.own o)=>.ret (.new o) (σ.set i .un)
 |_=>(ev c e σ).fl mU
@[simp]theorem YZ(c e i σ o):Hj c e i σ (some (.own o))=.ret (.new o) (σ.set i .un):=rfl
@[simp]theorem YX(c e i σ d):Hj c e i σ (some (.val d))=(ev c e σ).fl mU:=rfl
@[simp]theorem Y0(c e i σ o):Hj c e i σ (some (.bor o))=(ev c e σ).fl mU:=rfl
def Tq(c:Cf)(e:E)(σ:Ev):Option Nat->Fl
 |some i=>Hj c e i σ σ[i]?
 |none=>(ev c e σ).fl mU
@[simp]theorem adE(c e σ i):Tq c e σ (some i)=Hj c e i σ σ[i]? :=rfl
@[simp]theorem adF(c e σ):Tq c e σ none=(ev c e σ).fl mU:=rfl
@[simp]theorem afz(c:Cf)(e σ):ex c (.ret e) σ=Tq c e σ e.az:=rfl
def U4(c:Cf)(a b:S)(q:Bool)(σ:Ev):Fl:=if q then ex c a σ else ex c b σ
@[simp]theorem adW(c a b σ):U4 c a b true σ=ex c a σ:=rfl
@[simp]theorem adX(c a b σ):U4 c a b false σ=ex c b σ:=rfl
@[simp]theorem afy(c:Cf)(t a b σ):ex c (.ite t a b) σ=(ev c t σ).Gf (U4 c a b):=rfl
def kFor(c:Cf)(tg:Tg)(b:S)(σ:Ev):Option (List D)->Fl
 |some xs=>bF tg (ex c b) xs σ
 |none=>.bad
@[simp]theorem adY(c tg b σ xs):kFor c tg b σ (some xs)=bF tg (ex c b) xs σ:=rfl
def Ra(c:Cf)(tg:Tg)(b:S)(x:D)(σ:Ev):Fl:=kFor c tg b σ (items x)
@[simp]theorem aan(c tg b x σ):Ra c tg b x σ=kFor c tg b σ (items x):=rfl
@[simp]theorem afx(c:Cf)(tg it b σ):ex c (.for_ tg it b) σ=(ev c it σ).jt (Ra c tg b):=rfl
@[simp]theorem afw(c:Cf)(t b σ):ex c (.while_ t b) σ=cP (ev c t) (ex c b) c.turns σ:=rfl
@[simp]theorem afv(c:Cf)(k σ):ex c (.raise k) σ=.exc k σ:=rfl
def U7(c:Cf)(e:E)(x:D)(σ:Ev):Out Rv:=match x with|.bl true=>fJ c e σ|.bl false=>.ok (.val (.bl false)) σ|_=>.bad
@[simp]theorem ad6(c e σ):U7 c e (.bl true) σ=fJ c e σ:=rfl
@[simp]theorem ad7(c e σ):U7 c e (.bl false) σ=.ok (.val (.bl false)) σ:=rfl
def kOr(c:Cf)(e:E)(x:D)(σ:Ev):Out Rv:=match x with|.bl true=>.ok (.val (.bl true)) σ|.bl false=>jE c e σ|_=>.bad
@[simp]theorem afi(c e σ):kOr c e (.bl true) σ=.ok (.val (.bl true)) σ:=rfl
@[simp]theorem afj(c e σ):kOr c e (.bl false) σ=jE c e σ:=rfl
@[simp]theorem acg(c:Cf)(h σ):fJ c (.cons h .nil) σ=ev c h σ:=rfl
@[simp]theorem acf(c:Cf)(h a b σ):fJ c (.cons h (.cons a b)) σ=(ev c h σ).ak (U7 c (.cons a b)):=rfl
@[simp]theorem aeA(c:Cf)(h σ):jE c (.cons h .nil) σ=ev c h σ:=rfl
@[simp]theorem aez(c:Cf)(h a b σ):jE c (.cons h (.cons a b)) σ=(ev c h σ).ak (kOr c (.cons a b)):=rfl
@[simp high]theorem aiv(x0:D):at? [x0] 0=some x0:=rfl
@[simp high]theorem aiu(x0 x1:D):at? [x0,x1] 0=some x0:=rfl
@[simp high]theorem ait(x0 x1:D):at? [x0,x1] 1=some x1:=rfl
@[simp high]theorem ais(x0 x1 x2:D):at? [x0,x1,x2] 0=some x0:=rfl
@[simp high]theorem air(x0 x1 x2:D):at? [x0,x1,x2] 1=some x1:=rfl
@[simp high]theorem aiq(x0 x1 x2:D):at? [x0,x1,x2] 2=some x2:=rfl
@[simp high]theorem aip(x0 x1 x2 x3:D):at? [x0,x1,x2,x3] 0=some x0:=rfl
@[simp high]theorem aio(x0 x1 x2 x3:D):at? [x0,x1,x2,x3] 1=some x1:=rfl
@[simp high]theorem ain(x0 x1 x2 x3:D):at? [x0,x1,x2,x3] 2=some x2:=rfl
@[simp high]theorem aim(x0 x1 x2 x3:D):at? [x0,x1,x2,x3] 3=some x3:=rfl
@[simp]theorem ahn(σ):giveBack [] [] σ=some σ:=rfl
@[simp]theorem ahm(i as o ps σ):giveBack (.ref i::as) (.bor o::ps) σ=(cg i (fun _=>some o) σ).bind (giveBack as ps):=rfl
@[simp]theorem ahl(d as p ps σ):giveBack (.val d::as) (p::ps) σ=giveBack as ps σ:=rfl
@[simp]theorem ahk(o as p ps σ):giveBack (.tmp o::as) (p::ps) σ=giveBack as ps σ:=rfl
@[simp]theorem agL(i j):iW i (.ref j)=(i==j):=rfl
@[simp]theorem agK(i d):iW i (.val d)=false:=rfl
@[simp]theorem agJ(i o):iW i (.tmp o)=false:=rfl
@[simp]theorem agI(i o):iW i (.new o)=false:=rfl
@[simp]theorem ag3(o):xX (.tmp o)=true:=rfl
@[simp]theorem ag2(d):xX (.val d)=false:=rfl
@[simp]theorem ag1(i):xX (.ref i)=false:=rfl
@[simp]theorem ags(xs):iz .tup (.tup xs)=true:=rfl
@[simp]theorem agr(xs):iz .lst (.lst xs)=true:=rfl
@[simp]theorem agq(x):iz .str (.str x)=true:=rfl
@[simp]theorem agp(b):iz .bool (.bl b)=true:=rfl
theorem acO(i):iz .bool (.int i)=false:=rfl
@[simp]theorem ago(i):iz .int (.int i)=true:=rfl
@[simp]theorem aex:fits 0=true:=rfl
@[simp]theorem aew:fits 1=true:=rfl
@[simp]theorem aev:fits 2=true:=rfl
@[simp]theorem aeu:fits 3=true:=rfl
@[simp]theorem aet:fits 4=true:=rfl
@[simp]theorem aes:fits 5=true:=rfl
@[simp]theorem aer:fits 6=true:=rfl
@[simp]theorem aeq:fits 7=true:=rfl
@[simp]theorem aep:fits 8=true:=rfl
@[simp]theorem aaJ(i j:Int):binop .fdiv (.int i) (.int j)=if 0<j/\j<1073741824 then some (.val (.int (i/j)))else none:=rfl
@[simp]theorem pow_int(i j:Int):binop .pow (.int i) (.int j)=if 0<=j/\j<=64/\small i=true then some (.val (.int (i ^j.toNat)))else none:=rfl
@[simp↓]theorem ite_tt{α:Type}(a b:α):(if true=true then a else b)=a:=rfl
@[simp↓]theorem ite_ff{α:Type}(a b:α):(if false=true then a else b)=b:=rfl
@[simp]theorem acD(xs ys:List D):binop .add (.tup xs) (.tup ys)=if fits (xs.length+ys.length)then some (.val (.tup (xs++ys)))else none:=rfl
@[simp]theorem acE(xs ys:List D):binop .add (.lst xs) (.lst ys)=if fits (xs.length+ys.length)then some (.new (.lst (xs++ys)))else none:=rfl
def Jb(x y:D)(σ:Ev):Out Rv:=lift σ (Ot x y)
@[simp]theorem aae(x y σ):Jb x y σ=lift σ (Ot x y):=rfl
def Q8(c:Cf)(b:E)(x:D)(σ:Ev):Out Rv:=j9 (jf x).isNone ((ev c b σ).ak (Jb x))
@[simp]theorem aaf(c b x σ):Q8 c b x σ=j9 (jf x).isNone ((ev c b σ).ak (Jb x)):=rfl
@[simp]theorem afG(c:Cf)(a b σ):ev c (.index a b) σ=(ev c a σ).ak (Q8 c b):=rfl
def Z4(k:Nat)(x:D)(σ:Ev):Fl:=oO (cg k (Ly x) σ)
@[simp]theorem abK(k x σ):Z4 k x σ=oO (cg k (Ly x) σ):=rfl
@[simp]theorem afu(c:Cf)(k e σ):ex c (.update k e) σ=Km (!j8 (aW k σ)) ((ev c e σ).jt (Z4 k)):=rfl
@[simp]theorem ab2(ks vs:List D):j8 (some (.cC ks vs))=true:=rfl
@[simp]theorem acB(ks vs:List D):b1 .copy (.cC ks vs)=some (.new (.dct ks vs)):=rfl
def Jf(y k x:D)(σ:Ev):Out Rv:=lift σ ((uD y k x).map Rv.val)
@[simp]theorem aak(y k x σ):Jf y k x σ=lift σ ((uD y k x).map Rv.val):=rfl
def Jg(c:Cf)(x:E)(y k:D)(σ:Ev):Out Rv:=(ev c x σ).ak (Jf y k)
@[simp]theorem aal(c x y k σ):Jg c x y k σ=(ev c x σ).ak (Jf y k):=rfl
def Q9(c:Cf)(k x:E)(y:D)(σ:Ev):Out Rv:=j9 (!j8 (some y)) ((ev c k σ).ak (Jg c x y))
@[simp]theorem aam(c k x y σ):Q9 c k x y σ=j9 (!j8 (some y)) ((ev c k σ).ak (Jg c x y)):=rfl
@[simp]theorem afF(c:Cf)(d k x σ):ev c (.get2 d k x) σ=(ev c d σ).ak (Q9 c k x):=rfl
def aaq(rs:List Rv)(σ:Ev):Out Rv:=lift σ ((aV rs).bind O9)
@[simp]theorem abY(rs σ):aaq rs σ=lift σ ((aV rs).bind O9):=rfl
@[simp]theorem afE(c:Cf)(es σ):ev c (.dsp es) σ=(evs c es σ).bind aaq:=rfl
@[simp]theorem afD(c:Cf)(f as hs σ):ev c (.tcall f as hs) σ=(evs c as σ).bind (iK c f hs):=rfl
@[simp high]theorem ahj(a0:Sl)(r:Ev):(a0::r)[0]? =some a0:=rfl
@[simp high]theorem agH(a0 v:Sl)(r:Ev):List.set (a0::r) 0 v=v::r:=rfl
@[simp high]theorem ahi(a0 a1:Sl)(r:Ev):(a0::a1::r)[1]? =some a1:=rfl
@[simp high]theorem agG(a0 a1 v:Sl)(r:Ev):List.set (a0::a1::r) 1 v=a0::v::r:=rfl
@[simp high]theorem ahh(a0 a1 a2:Sl)(r:Ev):(a0::a1::a2::r)[2]? =some a2:=rfl
@[simp high]theorem agF(a0 a1 a2 v:Sl)(r:Ev):List.set (a0::a1::a2::r) 2 v=a0::a1::v::r:=rfl
@[simp high]theorem ahg(a0 a1 a2 a3:Sl)(r:Ev):(a0::a1::a2::a3::r)[3]? =some a3:=rfl
@[simp high]theorem agE(a0 a1 a2 a3 v:Sl)(r:Ev):List.set (a0::a1::a2::a3::r) 3 v=a0::a1::a2::v::r:=rfl
@[simp high]theorem ahf(a0 a1 a2 a3 a4:Sl)(r:Ev):(a0::a1::a2::a3::a4::r)[4]? =some a4:=rfl
@[simp high]theorem agD(a0 a1 a2 a3 a4 v:Sl)(r:Ev):List.set (a0::a1::a2::a3::a4::r) 4 v=a0::a1::a2::a3::v::r:=rfl
@[simp high]theorem ahe(a0 a1 a2 a3 a4 a5:Sl)(r:Ev):(a0::a1::a2::a3::a4::a5::r)[5]? =some a5:=rfl
@[simp high]theorem agC(a0 a1 a2 a3 a4 a5 v:Sl)(r:Ev):List.set (a0::a1::a2::a3::a4::a5::r) 5 v=a0::a1::a2::a3::a4::v::r:=rfl
@[simp high]theorem ahd(a0 a1 a2 a3 a4 a5 a6:Sl)(r:Ev):(a0::a1::a2::a3::a4::a5::a6::r)[6]? =some a6:=rfl
@[simp high]theorem agB(a0 a1 a2 a3 a4 a5 a6 v:Sl)(r:Ev):List.set (a0::a1::a2::a3::a4::a5::a6::r) 6 v=a0::a1::a2::a3::a4::a5::v::r:=rfl
@[simp high]theorem ahc(a0 a1 a2 a3 a4 a5 a6 a7:Sl)(r:Ev):(a0::a1::a2::a3::a4::a5::a6::a7::r)[7]? =some a7:=rfl
@[simp high]theorem agA(a0 a1 a2 a3 a4 a5 a6 a7 v:Sl)(r:Ev):List.set (a0::a1::a2::a3::a4::a5::a6::a7::r) 7 v=a0::a1::a2::a3::a4::a5::a6::v::r:=rfl
@[simp high]theorem ahb(a0 a1 a2 a3 a4 a5 a6 a7 a8:Sl)(r:Ev):(a0::a1::a2::a3::a4::a5::a6::a7::a8::r)[8]? =some a8:=rfl
@[simp high]theorem agz(a0 a1 a2 a3 a4 a5 a6 a7 a8 v:Sl)(r:Ev):List.set (a0::a1::a2::a3::a4::a5::a6::a7::a8::r) 8 v=a0::a1::a2::a3::a4::a5::a6::a7::v::r:=rfl
@[simp high]theorem aha(a0 a1 a2 a3 a4 a5 a6 a7 a8 a9:Sl)(r:Ev):(a0::a1::a2::a3::a4::a5::a6::a7::a8::a9::r)[9]? =some a9:=rfl
@[simp high]theorem agy(a0 a1 a2 a3 a4 a5 a6 a7 a8 a9 v:Sl)(r:Ev):List.set (a0::a1::a2::a3::a4::a5::a6::a7::a8::a9::r) 9 v=a0::a1::a2::a3::a4::a5::a6::a7::a8::v::r:=rfl
@[simp high]theorem afs(a0 a1 a2 a3 a4 a5 a6 a7 a8 a9 a10:Sl)(r:Ev):(a0::a1::a2::a3::a4::a5::a6::a7::a8::a9::a10::r)[10]? =some a10:=rfl
@[simp high]theorem aeY(a0 a1 a2 a3 a4 a5 a6 a7 a8 a9 a10 v:Sl)(r:Ev):List.set (a0::a1::a2::a3::a4::a5::a6::a7::a8::a9::a10::r) 10 v=a0::a1::a2::a3::a4::a5::a6::a7::a8::a9::v::r:=rfl
@[simp high]theorem afr(a0 a1 a2 a3 a4 a5 a6 a7 a8 a9 a10 a11:Sl)(r:Ev):(a0::a1::a2::a3::a4::a5::a6::a7::a8::a9::a10::a11::r)[11]? =some a11:=rfl
@[simp high]theorem aeX(a0 a1 a2 a3 a4 a5 a6 a7 a8 a9 a10 a11 v:Sl)(r:Ev):List.set (a0::a1::a2::a3::a4::a5::a6::a7::a8::a9::a10::a11::r) 11 v=a0::a1::a2::a3::a4::a5::a6::a7::a8::a9::a10::v::r:=rfl
@[simp high]theorem afq(a0 a1 a2 a3 a4 a5 a6 a7 a8 a9 a10 a11 a12:Sl)(r:Ev):(a0::a1::a2::a3::a4::a5::a6::a7::a8::a9::a10::a11::a12::r)[12]? =some a12:=rfl
@[simp high]theorem aeW(a0 a1 a2 a3 a4 a5 a6 a7 a8 a9 a10 a11 a12 v:Sl)(r:Ev):List.set (a0::a1::a2::a3::a4::a5::a6::a7::a8::a9::a10::a11::a12::r) 12 v=a0::a1::a2::a3::a4::a5::a6::a7::a8::a9::a10::a11::v::r:=rfl
@[simp high]theorem afp(a0 a1 a2 a3 a4 a5 a6 a7 a8 a9 a10 a11 a12 a13:Sl)(r:Ev):(a0::a1::a2::a3::a4::a5::a6::a7::a8::a9::a10::a11::a12::a13::r)[13]? =some a13:=rfl
@[simp high]theorem aeV(a0 a1 a2 a3 a4 a5 a6 a7 a8 a9 a10 a11 a12 a13 v:Sl)(r:Ev):List.set (a0::a1::a2::a3::a4::a5::a6::a7::a8::a9::a10::a11::a12::a13::r) 13 v=a0::a1::a2::a3::a4::a5::a6::a7::a8::a9::a10::a11::a12::v::r:=rfl
end Mini
end
section
namespace Mini
open PySem L2 PyProof.Rows
abbrev bmV:List Value:=[.type "ValueError",.type "Exception",.type "BaseException",.type "object"]
abbrev KY(x:Str)(C:Addr)(mg:QZz)(h:Heap):Prop:=OwnClsQ x C bmV "ValueError.__new__" mg h
structure Ak(fs:List Addr)(H H':Hp)(h0 B h:Heap):Prop where
 stays:B.StaysIn h
 keep:∀b o,h0.get? b=some o->H b=none->b∉fs->B.get? b=some o
 slot:∀b o,h0.get? b=some o->H b=none->b∈fs->∃sl,h.get? b=some {o with slots:=sl}
 free:∀b o,h0.get? b=some o->H b=none->H' b=none
 there:∀b o,h0.get? b=some o->b∉fs->∃u,B.get? b=some u
 tups:∀b xs,H b=some (.tup xs)->H' b=some (.tup xs)
 frzs:∀b o u,H b=some (.frz o u)->H' b=some (.frz o u)
 tbls:∀b ps,H b=some (.tbl ps)->∃more,H' b=some (.tbl (ps++more))
theorem Ak.un{fs:List Addr}{H H':Hp}{h0 B h:Heap}(L:Ak fs H H' h0 B h)(fr:∀b∈fs,H b=none):Un fs [] H H' h0 h:=
 ⟨fun b o q n nf _=>L.stays b o (L.keep b o q n nf),fun b o q n nf _=>L.slot b o q n nf,fun b o q n _=>L.free b o q n,fun b o q _=>by
  by_cases z:b∈fs
  ·obtain⟨sl,e⟩:=L.slot b o q (fr b z) z
   exact⟨_,e⟩
  ·obtain⟨u,e⟩:=L.there b o q z
   exact⟨_,L.stays b u e⟩,L.tups,L.frzs,L.tbls⟩
theorem Ak.move{fs:List Addr}{H H':Hp}{h0 B h h1:Heap}(L:Ak fs H H' h0 B h)(st:B.StaysIn h1)(up:h.UpToSlots h1)(nf:∀b∈fs,∃o,h.get? b=some o/\∀vs,o.data≠ .fields vs):Ak fs H H' h0 B h1:=
 ⟨st,L.keep,fun b o q n z=>by
  obtain⟨sl,e⟩:=L.slot b o q n z
  obtain⟨o',e',d⟩:=nf b z
  obtain⟨sl2,e2⟩:=up b _ e' d
  rw[e]at e'
  cases e'
  exact⟨sl2,e2⟩,L.free,L.there,L.tups,L.frzs,L.tbls⟩
def CXE(C:Addr)(P:Program)(w:World)(base:Heap):Aq:=fun outer H s E e s'=>∃a a0 B H',e=.ref a/\s'.os=s.os/\AllBare s'.gens/\Ak (frs outer) H H' s.heap B s'.heap/\ju P w H' B/\
 Heap.FlyingW B outer a (.ref C) a0 s'.heap/\s.heap.get? a=none/\H' a=none/\(∀b o,base.get? b=some o->B.get? b=some o)/\E (.ref C) none H'
section
variable{X:Cx}{QTz:QQz}{σ:L2.St}{H:Hp}{s:Shared}
theorem wp_raise{x m:Str}{C:Addr}{k:Nat}{np cp cpos pos:Pos}{Q:Flow->Shared->Prop}{E:QZq}(O:∀h,X.K.In h->KY x C X.mg h)(hg:Gl X x)(hc:X.calm=true)(I:Inv X QTz σ H s)
  (h:∀s2 h' e vs,Inv X QTz σ H s2->Heap.MadeExcOf s2.heap h' e (.ref C) vs->E (.ref e) {s2 with heap:=h'})
  (hd:(x==("__debug__":Str))=false:=by decide):
  wpAny (model X.prog X.w) X.A (exec (.Raise (some (.Call (.Name x np) [.Constant (.str m) k cp] [] cpos)) none pos) X.env) Q E s:=by
 obtain⟨tl,N,nm,q,bs,hdct,sn,sub,ab,col,dd,k0,k1,k2,k3,k5,mN,hC,hN,hni,T⟩:=(O _ I.zM).own.obj
 refine wpAny_Raise_call_subT (C:=C) (nm:=nm) (q:=q) (N:=N) (bs:=bs) (bm:=tl) (hdct:=hdct) (sn:=sn) (sub:=sub) (ab:=ab) (col:=col) (dd:=dd) (k0:=k0) (k1:=k1) (k2:=k2) (k3:=k3) (k5:=k5)
  PySem.F.excBase_ValueError (mN:=mN) (T.hasType PySem.F.excBase_ValueError.hasBase) (I.ok.hd hc) rfl hni (jT I hg (O _ I.zM).bound ⟨rfl,?_⟩ hd)
 have sp:∀(R:List Value->Shared->Prop),(∀s2 v,Inv X QTz σ H s2->(∀b o,s.heap.get? b=some o->s2.heap.get? b=some o)->R [v] s2)->wpAny (model X.prog X.w) X.A (spliced (backTo cpos (starEach [.Constant (.str m) k cp] X.env))) R E s:=fun R hR=>by
  refine spliced_more (Calls.Constant_str ?_)
  exact spliced_none (hR _ _ (I.tok _) fun b o e=>e)
 exact Calls.evalArgs_plain (sp _ fun s2 v I2 kp=>⟨rfl,by show 1<=sizeLine;decide,kp _ _ hC,hN.keeps kp,T.keeps kp,fun h' e hm=>h s2 h' e _ I2 hm⟩)
end
theorem ju.frames{P:Program}{w:World}{H:Hp}{h h':Heap}{l:List Addr}(ok:ju P w H h)(free:∀b∈l,H b=none)(k:∀b u,b∉l->h.get? b=some u->h'.get? b=some u):ju P w H h':=fun a o e=>
 (ok a o e).stay (fun b u hb q=>k b u (fun z=>by
  have n:=free b z
  rcases hb with rfl|hb
  ·rw[e]at n;cases n
  ·rw[hb]at n;cases n) q) (fun _ z=>z) fun _ _ z=>z
theorem b8.here{P:Program}{w:World}{H:Hp}{h:Heap}{a:Addr}{o:HO}(x:b8 P w H h a o):∃u,h.get? a=some u:=by
 cases o with
 |lst xs=>obtain⟨_,_,_,_,e⟩:=x;exact⟨_,e⟩
 |tup xs=>obtain⟨_,_,_,p⟩:=x;obtain⟨_,e,_⟩:=p;exact⟨_,e⟩
 |dK kvs=>obtain⟨_,_,_,_,o,_,_,e,_⟩:=x;exact⟨_,e⟩
 |dT kvs=>obtain⟨_,_,_,_,o,_,_,e,_⟩:=x;exact⟨_,e⟩
 |set S n=>obtain⟨o,_,_,_,e,_⟩:=x;exact⟨_,e⟩
 |ins C dx fs=>obtain⟨_,_,_,e,_⟩:=x;exact⟨_,e⟩
 |own y=>exact x
 |xd fs=>obtain⟨_,⟨_,_,_,e,_⟩,_⟩:=x;exact⟨_,e⟩
 |rng lo hi=>obtain⟨_,_,_,e⟩:=x;exact⟨_,e⟩
 |frz ob u=>obtain⟨e,_⟩:=x;exact⟨_,e⟩
 |tbl ps=>exact⟨_,show h.get? a=some _ from x⟩
 |met f y=>exact⟨_,show h.get? a=some _ from x⟩
 |ext φ=>obtain⟨_,e,_⟩:=x;exact e
theorem zL{CX:Aq}{C:Addr}{P:Program}{w:World}{K:QQq}{mg:QZz}{base:Heap}{N:List Str}{qual:Str}{scope:Scope}{f:Addr}{cd:Value}{A:Around}{outer:List Env}{s s2:Shared}{H H2:Hp}{E:XK}
  {QTz:QQz}{σ:L2.St}{h':Heap}{e:Addr}{vs:List Value}
  (hcx:∀{outer H s E e s'},CXE C P w base outer H s E e s'->CX outer H s E e s')(I:L2.Inv (iD CX P w K mg base N qual scope f cd A outer s H E) QTz σ H2 s2)(m:Heap.MadeExcOf s2.heap h' e (.ref C) vs)(hE:E (.ref C) none H2):
  (iD CX P w K mg base N qual scope f cd A outer s H E).xe (.ref e) {s2 with heap:=h'}:=by
 show wpAny _ _ (leaving _ _) _ _ _
 have hst:=I.stack
 have hfree:=I.oX
 have hb:=I.base
 have fl:frs (iD CX P w K mg base N qual scope f cd A outer s H E).stack=s.heap.objs.size::frs outer:=rfl
 rw[fl]at hfree
 have hin:∀env∈(iD CX P w K mg base N qual scope f cd A outer s H E).stack,∀b,env.frame=some b->b∈s.heap.objs.size::frs outer:=fun env he b hb=>by
  rw[<-fl];exact List.mem_filterMap.mpr ⟨env,he,hb⟩
 refine wpAny_leaves_madeW (base:=PySem.W.hideAll s2.heap (s.heap.objs.size::frs outer)) (h:=s2.heap) I.ok.frames rfl (fun b o q=>PySem.W.of_hideAll _ q) (PySem.W.funFrames_hide hst hin) m fun h2 t x1 x2 x3 x4=>?_
 have kp:∀b u,b∉s.heap.objs.size::frs outer->s2.heap.get? b=some u->h2.get? b=some u:=fun b u nb q=>x1.1 b u (PySem.W.hideAll_get _ q nb)
 have up:∀b o,s2.heap.get? b=some o->(∀vs,o.data≠ .fields vs)->∃sl,h2.get? b=some {o with slots:=sl}:=fun b o q n=>x4 b o (m.keeps b o q) n
 have lt:∀b o,s.heap.get? b=some o->b≠s.heap.objs.size:=fun b o q z=>by
  have:=Heap.lt_size q
  rw[z]at this
  exact Nat.lt_irrefl _ this
 have noA:∀b:Addr,b∉(iD CX P w K mg base N qual scope f cd A outer s H E).ex:=fun b z=>absurd (show b∈([]:List Addr)from z) (by simp)
 refine hcx ⟨e,.ref t,_,H2,rfl,I.os,I.bare,⟨x1.1,fun b o q n nf=>?_,fun b o q n nf=>?_,fun b o q n=>hb.free b o q n (noA _),fun b o q nf=>?_,hb.tups,hb.frzs,hb.tbls⟩,?_,x1,?_,?_,fun b o q=>?_,hE⟩
 ·exact PySem.W.hideAll_get _ (hb.keep b o q n nf (noA _)) (fun z=>by rcases List.mem_cons.mp z with z|z;exact lt b o q z;exact nf z)
 ·obtain⟨sl,q2⟩:=hb.slot b o q n nf (noA _)
  have nd:∀vs,o.data≠ .fields vs:=fun vs z=>by
   obtain⟨_,o',q',n'⟩:=hst.mem (b:=b) (by show b∈frs (iD CX P w K mg base N qual scope f cd A outer s H E).stack;rw[fl];exact QYq _ nf)
   rw[q2]at q'
   cases q'
   exact n' vs z
  obtain⟨sl',e2⟩:=up b {o with slots:=sl} q2 nd
  exact⟨sl',e2⟩
 ·obtain⟨o2,q2⟩:=hb.there b o q (noA _)
  exact⟨o2,PySem.W.hideAll_get _ q2 (fun z=>by rcases List.mem_cons.mp z with z|z;exact lt b o q z;exact nf z)⟩
 ·exact ju.frames (l:=s.heap.objs.size::frs outer) I.hok hfree fun b u nb q=>PySem.W.hideAll_get _ q nb
 ·cases q:s.heap.get? e with
  |none=>rfl
  |some o=>
   obtain⟨o2,q2⟩:=hb.there e o q (noA _)
   rw[m.new]at q2
   cases q2
 ·cases q:H2 e with
  |none=>rfl
  |some o=>
   obtain⟨u,z⟩:=b8.here (I.hok e o q)
   rw[m.new]at z
   cases z
 ·refine PySem.W.hideAll_get _ (I.bk b o q) fun z=>?_
  have:=(hst.mem (b:=b) (by rw[<-fl]at z;exact z)).1
  rw[show(iD CX P w K mg base N qual scope f cd A outer s H E).base=base from rfl,q]at this
  cases this
end Mini
end
section
namespace Mini
open PySem PyProof.Rows
def mX:List Str:=["__getattribute__","__getattr__","__class__"]
inductive uX(h:Heap)(bmB:List Value):List Value->Prop
 |base:uX h bmB bmB
 |own {A:Addr} {c0:Value} {dd:Option Addr} {cd:ClassData} {sl:Array (Option Value)} {mA:QZz} {tl:List Value}:
   h.get? A=some {cls:=c0,dict:=dd,data:=.cls cd,slots:=sl}->h.Ns cd.ns mA->(∀n∈mX,mA n=none)->uX h bmB tl->uX h bmB (.ref A::tl)
theorem uX.hasType{h:Heap}{bmB tl:List Value}(T:uX h bmB tl){X:String}{b:Bool}(hb:bmB.contains (.type X)=b):tl.contains (.type X)=b:=by
 induction T with
 |base=>exact hb
 |own _ _ _ _ ih=>rw[List.contains_cons,ih];cases b<;>rfl
section
variable{M:Model}{prog:Program}{w:World}{A:Around}{E:QZq}{h:Heap}{g:Array GenState}{d:Drawn}{t:Nat}{os:OsState}{a:Addr}{o:Obj}
 {nm q:Str}{C N:Addr}{bs bm:List Value}{hdct:Bool}{sn:List Str}{sub:List Value}{ab:Bool}{col:Option Bool}{dd:Option Addr}{k0 k1 k2 k3 k5:Option Value}{newId:String}{mN:QZz}
theorem Oo{D:Addr}{dD:Option Addr}{cD:ClassData}{sD:Array (Option Value)}{dep:Int}{tk:Tok}{Q:Fin->Shared->Prop}(hC:h.get? C=some (excClassObj nm q C N bs bm hdct sn sub ab col dd k0 k1 k2 k3 k5 newId))
  (hx:h.get? a=some o)(hc:o.cls=.ref C)(hD:h.get? D=some ⟨.type "type",dD,.cls cD,sD⟩)(ne:(Value.ref C==Value.ref D)=false)(hm:(Value.ref C::bm).contains (.ref D)=true)(hq:Q (.done (.ret (.bool true))) ⟨h,g,d,t,os⟩):
  wpAny (model prog w) A (Builtin.«isinstance.nested» ⟨[.ref a,.ref D,.int dep tk],[]⟩) Q E ⟨h,g,d,t,os⟩:=by
 have hTD:(⟨h,g,d,t,os⟩:Shared).TypeIs (.ref D) "type":=⟨_,hD,rfl⟩
 repeat (any_goals (first|assumption|(with_reducible refine wpAny_loadPart_at hx ?_;rw[hc])|(with_reducible refine wpAny_isSubtype_exc hC ?_;rw[hm])|wp_step))
theorem Oq{dep:Int}{tk:Tok}{Q:Fin->Shared->Prop}(hC:h.get? C=some (excClassObj nm q C N bs bm hdct sn sub ab col dd k0 k1 k2 k3 k5 newId))
  (hx:h.get? a=some o)(hc:o.cls=.ref C)(hm:(Value.ref C::bm).contains (.type "ValueError")=true)(hq:Q (.done (.ret (.bool true))) ⟨h,g,d,t,os⟩):
  wpAny (model prog w) A (Builtin.«isinstance.nested» ⟨[.ref a,.type "ValueError",.int dep tk],[]⟩) Q E ⟨h,g,d,t,os⟩:=by
 have hty:typeOf (.type "ValueError")=pure (.type "type"):=by kernel_rfl
 have ne:(Value.ref C==Value.type "ValueError")=false:=rfl
 repeat (any_goals (first|assumption|(with_reducible refine wpAny_loadPart_at hx ?_;rw[hc])|(with_reducible refine wpAny_isSubtype_exc hC ?_;rw[hm])|wp_step))
end
end Mini
end
section
namespace Mini
open PySem L2 PyProof.Rows
abbrev xZ(X:Cx)(a:Addr)(oe:Obj):Cx:={X with A:=X.A.mark (some (.ref a)),calm:=false,pn:=(a,oe)::X.pn,xe:=fun _ _=>False}
section
variable{X:Cx}{QTz:QQz}{σ:L2.St}{H:Hp}{s:Shared}{a:Addr}{oe:Obj}
theorem Up(ok:X.Ok):(xZ X a oe).Ok:=
 ⟨ok.mod,ok.kind,ok.glob,ok.blt,ok.above,ok.inj,ok.has,ok.cab,(fun z=>nomatch z),ok.frames,ok.stk,ok.exf,ok.bs,ok.bsz,ok.noex,ok.exfs,ok.j4,ok.frf⟩
theorem BZ(I:L2.Inv X QTz σ H s)(he:s.heap.get? a=some oe)(hH:H a=none)(hl:a≠X.env.locals)(hf:a∉X.fs)(hc:∀v,oe.data≠ .cell v):L2.Inv (xZ X a oe) QTz σ H s:=
 ⟨Up I.ok,I.os,I.bare,I.base,I.loc,I.cell,I.free,I.freeC,fun p hp=>by
  rcases List.mem_cons.mp (show p∈(a,oe)::(X.pn++QTz)from hp)with rfl|hp
  ·exact⟨he,hH,hl,hf,hc⟩
  ·exact I.pin p hp,I.hok,I.len⟩
theorem Jr(I:L2.Inv (xZ X a oe) QTz σ H s)(ok:X.Ok):L2.Inv X QTz σ H s:=
 ⟨ok,I.os,I.bare,I.base,I.loc,I.cell,I.free,I.freeC,fun p hp=>I.pin p (QYq _ hp),I.hok,I.len⟩
theorem Ks(I:L2.Inv (xZ X a oe) QTz σ H s):s.heap.get? a=some oe:=(I.pin (a,oe) (QYz)).1
end
structure Qe(C W T:Addr)(h:Heap):Prop where
 obj:∃nm q N bs bm hdct sn sub ab col dd k0 k1 k2 k3 k5 newId mN,h.get? C=some (excClassObj nm q C N bs bm hdct sn sub ab col dd k0 k1 k2 k3 k5 newId)/\h.Ns N mN/\(∀n∈mX,mN n=none)/\uX h bmV bm/\bm.contains (.ref W)=true/\bm.contains (.ref T)=false
 w:∃d c l,h.get? W=some ⟨.type "type",d,.cls c,l⟩
 t:∃d c l,h.get? T=some ⟨.type "type",d,.cls c,l⟩
 cw:C≠W
 ct:C≠T
section
variable{X:Cx}{a C W T:Addr}{oe:Obj}
theorem FJ(E:∀h,X.K.In h->Qe C W T h)(hc:oe.cls=.ref C):fK (xZ X a oe) (.builtin "isinstance") (fun xs H Q=>xs=[.ref a,.ref W]/\Q (.bl true) H):=by
 intro QTz s σ H xs us Q I r h
 obtain⟨rfl,q⟩:=h
 obtain⟨u,u',rfl,ru,ru'⟩:=Vals.two r
 cases ru;cases ru'
 obtain⟨⟨nm,q',N,bs,bm,hdct,sn,sub,ab,col,dd,k0,k1,k2,k3,k5,newId,mN,hC,hN,hq,T',cW,cT⟩,⟨dW,cdW,sW,hW⟩,_,n1,_⟩:=E _ I.zM
 have hx:=Ks I
 obtain⟨hp,g,d,t,os⟩:=s
 refine call_isinstance_of (Oo hC hx hc hW ?_ ?_ ⟨.bl true,H,I,rfl,q⟩) (by intro z;cases z)
 ·exact beq_false_of_ne fun z=>n1 (by cases z;rfl)
 ·rw[List.contains_cons,cW,Bool.or_true]
theorem FN(E:∀h,X.K.In h->Qe C W T h)(hc:oe.cls=.ref C):fK (xZ X a oe) (.builtin "isinstance") (fun xs H Q=>xs=[.ref a,.ty "ValueError"]/\Q (.bl true) H):=by
 intro QTz s σ H xs us Q I r h
 obtain⟨rfl,q⟩:=h
 obtain⟨u,u',rfl,ru,ru'⟩:=Vals.two r
 cases ru;cases ru'
 obtain⟨⟨nm,q',N,bs,bm,hdct,sn,sub,ab,col,dd,k0,k1,k2,k3,k5,newId,mN,hC,hN,hq,T',cW,cT⟩,_,_,_,_⟩:=E _ I.zM
 have hx:=Ks I
 obtain⟨hp,g,d,t,os⟩:=s
 refine call_isinstance_of (Oq hC hx hc ?_ ⟨.bl true,H,I,rfl,q⟩) (by intro z;cases z)
 rw[List.contains_cons,T'.hasType (X:="ValueError") (b:=true) (by decide+kernel),Bool.or_true]
end
section
variable{X:Cx}{a C W T:Addr}{oe:Obj}{en wx tx cx:Str}{i:Nat}{q1 q2 q3 q4 q5 q6 q7 q8 q9 r1 r2 r3 r4 r5:Pos}
end
end Mini
end
section
namespace Mini
open PySem L2 PyProof.Rows
def K6(P:Program)(w:World)(base:Heap):Aq:=fun outer H s E e s'=>∃C,CXE C P w base outer H s E e s'
def QC(K:QQq)(n:Nat)(cls:Nat->Option Addr)(f:List Sl->Res):Sp:=fun vs H Q E=>∃ps,vs.length=n/\Sat K ps (vs.map some) H/\noOwn ps/\match f ps with
 |.ok r qs=>∀v H',Cz K ps vs H qs H'->aa9 K H H' r v->Q v H'
 |.exc j qs=>∃C,cls j=some C/\∀H',Cz K ps vs H qs H'->E (.ref C) none H'
 |.bad=>False
def WE(cls:Nat->Option Addr)(E:XK):Wi:=fun j _ _ H=>∃C,cls j=some C/\E (.ref C) none H
section
variable{P:Program}{w:World}{K:QQq}{mg:QZz}{base:Heap}{cls:Nat->Option Addr}
theorem JN{x qual:Str}{st:Stmt}{f:Addr}{fd:FuncData}{N ps:List Str}{k:Nat}{c:Cf}{g:Fn}(F:Qd K x qual st f fd)(S:eG N ps (aF st))(hp:g.pars=ps.length)(hn:g.names=N.length)
  (hb:∀(cdv:Value)(A:Around)(outer:List Env)(s:Shared)(H:Hp)(E:XK),gY k (A.deeper (PyProof.Rows.envOfC qual (aF st) s.heap.objs.size f cdv))->K1 (iD (K6 P w base) P w K mg base N qual (aF st) f cdv A outer s H E) (WE cls E) c g.body (cJ st)):
  gm P w K mg base (K6 P w base) (k+1) f fd ps (QC K ps.length cls (eO c g)):=by
 obtain⟨oc,od,kV,doc,pm,an,cdv,ct,osl,rfl,lk,hcd⟩:=F.ex
 refine Rn lk hcd S (fun vs H Q E h=>?_) fun A outer s H vs Q E hr h=>?_
 ·obtain⟨_,h,_⟩:=h
  exact h
 ·obtain⟨sl,hl,S0,no,q⟩:=h
  refine⟨_,hb cdv A outer s H E hr (sl++List.replicate (g.names-g.pars) .un),?_⟩
  have hlen:sl.length=vs.length:=by simpa using S0.len
  have hst:L2.start N vs=vs.map some++List.replicate (g.names-g.pars) none:=by
   unfold L2.start
   rw[hn,hp,hl]
  have e0:eO c g sl=match ex c g.body (sl++List.replicate (g.names-g.pars) .un)with
    |.next σ=>.ok (.val .non) (σ.take g.pars)
    |.ret r σ=>.ok r (σ.take g.pars)
    |.exc k σ=>.exc k (σ.take g.pars)
    |_=>.bad:=by
   unfold eO
   rw[if_pos (by rw[hp,<-hl,hlen])]<;>cases ex c g.body (sl++List.replicate (g.names-g.pars) .un)<;>rfl
  rw[e0]at q
  rw[hst]
  refine⟨S0.pad _,?_⟩
  have hg:vs.length=g.pars:=by rw[hl,hp]
  cases r:ex c g.body (sl++List.replicate (g.names-g.pars) .un)with
  |next env'=>rw[r]at q;exact fun σ' H' N=>q .non H' (N.cz S0 hg) rfl
  |ret rv env'=>
   rw[r]at q
   refine fun v σ' H' N z=>q v H' (N.cz S0 hg) ?_
   cases rv with
   |val d=>exact z
   |new o=>
    obtain⟨a,e1,e2,e3⟩:=z
    refine⟨a,e1,e2,?_⟩
    rcases e3 with e3|⟨i,ys,e3,_⟩
    ·exact e3
    ·by_cases hi:i<sl.length
     ·rw[List.getElem?_append_left hi]at e3
      exact absurd e3 (no i ys)
     ·rw[List.getElem?_append_right (by omega),List.getElem?_replicate]at e3
      split at e3<;>cases e3
   |ref i=>exact z.elim
   |tmp o=>exact z.elim
  |brk env'=>rw[r]at q;exact q.elim
  |cont env'=>rw[r]at q;exact q.elim
  |exc j env'=>
   rw[r]at q
   obtain⟨C,hC,q⟩:=q
   exact fun σ' H' N=>⟨C,hC,q H' (N.cz S0 hg)⟩
  |bad=>rw[r]at q;exact q.elim
theorem Fg{N:List Str}{qual x m:Str}{scope:Scope}{f:Addr}{cd:Value}{A:Around}{outer:List Env}{s:Shared}{H:Hp}{E:XK}{c:Cf}{C:Addr}{j k:Nat}{np cp cpos pos:Pos}(hC:cls j=some C)(O:∀h,K.In h->KY x C mg h)
  (hg:Gl (iD (K6 P w base) P w K mg base N qual scope f cd A outer s H E) x)(hd:(x==("__debug__":Str))=false):
  GS (iD (K6 P w base) P w K mg base N qual scope f cd A outer s H E) (WE cls E) c (.raise j) (.Raise (some (.Call (.Name x np) [.Constant (.str m) k cp] [] cpos)) none pos):=fun env QTz s2 σ H2 D I q=>by
 simp only[RM]at q
 obtain⟨S,q⟩:=q
 obtain⟨C',e,hE⟩:=q σ H2 (Nz.refl S)
 rw[hC]at e
 cases e
 exact wp_raise O hg rfl I (fun s3 h' e vs I3 hm=>zL (fun z=>⟨C,z⟩) I3 hm hE) hd
structure CV(K:QQq)(mg:QZz)(cls:Nat->Option Addr)(exs:List Str):Prop where
 zero:cls 0=none
 at_:∀k x,exs[k]? =some x->∃C,cls (k+1)=some C/\∀h,K.In h->KY x C mg h
theorem acP{C:Ct}{N:List Str}{qual:Str}{f:Addr}{cd:Value}{A:Around}{outer:List Env}{s:Shared}{H:Hp}{E:XK}{c:Cf}(hx:CV K mg cls C.exs):
  Top C (iD (K6 P w base) P w K mg base N qual C.sc f cd A outer s H E) (WE cls E) c:=by
 refine⟨fun _=>rfl,PassesOwn.leaving,fun e g p n m h=>?_⟩
 rw[Bk h]
 have none_:∀st,GS (iD (K6 P w base) P w K mg base N qual C.sc f cd A outer s H E) (WE cls E) c (.raise 0) st:=fun st env QTz s2 σ H2 D I q=>by
  simp only[RM]at q
  obtain⟨S,q⟩:=q
  obtain⟨C',e,_⟩:=q σ H2 (Nz.refl S)
  rw[hx.zero]at e
  cases e
 unfold yZ
 split
 ·split
  ·rename_i hg
   rw[QVz]at hg
   split
   ·rename_i k hk
    obtain⟨A',h1,h2⟩:=hx.at_ k _ (gG hk)
    refine Fg h1 h2 ?_ (vI hg.2).1
    have:=hg.1
    unfold yI at this
    exact(by simpa using this:C.sc.names.lookup _=some .globalImplicit)
   ·exact none_ _
  ·exact none_ _
 ·exact none_ _
end
end Mini
end
section
namespace Mini
open PySem L2 PyProof.Rows
section
variable{M:Model}{A:Around}{E:QZq}{nm q nm' q':Str}{C N D N':Addr}{bs bm bs' bm':List Value}{hdct hdct':Bool}{sn sn':List Str}{sub sub':List Value}{ab ab':Bool}{col col':Option Bool}{dd dd':Option Addr}{k0 k1 k2 k3 k5 k0' k1' k2' k3' k5':Option Value}{newId newId':String}
theorem nH{h:Heap}{g:Array GenState}{d:Drawn}{t:Nat}{os:OsState}{e:Addr}{oe:Obj}{Q:Bool->Shared->Prop}
  (hC:h.get? C=some (excClassObj nm q C N bs bm hdct sn sub ab col dd k0 k1 k2 k3 k5 newId))(hD:h.get? D=some (excClassObj nm' q' D N' bs' bm' hdct' sn' sub' ab' col' dd' k0' k1' k2' k3' k5' newId'))(he:h.get? e=some oe)(hcls:oe.cls=.ref C)(hbase:bm'.contains (.type "BaseException")=true)
  (hno:(Value.ref C::bm).contains (.ref D)=false)(hq:Q false ⟨h,g,d,t,os⟩):wpAny M A (excMatches (.ref e) (.ref D)) Q E ⟨h,g,d,t,os⟩:=by
 have hcB:(Value.ref D::bm').contains (.type "BaseException")=true:=by rw[List.contains_cons,hbase,Bool.or_true]
 have f:=tc_notTuple
 unfold excMatches
 repeat (first|(with_reducible refine wpAny_loadPart_at he ?_;rw[hcls])|with_reducible refine wpAny_loadPart_at hD ?_|(with_reducible refine wpAny_isSubtype_exc hD ?_;rw[hcB])|(with_reducible refine wpAny_isSubtype_exc hC ?_;rw[hno])|wp_step)
 exact hq
end
def RJ(C D:Addr)(h:Heap):Prop:=∃nm q N bs bm hdct sn sub ab col dd k0 k1 k2 k3 k5 newId nm' q' N' bs' bm' hdct' sn' sub' ab' col' dd' k0' k1' k2' k3' k5' newId',
 h.get? C=some (excClassObj nm q C N bs bm hdct sn sub ab col dd k0 k1 k2 k3 k5 newId)/\h.get? D=some (excClassObj nm' q' D N' bs' bm' hdct' sn' sub' ab' col' dd' k0' k1' k2' k3' k5' newId')/\bm'.contains (.type "BaseException")=true/\(Value.ref C::bm).contains (.ref D)=false
section
variable{prog:Program}{w:World}{A:Around}{E:QZq}{s:Shared}{env:Env}
theorem sE{e C D:Addr}{t:Expr}{name:Option Str}{body:List Stmt}{pos:Pos}{rest:List ExceptHandler}{Q:Flow->Shared->Prop}
  (h:wpAny (model prog w) (A.mark (some (.ref e))) (eval t env) (fun c s₁=>c=.ref D/\RJ C D s₁.heap/\(∃oe,s₁.heap.get? e=some oe/\oe.cls=.ref C)/\wpAny (model prog w) A (handleBy (.ref e) env rest) Q E s₁) (notedBy (model prog w) (A.mark (some (.ref e))) env (cameBackBy (model prog w) A env E)) s):
  wpAny (model prog w) A (handleBy (.ref e) env (.ExceptHandler (some t) name body pos::rest)) Q E s:=by
 refine wpAny_handleBy_cons (codeAny_handlers_test (wpAny_mono h (fun c s₁ h₁=>?_) fun _ _ y=>y)) (by intro q;cases q)
 obtain⟨rfl,⟨nm,q,N,bs,bm,hdct,sn,sub,ab,col,dd,k0,k1,k2,k3,k5,newId,nm',q',N',bs',bm',hdct',sn',sub',ab',col',dd',k0',k1',k2',k3',k5',newId',hC,hD,hb,hn⟩,⟨oe,he,hcls⟩,hk⟩:=h₁
 obtain⟨hh,g,d,tk,os⟩:=s₁
 exact nH hC hD he hcls hb hn hk
end
section
variable{X:Cx}{a C W T:Addr}{oe:Obj}{en wx:Str}{k0 i:Nat}{word:Str}{q1 q2 q3 q4 q5 q6 q7 q8 q9 r1 r2 r3 r4:Pos}
abbrev aax(en wx:Str)(q1 q2 q3 q4 q5 q6 q7 q8 q9:Pos):Expr:=
 .BoolOp .And [.Call (.Name "isinstance" q1) [.Name en q2,.Name wx q3] [] q4,.Call (.Name "isinstance" q5) [.Name en q6,.Name "ValueError" q7] [] q8] q9
theorem Ni(E:∀h,X.K.In h->Qe C W T h)(hc:oe.cls=.ref C)(hNi:X.N[i]? =some en)(vi:Wh X.env.scope en)(g1:Gl X "isinstance")(g2:Gl X wx)(g3:Gl X "ValueError")
  (m1:X.mg "isinstance"=none)(m2:X.mg wx=some (.ref W))(m3:X.mg "ValueError"=none)(d1:(en==("__debug__":Str))=false)(d2:(en==("__classdict__":Str))=false)(d3:(wx==("__debug__":Str))=false):
  PE (xZ X a oe) (aax en wx q1 q2 q3 q4 q5 q6 q7 q8 q9) (fun σ H Q=>σ[i]? =some (some (.ref a))/\Q (.bl true) H):=by
 have ve:∀{q:Pos},PE (xZ X a oe) (.Name en q) (Dl i):=fun{q}=>zx hNi vi d1 d2
 have A1:=jB (p:=q1) (pos:=q4) (FJ (a:=a) E hc) g1 m1 (by kernel_rfl) (bI (ve (q:=q2)) (bI (Bp (v:=.ref W) (pos:=q3) g2 m2 rfl d3) dg)) (by decide+kernel) (by decide+kernel)
 have A2:=jB (p:=q5) (pos:=q8) (FN (a:=a) E hc) g1 m1 (by kernel_rfl) (bI (ve (q:=q6)) (bI (Bq (x:="ValueError") (v:=.ty "ValueError") (u:=.type "ValueError") (pos:=q7) g3 m3 (by kernel_rfl) rfl (by decide+kernel) (by decide+kernel)) dg)) (by decide+kernel) (by decide+kernel)
 refine PE.imp (HX (pos:=q9) A1 (zy A2)) fun σ H Q⟨e,q⟩=>?_
 exact⟨_,e,rfl,true,rfl,_,e,rfl,q⟩
theorem Nj{bs:List Expr}{bp:Pos}(hB:PE (xZ X a oe) (.BoolOp .And bs bp) (fun σ H Q=>σ[i]? =some (some (.ref a))/\Q (.bl true) H))(g4:Gl X "int")(m4:X.mg "int"=none):PE (xZ X a oe) (.Call (.Name "int" r2) [.BoolOp .And bs bp] [] r3) (fun σ H Q=>σ[i]? =some (some (.ref a))/\Q (.int 1) H):=
 PE.imp (jN (p:=r2) (pos:=r3) (uK (X:=xZ X a oe)) g4 m4 PyProof.Rows.boot_int (bI hB dg) (by decide+kernel) (by decide+kernel)) fun σ H Q⟨e,q⟩=>⟨e,.inr ⟨true,rfl,q⟩⟩
def Alc(H H':Hp):Prop:=H'=H\/∃p o,H p=none/\H'=upd H p o
theorem Ng{bs:List Expr}{bp p1 p2 p3 p4:Pos}{k1 k2:Nat}(hB:PE (xZ X a oe) (.BoolOp .And bs bp) (fun σ H Q=>σ[i]? =some (some (.ref a))/\Q (.bl true) H))(g4:Gl X "int")(m4:X.mg "int"=none):PE (xZ X a oe) (.Subscript (.List [.Constant (.int 0) k1 p1,.Constant .none k2 p2] p3) (.Call (.Name "int" r2) [.BoolOp .And bs bp] [] r3) p4) (fun σ H Q=>σ[i]? =some (some (.ref a))/\∀H1,Alc H H1->Q .non H1):=
 PE.imp (HN vM (HJ (bI (HQ (i:=0)) (bI HH dg))) (Nj hB g4 m4) (fun _ _=>rfl)) fun σ H Q⟨e,q⟩=>⟨by decide,fun p hp=>⟨e,p,[.int 0,.non],1,.non,rfl,rfl,.inl (.inl aQ),rfl,q _ (.inr ⟨p,_,hp,rfl⟩)⟩⟩
end
end Mini
end
section
namespace Mini
open PySem L2 PyProof.Rows
def aa8(X:Cx)(C:Addr)(h:ExceptHandler):Prop:=∃(dx:Str)(D:Addr)(p:Pos)(n:Option Str)(b:List Stmt)(pos:Pos),h=.ExceptHandler (some (.Name dx p)) n b pos/\Gl X dx/\X.mg dx=some (.ref D)/\(dx==("__debug__":Str))=false/\∀hp,X.K.In hp->RJ C D hp
structure Tells(X:Cx)(C:Addr)(v:V)(hs:List ExceptHandler):Prop where
 ex:∃(hs1 rest:List ExceptHandler)(cx en:Str)(re:Expr)(p5 p7 p8:Pos)(i:Nat),hs=hs1++ .ExceptHandler (some (.Name cx p5)) (some en) [.Return (some re) p7] p8::rest/\(∀h,X.K.In h->KY cx C X.mg h)/\Gl X cx/\(cx==("__debug__":Str))=false/\X.N[i]? =some en/\X.env.scope.names.lookup en=some .local/\
  (∀(a:Addr)(oe:Obj),oe.cls=.ref C->PE (xZ X a oe) re (fun σ H Q=>σ[i]? =some (some (.ref a))/\∀H1,Alc H H1->Q v H1))/\∀h∈hs1,aa8 X C h
section
variable{X:Cx}{QTz:QQz}{σ:L2.St}{H:Hp}{s:Shared}
theorem Fd{h':Heap}{t':Nat}{m':QZz}(I:L2.Inv X QTz σ H s)(hs:Heap.SameBut X.env.locals s.heap h')(hn:h'.Ns X.env.locals m'):L2.Inv X QTz (List.replicate X.N.length none) H {s with heap:=h',toks:=t'}:=by
 have ne:∀{b:Addr}{o:Obj},X.s₀.heap.get? b=some o->b≠X.env.locals:=fun e=>Nat.ne_of_lt (Nat.lt_of_lt_of_le (Heap.lt_size e) I.ok.above)
 refine⟨I.ok,I.os,I.bare,⟨fun b o e n hb hx=>?_,fun b o e n hb hx=>?_,I.base.free,fun b o e hx=>?_,I.base.tups,I.base.frzs,I.base.tbls⟩,⟨m',hn,fun j y v e1 e2 e3=>?_⟩,fun y c e=>?_,I.free,I.freeC,fun p hp=>?_,?_,by simp⟩
 ·exact(hs.2 b (ne e)).trans (I.base.keep b o e n hb hx)
 ·obtain⟨sl,e1⟩:=I.base.slot b o e n hb hx
  exact⟨sl,(hs.2 b (ne e)).trans e1⟩
 ·obtain⟨o',e1⟩:=I.base.there b o e hx
  exact⟨o',(hs.2 b (ne e)).trans e1⟩
 ·rw[List.getElem?_replicate]at e2
  split at e2<;>cases e2
 ·obtain⟨w',z⟩:=I.cell y c e
  exact⟨w',z.sameBut hs (I.Rw y c e)⟩
 ·obtain⟨e,n,ne,nf,d⟩:=I.pin p hp
  exact⟨(hs.2 p.1 ne).trans e,n,ne,nf,d⟩
 ·refine ju.frames (l:=[X.env.locals]) I.hok (fun b z=>?_) fun b u nb q=>(hs.2 b fun z=>nb (by rw[z];exact .head _)).trans q
  rw[List.mem_singleton.mp z];exact I.free
theorem Wa{C:Addr}{hs:List ExceptHandler}{D:Ends}{v:V}{e:Value}{s':Shared}{H1:Hp}{s1:Shared}(I1:L2.Inv X QTz σ H1 s1)(c:CXE C X.prog X.w X.base X.stack H1 s1 (fun _ _ H'=>∀H1,Alc H' H1->D.rt v H1) e s')(stk:X.stack=X.env::X.outer)(Ge:X.env.frame=some X.env.locals)
  (hN:X.N.Nodup)(T:Tells X C v hs):
  wpAny (model X.prog X.w) X.A (noteFrame e X.env) (fun _ s₂=>wpAny (model X.prog X.w) X.A (setFlight e none) (fun _ s₃=>
   wpAny (model X.prog X.w) X.A (handleBy e X.env hs) (SP X QTz D) X.xe s₃) X.xe s₂) X.xe s':=by
 obtain⟨hs1,rest,cx,en,re,p5,p7,p8,i,rfl,O,g0,d0,hNi,le,hw,sk⟩:=T.ex
 obtain⟨a,a0,B,H',rfl,os,bare,lt,hokB,fl,an,hHa,bB,q⟩:=c
 have fr:=I1.oX
 have hfr:X.A.frames=some (X.env::X.outer):=by rw[I1.ok.frames,stk]
 have nf:∀{h:Heap},h.FunFrames B X.stack->∀b∈frs X.stack,∃o,h.get? b=some o/\∀vs,o.data≠ .fields vs:=fun F b hb=>(F.mem hb).2
 have inv:∀{h:Heap},Ak (frs X.stack) H1 H' s1.heap B h->L2.Inv X QTz σ H' {s' with heap:=h}:=fun{h}L=>
  I1.call' (s':={s' with heap:=h}) (ch:=[]) os (L.un fr) (hokB.kept L.stays) bare fun b z=>absurd z (by simp)
 have nl:a≠X.env.locals:=fun z=>by
  obtain⟨m,⟨o,es,ep,ho,_⟩,_⟩:=I1.loc
  rw[<-z,an]at ho;cases ho
 have nfs:a∉X.fs:=fun z=>by
  obtain⟨_,o,ho,_⟩:=I1.stack.mem (b:=a) (by rw[stk];show a∈frs (X.env::X.outer);unfold frs;rw[List.filterMap_cons,Ge];exact QYq _ z)
  rw[an]at ho;cases ho
 have hlk:X.env.kindOf en=some .local:=le
 have hcls:(X.env.scope.kind== .class||(X.env.scope.kind== .module&&X.env.locals !=X.env.globals))=false:=by rw[I1.ok.kind];rfl
 have fl0:=fl
 rw[stk]at fl
 refine wpAny_looks_onW hfr Ge fl fun h1 held up1=>?_
 have L1:=lt.move held.1 up1 (nf fl0.2.2.1)
 refine wpAny_landsW held fun h2 fl2 up2=>?_
 have L2':=L1.move fl2.1 up2 (nf (by rw[stk];exact held.2.2.1))
 obtain⟨oe,vs,hoe,hoc,hod,ho0⟩:=fl2.first
 have Im:=BZ (inv L2') hoe hHa nl nfs (fun v z=>by rw[hod]at z;cases z)
 have go:∀hs1:List ExceptHandler,(∀h∈hs1,aa8 X C h)->wpAny (model X.prog X.w) X.A (handleBy (.ref a) X.env (.ExceptHandler (some (.Name cx p5)) (some en) [.Return (some re) p7] p8::rest)) (SP X QTz D) X.xe {s' with heap:=h2}->
   wpAny (model X.prog X.w) X.A (handleBy (.ref a) X.env (hs1++ .ExceptHandler (some (.Name cx p5)) (some en) [.Return (some re) p7] p8::rest)) (SP X QTz D) X.xe {s' with heap:=h2}:=by
  intro hs1
  induction hs1 with
  |nil=>intro _ z;exact z
  |cons h0 hs1 ih=>
   intro hk z
   obtain⟨dx,D',p,n,b,pos,rfl,gl,mg,db,ns⟩:=hk h0 QYz
   exact sE (jT (X:=xZ X a oe) Im gl mg ⟨rfl,ns _ (inv L2').zM,⟨oe,hoe,hoc⟩,ih (fun h hh=>hk h (QYq _ hh)) z⟩ db)
 refine go hs1 sk ?_
 refine handleBy_own_as (C:=C) (x:=cx) (bmB:=bmV) (newId:="ValueError.__new__") (mg:=X.mg) (by decide+kernel) (jT (X:=xZ X a oe) Im g0 (O _ (inv L2').zM).bound ⟨rfl,O _ (inv L2').zM,⟨oe,hoe,hoc⟩,?_⟩ d0)
 refine lands_againW fl2 fun h3 fl3 up3=>?_
 have L3:=L2'.move fl3.1 up3 (nf (by rw[stk];exact fl2.2.2.1))
 obtain⟨oe3,vs3,hoe3,hoc3,hod3,_⟩:=fl3.first
 have I3:=BZ (inv L3) hoe3 hHa nl nfs (fun v z=>by rw[hod3]at z;cases z)
 refine pH (X:=xZ X a oe3) I3 hN hNi (.inl le) (v:=.ref a) rfl (fun s4 I4=>?_) (.inr le)
 have hi:i<σ.length:=by rw[I1.len];exact(List.getElem?_eq_some_iff.mp hNi).1
 refine wpAny_mono ((M5 (kZ (pos:=p7) (hw a oe3 hoc3))) QTz s4 _ H' {nx:=fun _ _=>False,rt:=D.rt} I4 ⟨List.getElem?_set_self hi,q⟩) (fun f s5 h5=>?_) fun _ _ z=>False.elim z
 cases f with
 |ret u=>
  obtain⟨v,σ5,H5,I5,rv,q5⟩:=h5
  have I6:=Jr I5 I1.ok
  obtain⟨m,hn,_⟩:=I6.loc
  exact wpAny_nameGoes hlk hn hcls fun h6 m6 hn6 hs6=>⟨v,_,H5,Fd I6 hs6 hn6,rv,q5⟩
 |next=>obtain⟨_,_,_,z⟩:=h5;exact False.elim z
 |brk=>obtain⟨_,_,_,z⟩:=h5;exact False.elim z
 |cont=>obtain⟨_,_,_,z⟩:=h5;exact False.elim z
end
end Mini
end
section
namespace Mini
open PySem L2 PyProof.Rows
section
variable{X:Cx}{c:Cf}{m:E}{e:Expr}{es:List Expr}{k g:Nat}{fc:Addr}{fdc:FuncData}{ps:List Str}{fx:Str}{cls:Nat->Option Addr}{ws:List (Nat×D)}{h0:ExceptHandler}{hs:List ExceptHandler}{p1 p3 p4 p9:Pos}
theorem Ow(G:gm X.prog X.w X.K X.mg X.base (K6 X.prog X.w X.base) k fc fdc ps (QC X.K ps.length cls (c.fn g)))(hr:gY k X.A)(gf:Gl X fx)(mf:X.mg fx=some (.ref fc))(kp:PySem.W.keepIn X.K (.ref fc)=true)(bf:Binds X.K fdc ps [])
  (df:(fx==("__debug__":Str))=false)(ha:GA X.QW W0 c m (e::es))(he:starEach (e::es) X.env=(false,eval e X.env)::starEach es X.env)(hpl:(backTo p3 (starEach es X.env)).any (·.1)=false)(hn:∀sl,c.fn g sl=.bad\/sl.length=ps.length)
  (stk:X.stack=X.env::X.outer)(Ge:X.env.frame=some X.env.locals)(hN:X.N.Nodup)(T:∀j w,ws.lookup j=some w->∃C v,cls j=some C/\(∀H,bH X.K H w v)/\Tells X C v (h0::hs)):
  GS X W0 c (.ret (.tcall g m ws)) (.Try [.Return (some (.Call (.Name fx p1) (e::es) [] p3)) p4] (h0::hs) [] [] p9):=by
 intro env QTz s σ H D I q
 simp only[wK,E.az,acK]at q
 obtain⟨S,q⟩:=q
 refine wpAny_Try_except (wpAny_execs_cons (wpAny_Return_some (wpAny_Call_Name_kw (jT I gf mf ?_ df))))
 have ha':Yt X.QW.K W0 env (evs c m env) σ H (fun vs H1=>∃rs env1,evs c m env=.ok rs env1/\Nx X.K env σ H env1 H1/\iG X.K σ H H1 rs vs):=by
  refine⟨S,?_⟩
  cases r:evs c m env with
  |bad=>rw[r]at q;exact q.elim
  |exc j env1=>rw[r]at q;exact fun H1 N=>q σ H1 N.z
  |ok rs env1=>exact fun vs H1 N rv=>⟨rs,env1,rfl,N,rv⟩
 refine PySem.W.callWith_K (h₀:=X.base) I.ok.mod.kin kp (wpAny_mono (ha env p3 QTz s σ H _ (I.wish _) ha') (fun us s1 hq=>?_) fun _ _ z=>False.elim z) he hpl
 obtain⟨vs,H1,I1,r,rs,env1,er,N,rv⟩:=hq
 have I1:=I1.iI
 refine⟨I1.zM,?_⟩
 rw[er]at q
 simp only[Out.bind,iK]at q
 cases e1:enter rs env1 with
 |none=>rw[e1]at q;exact q.elim
 |some sl=>
  rw[e1]at q
  simp only at q
  have En:=iC N.fD e1 rv
  have hsl:sl.length=ps.length:=by
   rcases hn sl with z|z
   ·rw[z]at q;exact q.elim
   ·exact z
  have sp:QC X.K ps.length cls (c.fn g) vs H1 (fun v H2=>D.rt v H2) (fun Cv _ H2=>∃j w C,cls j=some C/\Cv=.ref C/\ws.lookup j=some w/\∀H3,Alc H2 H3->∀v,bH X.K H3 w v->D.rt v H3):=by
   refine⟨sl,by rw[<-En.len.1,hsl],En.fD S N.fD N.sub,En.noOwn,?_⟩
   cases e2:c.fn g sl with
   |bad=>rw[e2]at q;exact q.elim
   |ok rv qs=>
    rw[e2]at q
    simp only at q
    intro v H2 C z
    cases e3:giveBack rs qs env1 with
    |none=>rw[e3]at q;exact q.elim
    |some env2=>
     rw[e3]at q
     have N2:=(ww S N En C e3).z
     cases rv with
     |val d=>exact q v σ H2 N2 z
     |new o=>obtain⟨a,z1,z2,z3⟩:=z;exact q v σ H2 N2 ⟨a,z1,z2,.inl (N.dom a z3)⟩
     |ref i=>exact z.elim
     |tmp o=>exact z.elim
   |exc j qs=>
    rw[e2]at q
    simp only at q
    cases e4:ws.lookup j with
    |none=>rw[e4]at q;exact q.elim
    |some w=>
     rw[e4]at q
     cases e3:giveBack rs qs env1 with
     |none=>rw[e3]at q;exact q.elim
     |some env2=>
      rw[e3]at q
      obtain⟨C,v,hC,_⟩:=T j w e4
      exact⟨C,hC,fun H2 cz=>⟨j,w,C,hC,rfl,e4,fun H3 al v z=>by
       have N2:=ww S N En cz e3
       rcases al with rfl|⟨p,o,hp,rfl⟩
       ·exact q v σ _ N2.z z
       ·exact q v σ _ (N2.trans (Nx.laid N2.fD hp)).z z⟩⟩
  have hl:us.length=ps.length:=by rw[<-r.length,<-En.len.1,hsl]
  refine wpAny_call (codeAny_mono (G.run X.A X.stack s1 H1 ⟨us,[]⟩ us vs _ _ hr I1.env0 (by have:=bf s1 us I1.zM (by simpa using hl);rw[List.append_nil]at this;exact this) r sp) fun rr s' hq=>?_)
  cases rr with
  |error ex=>
   obtain⟨C,a,a0,B,H',h1,h2,h3,h4,h5,h6,h7,h8,h9,j,w,C',hj,hC,hw,hD⟩:=hq
   cases hC
   obtain⟨C2,v,hj2,dv,T2⟩:=T j w hw
   rw[hj]at hj2
   cases hj2
   exact Wa I1 ⟨a,a0,B,H',h1,h2,h3,h4,h5,h6,h7,h8,h9,fun H1 al=>hD H1 al v (dv _)⟩ stk Ge hN T2
  |ok fl=>
   cases fl with
   |ret u=>
    obtain⟨v,H',I',rv',q'⟩:=I1.after hq
    exact⟨v,σ,H',I',rv',q'⟩
   |next=>exact False.elim hq
   |brk=>exact False.elim hq
   |cont=>exact False.elim hq
end
end Mini
end
section
namespace Mini
open PySem L2
section
variable{P:Program}{w:World}{K:QQq}{mg:QZz}{base:Heap}{cls:Nat->Option Addr}
theorem vg{x fx:Str}{st:Stmt}{f fc:Addr}{fd fdc:FuncData}{N ps qs:List Str}{k g:Nat}{c:Cf}{m:E}{e:Expr}{es:List Expr}{ws:List (Nat×D)}{h0:ExceptHandler}{hs:List ExceptHandler}{p1 p3 p4 p9:Pos}
  (F:Qd K x x st f fd)(S:eG N qs (aF st))(hb:cJ st=[.Try [.Return (some (.Call (.Name fx p1) (e::es) [] p3)) p4] (h0::hs) [] [] p9])
  (G:gm P w K mg base (K6 P w base) k fc fdc ps (QC K ps.length cls (c.fn g)))(mf:mg fx=some (.ref fc))(kp:PySem.W.keepIn K (.ref fc)=true)(bf:Binds K fdc ps [])(lf:(aF st).names.lookup fx=some .globalImplicit)(df:(fx==("__debug__":Str))=false)
  (ha:∀X:Cx,X.N=N->X.env.scope=aF st->GA X W0 c m (e::es))(he:∀env,starEach (e::es) env=(false,eval e env)::starEach es env)(hpl:∀env,(backTo p3 (starEach es env)).any (·.1)=false)(hn:∀sl,c.fn g sl=.bad\/sl.length=ps.length)
  (T:∀X:Cx,X.K=K->X.mg=mg->X.N=N->X.env.scope=aF st->∀j w,ws.lookup j=some w->∃C v,cls j=some C/\(∀H,bH X.K H w v)/\Tells X C v (h0::hs)):
  gm P w K mg base yF (k+1) f fd qs (lE K qs.length (eO c ⟨qs.length,N.length,.cons (.ret (.tcall g m ws)) .nil⟩)):=
 Cg F S rfl rfl fun cdv A outer s H E hr=>by
  rw[hb]
  exact ye (Ow (X:=(iD yF P w K mg base N x (aF st) f cdv A outer s H E).QW) G hr lf mf kp bf df (ha _ rfl rfl) (he _) (hpl _) hn rfl rfl S.nd (T _ rfl rfl rfl rfl)) Cd
theorem qD{p:Pg}{i n:Nat}{g:Fn}(h:p.fns[i]? =some g):p.fn (n+1) i=eO (p.cf n) g:=by
 funext ps
 show(match p.fns[i]? with|some g=>eO (p.cf n) g ps|none=>.bad)=_
 rw[h]
variable{ds:List Df}{jr:List Str}{p:Pg}{fa:Nat->Addr}{fd:Nat->FuncData}{t r:Nat}{dr:Df}
theorem Hy(hfn:∀i d,ds[i]? =some d->kI K mg d (fa i) (fd i))(hsc:∀d∈ds,eG d.N d.ps (aF d.st))(htr:∀(i:Nat)d,i≠t->ds[i]? =some d->∃g,p.fns[i]? =some g/\fnOf ds jr d=some g)
  (hrt:r≠t)(hr0:ds[r]? =some dr)(hex:CV K mg cls dr.exs)
  (hsp:∀d,ds[t]? =some d->(∃g,p.fns[t]? =some g/\g.pars=d.ps.length)/\∀n,gm P w K mg base (K6 P w base) n (fa r) (fd r) dr.ps (QC K dr.ps.length cls (p.fn n r))->(∀sl,p.fn n r sl=.bad\/sl.length=dr.ps.length)->gm P w K mg base yF (n+1) (fa t) (fd t) d.ps (lE K d.ps.length (p.fn (n+1) t)))
  (hbi:∀x∈o7,mg x=none)(hgl:∀(k:Nat)x,jr[k]? =some x->∃d v u,p.gl k=some d/\mg x=some u/\RelV v u/\∀H,bH K H d v):
  ∀(n i:Nat)d,ds[i]? =some d->gm P w K mg base yF n (fa i) (fd i) d.ps (lE K d.ps.length (p.fn n i)):=by
 have len:∀(n g:Nat)d2,ds[g]? =some d2->∀sl,p.fn n g sl=.bad\/sl.length=d2.ps.length:=fun n g d2 q sl=>by
  cases n with
  |zero=>exact .inl rfl
  |succ n=>
   by_cases hgr:g=t
   ·subst hgr
    obtain⟨⟨g2,h1,h2⟩,_⟩:=hsp d2 q
    rw[qD h1,<-h2]
    exact tE (p.cf n) _ sl
   ·obtain⟨g2,hg2,ht2⟩:=htr g d2 hgr q
    unfold fnOf at ht2
    simp only[QJz]at ht2
    obtain⟨b2,hb2,rfl⟩:=ht2
    rw[qD hg2]
    exact tE (p.cf n) _ sl
 have xok:∀(n:Nat)(d:Df)(X:Cx),(∀g d2,ds[g]? =some d2->gm P w K mg base yF n (fa g) (fd g) d2.ps (lE K d2.ps.length (p.fn n g)))->X.prog=P->X.w=w->X.K=K->X.mg=mg->X.base=base->X.N=d.N->X.env.scope=aF d.st->X.calm=true->d.N.Nodup->gY n X.A->jd (Pj ds jr d) X (p.cf n):=fun n d X IH e1 e2 e3 e4 e5 e6 e7 e8 nd hr=>by
  subst e1 e2 e3 e4 e5
  refine⟨e6,e7,nd,e8,?_,hbi,fun k x hk=>?_,fun g x fl hk=>?_⟩
  ·have:=hr.un
   omega
  ·obtain⟨dd,v,u,h1,h2,h3,h4⟩:=hgl k x hk
   exact⟨dd,h1,v,u,h2,h3,h4⟩
  ·have hk':(ds.map fun d=>(d.x,d.fl))[g]? =some (x,fl):=hk
   rw[List.getElem?_map]at hk'
   cases q:ds[g]? with
   |none=>rw[q]at hk';cases hk'
   |some d2=>
    rw[q]at hk'
    simp at hk'
    obtain⟨rfl,rfl⟩:=hk'
    have D2:=hfn g d2 q
    exact⟨n,fa g,fd g,d2.ps,IH g d2 q,hr,D2.at_,D2.fu.kp,D2.bi,len n g d2 q⟩
 intro n
 induction n using Nat.strongRecOn with
 |_ n ih=>
 intro i d e
 cases n with
 |zero=>
  have no:∀vs H Q E,¬lE K d.ps.length (p.fn 0 i) vs H Q E:=fun vs H Q E h=>by
   obtain⟨_,_,_,_,z⟩:=h
   exact z
  exact⟨fun vs H Q E h=>absurd h (no vs H Q E),fun A outer s H args us vs Q E _ _ _ _ h=>absurd h (no vs H Q E)⟩
 |succ n=>
  by_cases hir:i=t
  ·subst hir
   refine(hsp d e).2 n ?_ (len n r dr hr0)
   cases n with
   |zero=>
    have no:∀vs H Q E,¬QC K dr.ps.length cls (p.fn 0 r) vs H Q E:=fun vs H Q E h=>by
     obtain⟨_,_,_,_,z⟩:=h
     exact z
    exact⟨fun vs H Q E h=>absurd h (no vs H Q E),fun A outer s H args us vs Q E _ _ _ _ h=>absurd h (no vs H Q E)⟩
   |succ n=>
    have D:=hfn r dr hr0
    obtain⟨g,hg,ht⟩:=htr r dr hrt hr0
    unfold fnOf at ht
    simp only[QJz]at ht
    obtain⟨b,hb,rfl⟩:=ht
    have S:=hsc dr (List.mem_of_getElem? hr0)
    rw[qD hg]
    refine JN D.fu S rfl rfl fun cdv A outer s H E hr=>?_
    exact(ihS (p.cf n) 60).ss (Pj ds jr dr) _ (WE cls E) _ b (xok n dr _ (ih n (Nat.lt_succ_of_lt (Nat.lt_succ_self n))) rfl rfl rfl rfl rfl rfl rfl rfl S.nd hr) (acP hex) hb
  ·have D:=hfn i d e
   obtain⟨g,hg,ht⟩:=htr i d hir e
   unfold fnOf at ht
   simp only[QJz]at ht
   obtain⟨b,hb,rfl⟩:=ht
   have S:=hsc d (List.mem_of_getElem? e)
   rw[qD hg]
   refine Cg D.fu S rfl rfl fun cdv A outer s H E hr=>?_
   exact(ihS (p.cf n) 60).ss (Pj ds jr d) _ W0 _ b (xok n d _ (ih n (Nat.lt_succ_self n)) rfl rfl rfl rfl rfl rfl rfl rfl S.nd hr) (.plain (fun _=>rfl) PassesOwn.never) hb
end
end Mini
end
section
namespace Mini
open PySem L2
def T7(ds:List Df)(jr:List Str)(vals:List D)(turns t:Nat)(tf:Fn):Pg:=
 {fns:=(ds.map fun d=>(fnOf ds jr d).getD {pars:=0,names:=0,body:=.nil}).set t tf,gl:=fun k=>vals[k]?,turns:=turns}
def Yi(ds:List Df)(jr:List Str)(t:Nat):Bool:=(List.range ds.length).all fun i=>i==t||match ds[i]? with|some d=>(fnOf ds jr d).isSome|none=>true
theorem Oc{a w:D}{j:Nat}(h:[(1,a)].lookup j=some w):j=1/\w=a:=by
 simp only[List.lookup]at h
 split at h
 ·rename_i e;cases h;exact⟨by simpa using e,rfl⟩
 ·cases h
theorem JL{X:Cx}{c:Cf}{i j k:Nat}{x y z:Str}{p q r:Pos}(h:gA X i x)(g:gA X j y)(f:gA X k z):GA X W0 c (.cons (.var i) (.cons (.var j) (.cons (.var k) .nil))) [.Name x p,.Name y q,.Name z r]:=mj h.ge (mj g.ge (mj f.ge zW rfl) rfl) rfl
section
variable{K:QQq}{h:Heap}{mg:QZz}
theorem Ku{l:PySem.W.OpenLaw}{w:World}{fa:Addr}{ds:List Df}{jr:List Str}{vals:List D}{L n t r:Nat}{dL dr dt:Df}{y:Str}{tf:Fn}{cls:Nat->Option Addr}(X:K.In h)(G:h.Ns mainGlobals mg)(hfa:mg "law"=some (.ref fa))(hx:dL.x="law")(hy:dL.ps=[y])(hL:ds[L]? =some dL)(b:CZ ds)
  (scp:ds.all Mq=true)(GD:Yi ds jr t=true)(A:AllIn K (ds.map fun d=>(d.x,d.st)))(B:wD K jr vals)(Z:K7 K o7)(hrt:r≠t)(hr0:ds[r]? =some dr)(ht0:ds[t]? =some dt)(tp:tf.pars=dt.ps.length)(hex:CV K mg cls dr.exs)
  (told:∀(P:Program)(w:World)(base:Heap)(fr ft:Addr)(fdr fdt:FuncData),kI K mg dr fr fdr->kI K mg dt ft fdt->eG dt.N dt.ps (aF dt.st)->∀(c:Cf)(n:Nat),gm P w K mg base (K6 P w base) n fr fdr dr.ps (QC K dr.ps.length cls (c.fn r))->(∀sl,c.fn r sl=.bad\/sl.length=dr.ps.length)->
   gm P w K mg base yF (n+1) ft fdt dt.ps (lE K dt.ps.length (eO c tf))):
  ∃fd:FuncData,(∀(s:Shared)(v:Value),BindsTo s fd ⟨[v],[]⟩ [(y,v)])/\∀base:Heap,K.In base->base.Ns mainGlobals mg->gm l.prog w K mg base yF n fa fd [y] (lE K 1 ((T7 ds jr vals 1000 t tf).fn n L)):=by
 obtain⟨fs,A,C⟩:=Kz X G ds b A
 obtain⟨q,e1,e2,e3⟩:=C L dL hL
 have e:=hfa.symm.trans (hx▸e2.at_)
 cases e
 refine⟨q.2,fun s v=>?_,fun base _ _=>?_⟩
 ·have:=e3 s [v] (by rw[hy];rfl)
  rw[hy]at this
  exact this
 ·have hS:∀d∈ds,eG d.N d.ps (aF d.st):=fun d hd=>Mp (List.all_eq_true.mp scp d hd)
  have z1:∀(i:Nat)d,ds[i]? =some d->kI K mg d (((fs[i]?).map (·.1)).getD 0) (((fs[i]?).map (·.2)).getD q.2):=fun i d e=>by
   obtain⟨q',e1,e2⟩:=A.at i d e
   simp only[e1,Option.map_some,Option.getD_some]
   exact e2
  have tl:t<ds.length:=(List.getElem?_eq_some_iff.mp ht0).1
  have z2:∀(i:Nat)d,i≠t->ds[i]? =some d->∃g,(T7 ds jr vals 1000 t tf).fns[i]? =some g/\fnOf ds jr d=some g:=fun i d hi e=>by
   have il:i<ds.length:=(List.getElem?_eq_some_iff.mp e).1
   have hs:=List.all_eq_true.mp GD i (List.mem_range.mpr il)
   simp only[e,Bool.or_eq_true,beq_iff_eq,hi,false_or]at hs
   obtain⟨g,hg⟩:=Option.isSome_iff_exists.mp hs
   refine⟨g,?_,hg⟩
   show((ds.map fun d=>(fnOf ds jr d).getD {pars:=0,names:=0,body:=.nil}).set t tf)[i]? =some g
   rw[List.getElem?_set_ne (Ne.symm hi),List.getElem?_map,e]
   simp[hg]
  have z3:∀(k:Nat)x,jr[k]? =some x->∃d v u,(T7 ds jr vals 1000 t tf).gl k=some d/\mg x=some u/\RelV v u/\∀H,bH K H d v:=fun k x e=>by
   obtain⟨dd,e1,v,u,z1,z2,z3⟩:=(Ky X G jr vals B).at k x e
   exact⟨dd,v,u,e1,z1,z2,z3⟩
  have zt:(T7 ds jr vals 1000 t tf).fns[t]? =some tf:=by
   show((ds.map fun d=>(fnOf ds jr d).getD {pars:=0,names:=0,body:=.nil}).set t tf)[t]? =_
   rw[List.getElem?_set_self (by simpa using tl)]
  have:=Hy (P:=l.prog) (w:=w) (base:=base) (p:=T7 ds jr vals 1000 t tf) z1 hS z2 hrt hr0 hex (fun d hd=>by
   rw[ht0]at hd
   cases hd
   refine⟨⟨tf,zt,tp⟩,fun n g hn=>?_⟩
   rw[qD zt]
   exact told _ _ _ _ _ _ _ (z1 r dr hr0) (z1 t dt ht0) (hS dt (List.mem_of_getElem? ht0)) ((T7 ds jr vals 1000 t tf).cf n) n g hn) (Kw X G _ Z) z3 n L dL hL
  rw[hy]at this
  simp only[e1,Option.map_some,Option.getD_some]at this
  exact this
end
end Mini
end
section
namespace Tx
open PySem L2 Mini
abbrev d0:Df:=bW "checked" s0 [false]
abbrev d1:Df:=bW "is_net" s1 [false]
abbrev d2:Df:=bW "has_parts" s2 [false]
abbrev d3:Df:=bW "is_tuple" s3 [false,false,false]
abbrev d4:Df:=bW "is_number" s4 [false,false,false]
abbrev d5:Df:=bW "is_name" s5 [false]
abbrev d6:Df:=bW "are_unlike" s6 [false]
abbrev d7:Df:=bW "is_row" s7 [false,false]
abbrev d8:Df:=bW "is_wire" s8 [false,false]
abbrev d9:Df:=bW "are_wires" s9 [false,false,false,false]
abbrev d10:Df:=bW "are_rows" rO [false,false]
abbrev d11:Df:=bW "is_kind" yH [false,false,false]
abbrev d12:Df:=bW "is_held" s12 [false,false,false]
abbrev d13:Df:=bW "wire_names" s13 [false]
abbrev d14:Df:=bW "waiting_gates" s14 [false,false]
abbrev d15:Df:=bW "told" s15 [false,false,false]
abbrev d16:Df:=bW "told_held" s16 [false,false,false]
abbrev d17:Df:=bW "checked_talk" s17 [false,false]
abbrev d18:Df:=bW "is_talk" s18 [false,false]
abbrev d19:Df:=bW "is_state" s19 [false,false,false]
abbrev Xh:Df:={bW "stand_behind" s20 [false,false,false]with exs:=["NoRun"]}
abbrev d21:Df:=bW "first_stand" s21 [false]
abbrev d22:Df:=bW "steps_at" s22 [false,false,false]
abbrev d23:Df:=bW "is_unasked" s23 [false,false,false]
abbrev d24:Df:=bW "led_to" s24 [false,false,false,false]
abbrev d25:Df:=bW "changed" s25 [false,false,false]
abbrev d26:Df:=bW "_law_cell_at" s26 [false,false]
abbrev d27:Df:=bW "_law_mixed" s27 [false,false,false]
abbrev d28:Df:=bW "_law_next" s28 [false,true,false]
abbrev d29:Df:=bW "_law_some" s29 [false,true,false,false,false]
abbrev d30:Df:=bW "_law_table" s30 [false,true,false]
abbrev d31:Df:=bW "_law_kind" s31 [false,true,false,false]
abbrev d32:Df:=bW "_law_net" s32 [false,true,false,false]
abbrev d33:Df:=bW "_law_talk" s33 [false,true,false,false]
abbrev d34:Df:=bW "_law_ring" s34 [false,true]
abbrev d35:Df:=bW "_law_chain" s35 [false,true]
abbrev d36:Df:=bW "_law_meeting" s36 [false,true]
abbrev d37:Df:=bW "_law_spoilt_kind" s37 [false,true,false]
abbrev d38:Df:=bW "_law_case" s38 [false,false]
abbrev d39:Df:=bW "_law_names" s39 [false]
abbrev d40:Df:=bW "_law_tells" s40 [false,false,false]
abbrev d41:Df:=bW "_law_waiting" s41 [false,false]
abbrev d42:Df:=bW "_law_steps" s42 [false,false,false]
abbrev d43:Df:=bW "_law_led" s43 [false,false,false,false]
abbrev d44:Df:=bW "_law_drawn_run" s44 [false,false,false,false,false]
abbrev d45:Df:=bW "_law_due" s45 [false,false,false]
abbrev CG:Df:=bW "_law_told" s46 [false,false,false]
abbrev d47:Df:=bW "law" s47 [false]
def ds:List Df:=[d0,d1,d2,d3,d4,d5,d6,d7,d8,d9,d10,d11,d12,d13,d14,d15,d16,d17,d18,d19,Xh,d21,d22,d23,d24,d25,d26,d27,d28,d29,d30,d31,d32,d33,d34,d35,d36,d37,d38,d39,d40,d41,d42,d43,d44,d45,CG,d47]
def jr:List Str:=["LETTERS","LONGEST_NAME","WORDS","MOST_INPUTS","MOST_GATES","MOST_WIRES","MOST_TABLE_WIRES","DEEPEST_HELD","MOST_STATES"]
def vals:List D:=[.str "abcdefghijklmnopqrstuvwxyz",.int (6),.tup [.str "input",.str "gate",.str "start",.str "out",.str "state",.str "same",.str "not",.str "and",.str "or",.str "both",.str "held",.str "table",.str "on",.str "off"],.int (3),.int (5),.int (4),.int (8),.int (3),.int (12)]
def tf:Fn:=⟨3,4,.cons (.ret (.tcall 20 (.cons (.var 0) (.cons (.var 1) (.cons (.var 2) .nil))) [(1,.non)])) .nil⟩
def pg:Pg:=T7 ds jr vals 1000 46 tf
theorem scp:ds.all Mq=true:=by decide+kernel
theorem GD:Yi ds jr 46=true:=by decide+kernel
theorem bd:CZ ds:=⟨fun _ _ _ _ _ _ us hl=>by obtain⟨_,rfl⟩:=su hl;rfl,fun _ _ _ _ _ _ us hl=>by obtain⟨_,rfl⟩:=su hl;rfl,fun _ _ _ _ _ _ us hl=>by obtain⟨_,rfl⟩:=su hl;rfl,fun _ _ _ _ _ _ us hl=>by obtain⟨_,_,_,rfl⟩:=iu hl;rfl,fun _ _ _ _ _ _ us hl=>by obtain⟨_,_,_,rfl⟩:=iu hl;rfl,fun _ _ _ _ _ _ us hl=>by obtain⟨_,rfl⟩:=su hl;rfl,fun _ _ _ _ _ _ us hl=>by obtain⟨_,rfl⟩:=su hl;rfl,fun _ _ _ _ _ _ us hl=>by obtain⟨_,_,rfl⟩:=nu hl;rfl,fun _ _ _ _ _ _ us hl=>by obtain⟨_,_,rfl⟩:=nu hl;rfl,fun _ _ _ _ _ _ us hl=>by obtain⟨_,_,_,_,rfl⟩:=zJ hl;rfl,fun _ _ _ _ _ _ us hl=>by obtain⟨_,_,rfl⟩:=nu hl;rfl,fun _ _ _ _ _ _ us hl=>by obtain⟨_,_,_,rfl⟩:=iu hl;rfl,fun _ _ _ _ _ _ us hl=>by obtain⟨_,_,_,rfl⟩:=iu hl;rfl,fun _ _ _ _ _ _ us hl=>by obtain⟨_,rfl⟩:=su hl;rfl,fun _ _ _ _ _ _ us hl=>by obtain⟨_,_,rfl⟩:=nu hl;rfl,fun _ _ _ _ _ _ us hl=>by obtain⟨_,_,_,rfl⟩:=iu hl;rfl,fun _ _ _ _ _ _ us hl=>by obtain⟨_,_,_,rfl⟩:=iu hl;rfl,fun _ _ _ _ _ _ us hl=>by obtain⟨_,_,rfl⟩:=nu hl;rfl,fun _ _ _ _ _ _ us hl=>by obtain⟨_,_,rfl⟩:=nu hl;rfl,fun _ _ _ _ _ _ us hl=>by obtain⟨_,_,_,rfl⟩:=iu hl;rfl,fun _ _ _ _ _ _ us hl=>by obtain⟨_,_,_,rfl⟩:=iu hl;rfl,fun _ _ _ _ _ _ us hl=>by obtain⟨_,rfl⟩:=su hl;rfl,fun _ _ _ _ _ _ us hl=>by obtain⟨_,_,_,rfl⟩:=iu hl;rfl,fun _ _ _ _ _ _ us hl=>by obtain⟨_,_,_,rfl⟩:=iu hl;rfl,fun _ _ _ _ _ _ us hl=>by obtain⟨_,_,_,_,rfl⟩:=zJ hl;rfl,fun _ _ _ _ _ _ us hl=>by obtain⟨_,_,_,rfl⟩:=iu hl;rfl,fun _ _ _ _ _ _ us hl=>by obtain⟨_,_,rfl⟩:=nu hl;rfl,fun _ _ _ _ _ _ us hl=>by obtain⟨_,_,_,rfl⟩:=iu hl;rfl,fun _ _ _ _ _ _ us hl=>by obtain⟨_,_,_,rfl⟩:=iu hl;rfl,fun _ _ _ _ _ _ us hl=>by obtain⟨_,_,_,_,_,rfl⟩:=Z1 hl;rfl,fun _ _ _ _ _ _ us hl=>by obtain⟨_,_,_,rfl⟩:=iu hl;rfl,fun _ _ _ _ _ _ us hl=>by obtain⟨_,_,_,_,rfl⟩:=zJ hl;rfl,fun _ _ _ _ _ _ us hl=>by obtain⟨_,_,_,_,rfl⟩:=zJ hl;rfl,fun _ _ _ _ _ _ us hl=>by obtain⟨_,_,_,_,rfl⟩:=zJ hl;rfl,fun _ _ _ _ _ _ us hl=>by obtain⟨_,_,rfl⟩:=nu hl;rfl,fun _ _ _ _ _ _ us hl=>by obtain⟨_,_,rfl⟩:=nu hl;rfl,fun _ _ _ _ _ _ us hl=>by obtain⟨_,_,rfl⟩:=nu hl;rfl,fun _ _ _ _ _ _ us hl=>by obtain⟨_,_,_,rfl⟩:=iu hl;rfl,fun _ _ _ _ _ _ us hl=>by obtain⟨_,_,rfl⟩:=nu hl;rfl,fun _ _ _ _ _ _ us hl=>by obtain⟨_,rfl⟩:=su hl;rfl,fun _ _ _ _ _ _ us hl=>by obtain⟨_,_,_,rfl⟩:=iu hl;rfl,fun _ _ _ _ _ _ us hl=>by obtain⟨_,_,rfl⟩:=nu hl;rfl,fun _ _ _ _ _ _ us hl=>by obtain⟨_,_,_,rfl⟩:=iu hl;rfl,fun _ _ _ _ _ _ us hl=>by obtain⟨_,_,_,_,rfl⟩:=zJ hl;rfl,fun _ _ _ _ _ _ us hl=>by obtain⟨_,_,_,_,_,rfl⟩:=Z1 hl;rfl,fun _ _ _ _ _ _ us hl=>by obtain⟨_,_,_,rfl⟩:=iu hl;rfl,fun _ _ _ _ _ _ us hl=>by obtain⟨_,_,_,rfl⟩:=iu hl;rfl,fun _ _ _ _ _ _ us hl=>by obtain⟨_,rfl⟩:=su hl;rfl,trivial⟩
def nms:List (Str×Stmt):=("checked",s0)::("is_net",s1)::("has_parts",s2)::("is_tuple",s3)::("is_number",s4)::("is_name",s5)::("are_unlike",s6)::("is_row",s7)::("is_wire",s8)::("are_wires",s9)::("are_rows",rO)::("is_kind",yH)::("is_held",s12)::("wire_names",s13)::("waiting_gates",s14)::("told",s15)::("told_held",s16)::("checked_talk",s17)::("is_talk",s18)::("is_state",s19)::("stand_behind",s20)::("first_stand",s21)::("steps_at",s22)::("is_unasked",s23)::("led_to",s24)::("changed",s25)::("_law_cell_at",s26)::("_law_mixed",s27)::("_law_next",s28)::("_law_some",s29)::("_law_table",s30)::("_law_kind",s31)::("_law_net",s32)::("_law_talk",s33)::("_law_ring",s34)::("_law_chain",s35)::("_law_meeting",s36)::("_law_spoilt_kind",s37)::("_law_case",s38)::("_law_names",s39)::("_law_tells",s40)::("_law_waiting",s41)::("_law_steps",s42)::("_law_led",s43)::("_law_drawn_run",s44)::("_law_due",s45)::("_law_told",s46)::("law",s47)::[]
end Tx
end
section
open PySem
section
open Mini
namespace Tx
theorem aZ{n i:Nat}{g:Fn}(h:pg.fns[i]? =some g)(ps:List Sl):pg.fn (n+1) i ps=eO (pg.cf n) g ps:=by
 show(match pg.fns[i]? with|some g=>eO (pg.cf n) g ps|none=>.bad)=_
 rw[h]
def uV:Fn:=⟨1,1,(.cons (.ite (.not (.call 1 (.cons (.var 0) .nil))) (.cons (.raise 0) .nil) .nil) (.cons (.ret (.var 0)) .nil))⟩
theorem DX(n:Nat)(p0:Sl):pg.fn (n+1) 0 [p0]=fin 1 (ex (pg.cf n) uV.body [p0]):=(aZ (by kernel_rfl) _).trans (aG _ _ _ rfl)
def yz:Fn:=⟨1,2,(.cons (.ite (.or (.cons (.not (.call 3 (.cons (.var 0) (.cons (.con (.int (3))) (.cons (.con (.int (3))) .nil))))) (.cons (.not (.call 2 (.cons (.var 0) .nil))) .nil))) (.cons (.ret (.con (.bl false))) .nil) .nil) (.cons (.set 1 (.call 13 (.cons (.var 0) .nil))) (.cons (.ite (.or (.cons (.not (.bi .all (.comp 1 (.name 0) (.var 1) (.con (.bl true)) (.call 5 (.cons (.var 0) .nil))))) (.cons (.not (.call 6 (.cons (.var 1) .nil))) .nil))) (.cons (.ret (.con (.bl false))) .nil) .nil) (.cons (.ret (.and (.cons (.bi .all (.comp 2 (.tup [0,1]) (.idx (.var 0) (.con (.int (1)))) (.con (.bl true)) (.call 11 (.cons (.var 1) (.cons (.var 3) (.cons (.con (.int (0))) .nil)))))) (.cons (.call 7 (.cons (.idx (.var 0) (.con (.int (2)))) (.cons (.bi .len (.var 1)) .nil))) .nil)))) .nil))))⟩
theorem Ho(n:Nat)(p0:Sl):pg.fn (n+1) 1 [p0]=fin 1 (ex (pg.cf n) yz.body [p0,.un]):=(aZ (by kernel_rfl) _).trans (aG _ _ _ rfl)
def oG:Fn:=⟨1,1,(.cons (.ite (.or (.cons (.not (.call 3 (.cons (.idx (.var 0) (.con (.int (0)))) (.cons (.con (.int (0))) (.cons (.glob 3) .nil))))) (.cons (.not (.call 3 (.cons (.idx (.var 0) (.con (.int (1)))) (.cons (.con (.int (1))) (.cons (.glob 4) .nil))))) .nil))) (.cons (.ret (.con (.bl false))) .nil) .nil) (.cons (.ret (.bi .all (.comp 1 (.name 0) (.idx (.var 0) (.con (.int (1)))) (.con (.bl true)) (.call 3 (.cons (.var 0) (.cons (.con (.int (2))) (.cons (.con (.int (2))) .nil))))))) .nil))⟩
theorem xu(n:Nat)(p0:Sl):pg.fn (n+1) 2 [p0]=fin 1 (ex (pg.cf n) oG.body [p0]):=(aZ (by kernel_rfl) _).trans (aG _ _ _ rfl)
def rE:Fn:=⟨3,3,(.cons (.ret (.and (.cons (.isi (.var 0) .tup) (.cons (.chain .le .le (.var 1) (.bi .len (.var 0)) (.var 2)) .nil)))) .nil)⟩
theorem zj(n:Nat)(p0 p1 p2:Sl):pg.fn (n+1) 3 [p0,p1,p2]=fin 3 (ex (pg.cf n) rE.body [p0,p1,p2]):=(aZ (by kernel_rfl) _).trans (aG _ _ _ rfl)
def oF:Fn:=⟨3,3,(.cons (.ret (.and (.cons (.isi (.var 0) .int) (.cons (.not (.isi (.var 0) .bool)) (.cons (.chain .le .le (.var 1) (.var 0) (.var 2)) .nil))))) .nil)⟩
theorem xr(n:Nat)(p0 p1 p2:Sl):pg.fn (n+1) 4 [p0,p1,p2]=fin 3 (ex (pg.cf n) oF.body [p0,p1,p2]):=(aZ (by kernel_rfl) _).trans (aG _ _ _ rfl)
def FW:Fn:=⟨1,1,(.cons (.ite (.or (.cons (.not (.isi (.var 0) .str)) (.cons (.not (.chain .le .le (.con (.int (1))) (.bi .len (.var 0)) (.glob 1))) .nil))) (.cons (.ret (.con (.bl false))) .nil) .nil) (.cons (.ret (.and (.cons (.bi .all (.comp 1 (.name 0) (.var 0) (.con (.bl true)) (.cmp .isin (.var 0) (.glob 0)))) (.cons (.cmp .notin (.var 0) (.glob 2)) .nil)))) .nil))⟩
theorem DR(n:Nat)(p0:Sl):pg.fn (n+1) 5 [p0]=fin 1 (ex (pg.cf n) FW.body [p0]):=(aZ (by kernel_rfl) _).trans (aG _ _ _ rfl)
def mG:Fn:=⟨1,1,(.cons (.ret (.bi .all (.comp 1 (.name 0) (.var 0) (.con (.bl true)) (.cmp .eq (.count (.var 1) (.var 0)) (.con (.int (1))))))) .nil)⟩
theorem vz(n:Nat)(p0:Sl):pg.fn (n+1) 6 [p0]=fin 1 (ex (pg.cf n) mG.body [p0]):=(aZ (by kernel_rfl) _).trans (aG _ _ _ rfl)
def yx:Fn:=⟨2,2,(.cons (.ret (.and (.cons (.call 3 (.cons (.var 0) (.cons (.var 1) (.cons (.var 1) .nil)))) (.cons (.bi .all (.comp 1 (.name 0) (.var 0) (.con (.bl true)) (.isi (.var 0) .bool))) .nil)))) .nil)⟩
theorem Hn(n:Nat)(p0 p1:Sl):pg.fn (n+1) 7 [p0,p1]=fin 2 (ex (pg.cf n) yx.body [p0,p1]):=(aZ (by kernel_rfl) _).trans (aG _ _ _ rfl)
def jY:Fn:=⟨2,2,(.cons (.ret (.and (.cons (.isi (.var 0) .str) (.cons (.cmp .isin (.var 0) (.var 1)) .nil)))) .nil)⟩
theorem tY(n:Nat)(p0 p1:Sl):pg.fn (n+1) 8 [p0,p1]=fin 2 (ex (pg.cf n) jY.body [p0,p1]):=(aZ (by kernel_rfl) _).trans (aG _ _ _ rfl)
def oH:Fn:=⟨4,4,(.cons (.ite (.not (.call 3 (.cons (.var 0) (.cons (.var 2) (.cons (.var 3) .nil))))) (.cons (.ret (.con (.bl false))) .nil) .nil) (.cons (.ret (.and (.cons (.bi .all (.comp 1 (.name 0) (.var 0) (.con (.bl true)) (.call 8 (.cons (.var 0) (.cons (.var 2) .nil))))) (.cons (.call 6 (.cons (.var 0) .nil)) .nil)))) .nil))⟩
theorem xx(n:Nat)(p0 p1 p2 p3:Sl):pg.fn (n+1) 9 [p0,p1,p2,p3]=fin 4 (ex (pg.cf n) oH.body [p0,p1,p2,p3]):=(aZ (by kernel_rfl) _).trans (aG _ _ _ rfl)
def rG:Fn:=⟨2,2,(.cons (.ite (.or (.cons (.not (.isi (.var 0) .tup)) (.cons (.not (.bi .all (.comp 1 (.name 0) (.var 0) (.con (.bl true)) (.call 7 (.cons (.var 0) (.cons (.var 2) .nil)))))) .nil))) (.cons (.ret (.con (.bl false))) .nil) .nil) (.cons (.ret (.bi .all (.comp 2 (.tup [0,1]) (.zip (.var 0) (.slc (.var 0) (.con (.int (1))) .noneE)) (.con (.bl true)) (.cmp .lt (.var 0) (.var 1))))) .nil))⟩
theorem zp(n:Nat)(p0 p1:Sl):pg.fn (n+1) 10 [p0,p1]=fin 2 (ex (pg.cf n) rG.body [p0,p1]):=(aZ (by kernel_rfl) _).trans (aG _ _ _ rfl)
def dO:Fn:=⟨3,5,(.cons (.ite (.or (.cons (.not (.call 3 (.cons (.var 0) (.cons (.con (.int (2))) (.cons (.con (.int (4))) .nil))))) (.cons (.not (.isi (.idx (.var 0) (.con (.int (0)))) .str)) .nil))) (.cons (.ret (.con (.bl false))) .nil) .nil) (.cons (.set 3 (.idx (.var 0) (.con (.int (0))))) (.cons (.set 4 (.bi .len (.var 0))) (.cons (.ite (.cmp .isin (.var 3) (.tup (.cons (.con (.str "same")) (.cons (.con (.str "not")) .nil)))) (.cons (.ret (.and (.cons (.cmp .eq (.var 4) (.con (.int (2)))) (.cons (.call 8 (.cons (.idx (.var 0) (.con (.int (1)))) (.cons (.var 1) .nil))) .nil)))) .nil) .nil) (.cons (.ite (.cmp .isin (.var 3) (.tup (.cons (.con (.str "and")) (.cons (.con (.str "or")) .nil)))) (.cons (.ret (.and (.cons (.cmp .eq (.var 4) (.con (.int (2)))) (.cons (.call 9 (.cons (.idx (.var 0) (.con (.int (1)))) (.cons (.var 1) (.cons (.con (.int (1))) (.cons (.glob 5) .nil))))) .nil)))) .nil) .nil) (.cons (.ite (.cmp .eq (.var 3) (.con (.str "both"))) (.cons (.ret (.and (.cons (.cmp .eq (.var 4) (.con (.int (2)))) (.cons (.call 9 (.cons (.idx (.var 0) (.con (.int (1)))) (.cons (.var 1) (.cons (.con (.int (2))) (.cons (.glob 5) .nil))))) .nil)))) .nil) .nil) (.cons (.ite (.cmp .eq (.var 3) (.con (.str "table"))) (.cons (.ret (.and (.cons (.cmp .eq (.var 4) (.con (.int (3)))) (.cons (.call 9 (.cons (.idx (.var 0) (.con (.int (1)))) (.cons (.var 1) (.cons (.con (.int (1))) (.cons (.glob 6) .nil))))) (.cons (.call 10 (.cons (.idx (.var 0) (.con (.int (2)))) (.cons (.bi .len (.idx (.var 0) (.con (.int (1))))) .nil))) .nil))))) .nil) .nil) (.cons (.ite (.cmp .eq (.var 3) (.con (.str "held"))) (.cons (.ret (.and (.cons (.cmp .eq (.var 4) (.con (.int (4)))) (.cons (.cmp .lt (.var 2) (.glob 7)) (.cons (.call 12 (.cons (.var 0) (.cons (.var 1) (.cons (.op .add (.var 2) (.con (.int (1)))) .nil)))) .nil))))) .nil) .nil) (.cons (.ret (.con (.bl false))) .nil)))))))))⟩
theorem eV(n:Nat)(p0 p1 p2:Sl):pg.fn (n+1) 11 [p0,p1,p2]=fin 3 (ex (pg.cf n) dO.body [p0,p1,p2,.un,.un]):=(aZ (by kernel_rfl) _).trans (aG _ _ _ rfl)
def uU:Fn:=⟨3,3,(.cons (.ret (.and (.cons (.call 11 (.cons (.idx (.var 0) (.con (.int (1)))) (.cons (.var 1) (.cons (.var 2) .nil)))) (.cons (.call 8 (.cons (.idx (.var 0) (.con (.int (2)))) (.cons (.var 1) .nil))) (.cons (.isi (.idx (.var 0) (.con (.int (3)))) .bool) .nil))))) .nil)⟩
theorem DW(n:Nat)(p0 p1 p2:Sl):pg.fn (n+1) 12 [p0,p1,p2]=fin 3 (ex (pg.cf n) uU.body [p0,p1,p2]):=(aZ (by kernel_rfl) _).trans (aG _ _ _ rfl)
def mD:Fn:=⟨1,1,(.cons (.ret (.op .add (.bi .list (.idx (.var 0) (.con (.int (0))))) (.comp 1 (.name 0) (.idx (.var 0) (.con (.int (1)))) (.con (.bl true)) (.idx (.var 0) (.con (.int (0))))))) .nil)⟩
theorem lH(n:Nat)(p0:Sl):pg.fn (n+1) 13 [p0]=fin 1 (ex (pg.cf n) mD.body [p0]):=(aZ (by kernel_rfl) _).trans (aG _ _ _ rfl)
def jj:Fn:=⟨2,3,(.cons (.set 2 (.bi .dict (.zip (.call 13 (.cons (.var 0) .nil)) (.var 1)))) (.cons (.ret (.comp 2 (.tup [0,1]) (.idx (.var 0) (.con (.int (1)))) (.cmp .ne (.call 15 (.cons (.var 1) (.cons (.idx (.var 4) (.var 0)) (.cons (.var 4) .nil)))) (.idx (.var 4) (.var 0))) (.var 0))) .nil))⟩
theorem oK(n:Nat)(p0 p1:Sl):pg.fn (n+1) 14 [p0,p1]=fin 2 (ex (pg.cf n) jj.body [p0,p1,.un]):=(aZ (by kernel_rfl) _).trans (aG _ _ _ rfl)
def Ko:Fn:=⟨3,5,(.cons (.set 3 (.idx (.var 0) (.con (.int (0))))) (.cons (.ite (.cmp .eq (.var 3) (.con (.str "same"))) (.cons (.ret (.idx (.var 2) (.idx (.var 0) (.con (.int (1)))))) .nil) .nil) (.cons (.ite (.cmp .eq (.var 3) (.con (.str "not"))) (.cons (.ret (.not (.idx (.var 2) (.idx (.var 0) (.con (.int (1))))))) .nil) .nil) (.cons (.ite (.cmp .eq (.var 3) (.con (.str "held"))) (.cons (.ret (.call 16 (.cons (.var 0) (.cons (.var 1) (.cons (.var 2) .nil))))) .nil) .nil) (.cons (.set 4 (.bi .tuple (.comp 1 (.name 0) (.idx (.var 0) (.con (.int (1)))) (.con (.bl true)) (.idx (.var 3) (.var 0))))) (.cons (.ite (.cmp .eq (.var 3) (.con (.str "and"))) (.cons (.ret (.bi .all (.var 4))) .nil) .nil) (.cons (.ite (.cmp .eq (.var 3) (.con (.str "or"))) (.cons (.ret (.bi .any (.var 4))) .nil) .nil) (.cons (.ite (.cmp .eq (.var 3) (.con (.str "table"))) (.cons (.ret (.cmp .isin (.var 4) (.idx (.var 0) (.con (.int (2)))))) .nil) .nil) (.cons (.ret (.or (.cons (.bi .all (.var 4)) (.cons (.and (.cons (.var 1) (.cons (.bi .any (.var 4)) .nil))) .nil)))) .nil)))))))))⟩
theorem kY(n:Nat)(p0 p1 p2:Sl):pg.fn (n+1) 15 [p0,p1,p2]=fin 3 (ex (pg.cf n) Ko.body [p0,p1,p2,.un,.un]):=(aZ (by kernel_rfl) _).trans (aG _ _ _ rfl)
def nZ:Fn:=⟨3,5,(.cons (.set 3 (.call 15 (.cons (.idx (.var 0) (.con (.int (1)))) (.cons (.var 1) (.cons (.var 2) .nil))))) (.cons (.set 4 (.cmp .eq (.idx (.var 2) (.idx (.var 0) (.con (.int (2))))) (.var 3))) (.cons (.ret (.ite (.cmp .eq (.var 4) (.idx (.var 0) (.con (.int (3))))) (.var 3) (.var 1))) .nil)))⟩
theorem xf(n:Nat)(p0 p1 p2:Sl):pg.fn (n+1) 16 [p0,p1,p2]=fin 3 (ex (pg.cf n) nZ.body [p0,p1,p2,.un,.un]):=(aZ (by kernel_rfl) _).trans (aG _ _ _ rfl)
def jJ:Fn:=⟨2,2,(.cons (.ite (.not (.call 18 (.cons (.call 0 (.cons (.var 0) .nil)) (.cons (.var 1) .nil)))) (.cons (.raise 0) .nil) .nil) (.cons (.ret (.var 1)) .nil))⟩
theorem pW(n:Nat)(p0 p1:Sl):pg.fn (n+1) 17 [p0,p1]=fin 2 (ex (pg.cf n) jJ.body [p0,p1]):=(aZ (by kernel_rfl) _).trans (aG _ _ _ rfl)
def uT:Fn:=⟨2,4,(.cons (.ite (.not (.call 3 (.cons (.var 1) (.cons (.con (.int (2))) (.cons (.con (.int (2))) .nil))))) (.cons (.ret (.con (.bl false))) .nil) .nil) (.cons (.set 2 (.comp 1 (.name 0) (.idx (.var 0) (.con (.int (1)))) (.con (.bl true)) (.idx (.var 0) (.con (.int (0)))))) (.cons (.ite (.or (.cons (.not (.call 9 (.cons (.idx (.var 1) (.con (.int (0)))) (.cons (.var 2) (.cons (.con (.int (0))) (.cons (.bi .len (.var 2)) .nil)))))) (.cons (.not (.call 3 (.cons (.idx (.var 1) (.con (.int (1)))) (.cons (.con (.int (1))) (.cons (.glob 8) .nil))))) .nil))) (.cons (.ret (.con (.bl false))) .nil) .nil) (.cons (.set 3 (.op .add (.idx (.var 0) (.con (.int (0)))) (.idx (.var 1) (.con (.int (0)))))) (.cons (.ret (.bi .all (.comp 1 (.name 0) (.idx (.var 1) (.con (.int (1)))) (.con (.bl true)) (.call 19 (.cons (.var 0) (.cons (.var 4) (.cons (.bi .len (.idx (.var 2) (.con (.int (1))))) .nil))))))) .nil)))))⟩
theorem DQ(n:Nat)(p0 p1:Sl):pg.fn (n+1) 18 [p0,p1]=fin 2 (ex (pg.cf n) uT.body [p0,p1,.un,.un]):=(aZ (by kernel_rfl) _).trans (aG _ _ _ rfl)
def rF:Fn:=⟨3,3,(.cons (.ite (.or (.cons (.not (.call 3 (.cons (.var 0) (.cons (.con (.int (0))) (.cons (.bi .len (.var 1)) .nil))))) (.cons (.not (.bi .all (.comp 1 (.name 0) (.var 0) (.con (.bl true)) (.call 3 (.cons (.var 0) (.cons (.con (.int (2))) (.cons (.con (.int (2))) .nil))))))) .nil))) (.cons (.ret (.con (.bl false))) .nil) .nil) (.cons (.ite (.not (.call 9 (.cons (.bi .tuple (.comp 1 (.name 0) (.var 0) (.con (.bl true)) (.idx (.var 0) (.con (.int (0)))))) (.cons (.var 1) (.cons (.con (.int (0))) (.cons (.bi .len (.var 1)) .nil)))))) (.cons (.ret (.con (.bl false))) .nil) .nil) (.cons (.ret (.bi .all (.comp 1 (.name 0) (.var 0) (.con (.bl true)) (.call 4 (.cons (.idx (.var 0) (.con (.int (1)))) (.cons (.con (.int (0))) (.cons (.op .sub (.var 3) (.con (.int (1)))) .nil))))))) .nil)))⟩
theorem zm(n:Nat)(p0 p1 p2:Sl):pg.fn (n+1) 19 [p0,p1,p2]=fin 3 (ex (pg.cf n) rF.body [p0,p1,p2]):=(aZ (by kernel_rfl) _).trans (aG _ _ _ rfl)
def jG:Fn:=⟨3,5,(.cons (.expr (.call 17 (.cons (.var 0) (.cons (.var 1) .nil)))) (.cons (.ite (.not (.isi (.var 2) .lst)) (.cons (.raise 1) .nil) .nil) (.cons (.set 3 (.call 21 (.cons (.var 0) .nil))) (.cons (.for_ (.name 4) (.var 2) (.cons (.ite (.not (.call 8 (.cons (.var 4) (.cons (.call 22 (.cons (.var 0) (.cons (.var 1) (.cons (.var 3) .nil)))) .nil)))) (.cons (.raise 1) .nil) .nil) (.cons (.set 3 (.call 24 (.cons (.var 0) (.cons (.var 1) (.cons (.var 3) (.cons (.var 4) .nil)))))) (.cons (.ite (.cmp .jg (.var 3) (.con .non)) (.cons (.raise 1) .nil) .nil) .nil)))) (.cons (.ret (.var 3)) .nil)))))⟩
theorem fY(n:Nat)(p0 p1 p2:Sl):pg.fn (n+1) 20 [p0,p1,p2]=fin 3 (ex (pg.cf n) jG.body [p0,p1,p2,.un,.un]):=(aZ (by kernel_rfl) _).trans (aG _ _ _ rfl)
def km:Fn:=⟨1,1,(.cons (.ret (.tup (.cons (.idx (.var 0) (.con (.int (2)))) (.cons (.con (.int (0))) .nil)))) .nil)⟩
theorem rW(n:Nat)(p0:Sl):pg.fn (n+1) 21 [p0]=fin 1 (ex (pg.cf n) km.body [p0]):=(aZ (by kernel_rfl) _).trans (aG _ _ _ rfl)
def rm:Fn:=⟨3,4,(.cons (.set 3 (.bi .dict (.idx (.idx (.var 1) (.con (.int (1)))) (.idx (.var 2) (.con (.int (1))))))) (.cons (.ret (.op .add (.comp 1 (.name 0) (.idx (.var 0) (.con (.int (0)))) (.cmp .isin (.var 0) (.var 4)) (.var 0)) (.call 14 (.cons (.var 0) (.cons (.idx (.var 2) (.con (.int (0)))) .nil))))) .nil))⟩
theorem za(n:Nat)(p0 p1 p2:Sl):pg.fn (n+1) 22 [p0,p1,p2]=fin 3 (ex (pg.cf n) rm.body [p0,p1,p2,.un]):=(aZ (by kernel_rfl) _).trans (aG _ _ _ rfl)
def mF:Fn:=⟨3,3,(.cons (.ret (.and (.cons (.cmp .isin (.var 2) (.idx (.var 0) (.con (.int (0))))) (.cons (.cmp .notin (.var 2) (.bi .dict (.idx (.idx (.var 0) (.con (.int (1)))) (.idx (.var 1) (.con (.int (1))))))) .nil)))) .nil)⟩
theorem vy(n:Nat)(p0 p1 p2:Sl):pg.fn (n+1) 23 [p0,p1,p2]=fin 3 (ex (pg.cf n) mF.body [p0,p1,p2]):=(aZ (by kernel_rfl) _).trans (aG _ _ _ rfl)
def rn:Fn:=⟨4,5,(.cons (.ite (.call 23 (.cons (.var 1) (.cons (.var 2) (.cons (.var 3) .nil)))) (.cons (.ret (.con .non)) .nil) .nil) (.cons (.set 4 (.bi .dict (.idx (.idx (.var 1) (.con (.int (1)))) (.idx (.var 2) (.con (.int (1))))))) (.cons (.ret (.tup (.cons (.call 25 (.cons (.var 0) (.cons (.idx (.var 2) (.con (.int (0)))) (.cons (.var 3) .nil)))) (.cons (.get2 (.var 4) (.var 3) (.idx (.var 2) (.con (.int (1))))) .nil)))) .nil)))⟩
theorem Hm(n:Nat)(p0 p1 p2 p3:Sl):pg.fn (n+1) 24 [p0,p1,p2,p3]=fin 4 (ex (pg.cf n) rn.body [p0,p1,p2,p3,.un]):=(aZ (by kernel_rfl) _).trans (aG _ _ _ rfl)
def uW:Fn:=⟨3,3,(.cons (.ret (.bi .tuple (.comp 2 (.tup [0,1]) (.zip (.call 13 (.cons (.var 0) .nil)) (.var 1)) (.con (.bl true)) (.ite (.cmp .eq (.var 0) (.var 4)) (.not (.var 1)) (.var 1))))) .nil)⟩
theorem DY(n:Nat)(p0 p1 p2:Sl):pg.fn (n+1) 25 [p0,p1,p2]=fin 3 (ex (pg.cf n) uW.body [p0,p1,p2]):=(aZ (by kernel_rfl) _).trans (aG _ _ _ rfl)
def fH:Fn:=⟨2,2,(.cons (.ite (.cmp .lt (.var 1) (.bi .len (.var 0))) (.cons (.ret (.idx (.var 0) (.var 1))) .nil) .nil) (.cons (.ite (.cmp .eq (.var 0) (.lis .nil)) (.cons (.ret (.con (.int (0)))) .nil) .nil) (.cons (.ret (.op .add (.op .mul (.idx (.var 0) (.op .mod (.var 1) (.bi .len (.var 0)))) (.con (.int (31)))) (.var 1))) .nil)))⟩
theorem gP(n:Nat)(p0 p1:Sl):pg.fn (n+1) 26 [p0,p1]=fin 2 (ex (pg.cf n) fH.body [p0,p1]):=(aZ (by kernel_rfl) _).trans (aG _ _ _ rfl)
def oA:Fn:=⟨3,4,(.cons (.set 3 (.op .mod (.op .mul (.op .add (.op .add (.call 26 (.cons (.var 0) (.cons (.var 1) .nil))) (.op .mul (.con (.int (7919))) (.var 1))) (.con (.int (1)))) (.con (.int (48271)))) (.con (.int (2147483647))))) (.cons (.ret (.op .mod (.op .mod (.op .add (.op .add (.op .mul (.var 3) (.var 3)) (.op .mul (.con (.int (7))) (.var 3))) (.var 1)) (.con (.int (2147483629)))) (.var 2))) .nil))⟩
theorem xn(n:Nat)(p0 p1 p2:Sl):pg.fn (n+1) 27 [p0,p1,p2]=fin 3 (ex (pg.cf n) oA.body [p0,p1,p2,.un]):=(aZ (by kernel_rfl) _).trans (aG _ _ _ rfl)
def rD:Fn:=⟨3,3,(.cons (.setIx 1 (.con (.int (0))) (.op .add (.idx (.var 1) (.con (.int (0)))) (.con (.int (1))))) (.cons (.ret (.call 27 (.cons (.var 0) (.cons (.idx (.var 1) (.con (.int (0)))) (.cons (.var 2) .nil))))) .nil))⟩
theorem zg(n:Nat)(p0 p1 p2:Sl):pg.fn (n+1) 28 [p0,p1,p2]=fin 3 (ex (pg.cf n) rD.body [p0,p1,p2]):=(aZ (by kernel_rfl) _).trans (aG _ _ _ rfl)
def rB:Fn:=⟨5,6,(.cons (.set 5 (.bi .list (.var 2))) (.cons (.while_ (.and (.cons (.cmp .gt (.bi .len (.var 5)) (.var 3)) (.cons (.or (.cons (.cmp .gt (.bi .len (.var 5)) (.var 4)) (.cons (.cmp .eq (.call 28 (.cons (.var 0) (.cons (.ref 1) (.cons (.con (.int (2))) .nil)))) (.con (.int (1)))) .nil))) .nil))) (.cons (.expr (.popAt 5 (.call 28 (.cons (.var 0) (.cons (.ref 1) (.cons (.bi .len (.var 5)) .nil)))))) .nil)) (.cons (.ret (.bi .tuple (.var 5))) .nil)))⟩
theorem zc(n:Nat)(p0 p1 p2 p3 p4:Sl):pg.fn (n+1) 29 [p0,p1,p2,p3,p4]=fin 5 (ex (pg.cf n) rB.body [p0,p1,p2,p3,p4,.un]):=(aZ (by kernel_rfl) _).trans (aG _ _ _ rfl)
def n8:Fn:=⟨3,6,(.cons (.set 3 (.call 29 (.cons (.var 0) (.cons (.ref 1) (.cons (.var 2) (.cons (.con (.int (1))) (.cons (.con (.int (3))) .nil))))))) (.cons (.set 4 (.lis (.cons (.tup .nil) .nil))) (.cons (.for_ (.name 5) (.var 3) (.cons (.set 4 (.op .add (.comp 1 (.name 0) (.var 4) (.con (.bl true)) (.op .add (.var 0) (.tup (.cons (.con (.bl false)) .nil)))) (.comp 1 (.name 0) (.var 4) (.con (.bl true)) (.op .add (.var 0) (.tup (.cons (.con (.bl true)) .nil)))))) .nil)) (.cons (.ret (.tup (.cons (.con (.str "table")) (.cons (.var 3) (.cons (.bi .tuple (.bi .sorted (.comp 1 (.name 0) (.var 4) (.cmp .eq (.call 28 (.cons (.var 1) (.cons (.ref 2) (.cons (.con (.int (2))) .nil)))) (.con (.int (1)))) (.var 0)))) .nil))))) .nil))))⟩
theorem xg(n:Nat)(p0 p1 p2:Sl):pg.fn (n+1) 30 [p0,p1,p2]=fin 3 (ex (pg.cf n) n8.body [p0,p1,p2,.un,.un,.un]):=(aZ (by kernel_rfl) _).trans (aG _ _ _ rfl)
def dJ:Fn:=⟨4,6,(.cons (.set 4 (.call 28 (.cons (.var 0) (.cons (.ref 1) (.cons (.con (.int (9))) .nil))))) (.cons (.ite (.or (.cons (.cmp .lt (.var 4) (.con (.int (4)))) (.cons (.cmp .lt (.bi .len (.var 2)) (.con (.int (2)))) .nil))) (.cons (.ret (.tup (.cons (.idx (.lis (.cons (.con (.str "same")) (.cons (.con (.str "not")) .nil))) (.op .mod (.var 4) (.con (.int (2))))) (.cons (.idx (.var 2) (.call 28 (.cons (.var 0) (.cons (.ref 1) (.cons (.bi .len (.var 2)) .nil))))) .nil)))) .nil) .nil) (.cons (.ite (.cmp .lt (.var 4) (.con (.int (7)))) (.cons (.ret (.tup (.cons (.idx (.lis (.cons (.con (.str "and")) (.cons (.con (.str "or")) (.cons (.con (.str "both")) .nil)))) (.op .sub (.var 4) (.con (.int (4))))) (.cons (.call 29 (.cons (.var 0) (.cons (.ref 1) (.cons (.var 2) (.cons (.con (.int (2))) (.cons (.con (.int (3))) .nil)))))) .nil)))) .nil) .nil) (.cons (.ite (.or (.cons (.cmp .eq (.var 4) (.con (.int (7)))) (.cons (.cmp .eq (.var 3) (.con (.int (0)))) .nil))) (.cons (.ret (.call 30 (.cons (.var 0) (.cons (.ref 1) (.cons (.var 2) .nil))))) .nil) .nil) (.cons (.set 5 (.call 31 (.cons (.var 0) (.cons (.ref 1) (.cons (.var 2) (.cons (.op .sub (.var 3) (.con (.int (1)))) .nil)))))) (.cons (.ret (.tup (.cons (.con (.str "held")) (.cons (.var 5) (.cons (.idx (.var 2) (.call 28 (.cons (.var 0) (.cons (.ref 1) (.cons (.bi .len (.var 2)) .nil))))) (.cons (.cmp .eq (.call 28 (.cons (.var 0) (.cons (.ref 1) (.cons (.con (.int (2))) .nil)))) (.con (.int (1)))) .nil)))))) .nil))))))⟩
theorem iM(n:Nat)(p0 p1 p2 p3:Sl):pg.fn (n+1) 31 [p0,p1,p2,p3]=fin 4 (ex (pg.cf n) dJ.body [p0,p1,p2,p3,.un,.un]):=(aZ (by kernel_rfl) _).trans (aG _ _ _ rfl)
def uQ:Fn:=⟨4,8,(.cons (.set 4 (.slc (.tup (.cons (.con (.str "a")) (.cons (.con (.str "b")) (.cons (.con (.str "come")) .nil)))) .noneE (.call 28 (.cons (.var 0) (.cons (.ref 1) (.cons (.op .add (.var 2) (.con (.int (1)))) .nil)))))) (.cons (.set 5 (.slc (.tup (.cons (.con (.str "p")) (.cons (.con (.str "q")) (.cons (.con (.str "rr")) (.cons (.con (.str "go")) (.cons (.con (.str "abcdef")) .nil)))))) .noneE (.op .add (.con (.int (1))) (.call 28 (.cons (.var 0) (.cons (.ref 1) (.cons (.var 3) .nil))))))) (.cons (.set 6 (.op .add (.var 4) (.var 5))) (.cons (.set 7 (.bi .tuple (.comp 1 (.name 0) (.var 5) (.con (.bl true)) (.tup (.cons (.var 0) (.cons (.call 31 (.cons (.var 1) (.cons (.ref 2) (.cons (.var 7) (.cons (.con (.int (1))) .nil))))) .nil)))))) (.cons (.ret (.tup (.cons (.var 4) (.cons (.var 7) (.cons (.bi .tuple (.comp 1 (.name 0) (.var 6) (.con (.bl true)) (.cmp .eq (.call 28 (.cons (.var 1) (.cons (.ref 2) (.cons (.con (.int (2))) .nil)))) (.con (.int (1)))))) .nil))))) .nil)))))⟩
theorem DN(n:Nat)(p0 p1 p2 p3:Sl):pg.fn (n+1) 32 [p0,p1,p2,p3]=fin 4 (ex (pg.cf n) uQ.body [p0,p1,p2,p3,.un,.un,.un,.un]):=(aZ (by kernel_rfl) _).trans (aG _ _ _ rfl)
def rA:Fn:=⟨4,9,(.cons (.set 4 (.bi .tuple (.comp 1 (.name 0) (.idx (.var 2) (.con (.int (1)))) (.cmp .gt (.call 28 (.cons (.var 1) (.cons (.ref 2) (.cons (.con (.int (3))) .nil)))) (.con (.int (0)))) (.idx (.var 0) (.con (.int (0))))))) (.cons (.set 5 (.op .add (.con (.int (1))) (.call 28 (.cons (.var 0) (.cons (.ref 1) (.cons (.var 3) .nil)))))) (.cons (.set 6 (.lis .nil)) (.cons (.for_ (.name 7) (.range1 (.var 5)) (.cons (.set 8 (.comp 1 (.name 0) (.op .add (.idx (.var 2) (.con (.int (0)))) (.var 4)) (.cmp .eq (.call 28 (.cons (.var 1) (.cons (.ref 2) (.cons (.con (.int (2))) .nil)))) (.con (.int (1)))) (.var 0))) (.cons (.append 6 (.bi .tuple (.comp 1 (.name 0) (.var 8) (.con (.bl true)) (.tup (.cons (.var 0) (.cons (.call 28 (.cons (.var 1) (.cons (.ref 2) (.cons (.var 6) .nil)))) .nil)))))) .nil))) (.cons (.ret (.tup (.cons (.var 4) (.cons (.bi .tuple (.var 6)) .nil)))) .nil)))))⟩
theorem zb(n:Nat)(p0 p1 p2 p3:Sl):pg.fn (n+1) 33 [p0,p1,p2,p3]=fin 4 (ex (pg.cf n) rA.body [p0,p1,p2,p3,.un,.un,.un,.un,.un]):=(aZ (by kernel_rfl) _).trans (aG _ _ _ rfl)
def rC:Fn:=⟨2,5,(.cons (.set 2 (.slc (.lis (.cons (.con (.str "p")) (.cons (.con (.str "q")) (.cons (.con (.str "rr")) (.cons (.con (.str "go")) (.cons (.con (.str "abcdef")) .nil)))))) .noneE (.op .add (.con (.int (3))) (.call 28 (.cons (.var 0) (.cons (.ref 1) (.cons (.con (.int (3))) .nil))))))) (.cons (.set 3 (.lis .nil)) (.cons (.for_ (.name 4) (.range1 (.bi .len (.var 2))) (.cons (.append 3 (.tup (.cons (.idx (.var 2) (.var 4)) (.cons (.tup (.cons (.con (.str "held")) (.cons (.tup (.cons (.con (.str "same")) (.cons (.idx (.var 2) (.op .sub (.var 4) (.con (.int (1))))) .nil))) (.cons (.idx (.var 2) (.op .mod (.op .add (.var 4) (.con (.int (1)))) (.bi .len (.var 2)))) (.cons (.con (.bl false)) .nil))))) .nil)))) .nil)) (.cons (.ret (.tup (.cons (.tup .nil) (.cons (.bi .tuple (.var 3)) (.cons (.bi .tuple (.comp 1 (.name 0) (.var 2) (.con (.bl true)) (.cmp .eq (.call 28 (.cons (.var 1) (.cons (.ref 2) (.cons (.con (.int (2))) .nil)))) (.con (.int (1)))))) .nil))))) .nil))))⟩
theorem zf(n:Nat)(p0 p1:Sl):pg.fn (n+1) 34 [p0,p1]=fin 2 (ex (pg.cf n) rC.body [p0,p1,.un,.un,.un]):=(aZ (by kernel_rfl) _).trans (aG _ _ _ rfl)
def oE:Fn:=⟨2,8,(.cons (.set 2 (.slc (.lis (.cons (.con (.str "p")) (.cons (.con (.str "q")) (.cons (.con (.str "rr")) (.cons (.con (.str "go")) .nil))))) .noneE (.op .add (.con (.int (1))) (.call 28 (.cons (.var 0) (.cons (.ref 1) (.cons (.con (.int (4))) .nil))))))) (.cons (.set 3 (.con (.str "a"))) (.cons (.set 4 (.lis (.cons (.cmp .eq (.call 28 (.cons (.var 0) (.cons (.ref 1) (.cons (.con (.int (2))) .nil)))) (.con (.int (1)))) .nil))) (.cons (.set 5 (.lis .nil)) (.cons (.for_ (.name 6) (.var 2) (.cons (.set 7 (.call 28 (.cons (.var 0) (.cons (.ref 1) (.cons (.con (.int (2))) .nil))))) (.cons (.append 5 (.tup (.cons (.var 6) (.cons (.tup (.cons (.idx (.lis (.cons (.con (.str "same")) (.cons (.con (.str "not")) .nil))) (.var 7)) (.cons (.var 3) .nil))) .nil)))) (.cons (.append 4 (.cmp .eq (.idx (.var 4) (.neg (.con (.int (1))))) (.cmp .eq (.var 7) (.con (.int (0)))))) (.cons (.set 3 (.var 6)) .nil))))) (.cons (.ret (.tup (.cons (.tup (.cons (.tup (.cons (.con (.str "a")) .nil)) (.cons (.bi .tuple (.var 5)) (.cons (.bi .tuple (.var 4)) .nil)))) (.cons (.tup (.cons (.tup (.cons (.idx (.var 2) (.neg (.con (.int (1))))) .nil)) (.cons (.tup (.cons (.tup (.cons (.tup (.cons (.con (.str "a")) (.cons (.con (.int (1))) .nil))) .nil)) (.cons (.tup (.cons (.tup (.cons (.idx (.var 2) (.neg (.con (.int (1))))) (.cons (.con (.int (0))) .nil))) .nil)) .nil))) .nil))) .nil)))) .nil))))))⟩
theorem xq(n:Nat)(p0 p1:Sl):pg.fn (n+1) 35 [p0,p1]=fin 2 (ex (pg.cf n) oE.body [p0,p1,.un,.un,.un,.un,.un,.un]):=(aZ (by kernel_rfl) _).trans (aG _ _ _ rfl)
def aL:Fn:=⟨2,8,(.cons (.set 2 (.call 28 (.cons (.var 0) (.cons (.ref 1) (.cons (.con (.int (6))) .nil))))) (.cons (.set 3 (.tup (.cons (.idx (.lis (.cons (.con (.str "both")) (.cons (.con (.str "both")) (.cons (.con (.str "and")) (.cons (.con (.str "or")) (.cons (.con (.str "both")) (.cons (.con (.str "both")) .nil))))))) (.var 2)) (.cons (.tup (.cons (.con (.str "a")) (.cons (.con (.str "b")) .nil))) .nil)))) (.cons (.ite (.cmp .gt (.var 2) (.con (.int (3)))) (.cons (.set 3 (.tup (.cons (.con (.str "held")) (.cons (.tup (.cons (.con (.str "same")) (.cons (.con (.str "a")) .nil))) (.cons (.con (.str "b")) (.cons (.con (.bl true)) .nil)))))) .nil) .nil) (.cons (.set 4 (.tup (.cons (.tup (.cons (.tup (.cons (.con (.str "a")) (.cons (.con (.int (1))) .nil))) (.cons (.tup (.cons (.con (.str "b")) (.cons (.con (.int (2))) .nil))) .nil))) (.cons (.tup (.cons (.tup (.cons (.con (.str "b")) (.cons (.con (.int (3))) .nil))) .nil)) (.cons (.tup (.cons (.tup (.cons (.con (.str "a")) (.cons (.con (.int (3))) .nil))) .nil)) (.cons (.tup (.cons (.tup (.cons (.con (.str "p")) (.cons (.con (.int (0))) .nil))) .nil)) .nil)))))) (.cons (.set 5 (.lis (.cons (.tup (.cons (.con (.str "p")) (.cons (.var 3) .nil))) .nil))) (.cons (.ite (.cmp .eq (.call 28 (.cons (.var 0) (.cons (.ref 1) (.cons (.con (.int (2))) .nil)))) (.con (.int (1)))) (.cons (.append 5 (.tup (.cons (.con (.str "q")) (.cons (.tup (.cons (.idx (.lis (.cons (.con (.str "same")) (.cons (.con (.str "not")) .nil))) (.call 28 (.cons (.var 0) (.cons (.ref 1) (.cons (.con (.int (2))) .nil))))) (.cons (.con (.str "p")) .nil))) .nil)))) .nil) .nil) (.cons (.set 6 (.cmp .eq (.call 28 (.cons (.var 0) (.cons (.ref 1) (.cons (.con (.int (2))) .nil)))) (.con (.int (1))))) (.cons (.set 7 (.lis (.cons (.var 6) (.cons (.var 6) (.cons (.var 6) .nil))))) (.cons (.ite (.cmp .gt (.bi .len (.var 5)) (.con (.int (1)))) (.cons (.append 7 (.cmp .eq (.var 6) (.cmp .eq (.idx (.idx (.idx (.var 5) (.con (.int (1)))) (.con (.int (1)))) (.con (.int (0)))) (.con (.str "same"))))) .nil) .nil) (.cons (.ret (.tup (.cons (.tup (.cons (.tup (.cons (.con (.str "a")) (.cons (.con (.str "b")) .nil))) (.cons (.bi .tuple (.var 5)) (.cons (.bi .tuple (.var 7)) .nil)))) (.cons (.tup (.cons (.tup (.cons (.con (.str "p")) .nil)) (.cons (.var 4) .nil))) .nil)))) .nil))))))))))⟩
theorem gO(n:Nat)(p0 p1:Sl):pg.fn (n+1) 36 [p0,p1]=fin 2 (ex (pg.cf n) aL.body [p0,p1,.un,.un,.un,.un,.un,.un]):=(aZ (by kernel_rfl) _).trans (aG _ _ _ rfl)
def cR:Fn:=⟨3,6,(.cons (.set 3 (.op .add (.idx (.var 2) (.con (.int (0)))) (.bi .tuple (.comp 1 (.name 0) (.idx (.var 2) (.con (.int (1)))) (.con (.bl true)) (.idx (.var 0) (.con (.int (0)))))))) (.cons (.set 4 (.call 28 (.cons (.var 0) (.cons (.ref 1) (.cons (.bi .len (.idx (.var 2) (.con (.int (1))))) .nil))))) (.cons (.set 5 (.bi .list (.idx (.var 2) (.con (.int (1)))))) (.cons (.setIx 5 (.var 4) (.tup (.cons (.idx (.idx (.var 5) (.var 4)) (.con (.int (0)))) (.cons (.call 31 (.cons (.var 0) (.cons (.ref 1) (.cons (.var 3) (.cons (.con (.int (1))) .nil))))) .nil)))) (.cons (.ret (.tup (.cons (.idx (.var 2) (.con (.int (0)))) (.cons (.bi .tuple (.var 5)) (.cons (.idx (.var 2) (.con (.int (2)))) .nil))))) .nil)))))⟩
theorem lJ(n:Nat)(p0 p1 p2:Sl):pg.fn (n+1) 37 [p0,p1,p2]=fin 3 (ex (pg.cf n) cR.body [p0,p1,p2,.un,.un,.un]):=(aZ (by kernel_rfl) _).trans (aG _ _ _ rfl)
def aX:Fn:=⟨2,6,(.cons (.set 2 (.lis (.cons (.var 1) .nil))) (.cons (.set 3 (.call 28 (.cons (.var 0) (.cons (.ref 2) (.cons (.con (.int (8))) .nil))))) (.cons (.ite (.cmp .lt (.var 3) (.con (.int (2)))) (.cons (.set 4 (.call 32 (.cons (.var 0) (.cons (.ref 2) (.cons (.con (.int (2))) (.cons (.con (.int (4))) .nil)))))) (.cons (.ret (.tup (.cons (.var 4) (.cons (.call 33 (.cons (.var 0) (.cons (.ref 2) (.cons (.var 4) (.cons (.con (.int (4))) .nil))))) .nil)))) .nil)) .nil) (.cons (.ite (.cmp .eq (.var 3) (.con (.int (2)))) (.cons (.ret (.tup (.cons (.call 32 (.cons (.var 0) (.cons (.ref 2) (.cons (.con (.int (0))) (.cons (.con (.int (4))) .nil))))) (.cons (.tup (.cons (.tup .nil) (.cons (.tup (.cons (.tup .nil) .nil)) .nil))) .nil)))) .nil) .nil) (.cons (.ite (.cmp .eq (.var 3) (.con (.int (3)))) (.cons (.set 4 (.call 34 (.cons (.var 0) (.cons (.ref 2) .nil)))) (.cons (.ite (.cmp .eq (.call 28 (.cons (.var 0) (.cons (.ref 2) (.cons (.con (.int (2))) .nil)))) (.con (.int (1)))) (.cons (.ret (.tup (.cons (.var 4) (.cons (.tup (.cons (.tup .nil) (.cons (.tup (.cons (.tup .nil) .nil)) .nil))) .nil)))) .nil) .nil) (.cons (.ret (.tup (.cons (.var 4) (.cons (.tup (.cons (.tup (.cons (.con (.str "q")) .nil)) (.cons (.tup (.cons (.tup (.cons (.tup (.cons (.con (.str "q")) (.cons (.con (.int (1))) .nil))) .nil)) (.cons (.tup (.cons (.tup (.cons (.con (.str "q")) (.cons (.con (.int (0))) .nil))) .nil)) .nil))) .nil))) .nil)))) .nil))) .nil) (.cons (.ite (.cmp .lt (.var 3) (.con (.int (6)))) (.cons (.setT [4,5] (.call 35 (.cons (.var 0) (.cons (.ref 2) .nil)))) .nil) (.cons (.setT [4,5] (.call 36 (.cons (.var 0) (.cons (.ref 2) .nil)))) .nil)) (.cons (.ite (.and (.cons (.cmp .eq (.op .mod (.var 3) (.con (.int (2)))) (.con (.int (1)))) (.cons (.cmp .eq (.call 28 (.cons (.var 0) (.cons (.ref 2) (.cons (.con (.int (2))) .nil)))) (.con (.int (1)))) .nil))) (.cons (.set 4 (.call 37 (.cons (.var 0) (.cons (.ref 2) (.cons (.var 4) .nil))))) .nil) .nil) (.cons (.ret (.tup (.cons (.var 4) (.cons (.var 5) .nil)))) .nil))))))))⟩
theorem dI(n:Nat)(p0 p1:Sl):pg.fn (n+1) 38 [p0,p1]=fin 2 (ex (pg.cf n) aX.body [p0,p1,.un,.un,.un,.un]):=(aZ (by kernel_rfl) _).trans (aG _ _ _ rfl)
def yw:Fn:=⟨1,1,(.cons (.ret (.op .add (.bi .list (.idx (.var 0) (.con (.int (0))))) (.comp 1 (.name 0) (.idx (.var 0) (.con (.int (1)))) (.con (.bl true)) (.idx (.var 0) (.con (.int (0))))))) .nil)⟩
theorem xm(n:Nat)(p0:Sl):pg.fn (n+1) 39 [p0]=fin 1 (ex (pg.cf n) yw.body [p0]):=(aZ (by kernel_rfl) _).trans (aG _ _ _ rfl)
def n6:Fn:=⟨3,5,(.cons (.ite (.cmp .eq (.idx (.var 0) (.con (.int (0)))) (.con (.str "same"))) (.cons (.ret (.idx (.var 1) (.idx (.var 0) (.con (.int (1)))))) .nil) .nil) (.cons (.ite (.cmp .eq (.idx (.var 0) (.con (.int (0)))) (.con (.str "not"))) (.cons (.ret (.not (.idx (.var 1) (.idx (.var 0) (.con (.int (1))))))) .nil) .nil) (.cons (.ite (.cmp .eq (.idx (.var 0) (.con (.int (0)))) (.con (.str "held"))) (.cons (.set 3 (.call 40 (.cons (.idx (.var 0) (.con (.int (1)))) (.cons (.var 1) (.cons (.var 2) .nil))))) (.cons (.ret (.idx (.lis (.cons (.var 2) (.cons (.var 3) .nil))) (.bi .int (.cmp .eq (.idx (.var 1) (.idx (.var 0) (.con (.int (2))))) (.cmp .eq (.var 3) (.idx (.var 0) (.con (.int (3))))))))) .nil)) .nil) (.cons (.set 4 (.comp 1 (.name 0) (.idx (.var 0) (.con (.int (1)))) (.con (.bl true)) (.idx (.var 2) (.var 0)))) (.cons (.ite (.cmp .eq (.idx (.var 0) (.con (.int (0)))) (.con (.str "table"))) (.cons (.ret (.cmp .isin (.bi .tuple (.var 4)) (.idx (.var 0) (.con (.int (2)))))) .nil) .nil) (.cons (.ite (.cmp .eq (.idx (.var 0) (.con (.int (0)))) (.con (.str "and"))) (.cons (.ret (.cmp .notin (.con (.bl false)) (.var 4))) .nil) .nil) (.cons (.ite (.cmp .eq (.idx (.var 0) (.con (.int (0)))) (.con (.str "or"))) (.cons (.ret (.cmp .isin (.con (.bl true)) (.var 4))) .nil) .nil) (.cons (.ite (.and (.cons (.cmp .isin (.con (.bl true)) (.var 4)) (.cons (.cmp .isin (.con (.bl false)) (.var 4)) .nil))) (.cons (.ret (.var 2)) .nil) .nil) (.cons (.ret (.idx (.var 4) (.con (.int (0))))) .nil)))))))))⟩
theorem cU(n:Nat)(p0 p1 p2:Sl):pg.fn (n+1) 40 [p0,p1,p2]=fin 3 (ex (pg.cf n) n6.body [p0,p1,p2,.un,.un]):=(aZ (by kernel_rfl) _).trans (aG _ _ _ rfl)
def kj:Fn:=⟨2,3,(.cons (.set 2 (.bi .dict (.bi .list (.zip (.call 39 (.cons (.var 0) .nil)) (.var 1))))) (.cons (.ret (.comp 1 (.name 0) (.idx (.var 0) (.con (.int (1)))) (.cmp .ne (.call 40 (.cons (.idx (.var 0) (.con (.int (1)))) (.cons (.var 3) (.cons (.idx (.var 3) (.idx (.var 0) (.con (.int (0))))) .nil)))) (.idx (.var 3) (.idx (.var 0) (.con (.int (0)))))) (.idx (.var 0) (.con (.int (0)))))) .nil))⟩
theorem rT(n:Nat)(p0 p1:Sl):pg.fn (n+1) 41 [p0,p1]=fin 2 (ex (pg.cf n) kj.body [p0,p1,.un]):=(aZ (by kernel_rfl) _).trans (aG _ _ _ rfl)
def oh:Fn:=⟨3,4,(.cons (.set 3 (.comp 1 (.name 0) (.idx (.idx (.var 1) (.con (.int (1)))) (.idx (.var 2) (.con (.int (1))))) (.cmp .isin (.idx (.var 0) (.con (.int (0)))) (.idx (.var 1) (.con (.int (0))))) (.idx (.var 0) (.con (.int (0)))))) (.cons (.set 3 (.op .add (.var 3) (.call 41 (.cons (.var 0) (.cons (.idx (.var 2) (.con (.int (0)))) .nil))))) (.cons (.ret (.comp 1 (.name 0) (.call 39 (.cons (.var 0) .nil)) (.cmp .isin (.var 0) (.var 4)) (.var 0))) .nil)))⟩
theorem xj(n:Nat)(p0 p1 p2:Sl):pg.fn (n+1) 42 [p0,p1,p2]=fin 3 (ex (pg.cf n) oh.body [p0,p1,p2,.un]):=(aZ (by kernel_rfl) _).trans (aG _ _ _ rfl)
def uR:Fn:=⟨4,8,(.cons (.set 4 (.call 39 (.cons (.var 0) .nil))) (.cons (.set 5 (.bi .tuple (.comp 1 (.name 0) (.range1 (.bi .len (.var 4))) (.con (.bl true)) (.cmp .ne (.idx (.idx (.var 3) (.con (.int (0)))) (.var 0)) (.cmp .eq (.idx (.var 5) (.var 0)) (.var 4)))))) (.cons (.ite (.and (.cons (.cmp .notin (.var 3) (.idx (.var 0) (.con (.int (0))))) (.cons (.cmp .notin (.var 3) (.idx (.var 1) (.con (.int (0))))) .nil))) (.cons (.ret (.tup (.cons (.var 5) (.cons (.idx (.var 2) (.con (.int (1)))) .nil)))) .nil) .nil) (.cons (.for_ (.tup [6,7]) (.idx (.idx (.var 1) (.con (.int (1)))) (.idx (.var 2) (.con (.int (1))))) (.cons (.ite (.cmp .eq (.var 6) (.var 3)) (.cons (.ret (.tup (.cons (.var 5) (.cons (.var 7) .nil)))) .nil) .nil) .nil)) (.cons (.ret (.con .non)) .nil)))))⟩
theorem DP(n:Nat)(p0 p1 p2 p3:Sl):pg.fn (n+1) 43 [p0,p1,p2,p3]=fin 4 (ex (pg.cf n) uR.body [p0,p1,p2,p3,.un,.un,.un,.un]):=(aZ (by kernel_rfl) _).trans (aG _ _ _ rfl)
def jk:Fn:=⟨5,12,(.cons (.set 5 (.call 27 (.cons (.var 0) (.cons (.var 1) (.cons (.op .pow (.con (.int (10))) (.con (.int (9)))) .nil))))) (.cons (.set 6 (.tup (.cons (.idx (.var 2) (.con (.int (2)))) (.cons (.con (.int (0))) .nil)))) (.cons (.set 7 (.lis .nil)) (.cons (.for_ (.name 8) (.range1 (.call 27 (.cons (.var 0) (.cons (.op .add (.var 1) (.con (.int (1)))) (.cons (.op .add (.var 4) (.con (.int (1)))) .nil))))) (.cons (.set 9 (.lis .nil)) (.cons (.for_ (.name 10) (.call 42 (.cons (.var 2) (.cons (.var 3) (.cons (.var 6) .nil)))) (.cons (.ite (.cmp .notN (.call 43 (.cons (.var 2) (.cons (.var 3) (.cons (.var 6) (.cons (.var 10) .nil))))) (.con .non)) (.cons (.append 9 (.var 10)) .nil) .nil) .nil)) (.cons (.ite (.cmp .ne (.var 9) (.lis .nil)) (.cons (.set 11 (.op .mod (.op .mul (.op .add (.op .add (.var 5) (.op .mul (.op .mul (.con (.int (104729))) (.var 8)) (.var 8))) (.op .mul (.con (.int (7919))) (.var 8))) (.con (.int (48271)))) (.con (.int (2147483647))))) (.cons (.append 7 (.idx (.var 9) (.op .mod (.op .fdiv (.var 11) (.con (.int (13)))) (.bi .len (.var 9))))) (.cons (.set 6 (.call 43 (.cons (.var 2) (.cons (.var 3) (.cons (.var 6) (.cons (.idx (.var 7) (.neg (.con (.int (1))))) .nil)))))) .nil))) .nil) .nil)))) (.cons (.ret (.tup (.cons (.var 7) (.cons (.var 6) .nil)))) .nil)))))⟩
theorem oM(n:Nat)(p0 p1 p2 p3 p4:Sl):pg.fn (n+1) 44 [p0,p1,p2,p3,p4]=fin 5 (ex (pg.cf n) jk.body [p0,p1,p2,p3,p4,.un,.un,.un,.un,.un,.un,.un]):=(aZ (by kernel_rfl) _).trans (aG _ _ _ rfl)
def nM:Fn:=⟨3,5,(.cons (.ite (.not (.isi (.var 2) .lst)) (.cons (.ret (.con .non)) .nil) .nil) (.cons (.set 3 (.tup (.cons (.idx (.var 0) (.con (.int (2)))) (.cons (.con (.int (0))) .nil)))) (.cons (.for_ (.name 4) (.var 2) (.cons (.ite (.cmp .notN (.var 3) (.con .non)) (.cons (.ite (.cmp .isin (.var 4) (.call 42 (.cons (.var 0) (.cons (.var 1) (.cons (.var 3) .nil))))) (.cons (.set 3 (.call 43 (.cons (.var 0) (.cons (.var 1) (.cons (.var 3) (.cons (.var 4) .nil)))))) .nil) (.cons (.set 3 (.con .non)) .nil)) .nil) .nil) .nil)) (.cons (.ret (.var 3)) .nil))))⟩
theorem tX(n:Nat)(p0 p1 p2:Sl):pg.fn (n+1) 45 [p0,p1,p2]=fin 3 (ex (pg.cf n) nM.body [p0,p1,p2,.un,.un]):=(aZ (by kernel_rfl) _).trans (aG _ _ _ rfl)
def jc:Fn:=⟨3,4,(.cons (.ret (.tcall 20 (.cons (.var 0) (.cons (.var 1) (.cons (.var 2) .nil))) [(1,.non)])) .nil)⟩
theorem pU(n:Nat)(p0 p1 p2:Sl):pg.fn (n+1) 46 [p0,p1,p2]=fin 3 (ex (pg.cf n) jc.body [p0,p1,p2,.un]):=(aZ (by kernel_rfl) _).trans (aG _ _ _ rfl)
def jH:Fn:=⟨1,10,(.cons (.setT [1,2] (.call 38 (.cons (.var 0) (.cons (.con (.int (4))) .nil)))) (.cons (.setT [3,4] (.call 44 (.cons (.var 0) (.cons (.con (.int (0))) (.cons (.var 1) (.cons (.var 2) (.cons (.con (.int (12))) .nil))))))) (.cons (.ite (.cmp .ne (.call 20 (.cons (.var 1) (.cons (.var 2) (.cons (.bi .list (.var 3)) .nil)))) (.var 4)) (.cons (.ret (.con (.bl false))) .nil) .nil) (.cons (.set 5 (.call 39 (.cons (.var 1) .nil))) (.cons (.set 6 (.call 27 (.cons (.var 0) (.cons (.con (.int (2))) (.cons (.op .add (.bi .len (.var 3)) (.con (.int (1)))) .nil))))) (.cons (.set 7 (.idx (.var 5) (.call 27 (.cons (.var 0) (.cons (.con (.int (3))) (.cons (.bi .len (.var 5)) .nil)))))) (.cons (.set 8 (.lis (.cons (.op .add (.var 3) (.lis (.cons (.var 7) .nil))) (.cons (.op .add (.op .add (.slc (.var 3) .noneE (.var 6)) (.lis (.cons (.var 7) .nil))) (.slc (.var 3) (.var 6) .noneE)) (.cons (.op .add (.slc (.var 3) .noneE (.var 6)) (.slc (.var 3) (.op .add (.var 6) (.con (.int (1)))) .noneE)) (.cons (.op .add (.var 3) (.lis (.cons (.con (.str "zz")) .nil))) (.cons (.op .add (.var 3) (.lis (.cons (.con .non) .nil))) (.cons (.bi .tuple (.var 3)) .nil)))))))) (.cons (.set 9 (.idx (.op .add (.var 8) (.lis (.cons (.con .non) (.cons (.op .add (.var 3) (.lis (.cons (.lis (.cons (.var 7) .nil)) .nil))) .nil)))) (.call 27 (.cons (.var 0) (.cons (.con (.int (4))) (.cons (.con (.int (8))) .nil)))))) (.cons (.ret (.cmp .eq (.call 46 (.cons (.var 1) (.cons (.var 2) (.cons (.var 9) .nil)))) (.call 45 (.cons (.var 1) (.cons (.var 2) (.cons (.var 9) .nil)))))) .nil)))))))))⟩
theorem Zf(n:Nat)(p0:Sl):pg.fn (n+1) 47 [p0]=fin 1 (ex (pg.cf n) jH.body [p0,.un,.un,.un,.un,.un,.un,.un,.un,.un]):=(aZ (by kernel_rfl) _).trans (aG _ _ _ rfl)
end Tx
end
end
section
open PySem Mini
namespace Tx
abbrev sc(ns:List Int):D:=.lst (ns.map .int)
theorem Kr(ns:List Int)(i:Int)(h0:0<=i)(h:i<ns.length):∃r:Int,at? (ns.map D.int) i=some (.int r):=by
 unfold at? ix?
 rw[List.length_map,if_neg (by omega:¬i<0)]
 rw[if_pos ⟨h0,h⟩]
 have:i.toNat<ns.length:=by omega
 exact⟨ns[i.toNat],by simp[this]⟩
theorem Ir(ns:List Int):lQ (ns.map D.int)=true:=by
 induction ns with
 |nil=>rfl
 |cons i r ih=>simp[lQ,nd,ih]
theorem Fv(ns:List Int):mq (ns.map D.int)=0:=by
 induction ns with
 |nil=>rfl
 |cons i r ih=>simp[mq,dep,ih]
theorem JR(ns:List Int):aH .eq (.lst (ns.map .int)) (.lst [])=some ns.isEmpty:=by
 cases ns with
 |nil=>rfl
 |cons i ns=>simp[aH,j5,flat,nd,lQ,dep,mq,cL,qL,Ir,Fv]
theorem Ac(n:Nat)(ns:List Int)(k:Int)(hk:0<=k):∃r:Int,pg.fn (n+1) 26 [.val (sc ns),.val (.int k)]=.ok (.val (.int r)) [.val (sc ns),.val (.int k)]:=by
 by_cases h:k<ns.length
 ·obtain⟨r,e⟩:=Kr ns k hk h
  exact⟨r,by rw[gP];simp[fH,h,e]⟩
 ·by_cases hn:ns=[]
  ·subst hn
   have h0:¬k<0:=by omega
   exact⟨0,by rw[gP];simp[fH,h0,aV,fits,JR []]⟩
  ·have hl':0<ns.length:=List.length_pos_iff.mpr hn
   have hl:(0:Int)<ns.length:=by omega
   obtain⟨r,e⟩:=Kr ns (k%ns.length) (Int.emod_nonneg _ (by omega)) (Int.emod_lt_of_pos _ hl)
   have he:ns.isEmpty=false:=by simpa using hn
   exact⟨r*31+k,by rw[gP];simp[fH,h,e,aV,fits,JR,he,hl,hl',small]⟩
@[simp]theorem af3(n:Nat):(pg.cf n).fn=pg.fn n:=rfl
@[simp]theorem af2(n:Nat):(pg.cf n).gl=pg.gl:=rfl
@[simp]theorem aaT(n:Nat):(pg.cf n).turns=1000:=rfl
theorem ir(n:Nat)(ns:List Int)(k many:Int)(hk:0<=k)(hm:0<many):∃r:Int,0<=r/\r<many/\
  pg.fn (n+2) 27 [.val (sc ns),.val (.int k),.val (.int many)]=.ok (.val (.int r)) [.val (sc ns),.val (.int k),.val (.int many)]:=by
 obtain⟨c,e⟩:=Ac n ns k hk
 have b:∀x:Int,small (x%2147483647)=true:=fun x=>by
  have h1:=Int.emod_nonneg x (by omega:(2147483647:Int)≠0)
  have h2:=Int.emod_lt_of_pos x (by omega:(0:Int)<2147483647)
  simp[small]
  omega
 have s1:small 7919=true:=by decide
 have s2:small 48271=true:=by decide
 have s3:small 7=true:=by decide
 refine⟨_,?_,?_,by rw[xn];simp[oA,e,s1,s2,s3,b,hm];rfl⟩
 ·exact Int.emod_nonneg _ (by omega)
 ·exact Int.emod_lt_of_pos _ hm
theorem K9{k:Int}(h:0<=k):0<=k+1:=Int.le_trans h (Int.le_add_one (Int.le_refl k))
theorem bC(n:Nat)(ns:List Int)(k many:Int)(hk:0<=k)(hm:0<many):∃r:Int,0<=r/\r<many/\
  pg.fn (n+3) 28 [.val (sc ns),.bor (.lst [.int k]),.val (.int many)]=.ok (.val (.int r)) [.val (sc ns),.bor (.lst [.int (k+1)]),.val (.int many)]:=by
 obtain⟨r,h1,h2,e⟩:=ir n ns (k+1) many (K9 hk) hm
 refine⟨r,h1,h2,?_⟩
 rw[zg]
 simp[rD,at?,ix?,vB,e]
end Tx
end
section
open PySem Mini
namespace Tx
def nR:E:=(.and (.cons (.cmp .gt (.bi .len (.var 5)) (.var 3)) (.cons (.or (.cons (.cmp .gt (.bi .len (.var 5)) (.var 4)) (.cons (.cmp .eq (.call 28 (.cons (.var 0) (.cons (.ref 1) (.cons (.con (.int (2))) .nil)))) (.con (.int (1)))) .nil))) .nil)))
def sZ:S:=(.cons (.expr (.popAt 5 (.call 28 (.cons (.var 0) (.cons (.ref 1) (.cons (.bi .len (.var 5)) .nil)))))) .nil)
abbrev someσ(ns:List Int)(k:Int)(xs:List D)(least most:Int)(row:List D):Ev:=[.val (sc ns),.bor (.lst [.int k]),.val (.tup xs),.val (.int least),.val (.int most),.own (.lst row)]
theorem G5(n:Nat)(ns:List Int)(k:Int)(hk:0<=k)(xs row:List D)(least most:Int)(h0:0<row.length)(hf:row.length<=1000):
  ∃j:Nat,j<row.length/\ex (pg.cf (n+3)) sZ (someσ ns k xs least most row)=.next (someσ ns (k+1) xs least most (row.eraseIdx j)):=by
 obtain⟨r,h1,h2,e⟩:=bC n ns k row.length hk (by omega)
 refine⟨r.toNat,by omega,?_⟩
 have f:fits row.length=true:=by simp[fits];omega
 have hx:ix? row.length r=some r.toNat:=by
  unfold ix?
  rw[if_neg (by omega:¬r<0),if_pos ⟨h1,h2⟩]
 have hr:row[r.toNat]? =some (row[r.toNat]'(by omega)):=QXq (by omega)
 simp[sZ,e,di,pY,f,hx,hr,rP]
theorem Do(n:Nat)(ns:List Int)(xs:List D)(least most:Int)(hx:xs.length<=1000)(hl:0<=least)(hlm:least<=most):∀(L:Nat)(row:List D)(k:Int)(fuel:Nat),row.length=L->L<fuel->0<=k->row.Sublist xs->least<=row.length->
  ∃ys k',ys.Sublist xs/\least<=ys.length/\ys.length<=most/\0<=k'/\cP (ev (pg.cf (n+3)) nR) (ex (pg.cf (n+3)) sZ) fuel (someσ ns k xs least most row)=.next (someσ ns k' xs least most ys):=by
 intro L
 induction L with
 |zero=>
  intro row k fuel hL hf hk hs hr
  obtain⟨fuel,rfl⟩:∃f,fuel=f+1:=⟨fuel-1,by omega⟩
  have:¬least<row.length:=by omega
  exact⟨row,k,hs,hr,by omega,hk,by simp[cP,nR,this]⟩
 |succ L ih=>
  intro row k fuel hL hf hk hs hr
  obtain⟨fuel,rfl⟩:∃f,fuel=f+1:=⟨fuel-1,by omega⟩
  have hrl:=hs.length_le
  by_cases h1:least<row.length
  ·--the row is longer than the least
   have cont:∀k1:Int,0<=k1->∃ys k',ys.Sublist xs/\least<=ys.length/\ys.length<=most/\0<=k'/\
     (ex (pg.cf (n+3)) sZ (someσ ns k1 xs least most row)).turn (cP (ev (pg.cf (n+3)) nR) (ex (pg.cf (n+3)) sZ) fuel)=.next (someσ ns k' xs least most ys):=fun k1 hk1=>by
    obtain⟨j,hj,e⟩:=G5 n ns k1 hk1 xs row least most (by omega) (by omega)
    have el:(row.eraseIdx j).length=L:=by rw[List.length_eraseIdx_of_lt hj];omega
    obtain⟨ys,k',a1,a2,a3,a4,a5⟩:=ih (row.eraseIdx j) (k1+1) fuel el (by omega) (by omega) ((List.eraseIdx_sublist row j).trans hs) (by omega)
    exact⟨ys,k',a1,a2,a3,a4,by rw[e];exact a5⟩
   by_cases h2:most<row.length
   ·obtain⟨ys,k',a1,a2,a3,a4,a5⟩:=cont k hk
    refine⟨ys,k',a1,a2,a3,a4,?_⟩
    rw[<-a5]
    simp[cP,nR,h1,h2]
   ·obtain⟨r,b1,b2,e⟩:=bC n ns k 2 hk (by omega)
    by_cases h3:r=1
    ·subst h3
     obtain⟨ys,k',a1,a2,a3,a4,a5⟩:=cont (k+1) (by omega)
     refine⟨ys,k',a1,a2,a3,a4,?_⟩
     rw[<-a5]
     simp[cP,nR,h1,h2,e]
    ·exact⟨row,k+1,hs,by omega,by omega,by omega,by simp[cP,nR,h1,h2,e,h3]⟩
  ·exact⟨row,k,hs,by omega,by omega,hk,by simp[cP,nR,h1]⟩
theorem Ba(n:Nat)(ns:List Int)(k:Int)(hk:0<=k)(xs:List D)(least most:Int)(hx:xs.length<=900)(hl:0<=least)(hlm:least<=most)(hxl:least<=xs.length):
  ∃ys k',ys.Sublist xs/\least<=ys.length/\ys.length<=most/\0<=k'/\
   pg.fn (n+4) 29 [.val (sc ns),.bor (.lst [.int k]),.val (.tup xs),.val (.int least),.val (.int most)]=.ok (.val (.tup ys)) [.val (sc ns),.bor (.lst [.int k']),.val (.tup xs),.val (.int least),.val (.int most)]:=by
 obtain⟨ys,k',a1,a2,a3,a4,a5⟩:=Do n ns xs least most (by omega) hl hlm xs.length xs k 1000 rfl (by omega) hk (List.Sublist.refl _) hxl
 refine⟨ys,k',a1,a2,a3,a4,?_⟩
 rw[zc]
 have hb:rB.body=.cons (.set 5 (.bi .list (.var 2))) (.cons (.while_ nR sZ) (.cons (.ret (.bi .tuple (.var 5))) .nil)):=rfl
 rw[hb]
 simp[a5]
end Tx
end
section
open PySem Mini
namespace Tx
def rM(s:Sl):Prop:=s=.un\/∃d,s=.val d
theorem jA{s:Sl}(h:rM s)(d:D)(r:Ev):bN (.name 0) d (s::r)=some (.val d::r):=by
 rcases h with rfl|⟨e,rfl⟩<;>simp[bN]
def my:E:=(.cmp .eq (.call 28 (.cons (.var 1) (.cons (.ref 2) (.cons (.con (.int (2))) .nil)))) (.con (.int (1))))
theorem wj(n:Nat)(ns:List Int)(k:Int)(hk:0<=k)(d:D)(rest:Ev):∃b:Bool,ev (pg.cf (n+3)) my (.val d:: .val (sc ns):: .bor (.lst [.int k])::rest)=.ok (.val (.bl b)) (.val d:: .val (sc ns):: .bor (.lst [.int (k+1)])::rest):=by
 obtain⟨r,h1,h2,e⟩:=bC n ns k 2 hk (by omega)
 exact⟨r==1,by simp[my,e]⟩
theorem J6(n:Nat)(ns:List Int)(rest:Ev):∀(xs acc:List D)(k:Int)(s:Sl),0<=k->rM s->∃bs k' s',bs.length=xs.length/\0<=k'/\rM s'/\
  aO (.name 0) (ev (pg.cf (n+3)) my) (ev (pg.cf (n+3)) (.var 0)) xs acc (s:: .val (sc ns):: .bor (.lst [.int k])::rest)=.ok (acc++j7 bs xs) (s':: .val (sc ns):: .bor (.lst [.int k'])::rest)
 |[]=>fun acc k s hk hs=>⟨[],k,s,rfl,hk,hs,by simp[aO,j7]⟩
 |x::xs=>fun acc k s hk hs=>by
  obtain⟨b,e⟩:=wj n ns k hk x rest
  cases b with
  |true=>
   obtain⟨bs,k',s',a1,a2,a3,a4⟩:=J6 n ns rest xs (acc++[x]) (k+1) (.val x) (by omega) (.inr ⟨x,rfl⟩)
   refine⟨true::bs,k',s',by simp[a1],a2,a3,?_⟩
   rw[aO,jA hs]
   simp only[e,dq,if_true]
   have e0:ev (pg.cf (n+3)) (.var 0) (.val x:: .val (sc ns):: .bor (.lst [.int (k+1)])::rest)=.ok (.val x) (.val x:: .val (sc ns):: .bor (.lst [.int (k+1)])::rest):=by simp
   rw[e0,bQ,a4]
   simp[j7]
  |false=>
   obtain⟨bs,k',s',a1,a2,a3,a4⟩:=J6 n ns rest xs acc (k+1) (.val x) (by omega) (.inr ⟨x,rfl⟩)
   refine⟨false::bs,k',s',by simp[a1],a2,a3,?_⟩
   rw[aO,jA hs]
   simp only[e,dq,Bool.false_eq_true,if_false]
   rw[a4]
   simp[j7]
def PQ(b:Bool):E:=(.comp 1 (.name 0) (.var 4) (.con (.bl true)) (.op .add (.var 0) (.tup (.cons (.con (.bl b)) .nil))))
def vq:S:=(.cons (.set 4 (.op .add (PQ false) (PQ true))) .nil)
theorem KC(c:Cf)(b:Bool)(rest:Ev):∀(rs:List (List Bool))(acc:List D)(s:Sl),rM s->(∀r∈rs,r.length<=1000)->∃s',rM s'/\
  aO (.name 0) (ev c (.con (.bl true))) (ev c (.op .add (.var 0) (.tup (.cons (.con (.bl b)) .nil)))) (rs.map aB) acc (s::rest)=.ok (acc++(rs.map (· ++[b])).map aB) (s'::rest)
 |[]=>fun acc s hs _=>⟨s,hs,by simp[aO]⟩
 |r::rs=>fun acc s hs hl=>by
  obtain⟨s',a1,a2⟩:=KC c b rest rs (acc++[aB (r++[b])]) (.val (aB r)) (.inr ⟨_,rfl⟩) fun q hq=>hl q (QYq _ hq)
  have h1:=hl r QYz
  refine⟨s',a1,?_⟩
  rw[List.map_cons,aO,jA hs]
  have e0:ev c (.op .add (.var 0) (.tup (.cons (.con (.bl b)) .nil))) (.val (aB r)::rest)=.ok (.val (aB (r++[b]))) (.val (aB r)::rest):=by
   have f:fits (r.length+1)=true:=by simp[fits];omega
   simp[aV,aB,f]
  have e1:ev c (.con (.bl true)) (.val (aB r)::rest)=.ok (.val (.bl true)) (.val (aB r)::rest):=by simp
  simp only[e1,dq,if_true]
  rw[e0,bQ,a2]
  simp
theorem KD(c:Cf)(b:Bool)(rs:List (List Bool))(hl:∀r∈rs,r.length<=1000){s:Sl}(hs:s=.own (.lst (rs.map aB))\/s=.val (.lst (rs.map aB)))(s0 s1 s2 s3 s5:Sl):ev c (PQ b) [s0,s1,s2,s3,s,s5]=.ok (.new (.lst ((rs.map (· ++[b])).map aB))) [s0,s1,s2,s3,.val (.lst (rs.map aB)),s5]:=by
 obtain⟨s',_,a⟩:=KC c b [s0,s1,s2,s3,.val (.lst (rs.map aB)),s5] rs [] .un (.inl rfl) hl
 have h:ev c (.var 4) [s0,s1,s2,s3,s,s5]=.ok (.val (.lst (rs.map aB))) [s0,s1,s2,s3,.val (.lst (rs.map aB)),s5]:=by
  rcases hs with rfl|rfl<;>simp
 unfold PQ
 rw[kJ,h,bQ]
 simp only[items]
 rw[show List.replicate 1 Sl.un++[s0,s1,s2,s3,.val (.lst (rs.map aB)),s5]=Sl.un::[s0,s1,s2,s3,.val (.lst (rs.map aB)),s5]from rfl,a]
 simp
theorem DG(c:Cf)(rs:List (List Bool))(hl:∀r∈rs,r.length<=1000)(hn:rs.length<=1000){s:Sl}(hs:s=.own (.lst (rs.map aB)))(s0 s1 s2 s3 s5:Sl):
  ex c vq [s0,s1,s2,s3,s,s5]=.next [s0,s1,s2,s3,.own (.lst ((rs.map (· ++[false])++rs.map (· ++[true])).map aB)),s5]:=by
 have f:fits (rs.length+rs.length)=true:=by simp[fits];omega
 unfold vq
 simp only[x_0,x_1,x_5,X6]
 rw[KD c false rs hl (.inl hs),jX]
 simp only[J1]
 rw[KD c true rs hl (.inr rfl),jX]
 simp[f]
theorem tK(c:Cf)(s0 s1 s2 s3:Sl):∀(ys:List D)(k:Nat)(s5:Sl),rM s5->k+ys.length<=9->∃s5',rM s5'/\bF (.name 5) (ex c vq) ys [s0,s1,s2,s3,.own (.lst ((cZ k).map aB)),s5]=.next [s0,s1,s2,s3,.own (.lst ((cZ (k+ys.length)).map aB)),s5']
 |[]=>fun k s5 h5 _=>⟨s5,h5,by simp[bF]⟩
 |y::ys=>fun k s5 h5 hk=>by
  simp only[List.length_cons]at hk
  obtain⟨s5',a1,a2⟩:=tK c s0 s1 s2 s3 ys (k+1) (.val y) (.inr ⟨y,rfl⟩) (by omega)
  refine⟨s5',a1,?_⟩
  have st:bN (.name 5) y [s0,s1,s2,s3,.own (.lst ((cZ k).map aB)),s5]=some [s0,s1,s2,s3,.own (.lst ((cZ k).map aB)),.val y]:=by
   rcases h5 with rfl|⟨e,rfl⟩<;>simp[bN]
  have lens:∀k,∀r∈cZ k,r.length=k:=by
   intro k
   induction k with
   |zero=>intro r hr;simp[cZ]at hr;subst hr;rfl
   |succ k ih=>
    intro r hr
    simp only[cZ,List.mem_append,List.mem_map]at hr
    rcases hr with ⟨q,hq,rfl⟩|⟨q,hq,rfl⟩<;>simp[ih q hq]
  have hn:(cZ k).length<=1000:=by
   rw[mR]
   have:2 ^k<=2 ^9:=Nat.pow_le_pow_right (by omega) (by omega)
   omega
  rw[bF,st]
  simp only
  rw[DG c (cZ k) (fun r hr=>by rw[lens k r hr];omega) hn rfl,mK]
  rw[show(cZ k).map (· ++[false])++(cZ k).map (· ++[true])=cZ (k+1)from rfl,a2]
  rw[show k+1+ys.length=k+(y::ys).length by simp;omega]
def o5:E:=.comp 1 (.name 0) (.var 4) my (.var 0)
theorem z6(n:Nat)(ns:List Int)(k:Int)(hk:0<=k)(zs:List D)(s2 s3 s5:Sl):∃bs k',bs.length=zs.length/\0<=k'/\
  ev (pg.cf (n+3)) o5 [.val (sc ns),.bor (.lst [.int k]),s2,s3,.own (.lst zs),s5]=.ok (.new (.lst (j7 bs zs))) [.val (sc ns),.bor (.lst [.int k']),s2,s3,.val (.lst zs),s5]:=by
 obtain⟨bs,k',s',c1,c2,c3,c4⟩:=J6 n ns [s2,s3,.val (.lst zs),s5] zs [] k .un hk (.inl rfl)
 refine⟨bs,k',c1,c2,?_⟩
 have h:ev (pg.cf (n+3)) (.var 4) [.val (sc ns),.bor (.lst [.int k]),s2,s3,.own (.lst zs),s5]=.ok (.val (.lst zs)) [.val (sc ns),.bor (.lst [.int k]),s2,s3,.val (.lst zs),s5]:=by simp
 unfold o5
 rw[kJ,h,bQ]
 simp only[items]
 rw[show List.replicate 1 Sl.un++[.val (sc ns),.bor (.lst [.int k]),s2,s3,.val (.lst zs),s5]=Sl.un:: .val (sc ns):: .bor (.lst [.int k])::[s2,s3,.val (.lst zs),s5]from rfl,c4]
 simp
theorem GQ(n:Nat)(ns:List Int)(k:Int)(hk:0<=k)(xs:List D)(hx:xs.length<=900)(h1:1<=xs.length):
  ∃ys rs k',ys.Sublist xs/\1<=ys.length/\ys.length<=3/\(∀r∈rs,r.length=ys.length)/\xY rs=true/\0<=k'/\
   pg.fn (n+5) 30 [.val (sc ns),.bor (.lst [.int k]),.val (.tup xs)]=.ok (.val (.tup [.str "table",.tup ys,.tup (rs.map aB)])) [.val (sc ns),.bor (.lst [.int k']),.val (.tup xs)]:=by
 obtain⟨ys,k1,a1,a2,a3,a4,a5⟩:=Ba n ns k hk xs 1 3 hx (by omega) (by omega) (by omega)
 obtain⟨s5,b1,b2⟩:=tK (pg.cf (n+4)) (.val (sc ns)) (.bor (.lst [.int k1])) (.val (.tup xs)) (.val (.tup ys)) ys 0 .un (.inl rfl) (by omega)
 obtain⟨bs,k2,c1,c2,c4⟩:=z6 (n+1) ns k1 a4 ((cZ ys.length).map aB) (.val (.tup xs)) (.val (.tup ys)) s5
 rw[List.length_map,mR]at c1
 obtain⟨rs,d1,d2,d3⟩:=Dn ys.length (by omega) (by omega) bs c1
 refine⟨ys,rs,k2,a1,by omega,by omega,d2,d3,c2,?_⟩
 rw[xg]
 have hb:n8=⟨3,6,.cons (.set 3 (.call 29 (.cons (.var 0) (.cons (.ref 1) (.cons (.var 2) (.cons (.con (.int (1))) (.cons (.con (.int (3))) .nil))))))) (.cons (.set 4 (.lis (.cons (.tup .nil) .nil))) (.cons (.for_ (.name 5) (.var 3) vq)
  (.cons (.ret (.tup (.cons (.con (.str "table")) (.cons (.var 3) (.cons (.bi .tuple (.bi .sorted o5)) .nil))))) .nil)))⟩:=rfl
 rw[hb]
 have e1:([D.tup []]:List D)=(cZ 0).map aB:=rfl
 simp only[Nat.zero_add]at b2
 have e2:(cZ 0).length=1:=rfl
 have q:o5.az=none:=rfl
 simp[a5,aV,items,e1,e2,b2,c4,d1,q]
end Tx
end
section
open PySem Mini
namespace Tx
inductive bM(xs:List D):Nat->D->Prop
 |same {n:Nat} {x:D}:x∈xs->bM xs n (.tup [.str "same",x])
 |not {n:Nat} {x:D}:x∈xs->bM xs n (.tup [.str "not",x])
 |and {n:Nat} {ys:List D}:ys.Sublist xs->2<=ys.length->ys.length<=3->bM xs n (.tup [.str "and",.tup ys])
 |or {n:Nat} {ys:List D}:ys.Sublist xs->2<=ys.length->ys.length<=3->bM xs n (.tup [.str "or",.tup ys])
 |both {n:Nat} {ys:List D}:ys.Sublist xs->2<=ys.length->ys.length<=3->bM xs n (.tup [.str "both",.tup ys])
 |table {n:Nat} {ys:List D} {rs:List (List Bool)}:ys.Sublist xs->1<=ys.length->ys.length<=3->(∀r∈rs,r.length=ys.length)->xY rs=true->bM xs n (.tup [.str "table",.tup ys,.tup (rs.map aB)])
 |held {n:Nat} {k x:D} {b:Bool}:bM xs n k->x∈xs->bM xs (n+1) (.tup [.str "held",k,x,.bl b])
theorem Kq(xs:List D)(r:Int)(h1:0<=r)(h2:r<xs.length):∃d,at? xs r=some d/\d∈xs:=by
 unfold at? ix?
 rw[if_neg (Int.not_lt.mpr h1),if_pos ⟨h1,h2⟩]
 have:r.toNat<xs.length:=(Int.toNat_lt h1).mpr h2
 exact⟨xs[r.toNat],by simp[this],List.getElem_mem this⟩
theorem Oa(r:Int):r%2=0\/r%2=1:=by omega
theorem JM{r:Int}(h1:¬r<4)(h2:r<7):r-4=0\/r-4=1\/r-4=2:=by omega
theorem eight{r:Int}(h1:¬r<7)(h2:r<9)(h3:¬r=7):r=8:=by omega
theorem V2(n:Nat):¬((n:Int)+1=0):=by omega
theorem ur(m:Nat)(ns:List Int)(xs:List D)(hx:xs.length<=900)(h1:1<=xs.length)(deep:Nat)
  (rec:∀dp,deep=dp+1->∀k:Int,0<=k->∃d k',bM xs dp d/\0<=k'/\pg.fn (m+5) 31 [.val (sc ns),.bor (.lst [.int k]),.val (.tup xs),.val (.int dp)]=.ok (.val d) [.val (sc ns),.bor (.lst [.int k']),.val (.tup xs),.val (.int dp)])
  (k:Int)(hk:0<=k):∃d k',bM xs deep d/\0<=k'/\
  pg.fn (m+6) 31 [.val (sc ns),.bor (.lst [.int k]),.val (.tup xs),.val (.int deep)]=.ok (.val d) [.val (sc ns),.bor (.lst [.int k']),.val (.tup xs),.val (.int deep)]:=by
 obtain⟨r,r1,r2,er⟩:=bC (m+2) ns k 9 hk (by decide)
 have hk1:=K9 hk
 by_cases c1:r<4\/xs.length<2
 ·obtain⟨q,q1,q2,eq⟩:=bC (m+2) ns (k+1) xs.length hk1 (Int.ofNat_lt.mpr h1)
  obtain⟨x,ex,mx⟩:=Kq xs q q1 q2
  obtain⟨w,ew,kw⟩:∃w,at? [.str "same",.str "not"] (r%2)=some (.str w)/\bM xs deep (.tup [.str w,x]):=by
   rcases Oa r with h|h<;>rw[h]
   ·exact⟨_,rfl,.same mx⟩
   ·exact⟨_,rfl,.not mx⟩
  refine⟨_,k+1+1,kw,K9 hk1,?_⟩
  rw[iM]
  by_cases c4:r<4
  ·simp[dJ,er,c4,eq,ex,aV,ew]
  ·have c6:=c1.resolve_left c4
   have c5:(xs.length:Int)<2:=Int.ofNat_lt.mpr c6
   simp[dJ,er,c4,c5,c6,eq,ex,aV,ew]
 ·have c2:¬r<4:=fun h=>c1 (.inl h)
  have c3':¬xs.length<2:=fun h=>c1 (.inr h)
  have c3:¬(xs.length:Int)<2:=fun h=>c3' (Int.ofNat_lt.mp h)
  by_cases c7:r<7
  ·obtain⟨ys,k',a1,a2,a3,a4,a5⟩:=Ba (m+1) ns (k+1) hk1 xs 2 3 hx (by decide) (by decide) (Int.not_lt.mp c3)
   have a2:2<=ys.length:=Int.ofNat_le.mp a2
   have a3:ys.length<=3:=Int.ofNat_le.mp a3
   obtain⟨w,ew,kw⟩:∃w,at? [.str "and",.str "or",.str "both"] (r-4)=some (.str w)/\bM xs deep (.tup [.str w,.tup ys]):=by
    rcases JM c2 c7 with h|h|h<;>rw[h]
    ·exact⟨_,rfl,.and a1 a2 a3⟩
    ·exact⟨_,rfl,.or a1 a2 a3⟩
    ·exact⟨_,rfl,.both a1 a2 a3⟩
   exact⟨_,k',kw,a4,by rw[iM];simp[dJ,er,c2,c3,c3',c7,a5,aV,ew]⟩
  ·by_cases c8:r=7\/deep=0
   ·obtain⟨ys,rs,k',a1,a2,a3,a4,a5,a6,a7⟩:=GQ m ns (k+1) hk1 xs hx h1
    refine⟨_,k',.table a1 a2 a3 a4 a5,a6,?_⟩
    rw[iM]
    by_cases c9:r=7
    ·subst c9
     simp[dJ,er,c3,c3',a7]
    ·have c10:deep=0:=c8.resolve_left c9
     subst c10
     have c9b:(r==7)=false:=beq_false_of_ne c9
     simp[dJ,er,c2,c3,c3',c7,c9,c9b,a7]
   ·obtain⟨dp,rfl⟩:=Nat.exists_eq_succ_of_ne_zero (fun h=>c8 (.inr h))
    have c9:r=8:=eight c7 r2 fun h=>c8 (.inl h)
    subst c9
    obtain⟨d,k1,b1,b2,b3⟩:=rec dp rfl (k+1) hk1
    obtain⟨q,q1,q2,eq⟩:=bC (m+2) ns k1 xs.length b2 (Int.ofNat_lt.mpr h1)
    obtain⟨x,ex,mx⟩:=Kq xs q q1 q2
    obtain⟨z,z1,z2,ez⟩:=bC (m+2) ns (k1+1) 2 (K9 b2) (by decide)
    refine⟨_,k1+1+1,.held (b:=z==1) b1 mx,K9 (K9 b2),?_⟩
    rw[iM]
    have e1:¬((dp:Int)+1=0):=V2 dp
    have e0:((dp:Int)+1==0)=false:=beq_false_of_ne e1
    have e2:(dp:Int)+1-1=dp:=Int.add_sub_cancel _ _
    simp[dJ,er,c3,c3',e0,e1,e2,b3,eq,ex,ez,aV]
theorem aec(m deep:Nat):m+deep+1+5=m+6+deep:=by omega
theorem aeb(m deep:Nat):m+6+(deep+1)=m+deep+1+6:=by omega
theorem vL(ns:List Int)(xs:List D)(hx:xs.length<=900)(h1:1<=xs.length):∀(deep m:Nat)(k:Int),0<=k->∃d k',bM xs deep d/\0<=k'/\
  pg.fn (m+6+deep) 31 [.val (sc ns),.bor (.lst [.int k]),.val (.tup xs),.val (.int deep)]=.ok (.val d) [.val (sc ns),.bor (.lst [.int k']),.val (.tup xs),.val (.int deep)]
 |0=>fun m k hk=>ur m ns xs hx h1 0 (fun dp h=>nomatch h) k hk
 |deep+1=>fun m k hk=>by
  have:=ur (m+deep+1) ns xs hx h1 (deep+1) (fun dp h k hk=>by
   cases h
   have q:=vL ns xs hx h1 deep m k hk
   rw[aec m deep]
   exact q) k hk
  rw[aeb m deep]
  exact this
end Tx
end
section
open PySem Mini
namespace Tx
def BW:E:=(.tup (.cons (.var 0) (.cons (.call 31 (.cons (.var 1) (.cons (.ref 2) (.cons (.var 7) (.cons (.con (.int (1))) .nil))))) .nil)))
theorem I9(n:Nat)(ns:List Int)(k:Int)(hk:0<=k)(xs:List D)(hx:xs.length<=900)(h1:1<=xs.length)(x:D)(s3 s4 s5 s6 s8:Sl):∃d k',bM xs 1 d/\0<=k'/\
  ev (pg.cf (n+7)) BW [.val x,.val (sc ns),.bor (.lst [.int k]),s3,s4,s5,s6,.val (.tup xs),s8]=.ok (.val (.tup [x,d])) [.val x,.val (sc ns),.bor (.lst [.int k']),s3,s4,s5,s6,.val (.tup xs),s8]:=by
 obtain⟨d,k',a1,a2,a3⟩:=vL ns xs hx h1 1 n k hk
 refine⟨d,k',a1,a2,?_⟩
 simp only[Int.natCast_one,show n+6+1=n+7 from rfl]at a3
 simp[BW,a3,aV]
theorem xR(n:Nat)(ns:List Int)(xs:List D)(hx:xs.length<=900)(h1:1<=xs.length)(s3 s4 s5 s6 s8:Sl):∀(row acc:List D)(k:Int)(s:Sl),0<=k->rM s->∃ks k' s',ks.length=row.length/\(∀d∈ks,bM xs 1 d)/\0<=k'/\rM s'/\
  aO (.name 0) (ev (pg.cf (n+7)) (.con (.bl true))) (ev (pg.cf (n+7)) BW) row acc [s,.val (sc ns),.bor (.lst [.int k]),s3,s4,s5,s6,.val (.tup xs),s8]
   =.ok (acc++aK row ks) [s',.val (sc ns),.bor (.lst [.int k']),s3,s4,s5,s6,.val (.tup xs),s8]
 |[]=>fun acc k s hk hs=>⟨[],k,s,rfl,fun d h=>(by cases h),hk,hs,by simp[aO,aK]⟩
 |x::row=>fun acc k s hk hs=>by
  obtain⟨d,k1,a1,a2,a3⟩:=I9 n ns k hk xs hx h1 x s3 s4 s5 s6 s8
  obtain⟨ks,k',s',b1,b2,b3,b4,b5⟩:=xR n ns xs hx h1 s3 s4 s5 s6 s8 row (acc++[.tup [x,d]]) k1 (.val x) a2 (.inr ⟨x,rfl⟩)
  refine⟨d::ks,k',s',by simp[b1],fun e h=>?_,b3,b4,?_⟩
  ·rcases List.mem_cons.mp h with rfl|h
   ·exact a1
   ·exact b2 e h
  ·rw[aO,jA hs]
   have e1:∀σ,ev (pg.cf (n+7)) (.con (.bl true)) σ=.ok (.val (.bl true)) σ:=fun σ=>by simp
   simp only[e1,dq,if_true]
   rw[a3,bQ,b5]
   simp[aK]
theorem qG(n:Nat)(ns:List Int)(rest:Ev):∀(xs acc:List D)(k:Int)(s:Sl),0<=k->rM s->∃(bs:List Bool)(k':Int)(s':Sl),bs.length=xs.length/\0<=k'/\rM s'/\
  aO (.name 0) (ev (pg.cf (n+3)) (.con (.bl true))) (ev (pg.cf (n+3)) my) xs acc (s:: .val (sc ns):: .bor (.lst [.int k])::rest)=.ok (acc++bs.map .bl) (s':: .val (sc ns):: .bor (.lst [.int k'])::rest)
 |[]=>fun acc k s hk hs=>⟨[],k,s,rfl,hk,hs,by simp[aO]⟩
 |x::xs=>fun acc k s hk hs=>by
  obtain⟨b,e⟩:=wj n ns k hk x rest
  obtain⟨bs,k',s',a1,a2,a3,a4⟩:=qG n ns rest xs (acc++[.bl b]) (k+1) (.val x) (K9 hk) (.inr ⟨x,rfl⟩)
  refine⟨b::bs,k',s',by simp[a1],a2,a3,?_⟩
  rw[aO,jA hs]
  have e1:∀σ,ev (pg.cf (n+3)) (.con (.bl true)) σ=.ok (.val (.bl true)) σ:=fun σ=>by simp
  simp only[e1,dq,if_true]
  rw[e,bQ,a4]
  simp
def Bu:E:=(.comp 1 (.name 0) (.var 5) (.con (.bl true)) BW)
def BV:E:=(.comp 1 (.name 0) (.var 6) (.con (.bl true)) my)
def vJ:S:=(.cons (.set 6 (.op .add (.var 4) (.var 5))) (.cons (.set 7 (.bi .tuple Bu)) (.cons (.ret (.tup (.cons (.var 4) (.cons (.var 7) (.cons (.bi .tuple BV) .nil))))) .nil)))
theorem Ik(n:Nat)(ns:List Int)(k:Int)(hk:0<=k)(heard row:List D)(hx:heard.length+row.length<=900)(h1:1<=row.length)(s2 s3:Sl):∃(ks:List D)(ls:List Bool)(k':Int),ks.length=row.length/\(∀d∈ks,bM (heard++row) 1 d)/\ls.length=(heard++row).length/\0<=k'/\
  ex (pg.cf (n+7)) vJ [.val (sc ns),.bor (.lst [.int k]),s2,s3,.val (.tup heard),.val (.tup row),.un,.un]
   =.ret (.val (.tup [.tup heard,.tup (aK row ks),.tup (ls.map .bl)])) [.val (sc ns),.bor (.lst [.int k']),s2,s3,.val (.tup heard),.val (.tup row),.val (.tup (heard++row)),.val (.tup (aK row ks))]:=by
 obtain⟨ks,k1,s',a1,a2,a3,a4,a5⟩:=xR n ns (heard++row) (by simpa using hx) (by simp;omega) s2 s3 (.val (.tup heard)) (.val (.tup row)) .un row [] k .un hk (.inl rfl)
 obtain⟨ls,k',s'',b1,b2,b3,b4⟩:=qG (n+4) ns [s2,s3,.val (.tup heard),.val (.tup row),.val (.tup (heard++row)),.val (.tup (aK row ks))] (heard++row) [] k1 .un a3 (.inl rfl)
 refine⟨ks,ls,k',a1,a2,b1,b2,?_⟩
 have f:fits (heard.length+row.length)=true:=by simp[fits];omega
 have em:ev (pg.cf (n+7)) Bu [.val (sc ns),.bor (.lst [.int k]),s2,s3,.val (.tup heard),.val (.tup row),.val (.tup (heard++row)),.un]=.ok (.new (.lst (aK row ks))) [.val (sc ns),.bor (.lst [.int k1]),s2,s3,.val (.tup heard),.val (.tup row),.val (.tup (heard++row)),.un]:=by
  have h:ev (pg.cf (n+7)) (.var 5) [.val (sc ns),.bor (.lst [.int k]),s2,s3,.val (.tup heard),.val (.tup row),.val (.tup (heard++row)),.un]=.ok (.val (.tup row)) [.val (sc ns),.bor (.lst [.int k]),s2,s3,.val (.tup heard),.val (.tup row),.val (.tup (heard++row)),.un]:=by simp
  unfold Bu
  rw[kJ,h,bQ]
  simp only[items]
  rw[show List.replicate 1 Sl.un++[.val (sc ns),.bor (.lst [.int k]),s2,s3,.val (.tup heard),.val (.tup row),.val (.tup (heard++row)),.un]=[.un,.val (sc ns),.bor (.lst [.int k]),s2,s3,.val (.tup heard),.val (.tup row),.val (.tup (heard++row)),.un]from rfl,a5]
  simp
 have el:ev (pg.cf (n+7)) BV [.val (sc ns),.bor (.lst [.int k1]),s2,s3,.val (.tup heard),.val (.tup row),.val (.tup (heard++row)),.val (.tup (aK row ks))]=.ok (.new (.lst (ls.map .bl))) [.val (sc ns),.bor (.lst [.int k']),s2,s3,.val (.tup heard),.val (.tup row),.val (.tup (heard++row)),.val (.tup (aK row ks))]:=by
  have h:ev (pg.cf (n+7)) (.var 6) [.val (sc ns),.bor (.lst [.int k1]),s2,s3,.val (.tup heard),.val (.tup row),.val (.tup (heard++row)),.val (.tup (aK row ks))]=.ok (.val (.tup (heard++row))) [.val (sc ns),.bor (.lst [.int k1]),s2,s3,.val (.tup heard),.val (.tup row),.val (.tup (heard++row)),.val (.tup (aK row ks))]:=by simp
  unfold BV
  rw[kJ,h,bQ]
  simp only[items]
  rw[show List.replicate 1 Sl.un++[.val (sc ns),.bor (.lst [.int k1]),s2,s3,.val (.tup heard),.val (.tup row),.val (.tup (heard++row)),.val (.tup (aK row ks))]=.un:: .val (sc ns):: .bor (.lst [.int k1])::[s2,s3,.val (.tup heard),.val (.tup row),.val (.tup (heard++row)),.val (.tup (aK row ks))]from rfl,b4]
  simp
 have q1:Bu.az=none:=rfl
 have q2:BV.az=none:=rfl
 simp[vJ,f,em,el,q1,q2,aV]
def hd(h:Nat):List D:=([.str "a",.str "b",.str "come"]:List D).take h
def b7(g:Nat):List D:=([.str "p",.str "q",.str "rr",.str "go",.str "abcdef"]:List D).take g
theorem gQ{h:Nat}(h2:h<=2):(hd h).length=h:=List.length_take_of_le (Nat.le_succ_of_le h2)
theorem dH{g:Nat}(g4:g<=5):(b7 g).length=g:=List.length_take_of_le g4
def au(h g:Nat)(ks:List D)(ls:List Bool):D:=.tup [.tup (hd h),.tup (aK (b7 g) ks),.tup (ls.map .bl)]
structure bz(h g:Nat)(ks:List D)(ls:List Bool):Prop where
 h2:h<=2
 g1:1<=g
 g5:g<=5
 kl:ks.length=g
 kk:∀d∈ks,bM (hd h++b7 g) 1 d
 ll:ls.length=h+g
theorem Uy{ni:Int}{h:Nat}(i2:ni<=2)(r2:(h:Int)<ni+1):h<=2:=by omega
theorem Il(n:Nat)(ns:List Int)(k:Int)(hk:0<=k)(ni:Int)(i0:0<=ni)(i2:ni<=2):∃h g ks ls k',bz h g ks ls/\0<=k'/\
  pg.fn (n+8) 32 [.val (sc ns),.bor (.lst [.int k]),.val (.int ni),.val (.int 4)]=.ok (.val (au h g ks ls)) [.val (sc ns),.bor (.lst [.int k']),.val (.int ni),.val (.int 4)]:=by
 obtain⟨r,r1,r2,er⟩:=bC (n+4) ns k (ni+1) hk (Int.lt_add_one_of_le i0)
 obtain⟨q,q1,q2,eq⟩:=bC (n+4) ns (k+1) 4 (K9 hk) (by decide)
 obtain⟨h,rfl⟩:=Int.eq_ofNat_of_zero_le r1
 obtain⟨g,rfl⟩:=Int.eq_ofNat_of_zero_le q1
 have h2:h<=2:=Uy i2 r2
 have g3:g<4:=Int.ofNat_lt.mp q2
 have g1:1<=1+g:=Nat.le_add_right 1 g
 have g5:1+g<=5:=Nat.add_le_add_left (Nat.le_of_lt g3) 1
 have lh:=gQ h2
 have lg:=dH g5
 obtain⟨ks,ls,k',a1,a2,a3,a4,a5⟩:=Ik n ns (k+1+1) (K9 (K9 hk)) (hd h) (b7 (1+g)) (by rw[lh,lg];exact Nat.le_trans (Nat.add_le_add h2 g5) (by decide)) (by rw[lg];exact g1) (.val (.int ni)) (.val (.int 4))
 refine⟨h,1+g,ks,ls,k',⟨h2,g1,g5,a1.trans lg,a2,by rw[a3,QUz,lh,lg]⟩,a4,?_⟩
 rw[DN]
 have hb:uQ=⟨4,8,(.cons (.set 4 (.slc (.tup (.cons (.con (.str "a")) (.cons (.con (.str "b")) (.cons (.con (.str "come")) .nil)))) .noneE (.call 28 (.cons (.var 0) (.cons (.ref 1) (.cons (.op .add (.var 2) (.con (.int (1)))) .nil)))))) (.cons (.set 5 (.slc (.tup (.cons (.con (.str "p")) (.cons (.con (.str "q")) (.cons (.con (.str "rr")) (.cons (.con (.str "go")) (.cons (.con (.str "abcdef")) .nil)))))) .noneE (.op .add (.con (.int (1))) (.call 28 (.cons (.var 0) (.cons (.ref 1) (.cons (.var 3) .nil))))))) vJ))⟩:=rfl
 rw[hb]
 have c1:fX (.tup [.str "a",.str "b",.str "come"]) none (some (h:Int))=some (.val (.tup (hd h))):=by
  rcases h with _|_|_|h
  ·rfl
  ·rfl
  ·rfl
  ·exact absurd h2 (by simp)
 have c2:fX (.tup [.str "p",.str "q",.str "rr",.str "go",.str "abcdef"]) none (some (1+(g:Int)))=some (.val (.tup (b7 (1+g)))):=by
  rcases g with _|_|_|_|g
  ·rfl
  ·rfl
  ·rfl
  ·rfl
  ·exact absurd g3 (by simp)
 simp[er,eq,aV,cH,E.jg,c1,c2,a5,au]
end Tx
end
section
open PySem Mini
namespace Tx
theorem aR(n:Nat)(xs:List D)(a b:Int)(h1:a<=xs.length)(h2:xs.length<=b):pg.fn (n+1) 3 [.val (.tup xs),.val (.int a),.val (.int b)]=.ok (.val (.bl true)) [.val (.tup xs),.val (.int a),.val (.int b)]:=by
 rw[zj]
 simp[rE,h1,h2]
def Ry:E:=.bi .all (.comp 1 (.name 0) (.var 0) (.con (.bl true)) (.isi (.var 0) .bool))
theorem uy(n:Nat)(bs:List Bool)(m:Int)(h:m=bs.length):pg.fn (n+2) 7 [.val (aB bs),.val (.int m)]=.ok (.val (.bl true)) [.val (aB bs),.val (.int m)]:=by
 subst h
 have e:ev (pg.cf (n+1)) Ry [.val (aB bs),.val (.int bs.length)]=.ok (.val (.bl true)) [.val (aB bs),.val (.int bs.length)]:=by
  refine all1 (d:=aB bs) (xs:=bs.map .bl) (r:=.val (aB bs)) (by simp) rfl rfl fun x hx=>?_
  obtain⟨b,_,rfl⟩:=List.mem_map.mp hx
  simp
 have t:pg.fn (n+1) 3 [.val (aB bs),.val (.int bs.length),.val (.int bs.length)]=.ok (.val (.bl true)) [.val (aB bs),.val (.int bs.length),.val (.int bs.length)]:=aR n (bs.map .bl) bs.length bs.length (by simp) (by simp)
 rw[Hn]
 have hb:yx=⟨2,2,(.cons (.ret (.and (.cons (.call 3 (.cons (.var 0) (.cons (.var 1) (.cons (.var 1) .nil)))) (.cons Ry .nil)))) .nil)⟩:=rfl
 rw[hb]
 simp[t,e]
def cu(xs:List D):Prop:=∀x∈xs,∃s,x=.str s
theorem jV{xs:List D}(h:cu xs):xs.all flat=true:=by
 rw[List.all_eq_true]
 intro x hx
 obtain⟨s,rfl⟩:=h x hx
 rfl
theorem lX{xs:List D}{x:D}(hx:x∈xs)(h:cu xs):aU x xs=true:=by
 induction xs with
 |nil=>cases hx
 |cons y ys ih=>
  unfold aU
  rcases List.mem_cons.mp hx with rfl|hx
  ·obtain⟨s,rfl⟩:=h x QYz
   simp[cL]
  ·simp[ih hx fun z hz=>h z (QYq _ hz)]
theorem zZ{xs:List D}(h:cu xs)(nd:xs.Nodup){x:D}(hx:x∈xs):eZ x xs=1:=by
 induction xs with
 |nil=>cases hx
 |cons y ys ih=>
  have hys:cu ys:=fun z hz=>h z (QYq _ hz)
  obtain⟨s,rfl⟩:=h y QYz
  rw[List.nodup_cons]at nd
  have zero:∀{zs:List D},cu zs->D.str s∉zs->eZ (.str s) zs=0:=by
   intro zs
   induction zs with
   |nil=>intro _ _;rfl
   |cons z zs ihz=>
    intro hz hn
    obtain⟨q,rfl⟩:=hz z QYz
    have ne:q≠s:=fun e=>hn (by rw[e];exact QYz)
    simp[eZ,cL,ne,ihz (fun w hw=>hz w (QYq _ hw)) fun hw=>hn (QYq _ hw)]
  rcases List.mem_cons.mp hx with rfl|hx
  ·simp[eZ,cL,zero hys nd.1]
  ·obtain⟨q,rfl⟩:=hys x hx
   have ne:s≠q:=fun e=>nd.1 (by rw[e];exact hx)
   simp[eZ,cL,ne,ih hys nd.2 hx]
theorem iV(n:Nat){xs:List D}{d:D}(dd:d=.tup xs\/d=.lst xs)(h:cu xs){x:D}(hx:x∈xs):pg.fn (n+1) 8 [.val x,.val d]=.ok (.val (.bl true)) [.val x,.val d]:=by
 obtain⟨s,rfl⟩:=h x hx
 rw[tY]
 have o:eY (.str s) xs=true:=by
  unfold eY
  rw[jV h]
  rfl
 have e:aH .isin (.str s) d=some true:=by
  rcases dd with rfl|rfl<;>(show(if eY (.str s) xs then some (aU (.str s) xs)else none)=_;rw[o,lX hx h];rfl)
 simp[jY,e]
def vd:E:=.bi .all (.comp 1 (.name 0) (.var 0) (.con (.bl true)) (.cmp .eq (.count (.var 1) (.var 0)) (.con (.int (1)))))
theorem kE(n:Nat){xs:List D}{d:D}(hd:d=.tup xs\/d=.lst xs)(h:cu xs)(nd:xs.Nodup):pg.fn (n+1) 6 [.val d]=.ok (.val (.bl true)) [.val d]:=by
 have f:=jV h
 have e:ev (pg.cf n) vd [.val d]=.ok (.val (.bl true)) [.val d]:=by
  refine all1 (d:=d) (xs:=xs) (r:=.val d) (by simp) rfl (by rcases hd with rfl|rfl<;>rfl) fun x hx=>?_
  have c:=zZ h nd hx
  obtain⟨s,rfl⟩:=h x hx
  have e1:wk (.tup xs) (.str s)=some (.val (.int 1)):=by
   simp only[wk]
   rw[f,c]
   rfl
  have e2:wk (.lst xs) (.str s)=some (.val (.int 1)):=e1
  rcases hd with rfl|rfl<;>simp[e1,e2]
 have hb:mG=⟨1,1,(.cons (.ret vd) .nil)⟩:=rfl
 rw[vz,hb]
 have q:vd.az=none:=rfl
 simp[e,q]
def nG:D->D
 |.tup (a::_)=>a
 |_=>.non
theorem uZ:∀(gs ks:List D),ks.length=gs.length->(aK gs ks).map nG=gs
 |[],ks=>fun _=>by simp[aK]
 |g::gs,[]=>fun h=>by simp at h
 |g::gs,k::ks=>fun h=>by simp[aK,nG,uZ gs ks (by simpa using h)]
def yj(it:E):E:=.comp 1 (.name 0) it (.con (.bl true)) (.idx (.var 0) (.con (.int (0))))
theorem qC{c:Cf}{σ:Ev}{it:E}(gs ks:List D)(hl:ks.length=gs.length)(hi:ev c it σ=.ok (.val (.tup (aK gs ks))) σ):ev c (yj it) σ=.ok (.new (.lst gs)) σ:=by
 have:=uH (el:=.idx (.var 0) (.con (.int (0)))) nG hi rfl rfl fun y hy=>by
  rw[cN]at hy
  obtain⟨p,_,rfl⟩:=List.mem_map.mp hy
  simp[pairD,nG]
 rw[uZ gs ks hl]at this
 exact this
theorem fB(n:Nat)(hs gs:List D)(ks:List D)(x:D)(hl:ks.length=gs.length)(hf:hs.length+gs.length<=1000):
  pg.fn (n+1) 13 [.val (.tup [.tup hs,.tup (aK gs ks),x])]=.ok (.new (.lst (hs++gs))) [.val (.tup [.tup hs,.tup (aK gs ks),x])]:=by
 have e:=qC (c:=pg.cf n) (it:=.idx (.var 0) (.con (.int (1)))) (σ:=[.val (.tup [.tup hs,.tup (aK gs ks),x])]) gs ks hl (by simp)
 have f:fits (hs.length+gs.length)=true:=by simp[fits];omega
 have hb:mD=⟨1,1,.cons (.ret (.op .add (.bi .list (.idx (.var 0) (.con (.int (0))))) (yj (.idx (.var 0) (.con (.int (1))))))) .nil⟩:=rfl
 rw[lH,hb]
 simp[e,f]
end Tx
end
section
open PySem Mini
namespace Tx
@[simp↓]theorem Qk:decide (Str.ofString "same"=Str.ofString "same")=true:=rfl
@[simp↓]theorem Wv:decide (Str.ofString "not"=Str.ofString "not")=true:=rfl
@[simp↓]theorem WD:decide (Str.ofString "and"=Str.ofString "and")=true:=rfl
@[simp↓]theorem abo:decide (Str.ofString "or"=Str.ofString "or")=true:=rfl
@[simp↓]theorem Qu:decide (Str.ofString "both"=Str.ofString "both")=true:=rfl
@[simp↓]theorem K8:decide (Str.ofString "table"=Str.ofString "table")=true:=rfl
@[simp↓]theorem Qp:decide (Str.ofString "held"=Str.ofString "held")=true:=rfl
@[simp]theorem RP:decide (Str.ofString "same"=Str.ofString "not")=false:=rfl
@[simp]theorem RQ:decide (Str.ofString "same"=Str.ofString "and")=false:=rfl
@[simp]theorem Wq:decide (Str.ofString "same"=Str.ofString "or")=false:=rfl
@[simp]theorem Qm:decide (Str.ofString "same"=Str.ofString "both")=false:=rfl
@[simp]theorem Lh:decide (Str.ofString "same"=Str.ofString "table")=false:=rfl
@[simp]theorem Ql:decide (Str.ofString "same"=Str.ofString "held")=false:=rfl
@[simp]theorem RV:decide (Str.ofString "not"=Str.ofString "same")=false:=rfl
@[simp]theorem Ww:decide (Str.ofString "not"=Str.ofString "and")=false:=rfl
@[simp]theorem X3:decide (Str.ofString "not"=Str.ofString "or")=false:=rfl
@[simp]theorem RX:decide (Str.ofString "not"=Str.ofString "both")=false:=rfl
@[simp]theorem Qn:decide (Str.ofString "not"=Str.ofString "table")=false:=rfl
@[simp]theorem RW:decide (Str.ofString "not"=Str.ofString "held")=false:=rfl
@[simp]theorem R5:decide (Str.ofString "and"=Str.ofString "same")=false:=rfl
@[simp]theorem Wz:decide (Str.ofString "and"=Str.ofString "not")=false:=rfl
@[simp]theorem X4:decide (Str.ofString "and"=Str.ofString "or")=false:=rfl
@[simp]theorem R7:decide (Str.ofString "and"=Str.ofString "both")=false:=rfl
@[simp]theorem Qv:decide (Str.ofString "and"=Str.ofString "table")=false:=rfl
@[simp]theorem R6:decide (Str.ofString "and"=Str.ofString "held")=false:=rfl
@[simp]theorem Wr:decide (Str.ofString "or"=Str.ofString "same")=false:=rfl
@[simp]theorem XS:decide (Str.ofString "or"=Str.ofString "not")=false:=rfl
@[simp]theorem XX:decide (Str.ofString "or"=Str.ofString "and")=false:=rfl
@[simp]theorem Wu:decide (Str.ofString "or"=Str.ofString "both")=false:=rfl
@[simp]theorem RT:decide (Str.ofString "or"=Str.ofString "table")=false:=rfl
@[simp]theorem Ws:decide (Str.ofString "or"=Str.ofString "held")=false:=rfl
@[simp]theorem Qs:decide (Str.ofString "both"=Str.ofString "same")=false:=rfl
@[simp]theorem R3:decide (Str.ofString "both"=Str.ofString "not")=false:=rfl
@[simp]theorem R4:decide (Str.ofString "both"=Str.ofString "and")=false:=rfl
@[simp]theorem Wy:decide (Str.ofString "both"=Str.ofString "or")=false:=rfl
@[simp]theorem Lj:decide (Str.ofString "both"=Str.ofString "table")=false:=rfl
@[simp]theorem Qt:decide (Str.ofString "both"=Str.ofString "held")=false:=rfl
@[simp]theorem Le:decide (Str.ofString "table"=Str.ofString "same")=false:=rfl
@[simp]theorem Qi:decide (Str.ofString "table"=Str.ofString "not")=false:=rfl
@[simp]theorem Qj:decide (Str.ofString "table"=Str.ofString "and")=false:=rfl
@[simp]theorem RN:decide (Str.ofString "table"=Str.ofString "or")=false:=rfl
@[simp]theorem Lg:decide (Str.ofString "table"=Str.ofString "both")=false:=rfl
@[simp]theorem Lf:decide (Str.ofString "table"=Str.ofString "held")=false:=rfl
@[simp]theorem Qo:decide (Str.ofString "held"=Str.ofString "same")=false:=rfl
@[simp]theorem RZ:decide (Str.ofString "held"=Str.ofString "not")=false:=rfl
@[simp]theorem R0:decide (Str.ofString "held"=Str.ofString "and")=false:=rfl
@[simp]theorem Wx:decide (Str.ofString "held"=Str.ofString "or")=false:=rfl
@[simp]theorem Qq:decide (Str.ofString "held"=Str.ofString "both")=false:=rfl
@[simp]theorem Li:decide (Str.ofString "held"=Str.ofString "table")=false:=rfl
@[simp]theorem Rh:aH .isin (.str "same") (.tup [.str "same",.str "not"])=some true:=rfl
@[simp]theorem Ve:aH .isin (.str "not") (.tup [.str "same",.str "not"])=some true:=rfl
@[simp]theorem Vh:aH .isin (.str "and") (.tup [.str "same",.str "not"])=some false:=rfl
@[simp]theorem Xd:aH .isin (.str "or") (.tup [.str "same",.str "not"])=some false:=rfl
@[simp]theorem Rj:aH .isin (.str "both") (.tup [.str "same",.str "not"])=some false:=rfl
@[simp]theorem Ou:aH .isin (.str "table") (.tup [.str "same",.str "not"])=some false:=rfl
@[simp]theorem Ri:aH .isin (.str "held") (.tup [.str "same",.str "not"])=some false:=rfl
@[simp]theorem Vd:aH .isin (.str "same") (.tup [.str "and",.str "or"])=some false:=rfl
@[simp]theorem Xe:aH .isin (.str "not") (.tup [.str "and",.str "or"])=some false:=rfl
@[simp]theorem Xf:aH .isin (.str "and") (.tup [.str "and",.str "or"])=some true:=rfl
@[simp]theorem aay:aH .isin (.str "or") (.tup [.str "and",.str "or"])=some true:=rfl
@[simp]theorem Vg:aH .isin (.str "both") (.tup [.str "and",.str "or"])=some false:=rfl
@[simp]theorem Rg:aH .isin (.str "table") (.tup [.str "and",.str "or"])=some false:=rfl
@[simp]theorem Vf:aH .isin (.str "held") (.tup [.str "and",.str "or"])=some false:=rfl
theorem gl5:pg.gl 5=some (.int 4):=rfl
theorem gl6:pg.gl 6=some (.int 8):=rfl
theorem gl7:pg.gl 7=some (.int 3):=rfl
def Gj:E:=.bi .all (.comp 1 (.name 0) (.var 0) (.con (.bl true)) (.call 8 (.cons (.var 0) (.cons (.var 2) .nil))))
theorem cX(n:Nat){xs ys:List D}{d:D}(dd:d=.tup xs\/d=.lst xs)(h:cu xs)(nd:xs.Nodup)(hs:ys.Sublist xs)(a b:Int)(h1:a<=ys.length)(h2:ys.length<=b):
  pg.fn (n+2) 9 [.val (.tup ys),.val d,.val (.int a),.val (.int b)]=.ok (.val (.bl true)) [.val (.tup ys),.val d,.val (.int a),.val (.int b)]:=by
 have hy:cu ys:=fun z hz=>h z (hs.subset hz)
 have e:ev (pg.cf (n+1)) Gj [.val (.tup ys),.val d,.val (.int a),.val (.int b)]=.ok (.val (.bl true)) [.val (.tup ys),.val d,.val (.int a),.val (.int b)]:=by
  refine all1 (d:=.tup ys) (xs:=ys) (r:=.val (.tup ys)) (by simp) rfl rfl fun x hx=>?_
  have w:=iV n dd h (hs.subset hx)
  simp[w]
 have u:=kE n (.inl rfl) hy (hs.nodup nd)
 have t:=aR n ys a b h1 h2
 have hb:oH=⟨4,4,(.cons (.ite (.not (.call 3 (.cons (.var 0) (.cons (.var 2) (.cons (.var 3) .nil))))) (.cons (.ret (.con (.bl false))) .nil) .nil) (.cons (.ret (.and (.cons Gj (.cons (.call 6 (.cons (.var 0) .nil)) .nil)))) .nil))⟩:=rfl
 rw[xx,hb]
 simp[t,e,u]
theorem aeC(xs:List D):cut xs (some 1) none=xs.tail:=by
 cases xs with
 |nil=>rfl
 |cons x xs=>
  have:clip (xs.length+1) 1=1:=by simp[clip];omega
  simp[cut,this]
theorem uz:∀(rs:List (List Bool)),xY rs=true->∀p∈rs.zip rs.tail,jn p.1 p.2=true
 |[]=>fun _ p h=>by simp at h
 |[a]=>fun _ p h=>by simp at h
 |a::b::r=>fun hi p h=>by
  simp only[xY,QVz]at hi
  simp only[List.tail_cons,List.zip_cons_cons,List.mem_cons]at h
  rcases h with rfl|h
  ·exact hi.1
  ·exact uz (b::r) hi.2 p (by simpa using h)
def QF:E:=.bi .all (.comp 1 (.name 0) (.var 0) (.con (.bl true)) (.call 7 (.cons (.var 0) (.cons (.var 2) .nil))))
def upC:E:=.bi .all (.comp 2 (.tup [0,1]) (.zip (.var 0) (.slc (.var 0) (.con (.int (1))) .noneE)) (.con (.bl true)) (.cmp .lt (.var 0) (.var 1)))
theorem yD(n:Nat)(rs:List (List Bool))(m:Nat)(h:∀r∈rs,r.length=m)(hi:xY rs=true):
  pg.fn (n+3) 10 [.val (.tup (rs.map aB)),.val (.int m)]=.ok (.val (.bl true)) [.val (.tup (rs.map aB)),.val (.int m)]:=by
 have e1:ev (pg.cf (n+2)) QF [.val (.tup (rs.map aB)),.val (.int m)]=.ok (.val (.bl true)) [.val (.tup (rs.map aB)),.val (.int m)]:=by
  refine all1 (d:=.tup (rs.map aB)) (xs:=rs.map aB) (r:=.val (.tup (rs.map aB))) (by simp) rfl rfl fun x hx=>?_
  obtain⟨r,hr,rfl⟩:=List.mem_map.mp hx
  have w:=uy n r m (by rw[h r hr])
  simp[w]
 have e2:ev (pg.cf (n+2)) upC [.val (.tup (rs.map aB)),.val (.int m)]=.ok (.val (.bl true)) [.val (.tup (rs.map aB)),.val (.int m)]:=by
  have hz:aK (rs.map aB) (rs.map aB).tail=((rs.zip rs.tail).map fun p=>(aB p.1,aB p.2)).map pairD:=by
   rw[cN,<-List.map_tail,List.zip_map]
   rfl
  refine all2 (d:=.lst (aK (rs.map aB) (rs.map aB).tail)) (ps:=(rs.zip rs.tail).map fun p=>(aB p.1,aB p.2)) (r:=.val (.lst (aK (rs.map aB) (rs.map aB).tail))) ?_ rfl (by show some _=some _;rw[hz]) fun x hx=>?_
  ·simp[cH,E.jg,fX,aeC]
  ·obtain⟨p,hp,rfl⟩:=List.mem_map.mp hx
   have l:=uz rs hi p hp
   have lt:aH .lt (aB p.1) (aB p.2)=some true:=by
    simp[aH,ltD,aB,jF,l]
   simp[lt]
 have hb:rG=⟨2,2,(.cons (.ite (.or (.cons (.not (.isi (.var 0) .tup)) (.cons (.not QF) .nil))) (.cons (.ret (.con (.bl false))) .nil) .nil) (.cons (.ret upC) .nil))⟩:=rfl
 have q:upC.az=none:=rfl
 rw[zp,hb]
 simp[e1,e2,q]
theorem Ez(n k:Nat):n+4+2*k=n+2+2*k+1+1:=by omega
theorem Ol(n k:Nat):n+1+2*k+2=n+2+2*k+1:=by omega
theorem aea(n k:Nat):n+2*k+3=n+2+2*k+1:=by omega
theorem ad9(n k:Nat):n+3+2*k+1=n+4+2*k:=by omega
theorem ad8(n k:Nat):n+4+2*(k+1)=n+4+2*k+1+1:=by omega
theorem BL{a:Nat}{c d:Nat}(h1:c<=a)(h2:d<=c):(d:Int)<=a:=Int.ofNat_le.mpr (Nat.le_trans h2 h1)
theorem BP{a:Nat}{c d:Nat}(h1:a<=c)(h2:c<=d):(a:Int)<=d:=Int.ofNat_le.mpr (Nat.le_trans h1 h2)
theorem zO{xs:List D}(h:cu xs)(nd:xs.Nodup):∀{k:Nat}{d:D},bM xs k d->∀(n:Nat)(dp:Int),dp+k<=3->
  pg.fn (n+4+2*k) 11 [.val d,.val (.lst xs),.val (.int dp)]=.ok (.val (.bl true)) [.val d,.val (.lst xs),.val (.int dp)]:=by
 intro k d hk
 induction hk with
 | @same k x hx=>
  intro n dp _
  have t:=aR (n+2+2*k) [.str "same",x] 2 4 (by simp) (by simp)
  have w:=iV (n+2+2*k) (.inr rfl) h hx
  rw[Ez,eV]
  simp[dO,t,w,aV]
 | @not k x hx=>
  intro n dp _
  have t:=aR (n+2+2*k) [.str "not",x] 2 4 (by simp) (by simp)
  have w:=iV (n+2+2*k) (.inr rfl) h hx
  rw[Ez,eV]
  simp[dO,t,w,aV]
 | @and k ys hs h1 h2=>
  intro n dp _
  have t:=aR (n+2+2*k) [.str "and",.tup ys] 2 4 (by simp) (by simp)
  have w:=cX (n+1+2*k) (.inr rfl) h nd hs 1 4 (BL h1 (by decide)) (BP h2 (by decide))
  rw[Ol]at w
  rw[Ez,eV]
  simp[dO,t,w,aV,gl5]
 | @or k ys hs h1 h2=>
  intro n dp _
  have t:=aR (n+2+2*k) [.str "or",.tup ys] 2 4 (by simp) (by simp)
  have w:=cX (n+1+2*k) (.inr rfl) h nd hs 1 4 (BL h1 (by decide)) (BP h2 (by decide))
  rw[Ol]at w
  rw[Ez,eV]
  simp[dO,t,w,aV,gl5]
 | @both k ys hs h1 h2=>
  intro n dp _
  have t:=aR (n+2+2*k) [.str "both",.tup ys] 2 4 (by simp) (by simp)
  have w:=cX (n+1+2*k) (.inr rfl) h nd hs 2 4 (BL h1 (by decide)) (BP h2 (by decide))
  rw[Ol]at w
  rw[Ez,eV]
  simp[dO,t,w,aV,gl5]
 | @table k ys rs hs h1 h2 hr hi=>
  intro n dp _
  have t:=aR (n+2+2*k) [.str "table",.tup ys,.tup (rs.map aB)] 2 4 (by simp) (by simp)
  have w:=cX (n+1+2*k) (.inr rfl) h nd hs 1 8 (BL h1 (by decide)) (BP h2 (by decide))
  rw[Ol]at w
  have z:=yD (n+2*k) rs ys.length hr hi
  rw[aea]at z
  rw[Ez,eV]
  simp[dO,t,w,z,aV,gl6]
 | @held k d x b hk hx ih=>
  intro n dp hd
  have t:=aR (n+4+2*k) [.str "held",d,x,.bl b] 2 4 (by simp) (by simp)
  have i:=ih n (dp+1) (by omega)
  have w:=iV (n+3+2*k) (.inr rfl) h hx
  rw[ad9]at w
  have hl:pg.fn (n+4+2*k+1) 12 [.val (.tup [.str "held",d,x,.bl b]),.val (.lst xs),.val (.int (dp+1))]=.ok (.val (.bl true)) [.val (.tup [.str "held",d,x,.bl b]),.val (.lst xs),.val (.int (dp+1))]:=by
   rw[DW]
   simp[uU,i,w]
  have lt:dp<3:=by omega
  rw[ad8,eV]
  simp[dO,t,hl,aV,gl7,lt]
end Tx
end
section
open PySem Mini
namespace Tx
def QX(h g:Nat):List Str:=(["a","b","come"]:List Str).take h++(["p","q","rr","go","abcdef"]:List Str).take g
def names(h g:Nat):List D:=hd h++b7 g
theorem lR(h g:Nat):names h g=(QX h g).map .str:=by
 simp[names,QX,hd,b7,List.map_take]
theorem rY{ss:List Str}(h:ss.Nodup):(ss.map D.str).Nodup:=by
 induction ss with
 |nil=>simp
 |cons s ss ih=>
  rw[List.nodup_cons]at h
  rw[List.map_cons,List.nodup_cons]
  exact⟨fun z=>h.1 (by simpa using z),ih h.2⟩
theorem names_nodup{h g:Nat}(h2:h<=2)(g1:1<=g)(g4:g<=5):(names h g).Nodup:=by
 rw[lR]
 refine rY ?_
 exact((List.take_sublist h _).append (List.take_sublist g _)).nodup (by decide)
theorem bh(h g:Nat):cu (names h g):=fun x hx=>by
 rw[lR]at hx
 obtain⟨s,_,rfl⟩:=List.mem_map.mp hx
 exact⟨s,rfl⟩
theorem dN{h g:Nat}(h2:h<=2)(g4:g<=5):(names h g).length=h+g:=by
 rw[names,QUz,gQ h2,dH g4]
theorem N7(n:Nat)(s:Str)(hs:s∈QX 3 5):pg.fn (n+1) 5 [.val (.str s)]=.ok (.val (.bl true)) [.val (.str s)]:=by
 have:QX 3 5=(["a","b","come","p","q","rr","go","abcdef"]:List Str):=by rfl
 rw[this]at hs
 rw[DR]
 simp only[List.mem_cons,List.not_mem_nil,or_false]at hs
 rcases hs with rfl|rfl|rfl|rfl|rfl|rfl|rfl|rfl<;>kernel_rfl
theorem Bt{h g:Nat}{s:Str}(hs:s∈QX h g):s∈QX 3 5:=by
 unfold QX at*
 rw[List.mem_append]at*
 rcases hs with hs|hs
 ·exact .inl (by have:=List.mem_of_mem_take hs;simpa using this)
 ·exact .inr (by have:=List.mem_of_mem_take hs;simpa using this)
theorem gl3:pg.gl 3=some (.int 3):=rfl
theorem gl4:pg.gl 4=some (.int 5):=rfl
def zA:E:=.bi .all (.comp 1 (.name 0) (.idx (.var 0) (.con (.int (1)))) (.con (.bl true)) (.call 3 (.cons (.var 0) (.cons (.con (.int (2))) (.cons (.con (.int (2))) .nil)))))
theorem Aw{xs ys:List D}(h:ys.length=xs.length):(aK xs ys).length=xs.length:=by
 rw[cN];simp[h]
section
variable{h g:Nat}{ks:List D}{ls:List Bool}
def iT(h g:Nat)(ks:List D)(X:D):D:=.tup [.tup (hd h),.tup (aK (b7 g) ks),X]
theorem yd(n:Nat)(O:bz h g ks ls)(X:D):pg.fn (n+2) 2 [.val (iT h g ks X)]=.ok (.val (.bl true)) [.val (iT h g ks X)]:=by
 have lg:=dH O.g5
 have lh:=gQ O.h2
 have lz:(aK (b7 g) ks).length=g:=by rw[Aw (by rw[lg,O.kl]),lg]
 have e:ev (pg.cf (n+1)) zA [.val (iT h g ks X)]=.ok (.val (.bl true)) [.val (iT h g ks X)]:=by
  refine all1 (d:=.tup (aK (b7 g) ks)) (xs:=aK (b7 g) ks) (r:=.val (.tup (aK (b7 g) ks))) (by simp[iT]) rfl rfl fun x hx=>?_
  rw[cN]at hx
  obtain⟨p,_,rfl⟩:=List.mem_map.mp hx
  have t:=aR n [p.1,p.2] 2 2 (by simp) (by simp)
  simp[pairD,t]
 have t1:=aR n (hd h) 0 3 (by omega) (by have:=O.h2;omega)
 have t2:=aR n (aK (b7 g) ks) 1 5 (by have:=O.g1;omega) (by have:=O.g5;omega)
 have hb:oG=⟨1,1,(.cons (.ite (.or (.cons (.not (.call 3 (.cons (.idx (.var 0) (.con (.int (0)))) (.cons (.con (.int (0))) (.cons (.glob 3) .nil))))) (.cons (.not (.call 3 (.cons (.idx (.var 0) (.con (.int (1)))) (.cons (.con (.int (1))) (.cons (.glob 4) .nil))))) .nil))) (.cons (.ret (.con (.bl false))) .nil) .nil) (.cons (.ret zA) .nil))⟩:=rfl
 have q:zA.az=none:=rfl
 rw[xu,hb]
 simp only[iT]at*
 simp[t1,t2,gl3,gl4,e,q]
def QZ:E:=.bi .all (.comp 1 (.name 0) (.var 1) (.con (.bl true)) (.call 5 (.cons (.var 0) .nil)))
def Q5:E:=.bi .all (.comp 2 (.tup [0,1]) (.idx (.var 0) (.con (.int (1)))) (.con (.bl true)) (.call 11 (.cons (.var 1) (.cons (.var 3) (.cons (.con (.int (0))) .nil)))))
theorem Jq(n:Nat)(O:bz h g ks ls)(X:D)(b:Bool)(t5:pg.fn (n+6) 7 [.val X,.val (.int (names h g).length)]=.ok (.val (.bl b)) [.val X,.val (.int (names h g).length)]):pg.fn (n+7) 1 [.val (iT h g ks X)]=.ok (.val (.bl b)) [.val (iT h g ks X)]:=by
 have lg:=dH O.g5
 have lh:=gQ O.h2
 have T:=bh h g
 have Nd:=names_nodup O.h2 O.g1 O.g5
 have L:=dN (g:=g) O.h2 O.g5
 have t1:=aR (n+5) [.tup (hd h),.tup (aK (b7 g) ks),X] 3 3 (by simp) (by simp)
 have t2:=yd (n+4) O X
 have t3:=fB (n+5) (hd h) (b7 g) ks X (by rw[O.kl,lg]) (by have:=O.h2;have:=O.g5;omega)
 have t4:=kE (n+5) (d:=.lst (names h g)) (.inr rfl) T Nd
 have e1:ev (pg.cf (n+6)) QZ [.val (iT h g ks X),.own (.lst (names h g))]=.ok (.val (.bl true)) [.val (iT h g ks X),.val (.lst (names h g))]:=by
  refine all1 (d:=.lst (names h g)) (xs:=names h g) (r:=.val (.lst (names h g))) (by simp) rfl rfl fun x hx=>?_
  rw[lR]at hx
  obtain⟨s,hs,rfl⟩:=List.mem_map.mp hx
  have w:=N7 (n+5) s (Bt hs)
  simp[w]
 have e2:ev (pg.cf (n+6)) Q5 [.val (iT h g ks X),.val (.lst (names h g))]=.ok (.val (.bl true)) [.val (iT h g ks X),.val (.lst (names h g))]:=by
  refine all2 (d:=.tup (aK (b7 g) ks)) (ps:=(b7 g).zip ks) (r:=.val (.tup (aK (b7 g) ks))) (by simp[iT]) rfl (by show some _=some _;rw[cN]) fun x hx=>?_
  have hk:=O.kk x.2 (List.of_mem_zip hx).2
  have w:=zO T Nd hk n 0 (by decide)
  rw[show n+4+2*1=n+6 from rfl]at w
  simp[w]
 have hb:yz=⟨1,2,(.cons (.ite (.or (.cons (.not (.call 3 (.cons (.var 0) (.cons (.con (.int (3))) (.cons (.con (.int (3))) .nil))))) (.cons (.not (.call 2 (.cons (.var 0) .nil))) .nil))) (.cons (.ret (.con (.bl false))) .nil) .nil) (.cons (.set 1 (.call 13 (.cons (.var 0) .nil))) (.cons (.ite (.or (.cons (.not QZ) (.cons (.not (.call 6 (.cons (.var 1) .nil))) .nil))) (.cons (.ret (.con (.bl false))) .nil) .nil) (.cons (.ret (.and (.cons Q5 (.cons (.call 7 (.cons (.idx (.var 0) (.con (.int (2)))) (.cons (.bi .len (.var 1)) .nil))) .nil)))) .nil))))⟩:=rfl
 rw[Ho,hb]
 have nn:hd h++b7 g=names h g:=rfl
 rw[nn]at t3
 have g2:getD (iT h g ks X) (.int 2)=some X:=by simp[iT]
 have t1':pg.fn (n+6) 3 [.val (iT h g ks X),.val (.int 3),.val (.int 3)]=.ok (.val (.bl true)) [.val (iT h g ks X),.val (.int 3),.val (.int 3)]:=t1
 have t3':pg.fn (n+6) 13 [.val (iT h g ks X)]=.ok (.new (.lst (names h g))) [.val (iT h g ks X)]:=t3
 simp[t1',t2,t3',e1,t4,e2,g2,t5]
theorem EY(n:Nat)(O:bz h g ks ls):pg.fn (n+7) 1 [.val (au h g ks ls)]=.ok (.val (.bl true)) [.val (au h g ks ls)]:=
 Jq n O (aB ls) true (uy (n+4) ls (names h g).length (by rw[dN O.h2 O.g5,O.ll]))
theorem z9(n:Nat)(O:bz h g ks ls):pg.fn (n+8) 0 [.val (au h g ks ls)]=.ok (.val (au h g ks ls)) [.val (au h g ks ls)]:=by
 have t:=EY n O
 rw[DX]
 simp[uV,t]
end
end Tx
end
section
open PySem Mini
namespace Tx
theorem goD(τ:Int->Ev){cond elt:Ev->Out Rv}(P:D->D->Prop)(all:Bool):∀(xs acc:List D)(k:Int)(s:Sl),0<=k->bR s->
  (∀x∈xs,∀k,0<=k->∃b k',0<=k'/\(all=true->b=true)/\cond (.val x::τ k)=.ok (.val (.bl b)) (.val x::τ k'))->
  (∀x∈xs,∀k,0<=k->∃y k',0<=k'/\P x y/\elt (.val x::τ k)=.ok (.val y) (.val x::τ k'))->
  ∃(zs:List (D×D))(k':Int)(s':Sl),(zs.map (·.1)).Sublist xs/\(all=true->zs.map (·.1)=xs)/\(∀p∈zs,P p.1 p.2)/\0<=k'/\aO (.name 0) cond elt xs acc (s::τ k)=.ok (acc++zs.map (·.2)) (s'::τ k')
 |[]=>fun acc k s hk _ _ _=>⟨[],k,s,List.Sublist.refl _,fun _=>rfl,fun p h=>(by cases h),hk,by simp[aO]⟩
 |x::xs=>fun acc k s hk hs hc he=>by
  obtain⟨b,k1,a1,a2,a3⟩:=hc x QYz k hk
  rw[aO,mQ hs]
  simp only[a3,dq]
  cases b with
  |true=>
   obtain⟨y,k2,b1,b2,b3⟩:=he x QYz k1 a1
   obtain⟨zs,k',s',c1,c2,c3,c4,c5⟩:=goD τ (cond:=cond) (elt:=elt) P all xs (acc++[y]) k2 (.val x) b1 (.inr ⟨_,rfl⟩) (fun z hz=>hc z (QYq _ hz)) fun z hz=>he z (QYq _ hz)
   refine⟨(x,y)::zs,k',s',c1.cons_cons x,fun h=>by simp[c2 h],fun p hp=>?_,c4,?_⟩
   ·rcases List.mem_cons.mp hp with rfl|hp
    ·exact b2
    ·exact c3 p hp
   ·rw[if_pos rfl,b3,bQ,c5]
    simp
  |false=>
   obtain⟨zs,k',s',c1,c2,c3,c4,c5⟩:=goD τ (cond:=cond) (elt:=elt) P all xs acc k1 (.val x) a1 (.inr ⟨_,rfl⟩) (fun z hz=>hc z (QYq _ hz)) fun z hz=>he z (QYq _ hz)
   exact⟨zs,k',s',c1.cons x,fun h=>by simpa using a2 h,c3,c4,by rw[if_neg (by simp),c5]⟩
theorem J5{c:Cf}{σ:Ev}{it co el:E}{r:Rv}{d:D}{xs:List D}(τ:Int->Ev)(P:D->D->Prop)(all:Bool){k:Int}(hk:0<=k)(hi:ev c it σ=.ok r (τ k))(hr:r.jo=some d)(hd:items d=some xs)
  (hc:∀x∈xs,∀k,0<=k->∃b k',0<=k'/\(all=true->b=true)/\ev c co (.val x::τ k)=.ok (.val (.bl b)) (.val x::τ k'))
  (he:∀x∈xs,∀k,0<=k->∃y k',0<=k'/\P x y/\ev c el (.val x::τ k)=.ok (.val y) (.val x::τ k')):
  ∃(zs:List (D×D))(k':Int),(zs.map (·.1)).Sublist xs/\(all=true->zs.map (·.1)=xs)/\(∀p∈zs,P p.1 p.2)/\0<=k'/\ev c (.comp 1 (.name 0) it co el) σ=.ok (.new (.lst (zs.map (·.2)))) (τ k'):=by
 obtain⟨zs,k',s',a1,a2,a3,a4,a5⟩:=goD τ (cond:=ev c co) (elt:=ev c el) P all xs [] k .un hk (.inl rfl) hc he
 refine⟨zs,k',a1,a2,a3,a4,?_⟩
 rw[kJ,hi]
 have b:∀{β:Type}(g:D->Ev->Out β),(Out.ok r (τ k)).ak g=g d (τ k):=fun g=>by cases r<;>simp[Rv.jo]at hr<;>subst hr<;>rfl
 rw[b]
 simp only[hd]
 rw[show List.replicate 1 Sl.un++τ k=.un::τ k from rfl,a5]
 simp
def lu(m:D×Nat):D:=.tup [m.1,.int m.2]
def eU(st:List (D×Nat)):D:=.tup (st.map lu)
def ao(os:List D)(sts:List (List (D×Nat))):D:=.tup [.tup os,.tup (sts.map eU)]
structure aY(h g:Nat)(os:List D)(sts:List (List (D×Nat))):Prop where
 ou:os.Sublist (b7 g)
 s1:1<=sts.length
 s4:sts.length<=4
 mv:∀st∈sts,(st.map (·.1)).Sublist (hd h++os)/\∀m∈st,m.2<sts.length
def Nq:E:=.comp 1 (.name 0) (.idx (.var 2) (.con (.int (1)))) (.cmp .gt (.call 28 (.cons (.var 1) (.cons (.ref 2) (.cons (.con (.int (3))) .nil)))) (.con (.int (0)))) (.idx (.var 0) (.con (.int (0))))
def QD:E:=.comp 1 (.name 0) (.op .add (.idx (.var 2) (.con (.int (0)))) (.var 4)) my (.var 0)
def Ut:E:=(.tup (.cons (.var 0) (.cons (.call 28 (.cons (.var 1) (.cons (.ref 2) (.cons (.var 6) .nil)))) .nil)))
def Uu:E:=.comp 1 (.name 0) (.var 8) (.con (.bl true)) Ut
def wN:S:=(.cons (.set 8 QD) (.cons (.append 6 (.bi .tuple Uu)) .nil))
theorem SM{zs:List (D×D)}{xs:List D}(h:(zs.map (·.1)).Sublist xs)(e:∀p∈zs,p.2=p.1):(zs.map (·.2)).Sublist xs:=by
 rw[show zs.map (·.2)=zs.map (·.1)from List.map_congr_left e];exact h
section
variable(n:Nat)(ns:List Int)(hs os gs:List D)(x:D)(s3 s5 s6 s7 s8:Sl)
theorem G6(k:Int)(hk:0<=k)(hl:hs.length+os.length<=900):∃(ys:List D)(k':Int),ys.Sublist (hs++os)/\0<=k'/\
  ev (pg.cf (n+3)) QD [.val (sc ns),.bor (.lst [.int k]),.val (.tup [.tup hs,.tup gs,x]),s3,.val (.tup os),s5,s6,s7,s8]=.ok (.new (.lst ys)) [.val (sc ns),.bor (.lst [.int k']),.val (.tup [.tup hs,.tup gs,x]),s3,.val (.tup os),s5,s6,s7,s8]:=by
 have f:fits (hs.length+os.length)=true:=by simp[fits];omega
 obtain⟨zs,k',a1,a2,a3,a4,a5⟩:=J5 (c:=pg.cf (n+3)) (it:=(.op .add (.idx (.var 2) (.con (.int (0)))) (.var 4))) (co:=my) (el:=.var 0) (σ:=[.val (sc ns),.bor (.lst [.int k]),.val (.tup [.tup hs,.tup gs,x]),s3,.val (.tup os),s5,s6,s7,s8]) (k:=k) (fun k=>[.val (sc ns),.bor (.lst [.int k]),.val (.tup [.tup hs,.tup gs,x]),s3,.val (.tup os),s5,s6,s7,s8])
  (fun x y=>y=x) false hk (r:=.val (.tup (hs++os))) (d:=.tup (hs++os)) (xs:=hs++os) (by simp[f]) rfl rfl
  (fun x _ k hk=>by obtain⟨b,e⟩:=wj n ns k hk x [.val (.tup [.tup hs,.tup gs,_]),s3,.val (.tup os),s5,s6,s7,s8];exact⟨b,k+1,by omega,by simp,e⟩) fun x _ k hk=>⟨x,k,hk,rfl,by simp⟩
 exact⟨_,k',SM a1 a3,a4,a5⟩
theorem N8(k:Int)(hk:0<=k)(ys:List D)(many:Nat)(h1:1<=many)(net:D)(s4:Sl):∃(st:List (D×Nat))(k':Int),st.map (·.1)=ys/\(∀m∈st,m.2<many)/\0<=k'/\
  ev (pg.cf (n+3)) Uu [.val (sc ns),.bor (.lst [.int k]),.val net,s3,s4,.val (.int many),s6,s7,.own (.lst ys)]=.ok (.new (.lst (st.map lu))) [.val (sc ns),.bor (.lst [.int k']),.val net,s3,s4,.val (.int many),s6,s7,.val (.lst ys)]:=by
 obtain⟨zs,k',a1,a2,a3,a4,a5⟩:=J5 (c:=pg.cf (n+3)) (it:=.var 8) (co:=.con (.bl true)) (el:=Ut) (σ:=[.val (sc ns),.bor (.lst [.int k]),.val net,s3,s4,.val (.int many),s6,s7,.own (.lst ys)]) (k:=k) (fun k=>[.val (sc ns),.bor (.lst [.int k]),.val net,s3,s4,.val (.int many),s6,s7,.val (.lst ys)])
  (fun x y=>∃j:Nat,j<many/\y=lu (x,j)) true hk (r:=.val (.lst ys)) (d:=.lst ys) (xs:=ys) (by simp) rfl rfl
  (fun x _ k hk=>⟨true,k,hk,fun _=>rfl,by simp⟩) fun x _ k hk=>by
   obtain⟨q,q1,q2,e⟩:=bC n ns k many hk (by omega)
   obtain⟨j,rfl⟩:∃j:Nat,q=j:=⟨q.toNat,by omega⟩
   exact⟨_,k+1,by omega,⟨j,by omega,rfl⟩,by simp[Ut,e,aV,lu]⟩
 have pick:∀(zs:List (D×D)),(∀p∈zs,∃j:Nat,j<many/\p.2=lu (p.1,j))->∃st:List (D×Nat),st.map (·.1)=zs.map (·.1)/\(∀m∈st,m.2<many)/\st.map lu=zs.map (·.2):=by
  intro zs
  induction zs with
  |nil=>exact fun _=>⟨[],rfl,fun m h=>(by cases h),rfl⟩
  |cons z zs ih=>
   intro h
   obtain⟨j,j1,j2⟩:=h z QYz
   obtain⟨st,b1,b2,b3⟩:=ih fun p hp=>h p (QYq _ hp)
   refine⟨(z.1,j)::st,by simp[b1],fun m hm=>?_,by simp[b3,j2]⟩
   rcases List.mem_cons.mp hm with rfl|hm
   ·exact j1
   ·exact b2 m hm
 obtain⟨st,b1,b2,b3⟩:=pick zs a3
 exact⟨st,k',by rw[b1,a2 rfl],b2,a4,by rw[b3];exact a5⟩
theorem Dj(k:Int)(hk:0<=k)(hl:hs.length+os.length<=900)(many:Nat)(h1:1<=many)(acc:List D)(ha:acc.length<=1000)(h8:bR s8):∃(st:List (D×Nat))(k':Int)(s':Sl),(st.map (·.1)).Sublist (hs++os)/\(∀m∈st,m.2<many)/\0<=k'/\bR s'/\
  ex (pg.cf (n+3)) wN [.val (sc ns),.bor (.lst [.int k]),.val (.tup [.tup hs,.tup gs,x]),s3,.val (.tup os),.val (.int many),.own (.lst acc),s7,s8]=.next [.val (sc ns),.bor (.lst [.int k']),.val (.tup [.tup hs,.tup gs,x]),s3,.val (.tup os),.val (.int many),.own (.lst (acc++[eU st])),s7,s']:=by
 obtain⟨ys,k1,a1,a2,a3⟩:=G6 n ns hs os gs x s3 (.val (.int many)) (.own (.lst acc)) s7 s8 k hk hl
 obtain⟨st,k',b1,b2,b3,b4⟩:=N8 n ns s3 (.own (.lst acc)) s7 k1 a2 ys many h1 (.tup [.tup hs,.tup gs,x]) (.val (.tup os))
 have f:fits (acc.length+1)=true:=by simp[fits];omega
 have q:Uu.az=none:=rfl
 refine⟨st,k',.val (.lst ys),by rw[b1];exact a1,b2,b3,.inr ⟨_,rfl⟩,?_⟩
 rcases h8 with rfl|⟨e,rfl⟩<;>simp[wN,a3,b4,di,rP,f,q,eU]
theorem sV(hl:hs.length+os.length<=900)(many:Nat)(h1:1<=many):∀(xs:List D)(acc:List (List (D×Nat)))(k:Int)(s7 s8:Sl),0<=k->bR s7->bR s8->acc.length+xs.length<=1000->∃(sts:List (List (D×Nat)))(k':Int)(t7 t8:Sl),sts.length=xs.length/\(∀st∈sts,(st.map (·.1)).Sublist (hs++os)/\∀m∈st,m.2<many)/\0<=k'/\
  bF (.name 7) (ex (pg.cf (n+3)) wN) xs [.val (sc ns),.bor (.lst [.int k]),.val (.tup [.tup hs,.tup gs,x]),s3,.val (.tup os),.val (.int many),.own (.lst (acc.map eU)),s7,s8]=.next [.val (sc ns),.bor (.lst [.int k']),.val (.tup [.tup hs,.tup gs,x]),s3,.val (.tup os),.val (.int many),.own (.lst ((acc++sts).map eU)),t7,t8]
 |[]=>fun acc k s7 s8 hk _ _ _=>⟨[],k,s7,s8,rfl,fun st h=>(by cases h),hk,by simp[bF]⟩
 |y::xs=>fun acc k s7 s8 hk h7 h8 hx=>by
  simp only[List.length_cons]at hx
  obtain⟨st,k1,s',a1,a2,a3,a4,a5⟩:=Dj n ns hs os gs x s3 (.val y) s8 k hk hl many h1 (acc.map eU) (by simp;omega) h8
  obtain⟨sts,k',t7,t8,b1,b2,b3,b4⟩:=sV hl many h1 xs (acc++[st]) k1 (.val y) s' a3 (.inr ⟨_,rfl⟩) a4 (by simp;omega)
  refine⟨st::sts,k',t7,t8,by simp[b1],fun q hq=>?_,b3,?_⟩
  ·rcases List.mem_cons.mp hq with rfl|hq
   ·exact⟨a1,a2⟩
   ·exact b2 q hq
  ·rw[bF]
   have st1:bN (.name 7) y [.val (sc ns),.bor (.lst [.int k]),.val (.tup [.tup hs,.tup gs,x]),s3,.val (.tup os),.val (.int many),.own (.lst (acc.map eU)),s7,s8]=some [.val (sc ns),.bor (.lst [.int k]),.val (.tup [.tup hs,.tup gs,x]),s3,.val (.tup os),.val (.int many),.own (.lst (acc.map eU)),.val y,s8]:=by
    rcases h7 with rfl|⟨e,rfl⟩<;>simp[bN]
   rw[st1]
   simp only
   rw[a5,mK]
   rw[show acc.map eU++[eU st]=(acc++[st]).map eU by simp,b4]
   simp
end
theorem mW:∀(m:Nat)(lo:Int),(bD lo m).length=m
 |0=>fun _=>rfl
 |m+1=>fun lo=>by simp[bD,mW m]
theorem Np(n:Nat)(ns:List Int)(k:Int)(hk:0<=k)(hs gs ks:List D)(x:D)(hl:ks.length=gs.length)(s3 s4 s5 s6 s7 s8:Sl):∃(os:List D)(k':Int),os.Sublist gs/\0<=k'/\
  ev (pg.cf (n+3)) Nq [.val (sc ns),.bor (.lst [.int k]),.val (.tup [.tup hs,.tup (aK gs ks),x]),s3,s4,s5,s6,s7,s8]=.ok (.new (.lst os)) [.val (sc ns),.bor (.lst [.int k']),.val (.tup [.tup hs,.tup (aK gs ks),x]),s3,s4,s5,s6,s7,s8]:=by
 obtain⟨zs,k',a1,a2,a3,a4,a5⟩:=J5 (c:=pg.cf (n+3)) (it:=(.idx (.var 2) (.con (.int (1))))) (co:=(.cmp .gt (.call 28 (.cons (.var 1) (.cons (.ref 2) (.cons (.con (.int (3))) .nil)))) (.con (.int (0))))) (el:=(.idx (.var 0) (.con (.int (0))))) (σ:=[.val (sc ns),.bor (.lst [.int k]),.val (.tup [.tup hs,.tup (aK gs ks),x]),s3,s4,s5,s6,s7,s8]) (k:=k) (fun k=>[.val (sc ns),.bor (.lst [.int k]),.val (.tup [.tup hs,.tup (aK gs ks),x]),s3,s4,s5,s6,s7,s8])
  (fun x y=>y=nG x) false hk (r:=.val (.tup (aK gs ks))) (d:=.tup (aK gs ks)) (xs:=aK gs ks) (by simp) rfl rfl
  (fun x _ k hk=>by
   obtain⟨q,_,_,e⟩:=bC n ns k 3 hk (by omega)
   exact⟨decide (0<q),k+1,by omega,by simp,by simp[e]⟩) fun x hx k hk=>by
   rw[cN]at hx
   obtain⟨p,_,rfl⟩:=List.mem_map.mp hx
   exact⟨_,k,hk,rfl,by simp[pairD,nG]⟩
 refine⟨_,k',?_,a4,a5⟩
 have:=a1.map nG
 rw[uZ gs ks hl]at this
 rw[show zs.map (·.2)=(zs.map (·.1)).map nG by rw[List.map_map];exact List.map_congr_left a3]
 exact this
theorem LK(n:Nat)(ns:List Int)(k:Int)(hk:0<=k){h g:Nat}{ks:List D}{ls:List Bool}(O:bz h g ks ls):∃os sts k',aY h g os sts/\0<=k'/\
  pg.fn (n+4) 33 [.val (sc ns),.bor (.lst [.int k]),.val (au h g ks ls),.val (.int 4)]=.ok (.val (ao os sts)) [.val (sc ns),.bor (.lst [.int k']),.val (au h g ks ls),.val (.int 4)]:=by
 have lg:=dH O.g5
 have lh:=gQ O.h2
 obtain⟨os,k1,a1,a2,a3⟩:=Np n ns k hk (hd h) (b7 g) ks (.tup (ls.map .bl)) (by rw[O.kl,lg]) (.val (.int 4)) .un .un .un .un .un
 obtain⟨q,q1,q2,eq⟩:=bC n ns k1 4 a2 (by omega)
 obtain⟨m,rfl⟩:∃m:Nat,q=m:=⟨q.toNat,by omega⟩
 have lo:=a1.length_le
 have:=O.h2
 have:=O.g5
 obtain⟨sts,k',t7,t8,b1,b2,b3,b4⟩:=sV n ns (hd h) os (aK (b7 g) ks) (.tup (ls.map .bl)) (.val (.int 4)) (by omega) (1+m) (by omega) (bD 0 (1+m)) [] (k1+1) .un .un (by omega) (.inl rfl) (.inl rfl) (by simp[mW];omega)
 rw[mW]at b1
 refine⟨os,sts,k',⟨a1,by omega,by omega,fun st hst=>?_⟩,b3,?_⟩
 ·rw[b1];exact b2 st hst
 ·have hb:rA=⟨4,9,.cons (.set 4 (.bi .tuple Nq)) (.cons (.set 5 (.op .add (.con (.int (1))) (.call 28 (.cons (.var 0) (.cons (.ref 1) (.cons (.var 3) .nil)))))) (.cons (.set 6 (.lis .nil)) (.cons (.for_ (.name 7) (.range1 (.var 5)) wN) (.cons (.ret (.tup (.cons (.var 4) (.cons (.bi .tuple (.var 6)) .nil)))) .nil))))⟩:=rfl
  rw[zb,hb]
  have q0:Nq.az=none:=rfl
  have fm:fits (1+m)=true:=by simp[fits];omega
  have md:rQ (1+(m:Int))=true:=by simp[rQ];omega
  have tn:(1+(m:Int)).toNat=1+m:=by omega
  have b4':bF (.name 7) (ex (pg.cf (n+3)) wN) (bD 0 (1+m)) [.val (sc ns),.bor (.lst [.int (k1+1)]),.val (au h g ks ls),.val (.int 4),.val (.tup os),.val (.int (1+(m:Int))),.own (.lst []),.un,.un]=.next [.val (sc ns),.bor (.lst [.int k']),.val (au h g ks ls),.val (.int 4),.val (.tup os),.val (.int (1+(m:Int))),.own (.lst (sts.map eU)),t7,t8]:=by simpa[au]using b4
  have a3':ev (pg.cf (n+3)) Nq [.val (sc ns),.bor (.lst [.int k]),.val (au h g ks ls),.val (.int 4),.un,.un,.un,.un,.un]=.ok (.new (.lst os)) [.val (sc ns),.bor (.lst [.int k1]),.val (au h g ks ls),.val (.int 4),.un,.un,.un,.un,.un]:=a3
  simp[a3',q0,eq,aV,fm,md,tn,b4',items,ao]
end Tx
end
section
open PySem Mini
namespace Tx
def BR:E:=(.comp 1 (.name 0) (.var 2) (.con (.bl true)) my)
theorem I8(n:Nat)(ns:List Int)(k:Int)(hk:0<=k)(xs:List D)(s3 s4:Sl):∃(bs:List Bool)(k':Int),bs.length=xs.length/\0<=k'/\
  ev (pg.cf (n+3)) BR [.val (sc ns),.bor (.lst [.int k]),.own (.lst xs),s3,s4]=.ok (.new (.lst (bs.map .bl))) [.val (sc ns),.bor (.lst [.int k']),.val (.lst xs),s3,s4]:=by
 obtain⟨bs,k',s',a1,a2,a3,a4⟩:=qG n ns [.val (.lst xs),s3,s4] xs [] k .un hk (.inl rfl)
 refine⟨bs,k',a1,a2,?_⟩
 have h:ev (pg.cf (n+3)) (.var 2) [.val (sc ns),.bor (.lst [.int k]),.own (.lst xs),s3,s4]=.ok (.val (.lst xs)) [.val (sc ns),.bor (.lst [.int k]),.val (.lst xs),s3,s4]:=by simp
 unfold BR
 rw[kJ,h,bQ]
 simp only[items]
 rw[show List.replicate 1 Sl.un++[.val (sc ns),.bor (.lst [.int k]),.val (.lst xs),s3,s4]=.un:: .val (sc ns):: .bor (.lst [.int k])::[.val (.lst xs),s3,s4]from rfl,a4]
 simp
def Hi:S:=(.cons (.append 3 (.tup (.cons (.idx (.var 2) (.var 4)) (.cons (.tup (.cons (.con (.str "held")) (.cons (.tup (.cons (.con (.str "same")) (.cons (.idx (.var 2) (.op .sub (.var 4) (.con (.int (1))))) .nil))) (.cons (.idx (.var 2) (.op .mod (.op .add (.var 4) (.con (.int (1)))) (.bi .len (.var 2)))) (.cons (.con (.bl false)) .nil))))) .nil)))) .nil)
def rk(a b:String):D:=.tup [.str "held",.tup [.str "same",.str a],.str b,.bl false]
def tO:Nat->List D
 |3=>[rk "rr" "q",rk "p" "rr",rk "q" "p"]
 |4=>[rk "go" "q",rk "p" "rr",rk "q" "go",rk "rr" "p"]
 |_=>[rk "abcdef" "q",rk "p" "rr",rk "q" "go",rk "rr" "abcdef",rk "go" "p"]
theorem DK(c:Cf)(s0 s1:Sl)(g:Nat)(hg:g=3\/g=4\/g=5):∃s4,bF (.name 4) (ex c Hi) (bD 0 g) [s0,s1,.own (.lst (b7 g)),.own (.lst []),.un]=.next [s0,s1,.own (.lst (b7 g)),.own (.lst (aK (b7 g) (tO g))),s4]:=by
 refine⟨.val (.int (g-1)),?_⟩
 rcases hg with rfl|rfl|rfl
 all_goals
  simp[Hi,bF,bD,bN,cM,b7,at?,ix?,aV,di,rP,tO,rk,aK]
  try rfl
theorem yV(g:Nat)(hg:g=3\/g=4\/g=5):∀d∈tO g,bM (hd 0++b7 g) 1 d:=by
 intro d h
 rcases hg with rfl|rfl|rfl<;>simp only[tO,List.mem_cons,List.not_mem_nil,or_false]at h<;>rcases h with rfl|rfl|rfl|rfl|rfl<;>exact .held (.same (by simp[hd,b7])) (by simp[hd,b7])
theorem MK(n:Nat)(ns:List Int)(k:Int)(hk:0<=k):∃g ks ls k',bz 0 g ks ls/\3<=g/\0<=k'/\pg.fn (n+4) 34 [.val (sc ns),.bor (.lst [.int k])]=.ok (.val (au 0 g ks ls)) [.val (sc ns),.bor (.lst [.int k'])]:=by
 obtain⟨r,r1,r2,er⟩:=bC n ns k 3 hk (by omega)
 obtain⟨g,hg,hr⟩:∃g:Nat,(g=3\/g=4\/g=5)/\3+r=g:=⟨(3+r).toNat,by omega,by omega⟩
 have lg:(b7 g).length=g:=dH (by omega)
 obtain⟨s4,a⟩:=DK (pg.cf (n+3)) (.val (sc ns)) (.bor (.lst [.int (k+1)])) g hg
 obtain⟨bs,k',b1,b2,b3⟩:=I8 n ns (k+1) (by omega) (b7 g) (.own (.lst (aK (b7 g) (tO g)))) s4
 refine⟨g,tO g,bs,k',⟨by omega,by omega,by omega,?_,yV g hg,by omega⟩,by omega,b2,?_⟩
 ·rcases hg with rfl|rfl|rfl<;>rfl
 ·have hb:rC=⟨2,5,(.cons (.set 2 (.slc (.lis (.cons (.con (.str "p")) (.cons (.con (.str "q")) (.cons (.con (.str "rr")) (.cons (.con (.str "go")) (.cons (.con (.str "abcdef")) .nil)))))) .noneE (.op .add (.con (.int (3))) (.call 28 (.cons (.var 0) (.cons (.ref 1) (.cons (.con (.int (3))) .nil))))))) (.cons (.set 3 (.lis .nil)) (.cons (.for_ (.name 4) (.range1 (.bi .len (.var 2))) Hi) (.cons (.ret (.tup (.cons (.tup .nil) (.cons (.bi .tuple (.var 3)) (.cons (.bi .tuple BR) .nil))))) .nil))))⟩:=rfl
  rw[zf,hb]
  have sl:fX (.lst [.str "p",.str "q",.str "rr",.str "go",.str "abcdef"]) none (some (g:Int))=some (.new (.lst (b7 g))):=by
   rcases hg with rfl|rfl|rfl<;>rfl
  have fg:fits g=true:=by simp[fits];omega
  have md:rQ (g:Int)=true:=by simp[rQ];omega
  have q:BR.az=none:=rfl
  simp[er,hr,sl,aV,cH,E.jg,lg,fg,md,items,a,b3,q,au,hd]
def nJ:S:=(.cons (.set 7 (.call 28 (.cons (.var 0) (.cons (.ref 1) (.cons (.con (.int (2))) .nil))))) (.cons (.append 5 (.tup (.cons (.var 6) (.cons (.tup (.cons (.idx (.lis (.cons (.con (.str "same")) (.cons (.con (.str "not")) .nil))) (.var 7)) (.cons (.var 3) .nil))) .nil)))) (.cons (.append 4 (.cmp .eq (.idx (.var 4) (.neg (.con (.int (1))))) (.cmp .eq (.var 7) (.con (.int (0)))))) (.cons (.set 3 (.var 6)) .nil))))
theorem Pz(xs:List D)(b:D):at? (xs++[b]) (-1)=some b:=by
 unfold at? ix?
 have e:(-1+((xs.length:Int)+1)).toNat=xs.length:=by omega
 have e2:(0:Int)<= -1+((xs.length:Int)+1):=by omega
 have e3: -1+((xs.length:Int)+1)< (xs.length:Int)+1:=by omega
 simp[e,e2,e3]
theorem Ab(n:Nat)(ns:List Int)(k:Int)(hk:0<=k)(s2 s7:Sl)(h7:bR s7)(a x:D)(ls:List Bool)(l:Bool)(acc:List D)(hl:ls.length<=1000)(ha:acc.length<=1000):
  ∃(w:Str)(b:Bool)(t7:Sl),(w="same"\/w="not")/\bR t7/\ex (pg.cf (n+3)) nJ [.val (sc ns),.bor (.lst [.int k]),s2,.val a,.own (.lst ((ls++[l]).map .bl)),.own (.lst acc),.val x,s7]
   =.next [.val (sc ns),.bor (.lst [.int (k+1)]),s2,.val x,.own (.lst ((ls++[l]++[b]).map .bl)),.own (.lst (acc++[.tup [x,.tup [.str w,a]]])),.val x,t7]:=by
 obtain⟨r,r1,r2,er⟩:=bC n ns k 2 hk (by omega)
 have fa:fits (acc.length+1)=true:=by simp[fits];omega
 have fb:fits (ls.length+1+1)=true:=by simp[fits];omega
 have al:at? (ls.map D.bl++[.bl l]) (-1)=some (.bl l):=Pz _ _
 rcases (by omega:r=0\/r=1)with rfl|rfl
 ·refine⟨"same",l==true,.val (.int 0),.inl rfl,.inr ⟨_,rfl⟩,?_⟩
  rcases h7 with rfl|⟨e,rfl⟩<;>simp[nJ,er,aV,fa,fb,di,rP,al]
 ·refine⟨"not",l==false,.val (.int 1),.inr rfl,.inr ⟨_,rfl⟩,?_⟩
  rcases h7 with rfl|⟨e,rfl⟩<;>simp[nJ,er,aV,fa,fb,di,rP,al]
theorem qQ(n:Nat)(ns:List Int)(s2:Sl):∀(xs acc:List D)(k:Int)(s6 s7:Sl)(a:D)(ls:List Bool)(l:Bool),0<=k->bR s6->bR s7->ls.length+xs.length<=1000->acc.length+xs.length<=1000->
  ∃(ks:List D)(bs:List Bool)(k':Int)(t3 t6 t7:Sl),ks.length=xs.length/\bs.length=xs.length/\0<=k'/\(∀d∈ks,∃y∈a::xs,d=.tup [.str "same",y]\/d=.tup [.str "not",y])/\
   bF (.name 6) (ex (pg.cf (n+3)) nJ) xs [.val (sc ns),.bor (.lst [.int k]),s2,.val a,.own (.lst ((ls++[l]).map .bl)),.own (.lst acc),s6,s7]=.next [.val (sc ns),.bor (.lst [.int k']),s2,t3,.own (.lst ((ls++[l]++bs).map .bl)),.own (.lst (acc++aK xs ks)),t6,t7]
 |[]=>fun acc k s6 s7 a ls l hk _ _ _ _=>⟨[],[],k,.val a,s6,s7,rfl,rfl,hk,fun d h=>(by cases h),by simp[bF,aK]⟩
 |x::xs=>fun acc k s6 s7 a ls l hk h6 h7 hl ha=>by
  simp only[List.length_cons]at hl ha
  obtain⟨w,b,t,a1,a2,a3⟩:=Ab n ns k hk s2 s7 h7 a x ls l acc (by omega) (by omega)
  obtain⟨ks,bs,k',t3,t6,t7,b1,b2,b3,b4,b5⟩:=qQ n ns s2 xs (acc++[.tup [x,.tup [.str w,a]]]) (k+1) (.val x) t x (ls++[l]) b (by omega) (.inr ⟨_,rfl⟩) a2 (by simp;omega) (by simp;omega)
  refine⟨.tup [.str w,a]::ks,b::bs,k',t3,t6,t7,by simp[b1],by simp[b2],b3,fun d hd=>?_,?_⟩
  ·rcases List.mem_cons.mp hd with rfl|hd
   ·exact⟨a,QYz,by rcases a1 with rfl|rfl<;>simp⟩
   ·obtain⟨y,hy,e⟩:=b4 d hd
    exact⟨y,QYq _ hy,e⟩
  ·have st:bN (.name 6) x [.val (sc ns),.bor (.lst [.int k]),s2,.val a,.own (.lst ((ls++[l]).map .bl)),.own (.lst acc),s6,s7]=some [.val (sc ns),.bor (.lst [.int k]),s2,.val a,.own (.lst ((ls++[l]).map .bl)),.own (.lst acc),.val x,s7]:=by
    rcases h6 with rfl|⟨e,rfl⟩<;>simp[bN]
   rw[bF,st]
   simp only
   rw[a3,mK,b5]
   simp[aK]
def aeO(d:D):Prop:=∃h g ks ls os sts,bz h g ks ls/\aY h g os sts/\d=.tup [au h g ks ls,ao os sts]
theorem J8(n:Nat)(ns:List Int)(k:Int)(hk:0<=k):∃h g ks ls os sts k',bz h g ks ls/\aY h g os sts/\0<=k'/\pg.fn (n+4) 35 [.val (sc ns),.bor (.lst [.int k])]=.ok (.val (.tup [au h g ks ls,ao os sts])) [.val (sc ns),.bor (.lst [.int k'])]:=by
 obtain⟨r,r1,r2,er⟩:=bC n ns k 4 hk (by omega)
 obtain⟨g,hg,hr⟩:∃g:Nat,(g=1\/g=2\/g=3\/g=4)/\1+r=g:=⟨(1+r).toNat,by omega,by omega⟩
 have lg:(b7 g).length=g:=dH (by omega)
 obtain⟨q,q1,q2,eq⟩:=bC n ns (k+1) 2 (by omega) (by omega)
 obtain⟨ks,bs,k',t3,t6,t7,b1,b2,b3,b4,b5⟩:=qQ n ns (.val (.lst (b7 g))) (b7 g) [] (k+1+1) .un .un (.str "a") [] (q==1) (by omega) (.inl rfl) (.inl rfl) (by simp;omega) (by simp;omega)
 obtain⟨z,z1,z2⟩:∃z,at? (b7 g) (-1)=some z/\z∈b7 g:=by
  rcases hg with rfl|rfl|rfl|rfl
  ·exact⟨.str "p",rfl,by simp[b7]⟩
  ·exact⟨.str "q",rfl,by simp[b7]⟩
  ·exact⟨.str "rr",rfl,by simp[b7]⟩
  ·exact⟨.str "go",rfl,by simp[b7]⟩
 refine⟨1,g,ks,(q==1)::bs,[z],[[(.str "a",1)],[(z,0)]],k',⟨by omega,by omega,by omega,by omega,fun d dm=>?_,by simp[b2,lg];omega⟩,⟨by simpa using z2,by simp,by simp,fun st h=>?_⟩,b3,?_⟩
 ·obtain⟨y,hy,e⟩:=b4 d dm
  have hy':y∈hd 1++b7 g:=by simpa[hd]using hy
  rcases e with rfl|rfl
  ·exact .same hy'
  ·exact .not hy'
 ·simp only[List.mem_cons,List.not_mem_nil,or_false]at h
  rcases h with rfl|rfl<;>simp[hd]
 ·have hb:oE=⟨2,8,(.cons (.set 2 (.slc (.lis (.cons (.con (.str "p")) (.cons (.con (.str "q")) (.cons (.con (.str "rr")) (.cons (.con (.str "go")) .nil))))) .noneE (.op .add (.con (.int (1))) (.call 28 (.cons (.var 0) (.cons (.ref 1) (.cons (.con (.int (4))) .nil))))))) (.cons (.set 3 (.con (.str "a"))) (.cons (.set 4 (.lis (.cons (.cmp .eq (.call 28 (.cons (.var 0) (.cons (.ref 1) (.cons (.con (.int (2))) .nil)))) (.con (.int (1)))) .nil))) (.cons (.set 5 (.lis .nil)) (.cons (.for_ (.name 6) (.var 2) nJ) (.cons (.ret (.tup (.cons (.tup (.cons (.tup (.cons (.con (.str "a")) .nil)) (.cons (.bi .tuple (.var 5)) (.cons (.bi .tuple (.var 4)) .nil)))) (.cons (.tup (.cons (.tup (.cons (.idx (.var 2) (.neg (.con (.int (1))))) .nil)) (.cons (.tup (.cons (.tup (.cons (.tup (.cons (.con (.str "a")) (.cons (.con (.int (1))) .nil))) .nil)) (.cons (.tup (.cons (.tup (.cons (.idx (.var 2) (.neg (.con (.int (1))))) (.cons (.con (.int (0))) .nil))) .nil)) .nil))) .nil))) .nil)))) .nil))))))⟩:=rfl
  rw[xq,hb]
  have sl:fX (.lst [.str "p",.str "q",.str "rr",.str "go"]) none (some (g:Int))=some (.new (.lst (b7 g))):=by
   rcases hg with rfl|rfl|rfl|rfl<;>rfl
  have b5':bF (.name 6) (ex (pg.cf (n+3)) nJ) (b7 g) [.val (sc ns),.bor (.lst [.int (k+1+1)]),.val (.lst (b7 g)),.val (.str "a"),.own (.lst [.bl (q==1)]),.own (.lst []),.un,.un]=.next [.val (sc ns),.bor (.lst [.int k']),.val (.lst (b7 g)),t3,.own (.lst (.bl (q==1)::bs.map .bl)),.own (.lst (aK (b7 g) ks)),t6,t7]:=by simpa using b5
  simp[er,hr,eq,sl,aV,cH,E.jg,items,b5',z1,au,ao,eU,lu,hd]
end Tx
end
section
open PySem Mini
namespace Tx
def dR:S->S
 |.cons _ t=>t
 |s=>s
def hdS:S->S
 |.cons t _=>t
 |s=>s
def xO:S:=dR (dR (dR aL.body))
theorem Ek(n:Nat)(ns:List Int)(k:Int)(hk:0<=k):∃(kd:D)(s2:Sl),(∀g,bM (hd 2++b7 g) 1 kd)/\
  ex (pg.cf (n+3)) aL.body [.val (sc ns),.bor (.lst [.int k]),.un,.un,.un,.un,.un,.un]=ex (pg.cf (n+3)) xO [.val (sc ns),.bor (.lst [.int (k+1)]),s2,.val kd,.un,.un,.un,.un]:=by
 obtain⟨r,r1,r2,er⟩:=bC n ns k 6 hk (by omega)
 have hb:aL.body=.cons (hdS aL.body) (.cons (hdS (dR aL.body)) (.cons (hdS (dR (dR aL.body))) xO)):=rfl
 have sb:∀g,([.str "a",.str "b"]:List D).Sublist (hd 2++b7 g):=fun g=>List.sublist_append_left _ _
 have at6:∀(xs:List D)(i:Nat),i<xs.length->at? xs (i:Int)=xs[i]? :=gk
 have hh:∀g,bM (hd 2++b7 g) 1 (.tup [.str "held",.tup [.str "same",.str "a"],.str "b",.bl true]):=fun g=>.held (.same (by simp[hd])) (by simp[hd])
 rcases (by omega:r=0\/r=1\/r=2\/r=3\/r=4\/r=5)with rfl|rfl|rfl|rfl|rfl|rfl
 ·refine⟨.tup [.str "both",.tup [.str "a",.str "b"]],.val (.int 0),fun g=>.both (sb g) (by simp) (by simp),?_⟩
  rw[hb];simp[aL,hdS,dR,er,aV,at?,ix?]
 ·refine⟨.tup [.str "both",.tup [.str "a",.str "b"]],.val (.int 1),fun g=>.both (sb g) (by simp) (by simp),?_⟩
  rw[hb];simp[aL,hdS,dR,er,aV,at?,ix?]
 ·refine⟨.tup [.str "and",.tup [.str "a",.str "b"]],.val (.int 2),fun g=>.and (sb g) (by simp) (by simp),?_⟩
  rw[hb];simp[aL,hdS,dR,er,aV,at?,ix?]
 ·refine⟨.tup [.str "or",.tup [.str "a",.str "b"]],.val (.int 3),fun g=>.or (sb g) (by simp) (by simp),?_⟩
  rw[hb];simp[aL,hdS,dR,er,aV,at?,ix?]
 ·refine⟨_,.val (.int 4),hh,?_⟩
  rw[hb];simp[aL,hdS,dR,er,aV,at?,ix?]
 ·refine⟨_,.val (.int 5),hh,?_⟩
  rw[hb];simp[aL,hdS,dR,er,aV,at?,ix?]
def dY:List (List (D×Nat)):=[[(.str "a",1),(.str "b",2)],[(.str "b",3)],[(.str "a",3)],[(.str "p",0)]]
theorem m8(g:Nat)(h1:1<=g):aY 2 g [.str "p"] dY:=by
 refine⟨?_,by simp[dY],by simp[dY],fun st h=>?_⟩
 ·obtain⟨j,rfl⟩:∃j,g=j+1:=⟨g-1,by omega⟩
  simp[b7]
 ·simp only[dY,List.mem_cons,List.not_mem_nil,or_false]at h
  rcases h with rfl|rfl|rfl|rfl<;>simp[hd,dY]
theorem zG(n:Nat)(ns:List Int)(k:Int)(hk:0<=k):∃h g ks ls os sts k',bz h g ks ls/\aY h g os sts/\0<=k'/\pg.fn (n+4) 36 [.val (sc ns),.bor (.lst [.int k])]=.ok (.val (.tup [au h g ks ls,ao os sts])) [.val (sc ns),.bor (.lst [.int k'])]:=by
 obtain⟨kd,s2,a1,a2⟩:=Ek n ns k hk
 obtain⟨q,q1,q2,eq⟩:=bC n ns (k+1) 2 (by omega) (by omega)
 rcases (by omega:q=0\/q=1)with rfl|rfl
 ·obtain⟨z,z1,z2,ez⟩:=bC n ns (k+1+1) 2 (by omega) (by omega)
  refine⟨2,1,[kd],[z==1,z==1,z==1],[.str "p"],dY,k+1+1+1,⟨by omega,by omega,by omega,rfl,fun d h=>?_,rfl⟩,m8 1 (by omega),by omega,?_⟩
  ·cases List.mem_singleton.mp h;exact a1 1
  ·rw[gO,a2]
   simp[xO,aL,dR,eq,ez,aV,au,hd,b7,aK,ao,eU,lu,dY]
 ·obtain⟨w,w1,w2,ew⟩:=bC n ns (k+1+1) 2 (by omega) (by omega)
  obtain⟨z,z1,z2,ez⟩:=bC n ns (k+1+1+1) 2 (by omega) (by omega)
  rcases (by omega:w=0\/w=1)with rfl|rfl
  ·refine⟨2,2,[kd,.tup [.str "same",.str "p"]],[z==1,z==1,z==1,z==1],[.str "p"],dY,k+1+1+1+1,⟨by omega,by omega,by omega,rfl,fun d h=>?_,rfl⟩,m8 2 (by omega),by omega,?_⟩
   ·simp only[List.mem_cons,List.not_mem_nil,or_false]at h
    rcases h with rfl|rfl
    ·exact a1 2
    ·exact .same (by simp[hd,b7])
   ·rw[gO,a2]
    simp[xO,aL,dR,eq,ew,ez,aV,au,hd,b7,aK,ao,eU,lu,dY,di,rP]
  ·refine⟨2,2,[kd,.tup [.str "not",.str "p"]],[z==1,z==1,z==1, !(z==1)],[.str "p"],dY,k+1+1+1+1,⟨by omega,by omega,by omega,rfl,fun d h=>?_,rfl⟩,m8 2 (by omega),by omega,?_⟩
   ·simp only[List.mem_cons,List.not_mem_nil,or_false]at h
    rcases h with rfl|rfl
    ·exact a1 2
    ·exact .not (by simp[hd,b7])
   ·rw[gO,a2]
    simp[xO,aL,dR,eq,ew,ez,aV,au,hd,b7,aK,ao,eU,lu,dY,di,rP]
end Tx
end
section
open PySem Mini
namespace Tx
theorem Av:∀(gs ks:List D)(i:Nat)(x d:D),gs[i]? =some x->ks.length=gs.length->(aK gs ks).set i (.tup [x,d])=aK gs (ks.set i d)
 |[],_,_=>fun _ _ h _=>by simp at h
 |g::gs,[],_=>fun _ _ _ h=>by simp at h
 |g::gs,k::ks,0=>fun x d h _=>by simp at h;subst h;simp[aK]
 |g::gs,k::ks,i+1=>fun x d h hl=>by simp[aK,Av gs ks i x d (by simpa using h) (by simpa using hl)]
theorem zip_get:∀(gs ks:List D)(i:Nat),i<gs.length->ks.length=gs.length->∃x d,(aK gs ks)[i]? =some (.tup [x,d])/\gs[i]? =some x
 |[],_,_=>fun h _=>by simp at h
 |g::gs,[],_=>fun _ h=>by simp at h
 |g::gs,k::ks,0=>fun _ _=>⟨g,k,by simp[aK],rfl⟩
 |g::gs,k::ks,i+1=>fun h hl=>by
  obtain⟨x,d,a,b⟩:=zip_get gs ks i (by simpa using h) (by simpa using hl)
  exact⟨x,d,by simp[aK,a],by simpa using b⟩
theorem Dm(n:Nat)(ns:List Int)(k:Int)(hk:0<=k){h g:Nat}{ks:List D}{ls:List Bool}(O:bz h g ks ls):∃ks' k',bz h g ks' ls/\0<=k'/\
  pg.fn (n+8) 37 [.val (sc ns),.bor (.lst [.int k]),.val (au h g ks ls)]=.ok (.val (au h g ks' ls)) [.val (sc ns),.bor (.lst [.int k']),.val (au h g ks ls)]:=by
 have lg:=dH O.g5
 have lh:=gQ O.h2
 have h2:=O.h2
 have g1:=O.g1
 have g5:=O.g5
 have kl:=O.kl
 have lz:(aK (b7 g) ks).length=g:=by rw[Aw (by rw[lg,kl]),lg]
 obtain⟨q,q1,q2,eq⟩:=bC (n+4) ns k g hk (by omega)
 obtain⟨i,rfl⟩:∃i:Nat,q=i:=⟨q.toNat,by omega⟩
 obtain⟨d,k',a1,a2,a3⟩:=vL ns (hd h++b7 g) (by simp;omega) (by simp;omega) 1 n (k+1) (by omega)
 simp only[Int.natCast_one,show n+6+1=n+7 from rfl]at a3
 obtain⟨x,y,b1,b2⟩:=zip_get (b7 g) ks i (by omega) (by omega)
 refine⟨ks.set i d,k',⟨h2,g1,g5,by simp[kl],fun e he=>?_,O.ll⟩,a2,?_⟩
 ·rcases List.mem_or_eq_of_mem_set he with he|rfl
  ·exact O.kk e he
  ·exact a1
 ·have gc:=qC (c:=pg.cf (n+7)) (it:=.idx (.var 2) (.con (.int (1)))) (σ:=[.val (sc ns),.bor (.lst [.int k]),.val (au h g ks ls),.un,.un,.un]) (b7 g) ks (by omega) (by simp[au])
  have hb:cR=⟨3,6,.cons (.set 3 (.op .add (.idx (.var 2) (.con (.int (0)))) (.bi .tuple (yj (.idx (.var 2) (.con (.int (1)))))))) (dR cR.body)⟩:=rfl
  have f:fits ((hd h).length+(b7 g).length)=true:=by simp[fits];omega
  have i1:at? (aK (b7 g) ks) (i:Int)=some (.tup [x,y]):=by rw[gk _ _ (by omega),b1]
  have i2:ix? g (i:Int)=some i:=by simp[ix?];omega
  have zs:=Av (b7 g) ks i x d b2 (by omega)
  have q0:∀it,(yj it).az=none:=fun _=>rfl
  have n0:getD (au h g ks ls) (.int 0)=some (.tup (hd h)):=by simp[au]
  have n1:getD (au h g ks ls) (.int 1)=some (.tup (aK (b7 g) ks)):=by simp[au]
  have n2:getD (au h g ks ls) (.int 2)=some (.tup (ls.map .bl)):=by simp[au]
  rw[lJ,hb]
  simp[cR,dR,gc,q0,f,n0,n1,n2,lz,eq,a3,i1,i2,vB,zs,aV]
  simp[au]
theorem ud(h g:Nat):aY h g [] [[]]:=⟨by simp,by simp,by simp,fun st h=>by cases List.mem_singleton.mp h;simp⟩
theorem TQ(g:Nat)(h3:3<=g):aY 0 g [.str "q"] [[(.str "q",1)],[(.str "q",0)]]:=by
 refine⟨?_,by simp,by simp,fun st h=>?_⟩
 ·obtain⟨j,rfl⟩:∃j,g=j+2:=⟨g-2,by omega⟩
  simp[b7]
 ·simp only[List.mem_cons,List.not_mem_nil,or_false]at h
  rcases h with rfl|rfl<;>simp[hd]
def qR:S:=dR (dR (dR (dR (dR aX.body))))
def yu:S:=dR qR
theorem Pq(n:Nat)(ns:List Int)(k:Int)(hk:0<=k):∃h g ks ls os sts,bz h g ks ls/\aY h g os sts/\pg.fn (n+9) 38 [.val (sc ns),.val (.int k)]=.ok (.val (.tup [au h g ks ls,ao os sts])) [.val (sc ns),.val (.int k)]:=by
 obtain⟨r,r1,r2,er⟩:=bC (n+5) ns k 8 hk (by omega)
 by_cases c2:r<2
 ·obtain⟨h,g,ks,ls,k1,O,a1,a2⟩:=Il n ns (k+1) (by omega) 2 (by omega) (by omega)
  obtain⟨os,sts,k2,T,b1,b2⟩:=LK (n+4) ns k1 a1 O
  exact⟨h,g,ks,ls,os,sts,O,T,by rw[dI];simp[aX,er,c2,a2,b2,aV]⟩
 have c2b:¬r<2:=c2
 by_cases c3:r=2
 ·subst c3
  obtain⟨h,g,ks,ls,k1,O,a1,a2⟩:=Il n ns (k+1) (by omega) 0 (by omega) (by omega)
  exact⟨h,g,ks,ls,[],[[]],O,ud h g,by rw[dI];simp[aX,er,a2,aV,ao,eU]⟩
 by_cases c4:r=3
 ·subst c4
  obtain⟨g,ks,ls,k1,O,g3,a1,a2⟩:=MK (n+4) ns (k+1) (by omega)
  obtain⟨q,q1,q2,eq⟩:=bC (n+5) ns k1 2 a1 (by omega)
  rcases (by omega:q=1\/q=0)with rfl|rfl
  ·exact⟨0,g,ks,ls,[],[[]],O,ud 0 g,by rw[dI];simp[aX,er,a2,eq,aV,ao,eU]⟩
  ·exact⟨0,g,ks,ls,_,_,O,TQ g g3,by rw[dI];simp[aX,er,a2,eq,aV,ao,eU,lu]⟩
 have e2:(r==2)=false:=by simpa using c3
 have e3:(r==3)=false:=by simpa using c4
 have main:∃h g ks ls os sts k1,bz h g ks ls/\aY h g os sts/\0<=k1/\ex (pg.cf (n+8)) aX.body [.val (sc ns),.val (.int k),.un,.un,.un,.un]=ex (pg.cf (n+8)) yu [.val (sc ns),.val (.int k),.own (.lst [.int k1]),.val (.int r),.val (au h g ks ls),.val (ao os sts)]:=by
  have hb:aX.body=.cons (hdS aX.body) (.cons (hdS (dR aX.body)) (.cons (hdS (dR (dR aX.body))) (.cons (hdS (dR (dR (dR aX.body)))) (.cons (hdS (dR (dR (dR (dR aX.body))))) (.cons (hdS qR) yu))))):=rfl
  by_cases c6:r<6
  ·obtain⟨h,g,ks,ls,os,sts,k1,O,T,a1,a2⟩:=J8 (n+4) ns (k+1) (by omega)
   refine⟨h,g,ks,ls,os,sts,k1,O,T,a1,?_⟩
   rw[hb]
   simp[aX,hdS,dR,qR,er,c2,e2,e3,c3,c4,c6,a2,aV,bN,gM,cM]
  ·obtain⟨h,g,ks,ls,os,sts,k1,O,T,a1,a2⟩:=zG (n+4) ns (k+1) (by omega)
   refine⟨h,g,ks,ls,os,sts,k1,O,T,a1,?_⟩
   rw[hb]
   simp[aX,hdS,dR,qR,er,c2,e2,e3,c3,c4,c6,a2,aV,bN,gM,cM]
 obtain⟨h,g,ks,ls,os,sts,k1,O,T,a1,a2⟩:=main
 by_cases c7:r%2=1
 ·obtain⟨q,q1,q2,eq⟩:=bC (n+5) ns k1 2 a1 (by omega)
  rcases (by omega:q=1\/q=0)with rfl|rfl
  ·obtain⟨ks',k2,O',b1,b2⟩:=Dm n ns (k1+1) (by omega) O
   refine⟨h,g,ks',ls,os,sts,O',T,?_⟩
   rw[dI,a2]
   simp[yu,qR,aX,dR,c7,eq,b2,aV]
  ·refine⟨h,g,ks,ls,os,sts,O,T,?_⟩
   rw[dI,a2]
   simp[yu,qR,aX,dR,c7,eq,aV]
 ·refine⟨h,g,ks,ls,os,sts,O,T,?_⟩
  have c8:r%2=0:=by omega
  rw[dI,a2]
  simp[yu,qR,aX,dR,c8,aV]
end Tx
end
section
open PySem Mini
namespace Tx
def Q0:E:=.bi .all (.comp 1 (.name 0) (.var 0) (.con (.bl true)) (.call 3 (.cons (.var 0) (.cons (.con (.int (2))) (.cons (.con (.int (2))) .nil)))))
def Iv:E:=.bi .all (.comp 1 (.name 0) (.var 0) (.con (.bl true)) (.call 4 (.cons (.idx (.var 0) (.con (.int (1)))) (.cons (.con (.int (0))) (.cons (.op .sub (.var 3) (.con (.int (1)))) .nil)))))
def VP:E:=.comp 1 (.name 0) (.var 0) (.con (.bl true)) (.idx (.var 0) (.con (.int (0))))
theorem xW(n:Nat){xs:List D}(h:cu xs)(nd:xs.Nodup)(st:List (D×Nat))(N:Nat)(hs:(st.map (·.1)).Sublist xs)(hn:∀m∈st,m.2<N):
  pg.fn (n+3) 19 [.val (eU st),.val (.tup xs),.val (.int N)]=.ok (.val (.bl true)) [.val (eU st),.val (.tup xs),.val (.int N)]:=by
 have ll:=hs.length_le
 rw[List.length_map]at ll
 have t1:=aR (n+1) (st.map lu) 0 xs.length (by omega) (by simpa using ll)
 have t2:=cX n (d:=.tup xs) (.inl rfl) h nd hs 0 xs.length (by omega) (by simpa using ll)
 have e1:ev (pg.cf (n+2)) Q0 [.val (eU st),.val (.tup xs),.val (.int N)]=.ok (.val (.bl true)) [.val (eU st),.val (.tup xs),.val (.int N)]:=by
  refine all1 (d:=eU st) (xs:=st.map lu) (r:=.val (eU st)) (by simp) rfl rfl fun x hx=>?_
  obtain⟨m,_,rfl⟩:=List.mem_map.mp hx
  have t:=aR (n+1) [m.1,.int m.2] 2 2 (by simp) (by simp)
  simp[lu,t]
 have e2:ev (pg.cf (n+2)) Iv [.val (eU st),.val (.tup xs),.val (.int N)]=.ok (.val (.bl true)) [.val (eU st),.val (.tup xs),.val (.int N)]:=by
  refine all1 (d:=eU st) (xs:=st.map lu) (r:=.val (eU st)) (by simp) rfl rfl fun x hx=>?_
  obtain⟨m,hm,rfl⟩:=List.mem_map.mp hx
  have t:pg.fn (n+2) 4 [.val (.int m.2),.val (.int 0),.val (.int (N-1))]=.ok (.val (.bl true)) [.val (.int m.2),.val (.int 0),.val (.int (N-1))]:=by
   rw[xr]
   have:(m.2:Int)<=N-1:=Int.le_sub_one_of_lt (Int.ofNat_lt.mpr (hn m hm))
   simp[oF,acO,this]
  simp[lu,t]
 have e3:ev (pg.cf (n+2)) VP [.val (eU st),.val (.tup xs),.val (.int N)]=.ok (.new (.lst (st.map (·.1)))) [.val (eU st),.val (.tup xs),.val (.int N)]:=by
  have:=uH (c:=pg.cf (n+2)) (it:=.var 0) (σ:=[.val (eU st),.val (.tup xs),.val (.int N)]) (el:=.idx (.var 0) (.con (.int (0)))) nG (d:=eU st) (xs:=st.map lu) (r:=.val (eU st)) (by simp;rfl) rfl rfl fun y hy=>by
   obtain⟨m,_,rfl⟩:=List.mem_map.mp hy
   simp[lu,nG]
  rw[List.map_map]at this
  exact this
 have hb:rF=⟨3,3,(.cons (.ite (.or (.cons (.not (.call 3 (.cons (.var 0) (.cons (.con (.int (0))) (.cons (.bi .len (.var 1)) .nil))))) (.cons (.not Q0) .nil))) (.cons (.ret (.con (.bl false))) .nil) .nil) (.cons (.ite (.not (.call 9 (.cons (.bi .tuple VP) (.cons (.var 1) (.cons (.con (.int (0))) (.cons (.bi .len (.var 1)) .nil)))))) (.cons (.ret (.con (.bl false))) .nil) .nil) (.cons (.ret Iv) .nil)))⟩:=rfl
 rw[zm,hb]
 have q1:VP.az=none:=rfl
 have q2:Iv.az=none:=rfl
 have t1':pg.fn (n+2) 3 [.val (eU st),.val (.int 0),.val (.int xs.length)]=.ok (.val (.bl true)) [.val (eU st),.val (.int 0),.val (.int xs.length)]:=t1
 simp[t1',e1,e3,q1,t2,e2,q2]
theorem gl8:pg.gl 8=some (.int 12):=rfl
def vm:E:=.bi .all (.comp 1 (.name 0) (.idx (.var 1) (.con (.int (1)))) (.con (.bl true)) (.call 19 (.cons (.var 0) (.cons (.var 4) (.cons (.bi .len (.idx (.var 2) (.con (.int (1))))) .nil)))))
section
variable{h g:Nat}{ks:List D}{ls:List Bool}{os:List D}{sts:List (List (D×Nat))}
theorem aY.sub(T:aY h g os sts):(hd h++os).Sublist (names h g):=(List.Sublist.refl _).append T.ou
theorem Hd:(b7 g).Sublist (names h g):=List.sublist_append_right _ _
theorem zN(n:Nat)(O:bz h g ks ls)(T:aY h g os sts):pg.fn (n+4) 18 [.val (au h g ks ls),.val (ao os sts)]=.ok (.val (.bl true)) [.val (au h g ks ls),.val (ao os sts)]:=by
 have lg:=dH O.g5
 have lh:=gQ O.h2
 have h2:=O.h2
 have g5:=O.g5
 have s1:=T.s1
 have s4:=T.s4
 have lo:=T.ou.length_le
 have X:=bh h g
 have Nd:=names_nodup O.h2 O.g1 O.g5
 have t1:pg.fn (n+3) 3 [.val (ao os sts),.val (.int 2),.val (.int 2)]=.ok (.val (.bl true)) [.val (ao os sts),.val (.int 2),.val (.int 2)]:=aR (n+2) [.tup os,.tup (sts.map eU)] 2 2 (by simp) (by simp)
 have gc:=qC (c:=pg.cf (n+3)) (it:=.idx (.var 0) (.con (.int (1)))) (σ:=[.val (au h g ks ls),.val (ao os sts),.un,.un]) (b7 g) ks (by rw[O.kl,lg]) (by simp[au])
 have t2:=cX (n+1) (d:=.lst (b7 g)) (ys:=os) (.inr rfl) (fun x hx=>X x (Hd.subset hx)) (Hd.nodup Nd) T.ou 0 g (by omega) (by omega)
 have t3:=aR (n+2) (sts.map eU) 1 12 (by simp;omega) (by simp;omega)
 have hb:uT=⟨2,4,(.cons (.ite (.not (.call 3 (.cons (.var 1) (.cons (.con (.int (2))) (.cons (.con (.int (2))) .nil))))) (.cons (.ret (.con (.bl false))) .nil) .nil) (.cons (.set 2 (yj (.idx (.var 0) (.con (.int (1)))))) (.cons (.ite (.or (.cons (.not (.call 9 (.cons (.idx (.var 1) (.con (.int (0)))) (.cons (.var 2) (.cons (.con (.int (0))) (.cons (.bi .len (.var 2)) .nil)))))) (.cons (.not (.call 3 (.cons (.idx (.var 1) (.con (.int (1)))) (.cons (.con (.int (1))) (.cons (.glob 8) .nil))))) .nil))) (.cons (.ret (.con (.bl false))) .nil) .nil) (.cons (.set 3 (.op .add (.idx (.var 0) (.con (.int (0)))) (.idx (.var 1) (.con (.int (0)))))) (.cons (.ret vm) .nil)))))⟩:=rfl
 have q:vm.az=none:=rfl
 have f:fits ((hd h).length+os.length)=true:=by simp[fits];omega
 have n0:getD (au h g ks ls) (.int 0)=some (.tup (hd h)):=by simp[au]
 have m0:getD (ao os sts) (.int 0)=some (.tup os):=by simp[ao]
 have m1:getD (ao os sts) (.int 1)=some (.tup (sts.map eU)):=by simp[ao]
 have e':ev (pg.cf (n+3)) vm [.val (au h g ks ls),.val (ao os sts),.val (.lst (b7 g)),.val (.tup (hd h++os))]=.ok (.val (.bl true)) [.val (au h g ks ls),.val (ao os sts),.val (.lst (b7 g)),.val (.tup (hd h++os))]:=by
  refine all1 (d:=.tup (sts.map eU)) (xs:=sts.map eU) (r:=.val (.tup (sts.map eU))) (by simp[ao]) rfl rfl fun x hx=>?_
  obtain⟨st,hst,rfl⟩:=List.mem_map.mp hx
  have t:=xW n (xs:=hd h++os) (fun x hx=>X x (T.sub.subset hx)) (T.sub.nodup Nd) st sts.length (T.mv st hst).1 (T.mv st hst).2
  simp[ao,t]
 rw[DQ,hb]
 simp[t1,gc,m0,m1,n0,lg,t2,t3,gl8,f,e',q]
theorem fL(n:Nat)(O:bz h g ks ls)(T:aY h g os sts):pg.fn (n+9) 17 [.val (au h g ks ls),.val (ao os sts)]=.ok (.val (ao os sts)) [.val (au h g ks ls),.val (ao os sts)]:=by
 have t:=zN (n+4) O T
 have c:=z9 n O
 rw[pW]
 simp[jJ,c,t]
end
end Tx
end
section
open PySem Mini
namespace Tx
def lk(x:D):List (D×Nat)->Option Nat
 |[]=>none
 |m::st=>if cL m.1 x then some m.2 else lk x st
abbrev gn(st:List (D×Nat)):List D:=st.map (·.1)
abbrev pq(st:List (D×Nat)):List D:=st.map fun m=>.int m.2
def dcD(st:List (D×Nat)):D:=.cC (gn st) (pq st)
theorem Bv(x:D):∀st,eQ x (gn st) (pq st)=(lk x st).map fun j:Nat=>D.int j
 |[]=>rfl
 |m::st=>by
  simp only[List.map_cons,eQ,lk]
  split
  ·rfl
  ·exact Bv x st
theorem Bw(x:D):∀st,aU x (gn st)=(lk x st).isSome
 |[]=>rfl
 |m::st=>by
  simp only[List.map_cons,aU,lk,Bw x st]
  cases cL m.1 x<;>simp
theorem iY:∀(st:List (D×Nat))(ks vs:List D),cu (ks++gn st)->(ks++gn st).Nodup->dictOf ks vs (st.map lu)=some (ks++gn st,vs++pq st)
 |[]=>fun ks vs _ _=>by simp[dictOf]
 |m::st=>fun ks vs h nd=>by
  obtain⟨s,e⟩:=h m.1 (by simp)
  have no:aU m.1 ks=false:=by
   rw[e]
   have hn:m.1∉ks:=fun hm=>by
    rw[show gn (m::st)=m.1::gn st from rfl,List.nodup_append]at nd
    exact nd.2.2 _ hm _ QYz rfl
   rw[e]at hn
   have hk:cu ks:=fun x hx=>h x (QWq _ hx)
   clear nd h
   induction ks with
   |nil=>rfl
   |cons y ys ih=>
    obtain⟨q,rfl⟩:=hk y QYz
    have ne:¬q=s:=fun c=>hn (by rw[c];exact QYz)
    simp[aU,cL,ne,ih (fun c=>hn (QYq _ c)) fun x hx=>hk x (QYq _ hx)]
  have r:=iY st (ks++[m.1]) (vs++[.int m.2]) (by simpa using h) (by simpa using nd)
  have kk:keyOk m.1=true:=by rw[e];rfl
  rw[List.map_cons,show lu m=.tup [m.1,.int m.2]from rfl,dictOf,if_pos kk]
  simp only[putD,no]
  rw[if_neg (by simp),r]
  simp
def bA(sts:List (List (D×Nat)))(i:Nat):List (D×Nat):=sts.getD i []
end Tx
end
section
open PySem Mini
namespace Tx
theorem lV(n:Nat)(hs gs:List D)(ks:List D)(x:D)(hl:ks.length=gs.length)(hf:hs.length+gs.length<=1000):
  pg.fn (n+1) 39 [.val (.tup [.tup hs,.tup (aK gs ks),x])]=.ok (.new (.lst (hs++gs))) [.val (.tup [.tup hs,.tup (aK gs ks),x])]:=
 (show pg.fn (n+1) 39 _=pg.fn (n+1) 13 _ from(xm n _).trans (lH n _).symm).trans (fB n hs gs ks x hl hf)
theorem qx{s:Str}{xs:List D}(h:cu xs)(hn:D.str s∉xs):aU (.str s) xs=false:=by
 induction xs with
 |nil=>rfl
 |cons x xs ih=>
  obtain⟨q,rfl⟩:=h x QYz
  have ne:q≠s:=fun e=>hn (by rw[e];exact QYz)
  simp[aU,cL,ne,ih (fun z hz=>h z (QYq _ hz)) fun hz=>hn (QYq _ hz)]
theorem Cq:∀(xs ys ks vs:List D),ys.length=xs.length->cu xs->cu ks->(ks++xs).Nodup->dictOf ks vs (aK xs ys)=some (ks++xs,vs++ys)
 |[],ys=>fun ks vs hl _ _ _=>by
  have:ys=[]:=by cases ys<;>simp_all
  subst this
  simp[aK,dictOf]
 |x::xs,[]=>fun ks vs hl _ _ _=>by simp at hl
 |x::xs,y::ys=>fun ks vs hl h hk nd=>by
  obtain⟨s,rfl⟩:=h x QYz
  have hn:D.str s∉ks:=fun z=>by
   have:=List.nodup_append.mp nd
   exact this.2.2 _ z _ QYz rfl
  have e:=qx hk hn
  have ih:=Cq xs ys (ks++[.str s]) (vs++[y]) (by simpa using hl) (fun z hz=>h z (QYq _ hz)) (fun z hz=>by
   rcases List.mem_append.mp hz with hz|hz
   ·exact hk z hz
   ·simp at hz;exact⟨s,hz⟩) (by simpa using nd)
  simp only[aK,dictOf,keyOk,if_true,putD,e,Bool.false_eq_true,if_false]
  rw[ih]
  simp
theorem JX{xs ys:List D}(hl:ys.length=xs.length)(h:cu xs)(nd:xs.Nodup):dictOf [] [] (aK xs ys)=some (xs,ys):=by
 have:=Cq xs ys [] [] hl h (fun z hz=>by cases hz) (by simpa using nd)
 simpa using this
def cQ(xs:List D)(bs:List Bool)(x:D):Bool:=match eQ x xs (bs.map .bl)with
 |some (.bl b)=>b
 |_=>false
theorem uq{x:D}:∀{xs:List D}{bs:List Bool},cu xs->bs.length=xs.length->x∈xs->eQ x xs (bs.map .bl)=some (.bl (cQ xs bs x))
 |[],_=>fun _ _ hx=>by cases hx
 |y::ys,[]=>fun _ hl _=>by simp at hl
 |y::ys,b::bs=>fun h hl hx=>by
  obtain⟨q,rfl⟩:=h x hx
  obtain⟨s,rfl⟩:=h y QYz
  by_cases e:s=q
  ·subst e
   simp[cQ,eQ,cL]
  ·have hx':D.str q∈ys:=by
    rcases List.mem_cons.mp hx with z|z
    ·cases z;exact absurd rfl e
    ·exact z
   have ih:=uq (bs:=bs) (fun z hz=>h z (QYq _ hz)) (by simpa using hl) hx'
   have l:eQ (.str q) (.str s::ys) ((b::bs).map .bl)=eQ (.str q) ys (bs.map .bl):=by simp[eQ,cL,e]
   have v:cQ (.str s::ys) (b::bs) (.str q)=cQ ys bs (.str q):=by
    unfold cQ
    rw[l]
   rw[l,v]
   exact ih
theorem gh{x:D}{xs:List D}{bs:List Bool}(h:cu xs)(hl:bs.length=xs.length)(hx:x∈xs):getD (.cC xs (bs.map .bl)) x=some (.bl (cQ xs bs x)):=by
 have e:=uq h hl hx
 obtain⟨q,rfl⟩:=h x hx
 exact e
theorem qy:∀(bs:List Bool),aU (.bl false) (bs.map .bl)= !bs.all id
 |[]=>rfl
 |b::bs=>by cases b<;>simp[aU,cL,qy bs]
theorem vP:∀(bs:List Bool),aU (.bl true) (bs.map .bl)=bs.any id
 |[]=>rfl
 |b::bs=>by cases b<;>simp[aU,cL,vP bs]
theorem qI(bs:List Bool):(bs.map D.bl).all flat=true:=by
 rw[List.all_eq_true]
 intro x hx
 obtain⟨b,_,rfl⟩:=List.mem_map.mp hx
 rfl
theorem vO(b:Bool)(bs:List Bool):aH .isin (.bl b) (.lst (bs.map .bl))=some (aU (.bl b) (bs.map .bl)):=by
 have o:eY (.bl b) (bs.map .bl)=true:=by
  unfold eY
  rw[qI]
  rfl
 show(if eY (.bl b) (bs.map .bl)then some (aU (.bl b) (bs.map .bl))else none)=_
 rw[o]
 rfl
theorem Ig(b:Bool)(bs:List Bool):aH .notin (.bl b) (.lst (bs.map .bl))=some (!aU (.bl b) (bs.map .bl)):=by
 have o:eY (.bl b) (bs.map .bl)=true:=by
  unfold eY
  rw[qI]
  rfl
 show(if eY (.bl b) (bs.map .bl)then some (!aU (.bl b) (bs.map .bl))else none)=_
 rw[o]
 rfl
theorem m7(bs:List Bool):lQ (bs.map D.bl)=true:=by
 induction bs with
 |nil=>rfl
 |cons b bs ih=>simp[lQ,nd,ih]
theorem qO(bs:List Bool):mq (bs.map D.bl)=0:=by
 induction bs with
 |nil=>rfl
 |cons b bs ih=>simp[mq,dep,ih]
theorem Ip(rs:List (List Bool)):lQ (rs.map aB)=true:=by
 induction rs with
 |nil=>rfl
 |cons r rs ih=>simp[lQ,nd,aB,m7,ih]
theorem Jo(bs:List Bool)(rs:List (List Bool)):∃b,aH .isin (.tup (bs.map .bl)) (.tup (rs.map aB))=some b:=by
 have o:eY (.tup (bs.map .bl)) (rs.map aB)=true:=by
  simp[eY,nd,dep,m7,qO,Ip]
 refine⟨aU (.tup (bs.map .bl)) (rs.map aB),?_⟩
 show(if eY (.tup (bs.map .bl)) (rs.map aB)then some (aU (.tup (bs.map .bl)) (rs.map aB))else none)=_
 rw[o]
 rfl
end Tx
end
section
open PySem Mini
namespace Tx
def qj:E:=.comp 1 (.name 0) (.idx (.var 0) (.con (.int (1)))) (.con (.bl true)) (.idx (.var 3) (.var 0))
def qi:E:=.comp 1 (.name 0) (.idx (.var 0) (.con (.int (1)))) (.con (.bl true)) (.idx (.var 2) (.var 0))
def nP:Fn:=⟨3,5,(.cons (.set 3 (.idx (.var 0) (.con (.int (0))))) (.cons (.ite (.cmp .eq (.var 3) (.con (.str "same"))) (.cons (.ret (.idx (.var 2) (.idx (.var 0) (.con (.int (1)))))) .nil) .nil) (.cons (.ite (.cmp .eq (.var 3) (.con (.str "not"))) (.cons (.ret (.not (.idx (.var 2) (.idx (.var 0) (.con (.int (1))))))) .nil) .nil) (.cons (.ite (.cmp .eq (.var 3) (.con (.str "held"))) (.cons (.ret (.call 16 (.cons (.var 0) (.cons (.var 1) (.cons (.var 2) .nil))))) .nil) .nil) (.cons (.set 4 (.bi .tuple qj)) (.cons (.ite (.cmp .eq (.var 3) (.con (.str "and"))) (.cons (.ret (.bi .all (.var 4))) .nil) .nil) (.cons (.ite (.cmp .eq (.var 3) (.con (.str "or"))) (.cons (.ret (.bi .any (.var 4))) .nil) .nil) (.cons (.ite (.cmp .eq (.var 3) (.con (.str "table"))) (.cons (.ret (.cmp .isin (.var 4) (.idx (.var 0) (.con (.int (2)))))) .nil) .nil) (.cons (.ret (.or (.cons (.bi .all (.var 4)) (.cons (.and (.cons (.var 1) (.cons (.bi .any (.var 4)) .nil))) .nil)))) .nil)))))))))⟩
theorem iJ:Ko=nP:=rfl
def gK:Fn:=⟨3,5,(.cons (.ite (.cmp .eq (.idx (.var 0) (.con (.int (0)))) (.con (.str "same"))) (.cons (.ret (.idx (.var 1) (.idx (.var 0) (.con (.int (1)))))) .nil) .nil) (.cons (.ite (.cmp .eq (.idx (.var 0) (.con (.int (0)))) (.con (.str "not"))) (.cons (.ret (.not (.idx (.var 1) (.idx (.var 0) (.con (.int (1))))))) .nil) .nil) (.cons (.ite (.cmp .eq (.idx (.var 0) (.con (.int (0)))) (.con (.str "held"))) (.cons (.set 3 (.call 40 (.cons (.idx (.var 0) (.con (.int (1)))) (.cons (.var 1) (.cons (.var 2) .nil))))) (.cons (.ret (.idx (.lis (.cons (.var 2) (.cons (.var 3) .nil))) (.bi .int (.cmp .eq (.idx (.var 1) (.idx (.var 0) (.con (.int (2))))) (.cmp .eq (.var 3) (.idx (.var 0) (.con (.int (3))))))))) .nil)) .nil) (.cons (.set 4 qi) (.cons (.ite (.cmp .eq (.idx (.var 0) (.con (.int (0)))) (.con (.str "table"))) (.cons (.ret (.cmp .isin (.bi .tuple (.var 4)) (.idx (.var 0) (.con (.int (2)))))) .nil) .nil) (.cons (.ite (.cmp .eq (.idx (.var 0) (.con (.int (0)))) (.con (.str "and"))) (.cons (.ret (.cmp .notin (.con (.bl false)) (.var 4))) .nil) .nil) (.cons (.ite (.cmp .eq (.idx (.var 0) (.con (.int (0)))) (.con (.str "or"))) (.cons (.ret (.cmp .isin (.con (.bl true)) (.var 4))) .nil) .nil) (.cons (.ite (.and (.cons (.cmp .isin (.con (.bl true)) (.var 4)) (.cons (.cmp .isin (.con (.bl false)) (.var 4)) .nil))) (.cons (.ret (.var 2)) .nil) .nil) (.cons (.ret (.idx (.var 4) (.con (.int (0))))) .nil)))))))))⟩
theorem tells_eq:n6=gK:=rfl
section
variable{xs:List D}{bs:List Bool}
theorem Et(n:Nat)(h:cu xs)(hl:bs.length=xs.length){ys:List D}(hs:ys.Sublist xs)(w:D)(r:List D)(s1 s3 s4:Sl):
  ev (pg.cf n) qj [.val (.tup (w:: .tup ys::r)),s1,.val (.cC xs (bs.map .bl)),s3,s4]=.ok (.new (.lst ((ys.map (cQ xs bs)).map .bl))) [.val (.tup (w:: .tup ys::r)),s1,.val (.cC xs (bs.map .bl)),s3,s4]:=by
 have:=uH (c:=pg.cf n) (it:=.idx (.var 0) (.con (.int (1)))) (el:=.idx (.var 3) (.var 0)) (σ:=[.val (.tup (w:: .tup ys::r)),s1,.val (.cC xs (bs.map .bl)),s3,s4]) (fun x=>.bl (cQ xs bs x)) (d:=.tup ys) (xs:=ys) (r:=.val (.tup ys)) (τ:=[.val (.tup (w:: .tup ys::r)),s1,.val (.cC xs (bs.map .bl)),s3,s4]) (by simp) rfl rfl fun x hx=>by
  have e:=gh h hl (hs.subset hx)
  simp[e]
 rw[qj,this]
 simp
theorem Es(n:Nat)(h:cu xs)(hl:bs.length=xs.length){ys:List D}(hs:ys.Sublist xs)(w:D)(r:List D)(s2 s3 s4:Sl):
  ev (pg.cf n) qi [.val (.tup (w:: .tup ys::r)),.val (.cC xs (bs.map .bl)),s2,s3,s4]=.ok (.new (.lst ((ys.map (cQ xs bs)).map .bl))) [.val (.tup (w:: .tup ys::r)),.val (.cC xs (bs.map .bl)),s2,s3,s4]:=by
 have:=uH (c:=pg.cf n) (it:=.idx (.var 0) (.con (.int (1)))) (el:=.idx (.var 2) (.var 0)) (σ:=[.val (.tup (w:: .tup ys::r)),.val (.cC xs (bs.map .bl)),s2,s3,s4]) (fun x=>.bl (cQ xs bs x)) (d:=.tup ys) (xs:=ys) (r:=.val (.tup ys)) (τ:=[.val (.tup (w:: .tup ys::r)),.val (.cC xs (bs.map .bl)),s2,s3,s4]) (by simp) rfl rfl fun x hx=>by
  have e:=gh h hl (hs.subset hx)
  simp[e]
 rw[qi,this]
 simp
theorem lW(h:cu xs)(hl:bs.length=xs.length){ys:List D}(hs:ys.Sublist xs)(w:D)(r:List D):∃row:List Bool,row.length=ys.length/\
  (∀(n:Nat)(s1 s3 s4:Sl),ev (pg.cf n) qj [.val (.tup (w:: .tup ys::r)),s1,.val (.cC xs (bs.map .bl)),s3,s4]=.ok (.new (.lst (row.map .bl))) [.val (.tup (w:: .tup ys::r)),s1,.val (.cC xs (bs.map .bl)),s3,s4])/\
  (∀(n:Nat)(s2 s3 s4:Sl),ev (pg.cf n) qi [.val (.tup (w:: .tup ys::r)),.val (.cC xs (bs.map .bl)),s2,s3,s4]=.ok (.new (.lst (row.map .bl))) [.val (.tup (w:: .tup ys::r)),.val (.cC xs (bs.map .bl)),s2,s3,s4]):=
 ⟨ys.map (cQ xs bs),by simp,fun n s1 s3 s4=>Et n h hl hs w r s1 s3 s4,fun n s2 s3 s4=>Es n h hl hs w r s2 s3 s4⟩
def Agree(xs:List D)(bs:List Bool)(i j:Nat)(d:D)(own b:Bool):Prop:=
 pg.fn i 15 [.val d,.val (.bl own),.val (.cC xs (bs.map .bl))]=.ok (.val (.bl b)) [.val d,.val (.bl own),.val (.cC xs (bs.map .bl))]/\
 pg.fn j 40 [.val d,.val (.cC xs (bs.map .bl)),.val (.bl own)]=.ok (.val (.bl b)) [.val d,.val (.cC xs (bs.map .bl)),.val (.bl own)]
theorem Ew(n k:Nat):n+1+2*k=n+2*k+1:=Nat.add_right_comm n 1 (2*k)
theorem Eu(m k:Nat):m+1+k=m+k+1:=Nat.add_right_comm m 1 k
theorem adR(n k:Nat):n+1+2*(k+1)=n+1+2*k+1+1:=rfl
theorem GP(h:cu xs)(hl:bs.length=xs.length):∀{k:Nat}{d:D},bM xs k d->∀own:Bool,∃b,∀n m:Nat,Agree xs bs (n+1+2*k) (m+1+k) d own b:=by
 intro k d hk
 have q1:qj.az=none:=rfl
 have q2:qi.az=none:=rfl
 induction hk with
 | @same k x hx=>
  intro own
  have e:=gh h hl hx
  refine⟨cQ xs bs x,fun n m=>⟨?_,?_⟩⟩
  ·rw[Ew,kY,iJ]
   simp[nP,e]
  ·rw[Eu,cU,tells_eq]
   simp[gK,e]
 | @not k x hx=>
  intro own
  have e:=gh h hl hx
  refine⟨!cQ xs bs x,fun n m=>⟨?_,?_⟩⟩
  ·rw[Ew,kY,iJ]
   simp[nP,e]
  ·rw[Eu,cU,tells_eq]
   simp[gK,e]
 | @and k ys hs h1 h2=>
  intro own
  obtain⟨row,_,e1,e2⟩:=lW h hl hs (.str "and") []
  have bb:=jF row
  refine⟨row.all id,fun n m=>⟨?_,?_⟩⟩
  ·rw[Ew,kY,iJ]
   simp[nP,e1,q1,bb]
  ·rw[Eu,cU,tells_eq]
   simp[gK,e2,q2,Ig,qy]
 | @or k ys hs h1 h2=>
  intro own
  obtain⟨row,_,e1,e2⟩:=lW h hl hs (.str "or") []
  have bb:=jF row
  refine⟨row.any id,fun n m=>⟨?_,?_⟩⟩
  ·rw[Ew,kY,iJ]
   simp[nP,e1,q1,bb]
  ·rw[Eu,cU,tells_eq]
   simp[gK,e2,q2,vO,vP]
 | @both k ys hs h1 h2=>
  intro own
  obtain⟨row,hr,e1,e2⟩:=lW h hl hs (.str "both") []
  have bb:=jF row
  refine⟨row.all id||(own&&row.any id),fun n m=>⟨?_,?_⟩⟩
  ·rw[Ew,kY,iJ]
   cases ha:row.all id<;>cases own<;>simp[nP,e1,q1,bb,ha]
  ·obtain⟨b0,row',rfl⟩:∃b0 row',row=b0::row':=by
    cases row with
    |nil=>simp at hr;omega
    |cons b r=>exact⟨b,r,rfl⟩
   rw[Eu,cU,tells_eq]
   have i1:=vO true (b0::row')
   have i2:=vO false (b0::row')
   rw[vP]at i1
   rw[qy]at i2
   cases ha:(b0::row').all id with
   |true=>
    have hb0:b0=true:=by simp at ha;exact ha.1
    have hn:(b0::row').any id=true:=by simp[hb0]
    rw[hn]at i1
    rw[ha]at i2
    simp only[List.map_cons]at i1 i2 e2
    simp[gK,e2,q2,i1,i2,hb0]
    simp_all
   |false=>
    cases hn:(b0::row').any id with
    |true=>
     rw[hn]at i1
     rw[ha]at i2
     simp only[List.map_cons]at i1 i2 e2
     simp[gK,e2,q2,i1,i2]
    |false=>
     have hb0:b0=false:=by simp at hn;exact hn.1
     rw[hn]at i1
     rw[ha]at i2
     simp only[List.map_cons]at i1 i2 e2
     simp[gK,e2,q2,i1,i2,hb0]
     simp_all
 | @table k ys rs hs h1 h2 hr hi=>
  intro own
  obtain⟨row,_,e1,e2⟩:=lW h hl hs (.str "table") [.tup (rs.map aB)]
  obtain⟨b,eb⟩:=Jo row rs
  refine⟨b,fun n m=>⟨?_,?_⟩⟩
  ·rw[Ew,kY,iJ]
   simp[nP,e1,q1,eb]
  ·rw[Eu,cU,tells_eq]
   simp[gK,e2,q2,eb]
 | @held k d x bb hk hx ih=>
  intro own
  obtain⟨b,ib⟩:=ih own
  have i1:=fun n=>(ib n 0).1
  have i2:=fun m=>(ib 0 m).2
  have e:=gh h hl hx
  have hh:∀n,pg.fn (n+1+2*k+1) 16 [.val (.tup [.str "held",d,x,.bl bb]),.val (.bl own),.val (.cC xs (bs.map .bl))]=.ok (.val (.bl (if (cQ xs bs x==b)==bb then b else own))) [.val (.tup [.str "held",d,x,.bl bb]),.val (.bl own),.val (.cC xs (bs.map .bl))]:=fun n=>by
   rw[xf]
   cases hc:((cQ xs bs x==b)==bb)<;>simp[nZ,i1,e,hc]
  refine⟨if (cQ xs bs x==b)==bb then b else own,fun n m=>⟨?_,?_⟩⟩
  ·rw[adR,kY,iJ]
   simp[nP,hh]
  ·rw[<-Nat.add_assoc,cU,tells_eq]
   have hx2:(cQ xs bs x==(b==bb))=((cQ xs bs x==b)==bb):=by cases cQ xs bs x<;>cases b<;>cases bb<;>rfl
   cases hc:((cQ xs bs x==b)==bb)<;>rw[hc]at hx2<;>simp[gK,i2,e,hx2,aV,b2i]
end
end Tx
end
section
open PySem Mini
namespace Tx
section
variable{h g:Nat}{ks:List D}{ls bs:List Bool}
def Gn:E:=.comp 2 (.tup [0,1]) (.idx (.var 0) (.con (.int (1)))) (.cmp .ne (.call 15 (.cons (.var 1) (.cons (.idx (.var 4) (.var 0)) (.cons (.var 4) .nil)))) (.idx (.var 4) (.var 0))) (.var 0)
def Gm:E:=.comp 1 (.name 0) (.idx (.var 0) (.con (.int (1)))) (.cmp .ne (.call 40 (.cons (.idx (.var 0) (.con (.int (1)))) (.cons (.var 3) (.cons (.idx (.var 3) (.idx (.var 0) (.con (.int (0))))) .nil)))) (.idx (.var 3) (.idx (.var 0) (.con (.int (0)))))) (.idx (.var 0) (.con (.int (0))))
theorem FT(O:bz h g ks ls)(hl:bs.length=(names h g).length):∃zs:List D,zs.Sublist (b7 g)/\∀n m:Nat,
  pg.fn (n+4) 14 [.val (au h g ks ls),.val (aB bs)]=.ok (.new (.lst zs)) [.val (au h g ks ls),.val (aB bs)]/\
  pg.fn (m+3) 41 [.val (au h g ks ls),.val (aB bs)]=.ok (.new (.lst zs)) [.val (au h g ks ls),.val (aB bs)]:=by
 have T:=bh h g
 have Nd:=names_nodup O.h2 O.g1 O.g5
 have lg:=dH O.g5
 have lh:=gQ O.h2
 have ag:∀(k:D)(own:Bool),∃b,bM (names h g) 1 k->∀n m,Agree (names h g) bs (n+3) (m+2) k own b:=fun k own=>by
  by_cases hk:bM (names h g) 1 k
  ·obtain⟨b,z⟩:=GP T hl hk own
   exact⟨b,fun _=>z⟩
  ·exact⟨true,fun z=>absurd z hk⟩
 have sk:∃F:D->Bool->Bool,∀k own,bM (names h g) 1 k->∀n m,Agree (names h g) bs (n+3) (m+2) k own (F k own):=
  ⟨fun k own=>Classical.choose (ag k own),fun k own=>Classical.choose_spec (ag k own)⟩
 obtain⟨F,hF⟩:=sk
 let p:D×D->Bool:=fun x=> !(F x.2 (cQ (names h g) bs x.1)==cQ (names h g) bs x.1)
 have mem:∀x∈(b7 g).zip ks,x.1∈names h g/\bM (names h g) 1 x.2:=fun x hx=>⟨QWz _ (List.of_mem_zip hx).1,O.kk x.2 (List.of_mem_zip hx).2⟩
 obtain⟨x0,ps,zeq⟩:∃x0 ps,(b7 g).zip ks=x0::ps:=by
  cases q:(b7 g).zip ks with
  |nil=>
   have:=congrArg List.length q
   rw[List.length_zip,lg,O.kl]at this
   have:=O.g1
   simp at*
   omega
  |cons x ps=>exact⟨x,ps,rfl⟩
 have dz:dictOf [] [] (aK (names h g) (bs.map .bl))=some (names h g,bs.map .bl):=JX (by simpa using hl) T Nd
 refine⟨(((b7 g).zip ks).filter p).map (·.1),?_,fun n m=>?_⟩
 ·have s1:((((b7 g).zip ks).filter p).map (·.1)).Sublist (((b7 g).zip ks).map (·.1)):=(List.filter_sublist).map _
  have s2:((b7 g).zip ks).map (·.1)=b7 g:=List.map_fst_zip (by rw[lg,O.kl];exact QVq _)
  rw[s2]at s1
  exact s1
 have w1:pg.fn (n+3) 13 [.val (au h g ks ls)]=.ok (.new (.lst (names h g))) [.val (au h g ks ls)]:=
  fB (n+2) (hd h) (b7 g) ks (.tup (ls.map .bl)) (by rw[O.kl,lg]) (by have:=O.h2;have:=O.g5;omega)
 have w2:pg.fn (m+2) 39 [.val (au h g ks ls)]=.ok (.new (.lst (names h g))) [.val (au h g ks ls)]:=
  lV (m+1) (hd h) (b7 g) ks (.tup (ls.map .bl)) (by rw[O.kl,lg]) (by have:=O.h2;have:=O.g5;omega)
 have e1:ev (pg.cf (n+3)) Gn [.val (au h g ks ls),.val (aB bs),.own (.dct (names h g) (bs.map .bl))]=.ok (.new (.lst ((((b7 g).zip ks).filter p).map (·.1)))) [.val (au h g ks ls),.val (aB bs),.val (.cC (names h g) (bs.map .bl))]:=by
  rw[zeq]at mem⊢
  have c0:∀x,x∈x0::ps->∀s:Sl,(s=.own (.dct (names h g) (bs.map .bl))\/s=.val (.cC (names h g) (bs.map .bl)))->ev (pg.cf (n+3)) (.cmp .ne (.call 15 (.cons (.var 1) (.cons (.idx (.var 4) (.var 0)) (.cons (.var 4) .nil)))) (.idx (.var 4) (.var 0))) [.val x.1,.val x.2,.val (au h g ks ls),.val (aB bs),s]=.ok (.val (.bl (p x))) [.val x.1,.val x.2,.val (au h g ks ls),.val (aB bs),.val (.cC (names h g) (bs.map .bl))]:=fun x hx s hs=>by
   obtain⟨m1,m2⟩:=mem x hx
   have gl:=gh T hl m1
   have a:=(hF x.2 (cQ (names h g) bs x.1) m2 n m).1
   rcases hs with rfl|rfl<;>simp[gl,a,p]
  have it:items (.tup (aK (b7 g) ks))=some ((x0::ps).map pairD):=by show some _=some _;rw[cN,zeq]
  exact V5 (·.1) p (r:=.val (.tup (aK (b7 g) ks))) (τ0:=[.val (au h g ks ls),.val (aB bs),.own (.dct (names h g) (bs.map .bl))]) (by simp[au]) rfl it (c0 x0 QYz _ (.inl rfl)) (fun x hx=>c0 x (QYq _ hx) _ (.inr rfl)) (fun x _ _=>by simp)
 have e2:ev (pg.cf (m+2)) Gm [.val (au h g ks ls),.val (aB bs),.own (.dct (names h g) (bs.map .bl))]=.ok (.new (.lst ((((b7 g).zip ks).filter p).map (·.1)))) [.val (au h g ks ls),.val (aB bs),.val (.cC (names h g) (bs.map .bl))]:=by
  rw[zeq]at mem⊢
  let p':D->Bool:=fun d=>match d with|.tup [a,k]=>p (a,k)|_=>false
  let f':D->D:=fun d=>match d with|.tup (a::_)=>a|_=>.non
  have fm:∀xs:List (D×D),((xs.map pairD).filter p').map f'=(xs.filter p).map (·.1):=by
   intro xs
   induction xs with
   |nil=>rfl
   |cons x xs ih=>
    have hp:p' (pairD x)=p x:=rfl
    rw[List.map_cons,List.filter_cons,List.filter_cons,hp]
    cases p x with
    |true=>simp only[if_true,List.map_cons,ih];rfl
    |false=>simp only[Bool.false_eq_true,if_false,ih]
  have c0:∀x,x∈x0::ps->∀s:Sl,(s=.own (.dct (names h g) (bs.map .bl))\/s=.val (.cC (names h g) (bs.map .bl)))->ev (pg.cf (m+2)) (.cmp .ne (.call 40 (.cons (.idx (.var 0) (.con (.int (1)))) (.cons (.var 3) (.cons (.idx (.var 3) (.idx (.var 0) (.con (.int (0))))) .nil)))) (.idx (.var 3) (.idx (.var 0) (.con (.int (0)))))) [.val (pairD x),.val (au h g ks ls),.val (aB bs),s]=.ok (.val (.bl (p' (pairD x)))) [.val (pairD x),.val (au h g ks ls),.val (aB bs),.val (.cC (names h g) (bs.map .bl))]:=fun x hx s hs=>by
   obtain⟨m1,m2⟩:=mem x hx
   have gl:=gh T hl m1
   have a:=(hF x.2 (cQ (names h g) bs x.1) m2 n m).2
   rcases hs with rfl|rfl<;>simp[gl,a,p',p,pairD]
  have it:items (.tup (aK (b7 g) ks))=some (pairD x0::ps.map pairD):=by show some _=some _;rw[cN,zeq];rfl
  have:=V7 (c:=pg.cf (m+2)) (el:=.idx (.var 0) (.con (.int (0)))) (it:=.idx (.var 0) (.con (.int (1)))) (σ:=[.val (au h g ks ls),.val (aB bs),.own (.dct (names h g) (bs.map .bl))]) (τ:=[.val (au h g ks ls),.val (aB bs),.val (.cC (names h g) (bs.map .bl))]) f' p' (r:=.val (.tup (aK (b7 g) ks))) (τ0:=[.val (au h g ks ls),.val (aB bs),.own (.dct (names h g) (bs.map .bl))]) (by simp[au]) rfl it (c0 x0 QYz _ (.inl rfl)) (fun y hy=>by
   obtain⟨x,hx,rfl⟩:=List.mem_map.mp hy
   exact c0 x (QYq _ hx) _ (.inr rfl)) (fun y hy _=>by
   rw[<-List.map_cons]at hy
   obtain⟨x,hx,rfl⟩:=List.mem_map.mp hy
   simp[pairD,f'])
  rw[<-List.map_cons,fm]at this
  exact this
 refine⟨?_,?_⟩
 ·have hb:jj=⟨2,3,(.cons (.set 2 (.bi .dict (.zip (.call 13 (.cons (.var 0) .nil)) (.var 1)))) (.cons (.ret Gn) .nil))⟩:=rfl
  have q:Gn.az=none:=rfl
  have z:bj (aB bs)=some (bs.map .bl):=rfl
  rw[oK,hb]
  simp[w1,z,dz,e1,q]
 ·have hb:kj=⟨2,3,(.cons (.set 2 (.bi .dict (.bi .list (.zip (.call 39 (.cons (.var 0) .nil)) (.var 1))))) (.cons (.ret Gm) .nil))⟩:=rfl
  have q:Gm.az=none:=rfl
  have z:bj (aB bs)=some (bs.map .bl):=rfl
  rw[rT,hb]
  simp[w2,z,dz,e2,q]
end
end Tx
end
section
open PySem Mini
namespace Tx
structure Wt(h g:Nat)(ks:List D)(ls:List Bool)(W:List Bool->List D):Prop where
 sub:∀bs,bs.length=(names h g).length->(W bs).Sublist (b7 g)
 pr:∀bs,bs.length=(names h g).length->∀n,pg.fn (n+4) 14 [.val (au h g ks ls),.val (aB bs)]=.ok (.new (.lst (W bs))) [.val (au h g ks ls),.val (aB bs)]
 lw:∀bs,bs.length=(names h g).length->∀n,pg.fn (n+3) 41 [.val (au h g ks ls),.val (aB bs)]=.ok (.new (.lst (W bs))) [.val (au h g ks ls),.val (aB bs)]
theorem XR{h g:Nat}{ks:List D}{ls:List Bool}(O:bz h g ks ls):∃W,Wt h g ks ls W:=by
 have ag:∀bs:List Bool,∃zs:List D,bs.length=(names h g).length->zs.Sublist (b7 g)/\∀n m:Nat,pg.fn (n+4) 14 [.val (au h g ks ls),.val (aB bs)]=.ok (.new (.lst zs)) [.val (au h g ks ls),.val (aB bs)]/\pg.fn (m+3) 41 [.val (au h g ks ls),.val (aB bs)]=.ok (.new (.lst zs)) [.val (au h g ks ls),.val (aB bs)]:=fun bs=>by
  by_cases hl:bs.length=(names h g).length
  ·obtain⟨zs,z⟩:=FT O hl
   exact⟨zs,fun _=>z⟩
  ·exact⟨[],fun z=>absurd z hl⟩
 exact⟨fun bs=>Classical.choose (ag bs),fun bs hl=>(Classical.choose_spec (ag bs) hl).1,fun bs hl n=>((Classical.choose_spec (ag bs) hl).2 n 0).1,fun bs hl n=>((Classical.choose_spec (ag bs) hl).2 0 n).2⟩
theorem lr{s:Str}{xs:List D}(h:cu xs):aU (.str s) xs=true↔D.str s∈xs:=by
 constructor
 ·intro z
  by_cases c:D.str s∈xs
  ·exact c
  ·rw[qx h c]at z;cases z
 ·intro z;exact lX z h
theorem Jt{w:D}(hw:iz .str w=false):∀{xs:List D},cu xs->aU w xs=false
 |[]=>fun _=>rfl
 |x::xs=>fun h=>by
  obtain⟨s,rfl⟩:=h x QYz
  rw[aU,Jt hw fun y hy=>h y (QYq _ hy),Bool.or_false]
  cases w<;>first|rfl|cases hw
theorem zX{W L:List D}(s:W.Sublist L):cu L->L.Nodup->L.filter (fun x=>aU x W)=W:=by
 induction s with
 |slnil=>intro _ _;rfl
 | @cons l₁ l₂ a s ih=>
  intro t nd
  rw[List.nodup_cons]at nd
  obtain⟨q,rfl⟩:=t a QYz
  have t2:cu l₂:=fun x hx=>t x (QYq _ hx)
  have no:aU (.str q) l₁=false:=qx (fun x hx=>t2 x (s.subset hx)) fun z=>nd.1 (s.subset z)
  rw[List.filter_cons,no]
  exact ih t2 nd.2
 | @cons_cons l₁ l₂ a s ih=>
  intro t nd
  rw[List.nodup_cons]at nd
  obtain⟨q,rfl⟩:=t a QYz
  have t2:cu l₂:=fun x hx=>t x (QYq _ hx)
  have yes:aU (.str q) (D.str q::l₁)=true:=by simp[aU,cL]
  rw[List.filter_cons,yes,if_pos rfl]
  congr 1
  refine Eq.trans (List.filter_congr fun x hx=>?_) (ih t2 nd.2)
  obtain⟨u,rfl⟩:=t2 x hx
  have ne:¬q=u:=fun e=>nd.1 (by rw[e];exact hx)
  simp[aU,cL,ne]
abbrev St:=List Bool×Nat
def aP(s:St):D:=.tup [aB s.1,.int s.2]
section
variable{h g:Nat}{ks:List D}{ls:List Bool}{os:List D}{sts:List (List (D×Nat))}{W:List Bool->List D}
structure sJ(h g:Nat)(sts:List (List (D×Nat)))(s:St):Prop where
 l:s.1.length=(names h g).length
 j:s.2<sts.length
def dX(h:Nat)(sts:List (List (D×Nat)))(W:List Bool->List D)(s:St):List D:=(hd h).filter (fun x=>(lk x (bA sts s.2)).isSome)++W s.1
theorem gH(h:Nat):cu (hd h):=fun x hx=>bh h 0 x (QWq _ hx)
theorem lG(g:Nat):cu (b7 g):=fun x hx=>bh 0 g x (QWz _ hx)
theorem lD(hj:j<sts.length):bA sts j∈sts:=by simp[bA,hj]
theorem pI{j:Nat}(hj:j<sts.length):at? (sts.map eU) (j:Int)=some (eU (bA sts j)):=by
 rw[gk _ _ (by simpa using hj)]
 simp[bA,hj]
theorem g8(Wk:Wt h g ks ls W){s:St}(S:sJ h g sts s):(dX h sts W s).Sublist (names h g):=(List.filter_sublist).append (Wk.sub s.1 S.l)
theorem jM(T:aY h g os sts)(O:bz h g ks ls){j:Nat}(hj:j<sts.length):cu (gn (bA sts j))/\(gn (bA sts j)).Nodup:=by
 have:=(T.mv _ (lD hj)).1
 exact⟨fun x hx=>bh h g x (T.sub.subset (this.subset hx)),this.nodup (T.sub.nodup (names_nodup O.h2 O.g1 O.g5))⟩
def stC:E:=.comp 1 (.name 0) (.idx (.var 0) (.con (.int (0)))) (.cmp .isin (.var 0) (.var 4)) (.var 0)
theorem wY(n:Nat)(O:bz h g ks ls)(T:aY h g os sts)(Wk:Wt h g ks ls W){s:St}(S:sJ h g sts s):
  pg.fn (n+5) 22 [.val (au h g ks ls),.val (ao os sts),.val (aP s)]=.ok (.new (.lst (dX h sts W s))) [.val (au h g ks ls),.val (ao os sts),.val (aP s)]:=by
 have K:=jM T O S.j
 have d:=iY (bA sts s.2) [] [] (by simpa using K.1) (by simpa using K.2)
 have e:ev (pg.cf (n+4)) stC [.val (au h g ks ls),.val (ao os sts),.val (aP s),.own (.dct (gn (bA sts s.2)) (pq (bA sts s.2)))]=.ok (.new (.lst ((hd h).filter fun x=>(lk x (bA sts s.2)).isSome))) [.val (au h g ks ls),.val (ao os sts),.val (aP s),.own (.dct (gn (bA sts s.2)) (pq (bA sts s.2)))]:=by
  have:=wg (c:=pg.cf (n+4)) (it:=.idx (.var 0) (.con (.int (0)))) (co:=.cmp .isin (.var 0) (.var 4)) (el:=.var 0) (σ:=[.val (au h g ks ls),.val (ao os sts),.val (aP s),.own (.dct (gn (bA sts s.2)) (pq (bA sts s.2)))]) (τ:=[.val (au h g ks ls),.val (ao os sts),.val (aP s),.own (.dct (gn (bA sts s.2)) (pq (bA sts s.2)))]) (d:=.tup (hd h)) (xs:=hd h) (r:=.val (.tup (hd h))) (fun x=>x) (fun x=>(lk x (bA sts s.2)).isSome) (by simp[au]) rfl rfl (fun x hx=>by
   obtain⟨q,rfl⟩:=gH h x hx
   have:aH .isin (.str q) (.cC (gn (bA sts s.2)) (pq (bA sts s.2)))=some (lk (.str q) (bA sts s.2)).isSome:=by rw[<-Bw];rfl
   simp[this,Ob.d]) (fun x _ _=>by simp)
  rw[List.map_id']at this
  exact this
 have w:=Wk.pr s.1 S.l n
 have t1:getD (ao os sts) (.int 1)=some (.tup (sts.map eU)):=by simp[ao]
 have s0:getD (aP s) (.int 0)=some (aB s.1):=by simp[aP]
 have s1:getD (aP s) (.int 1)=some (.int s.2):=by simp[aP]
 have st:=pI S.j
 have sl:=(g8 Wk S).length_le
 have nl:=dN (g:=g) O.h2 O.g5
 have h2:=O.h2
 have g5:=O.g5
 have f:fits (((hd h).filter fun x=>(lk x (bA sts s.2)).isSome).length+(W s.1).length)=true:=by
  simp only[dX,QUz]at sl
  simp[fits]
  omega
 have hb:rm=⟨3,4,(.cons (.set 3 (.bi .dict (.idx (.idx (.var 1) (.con (.int (1)))) (.idx (.var 2) (.con (.int (1))))))) (.cons (.ret (.op .add stC (.call 14 (.cons (.var 0) (.cons (.idx (.var 2) (.con (.int (0)))) .nil))))) .nil))⟩:=rfl
 rw[za,hb]
 simp[t1,s0,s1,st,eU,d,e,w,f,dX]
end
end Tx
end
section
open PySem Mini
namespace Tx
section
variable{h g:Nat}{ks:List D}{ls:List Bool}{os:List D}{sts:List (List (D×Nat))}{W:List Bool->List D}
theorem Iz{x:D}:∀{st:List (D×Nat)},cu (gn st)->(∃s,x=.str s)->((lk x st).isSome=true↔x∈gn st)
 |[],_,_=>by simp[lk]
 |m::st,t,⟨s,hs⟩=>by
  subst hs
  rw[<-Bw,lr t]
def lsM:E:=.comp 1 (.name 0) (.idx (.idx (.var 1) (.con (.int (1)))) (.idx (.var 2) (.con (.int (1))))) (.cmp .isin (.idx (.var 0) (.con (.int (0)))) (.idx (.var 1) (.con (.int (0))))) (.idx (.var 0) (.con (.int (0))))
def lsN:E:=.comp 1 (.name 0) (.call 39 (.cons (.var 0) .nil)) (.cmp .isin (.var 0) (.var 4)) (.var 0)
def Ca(h:Nat)(st:List (D×Nat)):List D:=(st.filter fun m=>aU m.1 (hd h)).map (·.1)
theorem lN(n:Nat)(O:bz h g ks ls):pg.fn (n+1) 39 [.val (au h g ks ls)]=.ok (.new (.lst (names h g))) [.val (au h g ks ls)]:=
 lV n (hd h) (b7 g) ks (.tup (ls.map .bl)) (by rw[O.kl,dH O.g5]) (by rw[gQ O.h2,dH O.g5];have:=O.h2;have:=O.g5;omega)
theorem yc(O:bz h g ks ls){x:D}(hx:x∈hd h):x∉b7 g:=fun hs=>by
 have nd:=names_nodup O.h2 O.g1 O.g5
 rw[names,List.nodup_append]at nd
 exact nd.2.2 _ hx _ hs rfl
theorem G4(O:bz h g ks ls)(T:aY h g os sts)(Wk:Wt h g ks ls W){s:St}(S:sJ h g sts s):(names h g).filter (fun x=>aU x (Ca h (bA sts s.2)++W s.1))=dX h sts W s:=by
 have K:=jM T O S.j
 have ws:=Wk.sub s.1 S.l
 have tW:cu (W s.1):=fun x hx=>lG g x (ws.subset hx)
 have iA:cu (Ca h (bA sts s.2)):=fun x hx=>by
  obtain⟨m,hm,rfl⟩:=List.mem_map.mp hx
  exact K.1 m.1 (QTq (List.mem_filter.mp hm).1)
 have tI:cu (Ca h (bA sts s.2)++W s.1):=fun x hx=>by
  rcases List.mem_append.mp hx with z|z
  ·exact iA x z
  ·exact tW x z
 have hI:∀q:Str,D.str q∈Ca h (bA sts s.2)↔D.str q∈hd h/\D.str q∈gn (bA sts s.2):=fun q=>by
  constructor
  ·intro z
   obtain⟨m,hm,e⟩:=List.mem_map.mp z
   obtain⟨a,b⟩:=List.mem_filter.mp hm
   rw[e]at b
   exact⟨(lr (gH h)).mp b,by rw[<-e];exact QTq a⟩
  ·rintro ⟨a,b⟩
   obtain⟨m,hm,e⟩:=List.mem_map.mp b
   refine List.mem_map.mpr ⟨m,List.mem_filter.mpr ⟨hm,?_⟩,e⟩
   rw[show m.1=D.str q from e]
   exact(lr (gH h)).mpr a
 rw[names,List.filter_append,dX]
 congr 1
 ·refine List.filter_congr fun x hx=>?_
  obtain⟨q,rfl⟩:=gH h x hx
  rw[Bool.eq_iff_iff,lr tI,Iz K.1 ⟨q,rfl⟩,List.mem_append,hI]
  exact⟨fun z=>z.elim (fun a=>a.2) fun a=>absurd (ws.subset a) (yc O hx),fun z=>.inl ⟨hx,z⟩⟩
 ·refine Eq.trans (List.filter_congr fun x hx=>?_) (zX ws (lG g) ((List.sublist_append_right (hd h) (b7 g)).nodup (names_nodup O.h2 O.g1 O.g5)))
  obtain⟨q,rfl⟩:=lG g x hx
  rw[Bool.eq_iff_iff,lr tI,lr tW,List.mem_append,hI]
  exact⟨fun z=>z.elim (fun a=>absurd hx (yc O a.1)) fun a=>a,.inr⟩
theorem iy{q:Str}{xs:List D}(t:cu xs):aH .isin (.str q) (.lst xs)=some (aU (.str q) xs)/\aH .isin (.str q) (.tup xs)=some (aU (.str q) xs)/\aH .notin (.str q) (.tup xs)=some (!aU (.str q) xs):=by
 have o:eY (.str q) xs=true:=by unfold eY;rw[jV t];rfl
 refine⟨?_,?_,?_⟩
 ·show(if eY (.str q) xs then some (aU (.str q) xs)else none)=_;rw[o];rfl
 ·show(if eY (.str q) xs then some (aU (.str q) xs)else none)=_;rw[o];rfl
 ·show(if eY (.str q) xs then some (!aU (.str q) xs)else none)=_;rw[o];rfl
theorem gj(p:D->Bool):∀st:List (D×Nat),((st.map lu).filter fun d=>match d with|.tup (a::_)=>p a|_=>false).map nG=(st.filter fun m=>p m.1).map (·.1)
 |[]=>rfl
 |m::st=>by
  rw[List.map_cons,List.filter_cons,List.filter_cons,show(match lu m with|.tup (a::_)=>p a|_=>false)=p m.1 from rfl]
  cases p m.1
  ·exact gj p st
  ·simp only[if_true,List.map_cons,gj p st];rfl
theorem lU(n:Nat)(O:bz h g ks ls)(T:aY h g os sts)(Wk:Wt h g ks ls W){s:St}(S:sJ h g sts s):
  pg.fn (n+4) 42 [.val (au h g ks ls),.val (ao os sts),.val (aP s)]=.ok (.new (.lst (dX h sts W s))) [.val (au h g ks ls),.val (ao os sts),.val (aP s)]:=by
 have K:=jM T O S.j
 have t1:getD (ao os sts) (.int 1)=some (.tup (sts.map eU)):=by simp[ao]
 have n0:getD (au h g ks ls) (.int 0)=some (.tup (hd h)):=by simp[au]
 have s0:getD (aP s) (.int 0)=some (aB s.1):=by simp[aP]
 have s1:getD (aP s) (.int 1)=some (.int s.2):=by simp[aP]
 have st:=pI S.j
 have w:=Wk.lw s.1 S.l n
 have e1:ev (pg.cf (n+3)) lsM [.val (au h g ks ls),.val (ao os sts),.val (aP s),.un]=.ok (.new (.lst (Ca h (bA sts s.2)))) [.val (au h g ks ls),.val (ao os sts),.val (aP s),.un]:=by
  have:=wg (c:=pg.cf (n+3)) (it:=.idx (.idx (.var 1) (.con (.int (1)))) (.idx (.var 2) (.con (.int (1))))) (co:=.cmp .isin (.idx (.var 0) (.con (.int (0)))) (.idx (.var 1) (.con (.int (0))))) (el:=.idx (.var 0) (.con (.int (0)))) (σ:=[.val (au h g ks ls),.val (ao os sts),.val (aP s),.un]) (τ:=[.val (au h g ks ls),.val (ao os sts),.val (aP s),.un]) (d:=eU (bA sts s.2)) (xs:=(bA sts s.2).map lu) (r:=.val (eU (bA sts s.2))) nG (fun d=>match d with|.tup (a::_)=>aU a (hd h)|_=>false) (by simp[t1,s1,st]) rfl rfl (fun x hx=>by
   obtain⟨m,hm,rfl⟩:=List.mem_map.mp hx
   obtain⟨q,eq⟩:=K.1 m.1 (QTq hm)
   have i:=(iy (q:=q) (gH h)).2.1
   simp[lu,n0,eq,i]) (fun x hx _=>by
   obtain⟨m,hm,rfl⟩:=List.mem_map.mp hx
   simp[lu,nG])
  rw[gj fun a=>aU a (hd h)]at this
  exact this
 have tI:cu (Ca h (bA sts s.2)++W s.1):=fun x hx=>by
  rcases List.mem_append.mp hx with z|z
  ·obtain⟨m,hm,rfl⟩:=List.mem_map.mp z
   exact K.1 m.1 (QTq (List.mem_filter.mp hm).1)
  ·exact lG g x ((Wk.sub s.1 S.l).subset z)
 have ln:=lN (n+2) O
 have e2:ev (pg.cf (n+3)) lsN [.val (au h g ks ls),.val (ao os sts),.val (aP s),.own (.lst (Ca h (bA sts s.2)++W s.1))]=.ok (.new (.lst (dX h sts W s))) [.val (au h g ks ls),.val (ao os sts),.val (aP s),.own (.lst (Ca h (bA sts s.2)++W s.1))]:=by
  have:=wg (c:=pg.cf (n+3)) (it:=.call 39 (.cons (.var 0) .nil)) (co:=.cmp .isin (.var 0) (.var 4)) (el:=.var 0) (σ:=[.val (au h g ks ls),.val (ao os sts),.val (aP s),.own (.lst (Ca h (bA sts s.2)++W s.1))]) (τ:=[.val (au h g ks ls),.val (ao os sts),.val (aP s),.own (.lst (Ca h (bA sts s.2)++W s.1))]) (d:=.lst (names h g)) (xs:=names h g) (r:=.new (.lst (names h g))) (fun x=>x) (fun x=>aU x (Ca h (bA sts s.2)++W s.1)) (by simp[ln]) rfl rfl (fun x hx=>by
   obtain⟨q,rfl⟩:=bh h g x hx
   have i:=(iy (q:=q) tI).1
   simp[i,Ob.d]) (fun x _ _=>by simp)
  rw[List.map_id',G4 O T Wk S]at this
  exact this
 have f:fits ((Ca h (bA sts s.2)).length+(W s.1).length)=true:=by
  have a:(Ca h (bA sts s.2)).length<=(bA sts s.2).length:=by rw[Ca,List.length_map];exact List.length_filter_le _ _
  have b:=(T.mv _ (lD S.j)).1.length_le
  have c:=(Wk.sub s.1 S.l).length_le
  have d:=T.sub.length_le
  have nl:=dN (g:=g) O.h2 O.g5
  have h2:=O.h2
  have g5:=O.g5
  have:=dH O.g5
  simp at b
  simp only[QUz]at d
  simp[fits]
  omega
 have hb:oh=⟨3,4,(.cons (.set 3 lsM) (.cons (.set 3 (.op .add (.var 3) (.call 41 (.cons (.var 0) (.cons (.idx (.var 2) (.con (.int (0)))) .nil))))) (.cons (.ret lsN) .nil)))⟩:=rfl
 have q:lsN.az=none:=rfl
 rw[xj,hb]
 simp[e1,w,s0,f,Ob.d,e2,q]
end
end Tx
end
section
open PySem Mini
namespace Tx
section
variable{h g:Nat}{ks:List D}{ls:List Bool}{os:List D}{sts:List (List (D×Nat))}{W:List Bool->List D}
def dj(xs:List D)(bs:List Bool)(x:D):List Bool:=(xs.zip bs).map fun p=>if cL p.1 x then !p.2 else p.2
theorem qH{xs:List D}{bs:List Bool}(hl:bs.length=xs.length)(x:D):(dj xs bs x).length=xs.length:=by simp[dj,hl]
def chF(x:D)(p:D×D):D:=match p.2 with
 |.bl b=>.bl (if cL p.1 x then !b else b)
 |d=>d
theorem CQ(x:D):∀(xs:List D)(bs:List Bool),(xs.zip (bs.map D.bl)).map (chF x)=(dj xs bs x).map .bl
 |[],bs=>by simp[dj]
 |_::_,[]=>by simp[dj]
 |y::xs,b::bs=>by
  have:=CQ x xs bs
  simp only[dj]at this⊢
  simp[chF,this]
def chC:E:=.comp 2 (.tup [0,1]) (.zip (.call 13 (.cons (.var 0) .nil)) (.var 1)) (.con (.bl true)) (.ite (.cmp .eq (.var 0) (.var 4)) (.not (.var 1)) (.var 1))
theorem Aa(n:Nat)(O:bz h g ks ls){bs:List Bool}(hl:bs.length=(names h g).length){x:D}(hx:∃s,x=.str s):
  pg.fn (n+2) 25 [.val (au h g ks ls),.val (aB bs),.val x]=.ok (.val (aB (dj (names h g) bs x))) [.val (au h g ks ls),.val (aB bs),.val x]:=by
 obtain⟨q,rfl⟩:=hx
 have w:pg.fn (n+1) 13 [.val (au h g ks ls)]=.ok (.new (.lst (names h g))) [.val (au h g ks ls)]:=
  fB n (hd h) (b7 g) ks (.tup (ls.map .bl)) (by rw[O.kl,dH O.g5]) (by rw[gQ O.h2,dH O.g5];have:=O.h2;have:=O.g5;omega)
 have e:ev (pg.cf (n+1)) chC [.val (au h g ks ls),.val (aB bs),.val (.str q)]=.ok (.new (.lst ((dj (names h g) bs (.str q)).map .bl))) [.val (au h g ks ls),.val (aB bs),.val (.str q)]:=by
  have:=Ru (c:=pg.cf (n+1)) (it:=.zip (.call 13 (.cons (.var 0) .nil)) (.var 1)) (el:=.ite (.cmp .eq (.var 0) (.var 4)) (.not (.var 1)) (.var 1)) (σ:=[.val (au h g ks ls),.val (aB bs),.val (.str q)]) (τ:=[.val (au h g ks ls),.val (aB bs),.val (.str q)]) (d:=.lst (aK (names h g) (bs.map .bl))) (ps:=(names h g).zip (bs.map .bl)) (r:=.val (.lst (aK (names h g) (bs.map .bl)))) (chF (.str q)) (by
    have z:bj (aB bs)=some (bs.map .bl):=rfl
    simp[w,z]) rfl (by show some _=some _;rw[cN]) (fun p hp=>by
    obtain⟨u,eu⟩:=bh h g p.1 (List.of_mem_zip hp).1
    obtain⟨b,_,eb⟩:=List.mem_map.mp (List.of_mem_zip hp).2
    rw[<-eb,eu]
    have e1:chF (.str q) p=.bl (if decide (u=q)then !b else b):=by
     unfold chF
     rw[<-eb,eu]
     rfl
    rw[e1]
    cases c:decide (u=q)<;>simp[c])
  rw[CQ]at this
  exact this
 have hb:uW=⟨3,3,(.cons (.ret (.bi .tuple chC)) .nil)⟩:=rfl
 have qv:chC.az=none:=rfl
 rw[DY,hb]
 simp[e,qv]
 rfl
theorem tV:∀(L pre:List D),(bD pre.length L.length).map (fun d=>match d with|.int i=>(pre++L).getD i.toNat .non|_=>.non)=L
 |[]=>fun pre=>rfl
 |x::L=>fun pre=>by
  have:=tV L (pre++[x])
  simp only[QUz,List.length_cons,List.length_nil,List.append_assoc,List.cons_append,List.nil_append]at this
  simp only[List.length_cons,bD,List.map_cons]
  rw[show((pre.length:Int)+1)=((pre.length+(0+1):Nat):Int) by simp,this]
  simp[List.getD]
def fgC:E:=.comp 1 (.name 0) (.range1 (.bi .len (.var 4))) (.con (.bl true)) (.cmp .ne (.idx (.idx (.var 3) (.con (.int (0)))) (.var 0)) (.cmp .eq (.idx (.var 5) (.var 0)) (.var 4)))
theorem tU:∀(n:Nat)(lo:Int)(x:D),x∈bD lo n->∃j:Nat,j<n/\x=.int (lo+j)
 |0=>fun _ _ h=>by cases h
 |n+1=>fun lo x h=>by
  rcases List.mem_cons.mp h with rfl|h
  ·exact⟨0,by omega,by simp⟩
  ·obtain⟨j,hj,rfl⟩:=tU n (lo+1) x h
   exact⟨j+1,by omega,by congr 1;omega⟩
theorem O8(n:Nat)(O:bz h g ks ls)(T:D){s:St}(S:sJ h g sts s){q:Str}(s5 s6 s7:Sl):
  ev (pg.cf n) fgC [.val (au h g ks ls),.val T,.val (aP s),.val (.str q),.own (.lst (names h g)),s5,s6,s7]=.ok (.new (.lst ((dj (names h g) s.1 (.str q)).map .bl))) [.val (au h g ks ls),.val T,.val (aP s),.val (.str q),.own (.lst (names h g)),s5,s6,s7]:=by
 have nl:=dN (g:=g) O.h2 O.g5
 have h2:=O.h2
 have g5:=O.g5
 have fl:=qH S.l (.str q)
 have f1:fits (names h g).length=true:=by simp[fits];omega
 have f2:rQ (names h g).length=true:=by simp[rQ];omega
 have s0:getD (aP s) (.int 0)=some (aB s.1):=by simp[aP]
 have:=uH (c:=pg.cf n) (it:=.range1 (.bi .len (.var 4))) (el:=.cmp .ne (.idx (.idx (.var 3) (.con (.int (0)))) (.var 0)) (.cmp .eq (.idx (.var 5) (.var 0)) (.var 4))) (σ:=[.val (au h g ks ls),.val T,.val (aP s),.val (.str q),.own (.lst (names h g)),s5,s6,s7]) (τ:=[.val (au h g ks ls),.val T,.val (aP s),.val (.str q),.own (.lst (names h g)),s5,s6,s7]) (d:=.lst (bD 0 (names h g).length)) (xs:=bD 0 (names h g).length) (r:=.val (.lst (bD 0 (names h g).length))) (fun d=>match d with|.int i=>([]++(dj (names h g) s.1 (.str q)).map D.bl).getD i.toNat .non|_=>.non) (by simp[f1,f2,Ob.d]) rfl rfl (fun x hx=>by
  obtain⟨j,hj,rfl⟩:=tU _ _ _ hx
  have hb:j<s.1.length:=by rw[S.l];exact hj
  obtain⟨u,eu⟩:=bh h g _ (List.getElem_mem hj)
  have a1:at? (names h g) (j:Int)=some (.str u):=by rw[gk _ _ hj,QXq hj,eu]
  have a2:at? (s.1.map D.bl) (j:Int)=some (.bl s.1[j]):=by rw[gk _ _ (by simpa using hb)];simp[hb]
  have a3:getD (aB s.1) (.int j)=some (.bl s.1[j]):=by simpa[aB]using a2
  have fj:(dj (names h g) s.1 (.str q)).length=(names h g).length:=fl
  have v:([]++(dj (names h g) s.1 (.str q)).map D.bl).getD ((0:Int)+(j:Int)).toNat .non=.bl (!(s.1[j]==decide (u=q))):=by
   rw[List.nil_append,Int.zero_add,Int.toNat_natCast,List.getD_eq_getElem?_getD,List.getElem?_map,QXq (by rw[fj];exact hj)]
   have e2:cL (names h g)[j] (.str q)=decide (u=q):=by rw[eu];rfl
   simp only[dj,List.getElem_map,List.getElem_zip,Option.map_some,Option.getD_some,e2]
   cases decide (u=q)<;>cases s.1[j]<;>rfl
  simp only[v]
  simp[s0,a3,a1,Ob.d])
 have fl':((dj (names h g) s.1 (.str q)).map D.bl).length=(names h g).length:=by rw[List.length_map,fl]
 have rg:=tV ((dj (names h g) s.1 (.str q)).map D.bl) []
 rw[fl']at rg
 rw[show((([]:List D).length:Nat):Int)=0 from rfl]at rg
 rw[rg]at this
 exact this
end
end Tx
end
section
open PySem Mini
namespace Tx
section
variable{h g:Nat}{ks:List D}{ls:List Bool}{os:List D}{sts:List (List (D×Nat))}{W:List Bool->List D}
def jZ(h g:Nat)(os:List D)(sts:List (List (D×Nat)))(s:St)(x:D):Option St:=
 if aU x (hd h)||aU x os then(lk x (bA sts s.2)).map fun j=>(dj (names h g) s.1 x,j)else some (dj (names h g) s.1 x,s.2)
def cV:Option St->D
 |none=>.non
 |some s=>aP s
theorem sdE(a:List Bool)(j:Nat):D.tup [aB a,.int j]=aP (a,j):=rfl
theorem oY(T:aY h g os sts):cu os:=fun x hx=>lG g x (T.ou.subset hx)
theorem Q3{x:D}{N:Nat}:∀{st:List (D×Nat)},(∀m∈st,m.2<N)->∀{j:Nat},lk x st=some j->j<N
 |[],_,_,e=>by cases e
 |m::st,hm,j,e=>by
  simp only[lk]at e
  split at e
  ·cases e;exact hm m QYz
  ·exact Q3 (fun q hq=>hm q (QYq _ hq)) e
theorem zK(T:aY h g os sts){s s':St}(S:sJ h g sts s){x:D}(e:jZ h g os sts s x=some s'):sJ h g sts s':=by
 unfold jZ at e
 split at e
 ·obtain⟨j,hj,rfl⟩:=Option.map_eq_some_iff.mp e
  exact⟨qH S.l x,Q3 (T.mv _ (lD S.j)).2 hj⟩
 ·cases e
  exact⟨qH S.l x,S.j⟩
theorem yK(n:Nat)(O:bz h g ks ls)(T:aY h g os sts){s:St}(S:sJ h g sts s)(q:Str):
  pg.fn (n+1) 23 [.val (ao os sts),.val (aP s),.val (.str q)]=.ok (.val (.bl (aU (.str q) os&& !(lk (.str q) (bA sts s.2)).isSome))) [.val (ao os sts),.val (aP s),.val (.str q)]:=by
 have K:=jM T O S.j
 have d:=iY (bA sts s.2) [] [] (by simpa using K.1) (by simpa using K.2)
 have t0:getD (ao os sts) (.int 0)=some (.tup os):=by simp[ao]
 have t1:getD (ao os sts) (.int 1)=some (.tup (sts.map eU)):=by simp[ao]
 have s1:getD (aP s) (.int 1)=some (.int s.2):=by simp[aP]
 have st:=pI S.j
 have i:=(iy (q:=q) (oY T)).2.1
 have i2:aH .notin (.str q) (.cC (gn (bA sts s.2)) (pq (bA sts s.2)))=some (!(lk (.str q) (bA sts s.2)).isSome):=by rw[<-Bw];rfl
 rw[vy]
 cases c:aU (.str q) os<;>rw[c]at i<;>simp[mF,t0,i,t1,s1,st,eU,d,Ob.d,i2]
theorem Er(n:Nat)(O:bz h g ks ls)(T:aY h g os sts)(Wk:Wt h g ks ls W){s:St}(S:sJ h g sts s){x:D}(hx:x∈dX h sts W s):
  pg.fn (n+3) 24 [.val (au h g ks ls),.val (ao os sts),.val (aP s),.val x]=.ok (.val (cV (jZ h g os sts s x))) [.val (au h g ks ls),.val (ao os sts),.val (aP s),.val x]:=by
 have K:=jM T O S.j
 have d:=iY (bA sts s.2) [] [] (by simpa using K.1) (by simpa using K.2)
 obtain⟨q,rfl⟩:=bh h g x ((g8 Wk S).subset hx)
 have u:=yK (n+1) O T S q
 have c:=Aa n O S.l ⟨q,rfl⟩
 have t1:getD (ao os sts) (.int 1)=some (.tup (sts.map eU)):=by simp[ao]
 have s0:getD (aP s) (.int 0)=some (aB s.1):=by simp[aP]
 have s1:getD (aP s) (.int 1)=some (.int s.2):=by simp[aP]
 have st:=pI S.j
 have gt:uD (.cC (gn (bA sts s.2)) (pq (bA sts s.2))) (.str q) (.int s.2)=some (.int ((lk (.str q) (bA sts s.2)).getD s.2)):=by
  show(if keyOk (.str q)then some ((eQ (.str q) (gn (bA sts s.2)) (pq (bA sts s.2))).getD (.int s.2))else none)=_
  rw[Bv]
  cases lk (.str q) (bA sts s.2)<;>rfl
 have key:(aU (.str q) os&& !(lk (.str q) (bA sts s.2)).isSome)=true/\jZ h g os sts s (.str q)=none\/(aU (.str q) os&& !(lk (.str q) (bA sts s.2)).isSome)=false/\jZ h g os sts s (.str q)=some (dj (names h g) s.1 (.str q),(lk (.str q) (bA sts s.2)).getD s.2):=by
  unfold jZ
  rcases List.mem_append.mp hx with z|z
  ·obtain⟨z1,z2⟩:=List.mem_filter.mp z
   have no:aU (.str q) os=false:=qx (oY T) fun w=>yc O z1 (T.ou.subset w)
   have yes:aU (.str q) (hd h)=true:=lX z1 (gH h)
   rw[no,yes]
   obtain⟨j,hj⟩:=Option.isSome_iff_exists.mp z2
   rw[hj]
   exact .inr ⟨rfl,rfl⟩
  ·have zr:=(Wk.sub s.1 S.l).subset z
   have no:aU (.str q) (hd h)=false:=qx (gH h) fun w=>yc O w zr
   rw[no]
   cases ho:aU (.str q) os with
   |true=>
    cases hj:lk (.str q) (bA sts s.2)with
    |none=>exact .inl ⟨rfl,rfl⟩
    |some j=>exact .inr ⟨rfl,rfl⟩
   |false=>
    have hn:lk (.str q) (bA sts s.2)=none:=by
     cases hj:lk (.str q) (bA sts s.2)with
     |none=>rfl
     |some j=>
      have m:=(Iz K.1 ⟨q,rfl⟩).mp (by rw[hj];rfl)
      rcases List.mem_append.mp ((T.mv _ (lD S.j)).1.subset m)with w|w
      ·exact absurd zr (yc O w)
      ·rw[lX w (oY T)]at ho;cases ho
    rw[hn]
    exact .inr ⟨rfl,rfl⟩
 rw[Hm]
 rcases key with ⟨k1,k2⟩|⟨k1,k2⟩
 ·rw[k1]at u
  rw[k2]
  simp[rn,u,cV]
 ·rw[k1]at u
  rw[k2]
  simp[rn,u,t1,s0,s1,st,eU,d,Ob.d,c,j8,gt,aV,cV,sdE]
def Xa:S:=(.cons (.ite (.cmp .eq (.var 6) (.var 3)) (.cons (.ret (.tup (.cons (.var 5) (.cons (.var 7) .nil)))) .nil) .nil) .nil)
theorem Q4(c:Cf)(a b e F:D)(N:Sl){q:Str}:∀(st:List (D×Nat))(s6 s7:Sl),cu (gn st)->bR s6->bR s7->
  (∀j,lk (.str q) st=some j->∃s6' s7',bF (.tup [6,7]) (ex c Xa) (st.map lu) [.val a,.val b,.val e,.val (.str q),N,.val F,s6,s7]=.ret (.val (.tup [F,.int j])) [.val a,.val b,.val e,.val (.str q),N,.val F,s6',s7'])/\
  (lk (.str q) st=none->∃s6' s7',bF (.tup [6,7]) (ex c Xa) (st.map lu) [.val a,.val b,.val e,.val (.str q),N,.val F,s6,s7]=.next [.val a,.val b,.val e,.val (.str q),N,.val F,s6',s7'])
 |[]=>fun s6 s7 _ _ _=>⟨fun j z=>(by cases z),fun _=>⟨s6,s7,rfl⟩⟩
 |m::st=>fun s6 s7 t h6 h7=>by
  obtain⟨u,eu⟩:=t m.1 QYz
  have tt:bN (.tup [6,7]) (lu m) [.val a,.val b,.val e,.val (.str q),N,.val F,s6,s7]=some [.val a,.val b,.val e,.val (.str q),N,.val F,.val m.1,.val (.int m.2)]:=by
   rcases h6 with rfl|⟨d,rfl⟩<;>rcases h7 with rfl|⟨d,rfl⟩<;>simp[bN,gM,cM,lu]
  have ih:=Q4 c a b e F N (q:=q) st (.val m.1) (.val (.int m.2)) (fun x hx=>t x (QYq _ hx)) (.inr ⟨_,rfl⟩) (.inr ⟨_,rfl⟩)
  rw[List.map_cons,bF,tt]
  have e1:lk (.str q) (m::st)=if decide (u=q)then some m.2 else lk (.str q) st:=by rw[lk,eu];rfl
  rw[e1,eu]at*
  by_cases cq:u=q
  ·subst cq
   refine⟨fun j z=>?_,fun z=>by simp at z⟩
   simp at z
   subst z
   exact⟨.val (.str u),.val (.int m.2),by simp[Xa,aV]⟩
  ·have sk:(ex c Xa [.val a,.val b,.val e,.val (.str q),N,.val F,.val (.str u),.val (.int m.2)])=.next [.val a,.val b,.val e,.val (.str q),N,.val F,.val (.str u),.val (.int m.2)]:=by simp[Xa,cq]
   simp only[sk]
   simp only[cq,decide_false,Bool.false_eq_true,if_false]
   exact ih
theorem lq(n:Nat)(O:bz h g ks ls)(T:aY h g os sts){s:St}(S:sJ h g sts s){x:D}(hx:∃q,x=.str q):
  pg.fn (n+2) 43 [.val (au h g ks ls),.val (ao os sts),.val (aP s),.val x]=.ok (.val (cV (jZ h g os sts s x))) [.val (au h g ks ls),.val (ao os sts),.val (aP s),.val x]:=by
 obtain⟨q,rfl⟩:=hx
 have K:=jM T O S.j
 have ln:=lN n O
 have n0:getD (au h g ks ls) (.int 0)=some (.tup (hd h)):=by simp[au]
 have t0:getD (ao os sts) (.int 0)=some (.tup os):=by simp[ao]
 have t1:getD (ao os sts) (.int 1)=some (.tup (sts.map eU)):=by simp[ao]
 have s1:getD (aP s) (.int 1)=some (.int s.2):=by simp[aP]
 have st:=pI S.j
 have i1:=(iy (q:=q) (gH h)).2.2
 have i2:=(iy (q:=q) (oY T)).2.2
 have fe:=O8 (n+1) O (ao os sts) S (q:=q) .un .un .un
 have lg:=Q4 (pg.cf (n+1)) (au h g ks ls) (ao os sts) (aP s) (aB (dj (names h g) s.1 (.str q))) (.own (.lst (names h g))) (q:=q) (bA sts s.2) .un .un K.1 (.inl rfl) (.inl rfl)
 have it:items (eU (bA sts s.2))=some ((bA sts s.2).map lu):=rfl
 have rd:D.tup ((dj (names h g) s.1 (.str q)).map D.bl)=aB (dj (names h g) s.1 (.str q)):=rfl
 have hb:uR=⟨4,8,(.cons (.set 4 (.call 39 (.cons (.var 0) .nil))) (.cons (.set 5 (.bi .tuple fgC)) (.cons (.ite (.and (.cons (.cmp .notin (.var 3) (.idx (.var 0) (.con (.int (0))))) (.cons (.cmp .notin (.var 3) (.idx (.var 1) (.con (.int (0))))) .nil))) (.cons (.ret (.tup (.cons (.var 5) (.cons (.idx (.var 2) (.con (.int (1)))) .nil)))) .nil) .nil) (.cons (.for_ (.tup [6,7]) (.idx (.idx (.var 1) (.con (.int (1)))) (.idx (.var 2) (.con (.int (1))))) Xa) (.cons (.ret (.con .non)) .nil)))))⟩:=rfl
 have qv:fgC.az=none:=rfl
 rw[DP,hb]
 unfold jZ
 cases c1:aU (.str q) (hd h)with
 |false=>
  cases c2:aU (.str q) os with
  |false=>
   rw[c1]at i1
   rw[c2]at i2
   simp[ln,fe,qv,rd,n0,t0,i1,i2,s1,aV,cV,sdE]
  |true=>
   rw[c1]at i1
   rw[c2]at i2
   cases hj:lk (.str q) (bA sts s.2)with
   |none=>
    obtain⟨s6,s7,e⟩:=lg.2 hj
    simp[ln,fe,qv,rd,n0,t0,i1,i2,t1,s1,st,it,e,cV]
   |some j=>
    obtain⟨s6,s7,e⟩:=lg.1 j hj
    simp[ln,fe,qv,rd,n0,t0,i1,i2,t1,s1,st,it,e,cV,sdE]
 |true=>
  rw[c1]at i1
  cases hj:lk (.str q) (bA sts s.2)with
  |none=>
   obtain⟨s6,s7,e⟩:=lg.2 hj
   simp[ln,fe,qv,rd,n0,i1,t1,s1,st,it,e,cV]
  |some j=>
   obtain⟨s6,s7,e⟩:=lg.1 j hj
   simp[ln,fe,qv,rd,n0,i1,t1,s1,st,it,e,cV,sdE]
end
end Tx
end
section
open PySem Mini
namespace Tx
section
variable{h g:Nat}{ks:List D}{ls:List Bool}{os:List D}{sts:List (List (D×Nat))}{W:List Bool->List D}
def fP(h g:Nat)(os:List D)(sts:List (List (D×Nat)))(W:List Bool->List D):List D->St->Option St
 |[],s=>some s
 |w::ws,s=>if aU w (dX h sts W s)then(jZ h g os sts s w).bind (fP h g os sts W ws)else none
theorem pP:∀(a b:List D)(s:St),fP h g os sts W (a++b) s=(fP h g os sts W a s).bind (fP h g os sts W b)
 |[]=>fun b s=>rfl
 |w::a=>fun b s=>by
  simp only[List.cons_append,fP]
  split
  ·cases jZ h g os sts s w with
   |none=>rfl
   |some s'=>exact pP a b s'
  ·rfl
theorem mL(Wk:Wt h g ks ls W){s:St}(S:sJ h g sts s):cu (dX h sts W s):=fun x hx=>bh h g x ((g8 Wk S).subset hx)
theorem xV(n:Nat){xs:List D}(t:cu xs)(w:D):pg.fn (n+1) 8 [.val w,.val (.lst xs)]=.ok (.val (.bl (aU w xs))) [.val w,.val (.lst xs)]:=by
 rw[tY]
 cases c:iz .str w with
 |false=>simp[jY,c,Jt c t]
 |true=>
  cases w with
  |str q=>
   have i:=(iy (q:=q) t).1
   simp[jY,i]
  |_=>cases c
theorem Jv{w:D}{xs:List D}(t:cu xs)(hw:aU w xs=true):w∈xs:=by
 cases c:iz .str w with
 |false=>rw[Jt c t]at hw;cases hw
 |true=>
  cases w with
  |str q=>exact(lr t).mp hw
  |_=>cases c
def Ti:S:=(.cons (.ite (.not (.call 8 (.cons (.var 4) (.cons (.call 22 (.cons (.var 0) (.cons (.var 1) (.cons (.var 3) .nil)))) .nil)))) (.cons (.raise 1) .nil) .nil) (.cons (.set 3 (.call 24 (.cons (.var 0) (.cons (.var 1) (.cons (.var 3) (.cons (.var 4) .nil)))))) (.cons (.ite (.cmp .jg (.var 3) (.con .non)) (.cons (.raise 1) .nil) .nil) .nil)))
theorem jU(s:St):nT (aP s)=false:=rfl
theorem Hc(n:Nat)(O:bz h g ks ls)(T:aY h g os sts)(Wk:Wt h g ks ls W)(R:Sl):∀(ws:List D)(s:St)(s4:Sl),sJ h g sts s->bR s4->
  (∀s',fP h g os sts W ws s=some s'->∃s4',bF (.name 4) (ex (pg.cf (n+5)) Ti) ws [.val (au h g ks ls),.val (ao os sts),R,.val (aP s),s4]=.next [.val (au h g ks ls),.val (ao os sts),R,.val (aP s'),s4'])/\
  (fP h g os sts W ws s=none->∃a b,bF (.name 4) (ex (pg.cf (n+5)) Ti) ws [.val (au h g ks ls),.val (ao os sts),R,.val (aP s),s4]=.exc 1 [.val (au h g ks ls),.val (ao os sts),R,a,b])
 |[]=>fun s s4 _ _=>⟨fun s' e=>by cases e;exact⟨s4,rfl⟩,fun e=>by cases e⟩
 |w::ws=>fun s s4 S h4=>by
  have tt:bN (.name 4) w [.val (au h g ks ls),.val (ao os sts),R,.val (aP s),s4]=some [.val (au h g ks ls),.val (ao os sts),R,.val (aP s),.val w]:=by
   rcases h4 with rfl|⟨d,rfl⟩<;>simp[bN,cM]
  have sa:=wY n O T Wk S
  have tx:=mL Wk S
  have iw:=xV (n+4) tx w
  rw[bF,tt]
  simp only[fP]
  cases c:aU w (dX h sts W s)with
  |false=>
   rw[c]at iw
   refine⟨fun s' e=>(by cases e),fun _=>⟨.val (aP s),.val w,?_⟩⟩
   simp[Ti,sa,iw]
  |true=>
   rw[c]at iw
   have lt:=Er (n+2) O T Wk S (Jv tx c)
   cases e:jZ h g os sts s w with
   |none=>
    rw[e]at lt
    refine⟨fun s' e=>(by cases e),fun _=>⟨.val .non,.val w,?_⟩⟩
    simp[Ti,sa,iw,lt,cV]
   |some s1=>
    rw[e]at lt
    have ih:=Hc n O T Wk R ws s1 (.val w) (zK T S e) (.inr ⟨_,rfl⟩)
    have go:ex (pg.cf (n+5)) Ti [.val (au h g ks ls),.val (ao os sts),R,.val (aP s),.val w]=.next [.val (au h g ks ls),.val (ao os sts),R,.val (aP s1),.val w]:=by
     simp[Ti,sa,iw,lt,cV,jU]
    simp only[go]
    exact ih
def sI(ls:List Bool):St:=(ls,0)
theorem Bg(O:bz h g ks ls)(T:aY h g os sts):sJ h g sts (sI ls):=⟨by rw[dN O.h2 O.g5];exact O.ll,T.s1⟩
theorem wA:jG=⟨3,5,(.cons (.expr (.call 17 (.cons (.var 0) (.cons (.var 1) .nil)))) (.cons (.ite (.not (.isi (.var 2) .lst)) (.cons (.raise 1) .nil) .nil) (.cons (.set 3 (.call 21 (.cons (.var 0) .nil))) (.cons (.for_ (.name 4) (.var 2) Ti) (.cons (.ret (.var 3)) .nil)))))⟩:=rfl
theorem yo(n:Nat):pg.fn (n+1) 21 [.val (au h g ks ls)]=.ok (.val (aP (sI ls))) [.val (au h g ks ls)]:=by
 have n2:getD (au h g ks ls) (.int 2)=some (.tup (ls.map .bl)):=by simp[au]
 rw[rW]
 simp[km,n2,aV]
 rfl
theorem Bf(n:Nat)(O:bz h g ks ls)(T:aY h g os sts)(Wk:Wt h g ks ls W){ws:List D}{s:St}(e:fP h g os sts W ws (sI ls)=some s):
  pg.fn (n+10) 20 [.val (au h g ks ls),.val (ao os sts),.val (.lst ws)]=.ok (.val (aP s)) [.val (au h g ks ls),.val (ao os sts),.val (.lst ws)]:=by
 have c:=fL n O T
 have f:=yo (n+8) (h:=h) (g:=g) (ks:=ks) (ls:=ls)
 obtain⟨s4,z⟩:=(Hc (n+4) O T Wk (.val (.lst ws)) ws (sI ls) .un (Bg O T) (.inl rfl)).1 s e
 rw[fY,wA]
 simp[c,f,iz,items,z]
theorem Ms(n:Nat)(O:bz h g ks ls)(T:aY h g os sts)(Wk:Wt h g ks ls W){ws:List D}(e:fP h g os sts W ws (sI ls)=none):
  pg.fn (n+10) 20 [.val (au h g ks ls),.val (ao os sts),.val (.lst ws)]=.exc 1 [.val (au h g ks ls),.val (ao os sts),.val (.lst ws)]:=by
 have c:=fL n O T
 have f:=yo (n+8) (h:=h) (g:=g) (ks:=ks) (ls:=ls)
 obtain⟨a,b,z⟩:=(Hc (n+4) O T Wk (.val (.lst ws)) ws (sI ls) .un (Bg O T) (.inl rfl)).2 e
 rw[fY,wA]
 simp[c,f,iz,items,z]
theorem vg(n:Nat)(O:bz h g ks ls)(T:aY h g os sts)(Wk:Wt h g ks ls W)(ws:List D):
  pg.fn (n+11) 46 [.val (au h g ks ls),.val (ao os sts),.val (.lst ws)]=.ok (.val (cV (fP h g os sts W ws (sI ls)))) [.val (au h g ks ls),.val (ao os sts),.val (.lst ws)]:=by
 have q:∀(f:Nat)(a:E)(h:List (Nat×D)),(E.tcall f a h).az=none:=fun _ _ _=>rfl
 rw[pU]
 cases e:fP h g os sts W ws (sI ls)with
 |some s=>
  have z:=Bf n O T Wk e
  simp[jc,iK,z,q,cV]
 |none=>
  have z:=Ms n O T Wk e
  simp[jc,iK,z,q,cV,List.lookup]
theorem LC(n:Nat)(O:bz h g ks ls)(T:aY h g os sts){d:D}(hd:iz .lst d=false):
  pg.fn (n+11) 46 [.val (au h g ks ls),.val (ao os sts),.val d]=.ok (.val .non) [.val (au h g ks ls),.val (ao os sts),.val d]:=by
 have q:∀(f:Nat)(a:E)(h:List (Nat×D)),(E.tcall f a h).az=none:=fun _ _ _=>rfl
 have c:=fL n O T
 have z:pg.fn (n+10) 20 [.val (au h g ks ls),.val (ao os sts),.val d]=.exc 1 [.val (au h g ks ls),.val (ao os sts),.val d]:=by
  rw[fY,wA]
  simp[c,hd]
 rw[pU]
 simp[jc,iK,z,q,List.lookup]
def XN(w:D):Prop:=flat w=true\/nd w=true/\dep w<=50
theorem qb{xs:List D}(t:∀x∈xs,x∈names h g):lQ xs=true:=by
 have ok:∀s∈QX 3 5,sOk s=true:=by decide+kernel
 induction xs with
 |nil=>rfl
 |cons x xs ih=>
  have m:=t x QYz
  rw[lR]at m
  obtain⟨s,hs,rfl⟩:=List.mem_map.mp m
  simp[lQ,nd,ok s (Bt hs),ih fun y hy=>t y (QYq _ hy)]
theorem Jp{w:D}(hw:XN w){xs:List D}(t:∀x∈xs,x∈names h g):aH .isin w (.lst xs)=some (aU w xs):=by
 have tx:cu xs:=fun x hx=>bh h g x (t x hx)
 have o:eY w xs=true:=by
  unfold eY
  rcases hw with hw|⟨a,b⟩
  ·rw[hw,jV tx];rfl
  ·rw[a,qb t];simp[b]
 have:aH .isin w (.lst xs)=if eY w xs then some (aU w xs)else none:=by cases w<;>rfl
 rw[this,o];rfl
def Rq:S:=(.cons (.ite (.cmp .notN (.var 3) (.con .non)) (.cons (.ite (.cmp .isin (.var 4) (.call 42 (.cons (.var 0) (.cons (.var 1) (.cons (.var 3) .nil))))) (.cons (.set 3 (.call 43 (.cons (.var 0) (.cons (.var 1) (.cons (.var 3) (.cons (.var 4) .nil)))))) .nil) (.cons (.set 3 (.con .non)) .nil)) .nil) .nil) .nil)
theorem Rp(n:Nat)(O:bz h g ks ls)(T:aY h g os sts)(Wk:Wt h g ks ls W)(R:Sl):∀(ws:List D)(o:Option St)(s4:Sl),(∀s,o=some s->sJ h g sts s)->(∀w∈ws,XN w)->bR s4->
  ∃s4',bR s4'/\bF (.name 4) (ex (pg.cf (n+4)) Rq) ws [.val (au h g ks ls),.val (ao os sts),R,.val (cV o),s4]=.next [.val (au h g ks ls),.val (ao os sts),R,.val (cV (o.bind (fP h g os sts W ws))),s4']
 |[]=>fun o s4 _ _ h4=>⟨s4,h4,by cases o<;>rfl⟩
 |w::ws=>fun o s4 S hw h4=>by
  have tt:bN (.name 4) w [.val (au h g ks ls),.val (ao os sts),R,.val (cV o),s4]=some [.val (au h g ks ls),.val (ao os sts),R,.val (cV o),.val w]:=by
   rcases h4 with rfl|⟨d,rfl⟩<;>simp[bN,cM]
  have nx:∀o1:Option St,(∀s,o1=some s->sJ h g sts s)->o.bind (fP h g os sts W (w::ws))=o1.bind (fP h g os sts W ws)->ex (pg.cf (n+4)) Rq [.val (au h g ks ls),.val (ao os sts),R,.val (cV o),.val w]=.next [.val (au h g ks ls),.val (ao os sts),R,.val (cV o1),.val w]->
    ∃s4',bR s4'/\bF (.name 4) (ex (pg.cf (n+4)) Rq) (w::ws) [.val (au h g ks ls),.val (ao os sts),R,.val (cV o),s4]=.next [.val (au h g ks ls),.val (ao os sts),R,.val (cV (o.bind (fP h g os sts W (w::ws)))),s4']:=fun o1 S1 e1 e2=>by
   obtain⟨s4',a,b⟩:=Rp n O T Wk R ws o1 (.val w) S1 (fun x hx=>hw x (QYq _ hx)) (.inr ⟨_,rfl⟩)
   refine⟨s4',a,?_⟩
   rw[bF,tt]
   simp only[e2]
   rw[e1]
   exact b
  cases o with
  |none=>
   refine nx none (fun s e=>by cases e) rfl ?_
   simp[Rq,cV]
  |some s=>
   have S0:=S s rfl
   have ls_:=lU n O T Wk S0
   have ii:=Jp (hw w QYz) (xs:=dX h sts W s) fun x hx=>(g8 Wk S0).subset hx
   cases c:aU w (dX h sts W s)with
   |false=>
    rw[c]at ii
    refine nx none (fun s e=>by cases e) (by simp[fP,c]) ?_
    simp[Rq,cV,jU,ls_,ii,Ob.d]
   |true=>
    rw[c]at ii
    have ld:=lq (n+2) O T S0 (mL Wk S0 w (Jv (mL Wk S0) c))
    refine nx (jZ h g os sts s w) (fun s1 e=>zK T S0 e) (by simp[fP,c]) ?_
    simp[Rq,cV,jU,ls_,ii,Ob.d,ld]
theorem V0(n:Nat)(O:bz h g ks ls)(T:aY h g os sts)(Wk:Wt h g ks ls W){ws:List D}(hw:∀w∈ws,XN w):
  pg.fn (n+5) 45 [.val (au h g ks ls),.val (ao os sts),.val (.lst ws)]=.ok (.val (cV (fP h g os sts W ws (sI ls)))) [.val (au h g ks ls),.val (ao os sts),.val (.lst ws)]:=by
 obtain⟨s4,_,z⟩:=Rp n O T Wk (.val (.lst ws)) ws (some (sI ls)) .un (fun s e=>by cases e;exact Bg O T) hw (.inl rfl)
 have n2:getD (au h g ks ls) (.int 2)=some (aB ls):=by simp[au];rfl
 have z':bF (.name 4) (ex (pg.cf (n+4)) Rq) ws [.val (au h g ks ls),.val (ao os sts),.val (.lst ws),.val (aP (sI ls)),.un]=.next [.val (au h g ks ls),.val (ao os sts),.val (.lst ws),.val (cV (fP h g os sts W ws (sI ls))),s4]:=z
 have hb:nM=⟨3,5,(.cons (.ite (.not (.isi (.var 2) .lst)) (.cons (.ret (.con .non)) .nil) .nil) (.cons (.set 3 (.tup (.cons (.idx (.var 0) (.con (.int (2)))) (.cons (.con (.int (0))) .nil)))) (.cons (.for_ (.name 4) (.var 2) Rq) (.cons (.ret (.var 3)) .nil))))⟩:=rfl
 have se:D.tup [aB ls,.int 0]=aP (sI ls):=rfl
 rw[tX,hb]
 simp[iz,n2,aV,se,items,z']
theorem V1(n:Nat){N T:D}{d:D}(hd:iz .lst d=false):pg.fn (n+1) 45 [.val N,.val T,.val d]=.ok (.val .non) [.val N,.val T,.val d]:=by
 rw[tX]
 simp[nM,hd]
end
end Tx
end
section
open PySem Mini
namespace Tx
section
variable{h g:Nat}{ks:List D}{ls:List Bool}{os:List D}{sts:List (List (D×Nat))}{W:List Bool->List D}
theorem qN{xs:List D}(t:∀x∈xs,x∈names h g):mq xs=0:=by
 induction xs with
 |nil=>rfl
 |cons x xs ih=>
  obtain⟨s,rfl⟩:=bh h g x (t x QYz)
  simp[mq,dep,ih fun y hy=>t y (QYq _ hy)]
theorem Us{xs:List D}(t:∀x∈xs,x∈names h g):aH .ne (.lst xs) (.lst [])=some (!xs.isEmpty):=by
 have c:cL (.lst xs) (.lst [])=xs.isEmpty:=by cases xs<;>simp[cL,qL]
 show(if j5 (.lst xs) (.lst [])then some (!cL (.lst xs) (.lst []))else none)=_
 rw[c,show j5 (.lst xs) (.lst [])=true by simp[j5,nd,lQ,dep,qb t,qN t]]
 rfl
theorem Py(xs:List D)(w:D):at? (xs++[w]) (-1)=some w:=by
 unfold at? ix?
 simp
 split
 ·rename_i hh
  have:((-1:Int)+(xs.length+1)).toNat=xs.length:=by omega
  simp[this]
 ·omega
theorem Wc(xs:List D)(e:Int)(h0:0<xs.length):∃w∈xs,at? xs (e%(xs.length:Int))=some w:=by
 have a:=Int.emod_nonneg e (show(xs.length:Int)≠0 by omega)
 have b:=Int.emod_lt_of_pos e (show(0:Int)<xs.length by omega)
 generalize e%(xs.length:Int)=r at a b
 obtain⟨r,rfl⟩:=Int.eq_ofNat_of_zero_le a
 have hr:r<xs.length:=by omega
 exact⟨xs[r],List.getElem_mem hr,by rw[gk _ _ hr,QXq hr]⟩
def Xg:S:=(.cons (.ite (.cmp .notN (.call 43 (.cons (.var 2) (.cons (.var 3) (.cons (.var 6) (.cons (.var 10) .nil))))) (.con .non)) (.cons (.append 9 (.var 10)) .nil) .nil) .nil)
theorem Jw(n:Nat)(O:bz h g ks ls)(T:aY h g os sts){s:St}(S:sJ h g sts s)(a0 a1 a4 a5 a7 a8 a11:Sl):∀(xs acc:List D)(rO:Sl),(∀x∈xs,x∈names h g)->acc.length+xs.length<=100->bR rO->∃s10',bR s10'/\
  bF (.name 10) (ex (pg.cf (n+2)) Xg) xs [a0,a1,.val (au h g ks ls),.val (ao os sts),a4,a5,.val (aP s),a7,a8,.own (.lst acc),rO,a11]=.next [a0,a1,.val (au h g ks ls),.val (ao os sts),a4,a5,.val (aP s),a7,a8,.own (.lst (acc++xs.filter fun x=>(jZ h g os sts s x).isSome)),s10',a11]
 |[]=>fun acc rO _ _ h10=>⟨rO,h10,by simp[bF]⟩
 |x::xs=>fun acc rO hx hl h10=>by
  have ld:=lq n O T S (bh h g x (hx x QYz))
  have tt:bN (.name 10) x [a0,a1,.val (au h g ks ls),.val (ao os sts),a4,a5,.val (aP s),a7,a8,.own (.lst acc),rO,a11]=some [a0,a1,.val (au h g ks ls),.val (ao os sts),a4,a5,.val (aP s),a7,a8,.own (.lst acc),.val x,a11]:=by
   rcases h10 with rfl|⟨d,rfl⟩<;>simp[bN,cM]
  have f:fits (acc.length+1)=true:=by simp at hl;simp[fits];omega
  have hx':∀y∈xs,y∈names h g:=fun y hy=>hx y (QYq _ hy)
  rw[bF,tt]
  cases e:jZ h g os sts s x with
  |none=>
   rw[e]at ld
   obtain⟨s10',b1,b2⟩:=Jw n O T S a0 a1 a4 a5 a7 a8 a11 xs acc (.val x) hx' (by simp at hl;omega) (.inr ⟨_,rfl⟩)
   refine⟨s10',b1,?_⟩
   have go:ex (pg.cf (n+2)) Xg [a0,a1,.val (au h g ks ls),.val (ao os sts),a4,a5,.val (aP s),a7,a8,.own (.lst acc),.val x,a11]=.next [a0,a1,.val (au h g ks ls),.val (ao os sts),a4,a5,.val (aP s),a7,a8,.own (.lst acc),.val x,a11]:=by simp[Xg,ld,cV]
   simp only[go]
   rw[List.filter_cons,e]
   exact b2
  |some s1=>
   rw[e]at ld
   obtain⟨s10',b1,b2⟩:=Jw n O T S a0 a1 a4 a5 a7 a8 a11 xs (acc++[x]) (.val x) hx' (by simp at hl⊢;omega) (.inr ⟨_,rfl⟩)
   refine⟨s10',b1,?_⟩
   have go:ex (pg.cf (n+2)) Xg [a0,a1,.val (au h g ks ls),.val (ao os sts),a4,a5,.val (aP s),a7,a8,.own (.lst acc),.val x,a11]=.next [a0,a1,.val (au h g ks ls),.val (ao os sts),a4,a5,.val (aP s),a7,a8,.own (.lst (acc++[x])),.val x,a11]:=by simp[Xg,ld,cV,jU,di,rP,f]
   simp only[go]
   rw[List.filter_cons,e]
   simpa using b2
def drB:S:=(.cons (.set 9 (.lis .nil)) (.cons (.for_ (.name 10) (.call 42 (.cons (.var 2) (.cons (.var 3) (.cons (.var 6) .nil)))) Xg) (.cons (.ite (.cmp .ne (.var 9) (.lis .nil)) (.cons (.set 11 (.op .mod (.op .mul (.op .add (.op .add (.var 5) (.op .mul (.op .mul (.con (.int (104729))) (.var 8)) (.var 8))) (.op .mul (.con (.int (7919))) (.var 8))) (.con (.int (48271)))) (.con (.int (2147483647))))) (.cons (.append 7 (.idx (.var 9) (.op .mod (.op .fdiv (.var 11) (.con (.int (13)))) (.bi .len (.var 9))))) (.cons (.set 6 (.call 43 (.cons (.var 2) (.cons (.var 3) (.cons (.var 6) (.cons (.idx (.var 7) (.neg (.con (.int (1))))) .nil)))))) .nil))) .nil) .nil)))
theorem Pa(n:Nat)(O:bz h g ks ls)(T:aY h g os sts)(Wk:Wt h g ks ls W)(a0 a1 a4:Sl)(seed t:Int)(t0:0<=t)(t1:t<100){s:St}(S:sJ h g sts s){run:List D}(hr:∀x∈run,x∈names h g)(hl:run.length<=100){s9 rO yH:Sl}(h9:bR s9)(h10:bR rO)(h11:bR yH):
  ∃(s':St)(ws:List D)(s9' s10' s11':Sl),sJ h g sts s'/\(∀x∈ws,x∈names h g)/\ws.length<=1/\fP h g os sts W ws s=some s'/\bR s9'/\bR s10'/\bR s11'/\
   ex (pg.cf (n+4)) drB [a0,a1,.val (au h g ks ls),.val (ao os sts),a4,.val (.int seed),.val (aP s),.own (.lst run),.val (.int t),s9,rO,yH]=.next [a0,a1,.val (au h g ks ls),.val (ao os sts),a4,.val (.int seed),.val (aP s'),.own (.lst (run++ws)),.val (.int t),s9',s10',s11']:=by
 have ls_:=lU n O T Wk S
 have sub:∀x∈dX h sts W s,x∈names h g:=fun x hx=>(g8 Wk S).subset hx
 have sl:=(g8 Wk S).length_le
 have nl:=dN (g:=g) O.h2 O.g5
 have h2:=O.h2
 have g5:=O.g5
 obtain⟨s10',b1,b2⟩:=Jw (n+2) O T S a0 a1 a4 (.val (.int seed)) (.own (.lst run)) (.val (.int t)) yH (dX h sts W s) [] rO sub (by simp;omega) h10
 rw[List.nil_append]at b2
 have fm:∀x∈(dX h sts W s).filter (fun x=>(jZ h g os sts s x).isSome),x∈names h g:=fun x hx=>sub x (List.mem_filter.mp hx).1
 have ne:=Us fm
 generalize hL:(dX h sts W s).filter (fun x=>(jZ h g os sts s x).isSome)=L at b2 ne fm
 have m1:small 104729=true:=by decide
 have m2:small 7919=true:=by decide
 have m3:small 48271=true:=by decide
 have m4:small t=true:=by simp[small];omega
 have f:fits (run.length+1)=true:=by simp[fits];omega
 cases L with
 |nil=>
  refine⟨s,[],.val (.lst []),s10',yH,S,fun x hx=>(by cases hx),by simp,rfl,.inr ⟨_,rfl⟩,b1,h11,?_⟩
  rcases h9 with rfl|⟨d,rfl⟩<;>simp[drB,aV,ls_,items,b2,Ob.d,ne]
 |cons w0 L=>
  obtain⟨w,hw,ew⟩:=Wc (w0::L) ((seed+104729*t*t+7919*t)*48271%2147483647/13) (by simp)
  rw[<-hL]at hw
  obtain⟨hw1,hw2⟩:=List.mem_filter.mp hw
  obtain⟨s',es⟩:=Option.isSome_iff_exists.mp hw2
  have ld:=lq (n+2) O T S (bh h g w (sub w hw1))
  rw[es]at ld
  have al:=Py run w
  have ld':pg.fn (n+4) 43 [.val (au h g ks ls),.val (ao os sts),.val (aP s),.val w]=.ok (.val (aP s')) [.val (au h g ks ls),.val (ao os sts),.val (aP s),.val w]:=ld
  have hwn:aU w (dX h sts W s)=true:=lX hw1 fun x hx=>bh h g x (sub x hx)
  have ew':at? (w0::L) ((seed+104729*t*t+7919*t)*48271%2147483647/13%((L.length:Int)+1))=some w:=by
   rw[<-ew]
   simp
  refine⟨s',[w],.val (.lst (w0::L)),s10',.val (.int ((seed+104729*t*t+7919*t)*48271%2147483647)),zK T S es,fun x hx=>?_,by simp,?_,.inr ⟨_,rfl⟩,b1,.inr ⟨_,rfl⟩,?_⟩
  ·rw[List.mem_singleton.mp hx];exact sub w hw1
  ·simp[fP,hwn,es]
  ·rcases h9 with rfl|⟨d,rfl⟩<;>rcases h11 with rfl|⟨d,rfl⟩<;>simp[drB,aV,ls_,items,b2,Ob.d,ne,m1,m2,m3,m4,di,rP,f,ew',al,ld']
theorem Rr(n:Nat)(O:bz h g ks ls)(T:aY h g os sts)(Wk:Wt h g ks ls W)(a0 a1 a4:Sl)(seed:Int):∀(m:Nat)(t:Int)(s:St)(run:List D)(s8 s9 rO yH:Sl),0<=t->t+m<=100->sJ h g sts s->(∀x∈run,x∈names h g)->run.length+m<=100->bR s8->bR s9->bR rO->bR yH->
  ∃(s':St)(ws:List D)(s8' s9' s10' s11':Sl),sJ h g sts s'/\(∀x∈ws,x∈names h g)/\ws.length<=m/\fP h g os sts W ws s=some s'/\
   bF (.name 8) (ex (pg.cf (n+4)) drB) (bD t m) [a0,a1,.val (au h g ks ls),.val (ao os sts),a4,.val (.int seed),.val (aP s),.own (.lst run),s8,s9,rO,yH]=.next [a0,a1,.val (au h g ks ls),.val (ao os sts),a4,.val (.int seed),.val (aP s'),.own (.lst (run++ws)),s8',s9',s10',s11']
 |0=>fun t s run s8 s9 rO yH _ _ S _ _ _ _ _ _=>⟨s,[],s8,s9,rO,yH,S,fun x hx=>(by cases hx),by simp,rfl,by simp[bD,bF]⟩
 |m+1=>fun t s run s8 s9 rO yH t0 t1 S hr hl h8 h9 h10 h11=>by
  obtain⟨s1,w1,r9,r10,r11,c1,c2,c3,c4,c5,c6,c7,c8⟩:=Pa n O T Wk a0 a1 a4 seed t t0 (by omega) S hr (by omega) h9 h10 h11
  obtain⟨s',ws,q8,q9,q10,q11,d1,d2,d3,d4,d5⟩:=Rr n O T Wk a0 a1 a4 seed m (t+1) s1 (run++w1) (.val (.int t)) r9 r10 r11 (by omega) (by omega) c1 (fun x hx=>by
   rcases List.mem_append.mp hx with z|z
   ·exact hr x z
   ·exact c2 x z) (by simp;omega) (.inr ⟨_,rfl⟩) c5 c6 c7
  refine⟨s',w1++ws,q8,q9,q10,q11,d1,fun x hx=>?_,by simp;omega,by rw[pP,c4];exact d4,?_⟩
  ·rcases List.mem_append.mp hx with z|z
   ·exact c2 x z
   ·exact d2 x z
  ·have tt:bN (.name 8) (.int t) [a0,a1,.val (au h g ks ls),.val (ao os sts),a4,.val (.int seed),.val (aP s),.own (.lst run),s8,s9,rO,yH]=some [a0,a1,.val (au h g ks ls),.val (ao os sts),a4,.val (.int seed),.val (aP s),.own (.lst run),.val (.int t),s9,rO,yH]:=by
    rcases h8 with rfl|⟨d,rfl⟩<;>simp[bN,cM]
   rw[bD,bF,tt]
   simp only[c8]
   rw[<-List.append_assoc]
   exact d5
theorem JT(n:Nat)(ns:List Int)(O:bz h g ks ls)(T:aY h g os sts)(Wk:Wt h g ks ls W):∃(run:List D)(s:St),(∀x∈run,x∈names h g)/\run.length<=12/\sJ h g sts s/\fP h g os sts W run (sI ls)=some s/\
  pg.fn (n+5) 44 [.val (sc ns),.val (.int 0),.val (au h g ks ls),.val (ao os sts),.val (.int 12)]=.ok (.val (.tup [.lst run,aP s])) [.val (sc ns),.val (.int 0),.val (au h g ks ls),.val (ao os sts),.val (.int 12)]:=by
 obtain⟨sd,_,_,e1⟩:=ir (n+2) ns 0 1000000000 (by omega) (by omega)
 obtain⟨m,m1,m2,e2⟩:=ir (n+2) ns 1 13 (by omega) (by omega)
 obtain⟨m,rfl⟩:=Int.eq_ofNat_of_zero_le m1
 obtain⟨s,run,q8,q9,q10,q11,d1,d2,d3,d4,d5⟩:=Rr n O T Wk (.val (sc ns)) (.val (.int 0)) (.val (.int 12)) sd m 0 (sI ls) [] .un .un .un .un (by omega) (by omega) (Bg O T) (fun x hx=>by cases hx) (by simp;omega) (.inl rfl) (.inl rfl) (.inl rfl) (.inl rfl)
 refine⟨run,s,d2,by omega,d1,d4,?_⟩
 rw[List.nil_append]at d5
 have pw:binop .pow (.int 10) (.int 9)=some (.val (.int 1000000000)):=rfl
 have n2:getD (au h g ks ls) (.int 2)=some (aB ls):=by simp[au];rfl
 have se:D.tup [aB ls,.int 0]=aP (sI ls):=rfl
 have f1:fits m=true:=by simp[fits];omega
 have f2:rQ m=true:=by simp[rQ];omega
 have hb:jk=⟨5,12,(.cons (.set 5 (.call 27 (.cons (.var 0) (.cons (.var 1) (.cons (.op .pow (.con (.int (10))) (.con (.int (9)))) .nil))))) (.cons (.set 6 (.tup (.cons (.idx (.var 2) (.con (.int (2)))) (.cons (.con (.int (0))) .nil)))) (.cons (.set 7 (.lis .nil)) (.cons (.for_ (.name 8) (.range1 (.call 27 (.cons (.var 0) (.cons (.op .add (.var 1) (.con (.int (1)))) (.cons (.op .add (.var 4) (.con (.int (1)))) .nil))))) drB) (.cons (.ret (.tup (.cons (.var 7) (.cons (.var 6) .nil)))) .nil)))))⟩:=rfl
 rw[oM,hb]
 simp[pw,e1,e2,n2,aV,se,f1,f2,items,d5,Ob.d]
end
end Tx
end
section
open PySem Mini
namespace Tx
mutual
theorem vZ:∀d:D,nd d=true->cL d d=true
 |.non=>fun _=>rfl
 |.bl b=>fun _=>by simp[cL]
 |.int i=>fun _=>by simp[cL]
 |.str x=>fun _=>by simp[cL]
 |.tup xs=>fun h=>by simpa[cL]using qJ xs (by simpa[nd]using h)
 |.lst xs=>fun h=>by simpa[cL]using qJ xs (by simpa[nd]using h)
 |.cC _ _=>fun h=>by simp[nd]at h
theorem qJ:∀xs:List D,lQ xs=true->qL xs xs=true
 |[]=>fun _=>rfl
 |x::xs=>fun h=>by
  simp only[lQ,QVz]at h
  simp[qL,vZ x h.1,qJ xs h.2]
end
theorem Ro{d:D}(h:nd d=true/\dep d<=50):aH .eq d d=some true/\aH .ne d d=some false:=by
 have o:j5 d d=true:=by simp[j5,h.1,h.2]
 constructor
 ·show(if j5 d d then some (cL d d)else none)=_
  rw[vZ _ h.1,o];rfl
 ·show(if j5 d d then some (!cL d d)else none)=_
  rw[vZ _ h.1,o];rfl
theorem H8(o:Option St):nd (cV o)=true/\dep (cV o)<=50:=by
 cases o with
 |none=>exact⟨rfl,by simp[cV,dep]⟩
 |some s=>
  have a:=m7 s.1
  have b:=qO s.1
  constructor
  ·simp[cV,aP,aB,nd,lQ,a]
  ·simp[cV,aP,aB,dep,mq,b]
section
variable{h g:Nat}{ks:List D}{ls:List Bool}{os:List D}{sts:List (List (D×Nat))}{W:List Bool->List D}
def Bd(d:D):Prop:=iz .lst d=false\/∃ws,d=.lst ws/\∀w∈ws,XN w
theorem Pu(O:bz h g ks ls)(T:aY h g os sts)(Wk:Wt h g ks ls W){d:D}(B:Bd d):∃r,aH .eq r r=some true/\
  pg.fn 59 46 [.val (au h g ks ls),.val (ao os sts),.val d]=.ok (.val r) [.val (au h g ks ls),.val (ao os sts),.val d]/\
  pg.fn 59 45 [.val (au h g ks ls),.val (ao os sts),.val d]=.ok (.val r) [.val (au h g ks ls),.val (ao os sts),.val d]:=by
 rcases B with hd|⟨ws,rfl,hw⟩
 ·exact⟨.non,rfl,LC 48 O T hd,V1 58 hd⟩
 ·exact⟨_,(Ro (H8 _)).1,vg 48 O T Wk ws,V0 54 O T Wk hw⟩
theorem ph{x:D}(hx:x∈names h g):XN x:=by
 obtain⟨s,rfl⟩:=bh h g x hx
 exact .inl rfl
theorem o4{xs:List D}{lo hi:Option Int}{x:D}(hx:x∈cut xs lo hi):x∈xs:=List.mem_of_mem_take (List.mem_of_mem_drop hx)
theorem Ph(xs:List D)(lo hi:Option Int):(cut xs lo hi).length<=xs.length:=by
 unfold cut
 rw[List.length_drop,List.length_take]
 omega
def Oe:S:=dR (dR (dR (dR (dR (dR jH.body)))))
theorem Mf(xs:List D)(lo hi:Option Int):fX (.lst xs) lo hi=some (.new (.lst (cut xs lo hi))):=rfl
theorem IV(ns:List Int)(O:bz h g ks ls)(T:aY h g os sts)(Wk:Wt h g ks ls W){run:List D}(hr:∀x∈run,x∈names h g)(hl:run.length<=12)(a4 a5:Sl)(p:Int){x:D}(hx:x∈names h g):∃σ,
  ex (pg.cf 59) Oe [.val (sc ns),.val (au h g ks ls),.val (ao os sts),.val (.lst run),a4,a5,.val (.int p),.val x,.un,.un]=.ret (.val (.bl true)) σ:=by
 obtain⟨r,r1,r2,er⟩:=ir 57 ns 4 8 (by omega) (by omega)
 have wr:∀w∈run,XN w:=fun w hw=>ph (hr w hw)
 have cl:=fun lo hi=>Ph run lo hi
 have f1:fits (run.length+1)=true:=by simp[fits];omega
 have f2:fits ((cut run none (some p)).length+1)=true:=by have:=cl none (some p);simp[fits];omega
 have f3:fits ((cut run none (some p)).length+1+(cut run (some p) none).length)=true:=by have:=cl none (some p);have:=cl (some p) none;simp[fits];omega
 have f4:fits ((cut run none (some p)).length+(cut run (some (p+1)) none).length)=true:=by have:=cl none (some p);have:=cl (some (p+1)) none;simp[fits];omega
 have f8:fits 8=true:=by decide
 have mk:∀d,Bd d->∀i:Int,at? ([.lst (run++[x]),.lst (cut run none (some p)++[x]++cut run (some p) none),.lst (cut run none (some p)++cut run (some (p+1)) none),.lst (run++[.str "zz"]),.lst (run++[.non]),.tup run]++[.non,.lst (run++[.lst [x]])]) r=some d->∃σ,
   ex (pg.cf 59) Oe [.val (sc ns),.val (au h g ks ls),.val (ao os sts),.val (.lst run),a4,a5,.val (.int p),.val x,.un,.un]=.ret (.val (.bl true)) σ:=fun d B i ed=>by
  obtain⟨v,e1,e2,e3⟩:=Pu O T Wk B
  simp only[List.cons_append,List.nil_append,List.append_assoc]at ed
  refine⟨[.val (sc ns),.val (au h g ks ls),.val (ao os sts),.val (.lst run),a4,a5,.val (.int p),.val x,.val (.lst [.lst (run++[x]),.lst (cut run none (some p)++[x]++cut run (some p) none),.lst (cut run none (some p)++cut run (some (p+1)) none),.lst (run++[.str "zz"]),.lst (run++[.non]),.tup run]),.val d],?_⟩
  simp[Oe,dR,jH,aV,Ob.d,cH,E.jg,Mf,f1,f2,f3,f4,f8,er,ed,e1,e2,e3]
 have B0:Bd (.lst (run++[x])):=.inr ⟨_,rfl,fun w hw=>by
  rcases List.mem_append.mp hw with z|z
  ·exact wr w z
  ·rw[List.mem_singleton.mp z];exact ph hx⟩
 have B1:Bd (.lst (cut run none (some p)++[x]++cut run (some p) none)):=.inr ⟨_,rfl,fun w hw=>by
  rcases List.mem_append.mp hw with z|z
  ·rcases List.mem_append.mp z with z|z
   ·exact wr w (o4 z)
   ·rw[List.mem_singleton.mp z];exact ph hx
  ·exact wr w (o4 z)⟩
 have B2:Bd (.lst (cut run none (some p)++cut run (some (p+1)) none)):=.inr ⟨_,rfl,fun w hw=>by
  rcases List.mem_append.mp hw with z|z
  ·exact wr w (o4 z)
  ·exact wr w (o4 z)⟩
 have B3:Bd (.lst (run++[.str "zz"])):=.inr ⟨_,rfl,fun w hw=>by
  rcases List.mem_append.mp hw with z|z
  ·exact wr w z
  ·rw[List.mem_singleton.mp z];exact .inl rfl⟩
 have B4:Bd (.lst (run++[.non])):=.inr ⟨_,rfl,fun w hw=>by
  rcases List.mem_append.mp hw with z|z
  ·exact wr w z
  ·rw[List.mem_singleton.mp z];exact .inl rfl⟩
 have B7:Bd (.lst (run++[.lst [x]])):=.inr ⟨_,rfl,fun w hw=>by
  rcases List.mem_append.mp hw with z|z
  ·exact wr w z
  ·rw[List.mem_singleton.mp z]
   have a:=qb (h:=h) (g:=g) (xs:=[x]) fun y hy=>by rw[List.mem_singleton.mp hy];exact hx
   have b:=qN (h:=h) (g:=g) (xs:=[x]) fun y hy=>by rw[List.mem_singleton.mp hy];exact hx
   exact .inr ⟨a,by show mq [x]+1<=50;omega⟩⟩
 obtain⟨r,rfl⟩:=Int.eq_ofNat_of_zero_le r1
 have rl:r<8:=by omega
 rcases r with _|_|_|_|_|_|_|_|r
 ·exact mk _ B0 0 rfl
 ·exact mk _ B1 0 rfl
 ·exact mk _ B2 0 rfl
 ·exact mk _ B3 0 rfl
 ·exact mk _ B4 0 rfl
 ·exact mk (.tup run) (.inl rfl) 0 rfl
 ·exact mk .non (.inl rfl) 0 rfl
 ·exact mk _ B7 0 rfl
 ·omega
end
theorem math(ns:List Int)(hl:ns.length<=63):∃qs,pg.fn 60 47 [.val (.lst (ns.map .int))]=.ok (.val (.bl true)) qs:=by
 obtain⟨h,g,ks,ls,os,sts,O,T,e⟩:=Pq 50 ns 4 (by omega)
 obtain⟨W,Wk⟩:=XR O
 obtain⟨run,s,q1,q2,q3,q4,q5⟩:=JT 54 ns O T Wk
 have sb:=Bf 49 O T Wk q4
 have ne:=(Ro (H8 (some s))).2
 have ne':aH .ne (aP s) (aP s)=some false:=ne
 have ln:=lN 58 O
 have nl:=dN (g:=g) O.h2 O.g5
 have g1:=O.g1
 obtain⟨p,p1,p2,ep⟩:=ir 57 ns 2 ((run.length:Int)+1) (by omega) (by omega)
 obtain⟨k,k1,k2,ek⟩:=ir 57 ns 3 ((names h g).length:Int) (by omega) (by omega)
 obtain⟨k,rfl⟩:=Int.eq_ofNat_of_zero_le k1
 obtain⟨x,ex_⟩:∃x,(names h g)[k]? =some x:=⟨_,QXq (by omega)⟩
 have hx:x∈names h g:=List.mem_of_getElem? ex_
 have i1:at? (names h g) (k:Int)=some x:=by rw[gk _ _ (by omega),ex_]
 obtain⟨σ,et⟩:=IV ns O T Wk q1 q2 (.val (aP s)) (.own (.lst (names h g))) p hx
 have hb:jH.body=.cons (hdS jH.body) (.cons (hdS (dR jH.body)) (.cons (hdS (dR (dR jH.body))) (.cons (hdS (dR (dR (dR jH.body)))) (.cons (hdS (dR (dR (dR (dR jH.body))))) (.cons (hdS (dR (dR (dR (dR (dR jH.body)))))) Oe))))):=rfl
 refine⟨σ.take 1,?_⟩
 rw[show(60:Nat)=59+1 from rfl,Zf,hb]
 simp[hdS,dR,jH,e,q5,sb,ne',ln,ep,ek,i1,aV,bN,gM,cM,Ob.d,et]
end Tx
end
namespace Tx
open PySem PySem.W L2 Mini
theorem Br{K:QQq}{h:Heap}{N:Addr}{es:Array DictEntry}(ep:Nat)(X:K.In h)(l:K.lookup N=some ⟨.type "dict",none,.dict es ep, #[]⟩)(sk:StrKeys es):h.Ns N (nsFind es):=⟨_,es,ep,X _ _ l,rfl,sk,fun _=>rfl⟩
theorem YG(P:Params):StrKeys (e60 P):=fun e he=>by
 simp only[e60,List.mem_toArray,List.mem_cons,List.not_mem_nil,or_false]at he
 rcases he with rfl|rfl|rfl|rfl<;>exact⟨_,_,rfl⟩
theorem q60(P:Params):∀n∈quietNames,nsFind (e60 P) n=none:=fun n hn=>by
 simp only[quietNames,List.mem_cons,List.not_mem_nil,or_false]at hn
 rcases hn with rfl|rfl|rfl|rfl<;>kernel_rfl
theorem z60(P:Params):∀n∈mX,nsFind (e60 P) n=none:=fun n hn=>by
 simp only[mX,List.mem_cons,List.not_mem_nil,or_false]at hn
 rcases hn with rfl|rfl|rfl<;>kernel_rfl
theorem YH(P:Params):StrKeys (e23 P):=fun e he=>by
 simp only[e23,List.mem_toArray,List.mem_cons,List.not_mem_nil,or_false]at he
 rcases he with rfl|rfl|rfl|rfl|rfl<;>exact⟨_,_,rfl⟩
theorem q23(P:Params):∀n∈quietNames,nsFind (e23 P) n=none:=fun n hn=>by
 simp only[quietNames,List.mem_cons,List.not_mem_nil,or_false]at hn
 rcases hn with rfl|rfl|rfl|rfl<;>kernel_rfl
theorem z23(P:Params):∀n∈mX,nsFind (e23 P) n=none:=fun n hn=>by
 simp only[mX,List.mem_cons,List.not_mem_nil,or_false]at hn
 rcases hn with rfl|rfl|rfl<;>kernel_rfl
theorem HY{P:Params}{mg:QZz}(hm:mg "NoRun"=some (.ref 61))(h:Heap)(X:(Kf P).In h):KY "NoRun" 61 mg h:=
 ⟨hm,_,_,_,_,_,_,_,_,_,_,_,_,_,_,_,_,_,X 61 o61 (by kernel_rfl),Br 2 X (by kernel_rfl) (YG P),q60 P,.own (X 24 o24 (by kernel_rfl)) (Br 3 X (by kernel_rfl) (YH P)) (q23 P) .base⟩
theorem V9{P:Params}(h:Heap)(X:(Kf P).In h):Qe 61 24 37 h:=
 ⟨⟨_,_,_,_,_,_,_,_,_,_,_,_,_,_,_,_,_,_,X 61 o61 (by kernel_rfl),Br 2 X (by kernel_rfl) (YG P),z60 P,.own (X 24 o24 (by kernel_rfl)) (Br 3 X (by kernel_rfl) (YH P)) (z23 P) .base,by decide+kernel,by decide+kernel⟩,⟨_,_,_,X 24 o24 (by kernel_rfl)⟩,⟨_,_,_,X 37 o37 (by kernel_rfl)⟩,by decide,by decide⟩
def cls:Nat->Option Addr
 |1=>some 61
 |_=>none
theorem aaK{P:Params}{mg:QZz}(h1:mg "NoRun"=some (.ref 61)):CV (Kf P) mg cls ["NoRun"]:=⟨rfl,fun k x e=>by
 rcases k with _|k
 ·cases e;exact⟨61,rfl,HY h1⟩
 ·simp at e⟩
theorem bT:∃(p1 a1 a2 a3 p3 p4 p9 u1 u2 u3 u4 u5 u6 u7 u8 u9 u10 u11 u12 u13 u14 u15 u16 u17 u18:Pos)(uk ul:Nat),cJ CG.st=[.Try [.Return (some (.Call (.Name "stand_behind" p1) [.Name "_law_net_here" a1,.Name "_law_talk_here" a2,.Name "_law_run" a3] [] p3)) p4] [.ExceptHandler (some (.Name "NoRun" u16)) (some "e") [.Return (some (.Subscript (.List [.Constant (.int 0) uk u12,.Constant .none ul u13] u14) (.Call (.Name "int" u10) [aax "e" "WaitError" u1 u2 u3 u4 u5 u6 u7 u8 u9] [] u11) u15)) u17] u18] [] [] p9]:=⟨_,_,_,_,_,_,_,_,_,_,_,_,_,_,_,_,_,_,_,_,_,_,_,_,_,_,_,rfl⟩
theorem Uq{X:Cx}{i:Nat}{x:Str}(eN:X.N=CG.N)(eS:X.env.scope=aF CG.st)(h:CG.N[i]? =some x)(l:(aF CG.st).names.lookup x=some .local)(a:(x==("__debug__":Str))=false)(b:(x==("__classdict__":Str))=false):gA X i x:=⟨by rw[eN];exact h,.inl (by rw[eS];exact l),a,b⟩
theorem told{P:Params}{mg:QZz}(h1:mg "NoRun"=some (.ref 61))(hW:mg "WaitError"=some (.ref 24))(m1:mg "isinstance"=none)(m3:mg "ValueError"=none)(m4:mg "int"=none)(Pr:Program)(w:World)(base:Heap)(fr ft:Addr)(fdr fdt:FuncData)(Dr:kI (Kf P) mg Xh fr fdr)(Dt:kI (Kf P) mg CG ft fdt)(S:eG CG.N CG.ps (aF CG.st))(c:Cf)(n:Nat)(G:gm Pr w (Kf P) mg base (K6 Pr w base) n fr fdr Xh.ps (QC (Kf P) Xh.ps.length cls (c.fn 20)))(hn:∀sl,c.fn 20 sl=.bad\/sl.length=Xh.ps.length):
  gm Pr w (Kf P) mg base yF (n+1) ft fdt CG.ps (lE (Kf P) CG.ps.length (eO c tf)):=by
 obtain⟨p1,a1,a2,a3,p3,p4,p9,u1,u2,u3,u4,u5,u6,u7,u8,u9,u10,u11,u12,u13,u14,u15,u16,u17,u18,uk,ul,hb⟩:=bT
 refine Mini.vg (cls:=cls) (ws:=[(1,.non)]) Dt.fu S hb G Dr.at_ Dr.fu.kp Dr.bi (by kernel_rfl) (by decide+kernel) (fun X eN eS=>JL (Uq eN eS (by kernel_rfl) (by kernel_rfl) (by decide+kernel) (by decide+kernel)) (Uq eN eS (by kernel_rfl) (by kernel_rfl) (by decide+kernel) (by decide+kernel)) (Uq eN eS (by kernel_rfl) (by kernel_rfl) (by decide+kernel) (by decide+kernel))) (fun _=>rfl) (fun _=>rfl) hn fun X eK eM eN eS j w hl=>?_
 have gl:∀x:Str,(aF CG.st).names.lookup x=some .globalImplicit->Gl X x:=fun x hx=>by show X.env.scope.names.lookup x=_;rw[eS];exact hx
 have l2:X.env.scope.names.lookup ("e":Str)=some .local:=by rw[eS];kernel_rfl
 have n2:X.N[3]? =some ("e":Str):=by rw[eN];kernel_rfl
 obtain⟨rfl,rfl⟩:=Oc hl
 exact⟨61,.non,rfl,fun _=>rfl,⟨[],_,_,_,_,_,_,_,3,rfl,by rw[eK,eM];exact HY h1,gl _ (by kernel_rfl),by decide+kernel,n2,l2,fun a oe hc=>Ng (Ni (T:=37) (by rw[eK];exact V9) hc n2 (.inl l2) (gl _ (by kernel_rfl)) (gl _ (by kernel_rfl)) (gl _ (by kernel_rfl)) (by rw[eM];exact m1) (by rw[eM];exact hW) (by rw[eM];exact m3) (by decide+kernel) (by decide+kernel) (by decide+kernel)) (gl _ (by kernel_rfl)) (by rw[eM];exact m4),fun h z=>nomatch z⟩⟩
theorem bZ{K:QQq}{x:Str}{st:Stmt}(m:Value)(f c:Addr)(a:PySem.W.nsIn K mainGlobals x=some (some (.ref f)):=by kernel_rfl)(l:K.lookup f=some (fO x st m c):=by kernel_rfl)(q:PySem.W.codeIn K (.ref c) x=true:=by kernel_rfl):K4 K x st:=Mini.dIn a l q (by unfold PySem.W.keepIn;dsimp only;rw[l];rfl)
end Tx
open PySem PySem.W PyProof.Rows
theorem PySem.Challenge.cw_anywait_k05_runs_holds : PySem.Challenge.rw_anywait_k05_runs.Holds := by
 w_on
 refine PySem.W.holds_law (by kernel_rfl) fun said => ?_
 refine PySem.W.holds_open (q := Tx.qV) (loose := Tx.lo) (Xt := fun s => recOk [] s) (XP := fun _ _ => True) (Yf := Hook.obs Tx.Kh) (Ya := Hook.val Tx.Kh) (YP := Hook.says Tx.Kh) (N := 4874) Tx.hl (Hook.of Tx.Kh) (Hook.keeps Tx.Kh) (fun _ _ => trivial) (fun _ _ _ _ _ => trivial) (by rfl) (by rfl) (by rfl) (fun s e => recFacts_of e) (by rfl) said (by decide +kernel) ⟨rfl, rfl, rfl, rfl, rfl, by decide +kernel⟩ ?hw ?hc
 case hw => w_witness2
 case hc =>
  refine Mini.Gk (p := Tx.pg) (L := 47) (y := "_law_script") (l := PySem.Challenge.rw_anywait_k05_runs) rfl rfl (fun w h Y => PySem.W.kIn_of Y) Tx.math ?qF
  intro w mg fa h KX G hmg
  refine Mini.Ku (t := 46) (r := 20) (dL := Tx.d47) (dr := Tx.Xh) (dt := Tx.CG) (tf := Tx.tf) (cls := Tx.cls) KX G hmg rfl rfl rfl Tx.bd Tx.scp Tx.GD ?qA ?qB ?qZ (by decide) rfl rfl rfl (Tx.aaK (PySem.W.mg_of KX G (by kernel_rfl))) (Tx.told (PySem.W.mg_of KX G (by kernel_rfl)) (PySem.W.mg_of KX G (by kernel_rfl)) (PySem.W.mg_none_of KX G (by kernel_rfl)) (PySem.W.mg_none_of KX G (by kernel_rfl)) (PySem.W.mg_none_of KX G (by kernel_rfl)))
  case qA =>
   show Mini.AllIn _ Tx.nms
   exact ⟨Tx.bZ Tx.jQ 71 70, Tx.bZ Tx.jQ 76 75, Tx.bZ Tx.jQ 81 80, Tx.bZ Tx.jQ 88 87, Tx.bZ Tx.jQ 95 94, Tx.bZ Tx.jQ 100 99, Tx.bZ Tx.jQ 105 104, Tx.bZ Tx.jQ 110 109, Tx.bZ Tx.jQ 117 116, Tx.bZ Tx.jQ 122 121, Tx.bZ Tx.jQ 127 126, Tx.bZ Tx.jQ 134 133, Tx.bZ Tx.jQ 141 140, Tx.bZ Tx.jQ 146 145, Tx.bZ Tx.jQ 151 150, Tx.bZ Tx.jQ 156 155, Tx.bZ Tx.jQ 163 162, Tx.bZ Tx.W4 170 169, Tx.bZ Tx.W4 175 174, Tx.bZ Tx.W4 180 179, Tx.bZ Tx.Gd 187 186, Tx.bZ Tx.Gd 194 193, Tx.bZ Tx.Gd 199 198, Tx.bZ Tx.Gd 206 205, Tx.bZ Tx.Gd 213 212, Tx.bZ Tx.Gd 218 217, Tx.bZ Tx.gF 225 224, Tx.bZ Tx.gF 232 231, Tx.bZ Tx.gF 239 238, Tx.bZ Tx.gF 246 245, Tx.bZ Tx.gF 251 250, Tx.bZ Tx.gF 258 257, Tx.bZ Tx.gF 263 262, Tx.bZ Tx.gF 268 267, Tx.bZ Tx.gF 273 272, Tx.bZ Tx.gF 280 279, Tx.bZ Tx.gF 287 286, Tx.bZ Tx.gF 292 291, Tx.bZ Tx.gF 299 298, Tx.bZ Tx.gF 304 303, Tx.bZ Tx.gF 309 308, Tx.bZ Tx.gF 314 313, Tx.bZ Tx.gF 319 318, Tx.bZ Tx.gF 324 323, Tx.bZ Tx.gF 331 330, Tx.bZ Tx.gF 338 337, Tx.bZ Tx.gF 345 344, Tx.bZ Tx.gF 352 351, trivial⟩
  case qB => exact ⟨.v (u := .str "abcdefghijklmnopqrstuvwxyz" 257) (by kernel_rfl) (by decide +kernel), .v (u := .int 6 259) (by kernel_rfl) (by decide +kernel), .t (a := 64) (o := Tx.o64) (by kernel_rfl) (by kernel_rfl) (by decide +kernel), .v (u := .int 3 276) (by kernel_rfl) (by decide +kernel), .v (u := .int 5 278) (by kernel_rfl) (by decide +kernel), .v (u := .int 4 280) (by kernel_rfl) (by decide +kernel), .v (u := .int 8 282) (by kernel_rfl) (by decide +kernel), .v (u := .int 3 284) (by kernel_rfl) (by decide +kernel), .v (u := .int 12 412) (by kernel_rfl) (by decide +kernel), trivial⟩
  case qZ => exact ⟨by kernel_rfl, by kernel_rfl, by kernel_rfl, by kernel_rfl, by kernel_rfl, by kernel_rfl, by kernel_rfl, by kernel_rfl, by kernel_rfl, by kernel_rfl, by kernel_rfl, by kernel_rfl, by kernel_rfl, trivial⟩