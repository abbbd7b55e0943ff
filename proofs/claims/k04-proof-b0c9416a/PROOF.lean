import PyProof.Rows.All
import Wide.All
import OpenK.AllK
import Wide.FinOn
import PySem.Syntax
import Lean
import PyProof.EqAt
import PyProof.EqKinds
import PyProof.TupleCall
import PyProof.TupleKey
import PyProof.DictRoadsH
import Wide.Seal
import KE.KDictList
import KE.KSortAsk
import PyProof.ListMulAny
import PyProof.FactsAll.tuple_2
import PyProof.NeData
import PyProof.P3In
import KE.KSortTup
import PyProof.DictUpdate
import PyProof.DictCopy
import PyProof.CompFree
import PyProof.Rows.CatchOwn
import OpenK.KRaise
import PyProof.ExcBaseAll.ValueError
import PyProof.ExcAttrAll.ValueError
import PyProof.IsiH_tuple
import PyProof.StrOps2
import PySem.Challenge.RW_anywait_k04_stands
set_option linter.all false
set_option Elab.async false
set_option maxRecDepth 100000
set_option maxHeartbeats 0
abbrev QQq:=PySem.W.Frag
abbrev QQz:=List (PySem.Addr×PySem.Obj)
abbrev QZq:=PySem.Value→PySem.Shared→Prop
abbrev QZz:=PySem.Str→Option PySem.Value
def QJq:=@Option.bind_eq_some_iff
def QJz:=@Option.map_eq_some_iff
def QYq:=@List.mem_cons_of_mem
def QYz:=@List.mem_cons_self
def QXq:=@List.getElem?_eq_getElem
def QXz:=@List.mem_append
def QWq:=@PySem.Heap.get?_push_of_some
def QWz:=@List.mem_append_left
def QVq:=@List.mem_append_right
def QVz:=@Nat.le_refl
def QUq:=@Bool.and_eq_true
def QUz:=@decide_eq_true_eq
def QTq:=@List.length_append
def QTz:=@List.mem_map_of_mem
def QKq:=@PySem.wpAny_bind
def QKz:=@PySem.wpAny_pure
def QGq:=@PySem.wpAny_mono
def QGz:=@PySem.wpAny_field
def Qqq:=@PySem.wpAny_holding
def Qqz:=@PySem.Heap.lt_size
def Qzq:=@PySem.Heap.get?_push_size
def Qzz:=@PySem.wpAny_call_entry
def Qjq:=@PySem.wpAny_newObj_type
def Qjz:=@Bool.false_ne_true
def Qyq:=@List.size_toArray
def Qyz:=@List.map_cons
def Qxq:=@Bool.false_eq_true
def Qxz:=@List.getElem?_set_ne
def Qwq:=@List.getElem?_set_self
def Qwz:=@List.getElem?_append_left
def Qvq:=@Nat.lt_of_lt_of_le
def Qvz:=@Nat.ne_of_lt
def QAq:=@List.length_map
def QAz:=@List.not_mem_nil
def QBq:=@List.length_cons
def QBz:=@List.mem_of_getElem?
def QCq:=@List.mem_cons
def QCz:=@List.getElem?_eq_some_iff
def QDq:=@List.mem_map
def QDz:=@List.mem_singleton
def QEq:=@Option.some.inj
def QEz:=@decide_eq_false
def QFq:=@decide_eq_true
def QFz:=@List.getElem?_map
def QHq:=@Option.bind_some
def QHz:=@List.lookup_cons
def QIq:=@Nat.zero_le
def QIz:=@List.getElem?_append_right
section
namespace L2
open PySem
def dF(s:Stmt):Arguments:=match s with
 |.FunctionDef _ a _ _ _ _ _ _ _ _=>a
 |_=>{posonlyargs:=[],args:=[],vararg:=none,kwonlyargs:=[],kw_defaults:=[],kwarg:=none,defaults:=[]}
def dD(s:Stmt):List Stmt:=match s with
 |.FunctionDef _ _ b _ _ _ _ _ _ _=>b
 |_=>[]
def aX(s:Stmt):Scope:=match s with
 |.FunctionDef _ _ _ _ _ _ sc _ _ _=>sc
 |_=>{kind:=.function,names:=[],isGenerator:=false,isCoroutine:=false}
end L2
end
section
namespace Tx
open PySem PySem.W L2 PyProof.Rows
def top(i:Nat):Stmt:=PySem.Challenge.pw_anywait_k04_stands.main.body.getD i (.Pass ⟨0,0,0,0⟩)
abbrev s0:Stmt:=top 13
abbrev s1:Stmt:=top 14
abbrev s2:Stmt:=top 15
abbrev s3:Stmt:=top 16
abbrev s4:Stmt:=top 17
abbrev s5:Stmt:=top 18
abbrev s6:Stmt:=top 19
abbrev s7:Stmt:=top 20
abbrev s8:Stmt:=top 21
abbrev s9:Stmt:=top 22
abbrev s10:Stmt:=top 23
abbrev s11:Stmt:=top 24
abbrev s12:Stmt:=top 25
abbrev s13:Stmt:=top 26
abbrev s14:Stmt:=top 27
abbrev s15:Stmt:=top 28
abbrev s16:Stmt:=top 29
abbrev s17:Stmt:=top 32
abbrev s18:Stmt:=top 33
abbrev s19:Stmt:=top 34
abbrev s20:Stmt:=top 36
abbrev s21:Stmt:=top 37
abbrev s22:Stmt:=top 38
abbrev s23:Stmt:=top 39
abbrev s24:Stmt:=top 40
abbrev s25:Stmt:=top 41
abbrev s26:Stmt:=top 42
abbrev s27:Stmt:=top 43
abbrev s28:Stmt:=top 45
abbrev s29:Stmt:=top 46
abbrev s30:Stmt:=top 47
abbrev s31:Stmt:=top 48
abbrev s32:Stmt:=top 49
abbrev s33:Stmt:=top 50
abbrev s34:Stmt:=top 51
abbrev s35:Stmt:=top 52
abbrev s36:Stmt:=top 53
abbrev s37:Stmt:=top 54
abbrev s38:Stmt:=top 55
abbrev s39:Stmt:=top 56
abbrev s40:Stmt:=top 57
abbrev s41:Stmt:=top 58
abbrev s42:Stmt:=top 59
abbrev s43:Stmt:=top 60
abbrev s44:Stmt:=top 61
abbrev s45:Stmt:=top 62
abbrev s46:Stmt:=top 63
abbrev s47:Stmt:=top 64
def gE(P:Params)(x:Str)(i:Nat)(v:Value):DictEntry:=⟨PyData.keyHash P x,.str x i,v⟩
def fO(x:Str)(st:Stmt)(m:Value)(c:Addr):Obj:=⟨.type "function",none,.func (PySem.W.fnOf x x (dF st) (dD st) (aX st) .none .none .none m none (.ref c) .none), #[]⟩
def cO(x:Str)(a:Nat)(l n:Int)(r s:Nat)(u v:Value)(t:Nat)(q:Int)(z:Nat):Obj:=⟨.type "code",none,.fields #[.str x a,.str x (a+1),.str "/claim/cut.py" (a+2),.int l 0,.int n 0,.int 0 0,.int 0 0,.int 3 0,.ref r,.bool true,.int 181 0,.ref s,.none,u,v,.ref t,.int q 0,.int l 0,.str "/claim/cut.py" z], #[]⟩
def jG:Value:=.str "anywait.nets" 239
def yG:Value:=.str "anywait.stands" 418
def Xv:Value:=.str "anywait.talks" 394
def gZ:Value:=.str "law_anywait_k04_stands" 491
def o52:Obj:=⟨.type "tuple",none,.seq #[.str "input" 245,.str "gate" 246,.str "start" 247,.str "out" 248,.str "state" 249,.str "same" 250,.str "not" 251,.str "and" 252,.str "or" 253,.str "both" 254,.str "held" 255,.str "table" 256,.str "on" 257,.str "off" 258], #[]⟩
def Kf(P:Params):QQq:=[(3,⟨.type "dict",none,.dict #[gE P "__name__" 165 (.str "law_anywait_k04_stands" 491),gE P "__doc__" 166 .none,gE P "__package__" 167 .none,gE P "__loader__" 168 (.builtin "__main__.__loader__#opaque"),gE P "__spec__" 169 .none,gE P "__annotations__" 170 (.ref 6),gE P "__builtins__" 171 (.ref 4),gE P "__file__" 173 (.str "/claim/cut.py" 172),gE P "__cached__" 174 .none,gE P "WaitError" 206 (.ref 24),gE P "NoNet" 222 (.ref 37),gE P "NoTalk" 238 (.ref 49),gE P "LETTERS" 242 (.str "abcdefghijklmnopqrstuvwxyz" 241),gE P "LONGEST_NAME" 244 (.int 6 243),gE P "WORDS" 259 (.ref 52),gE P "MOST_INPUTS" 261 (.int 3 260),gE P "MOST_GATES" 263 (.int 5 262),gE P "MOST_WIRES" 265 (.int 4 264),gE P "MOST_TABLE_WIRES" 267 (.int 8 266),gE P "DEEPEST_HELD" 269 (.int 3 268),gE P "checked" 276 (.ref 59),gE P "is_net" 282 (.ref 64),gE P "has_parts" 288 (.ref 69),gE P "is_tuple" 297 (.ref 76),gE P "is_number" 306 (.ref 83),gE P "is_name" 312 (.ref 88),gE P "are_unlike" 318 (.ref 93),gE P "is_row" 324 (.ref 98),gE P "is_wire" 332 (.ref 105),gE P "are_wires" 338 (.ref 110),gE P "are_rows" 344 (.ref 115),gE P "is_kind" 355 (.ref 122),gE P "is_held" 364 (.ref 129),gE P "wire_names" 370 (.ref 134),gE P "waiting_gates" 376 (.ref 139),gE P "told" 382 (.ref 144),gE P "told_held" 393 (.ref 151),gE P "MOST_STATES" 397 (.int 12 396),gE P "checked_talk" 405 (.ref 158),gE P "is_talk" 411 (.ref 163),gE P "is_state" 417 (.ref 168),gE P "steps" 428 (.ref 175),gE P "stands" 438 (.ref 182),gE P "first_stand" 445 (.ref 189),gE P "steps_at" 451 (.ref 194),gE P "is_unasked" 460 (.ref 201),gE P "led_to" 471 (.ref 208),gE P "changed" 477 (.ref 213),gE P "newly_met" 490 (.ref 220),gE P "_law_cell_at" 500 (.ref 227),gE P "_law_mixed" 510 (.ref 234),gE P "_law_next" 519 (.ref 241),gE P "_law_some" 531 (.ref 248),gE P "_law_table" 537 (.ref 253),gE P "_law_kind" 549 (.ref 260),gE P "_law_net" 555 (.ref 265),gE P "_law_talk" 561 (.ref 270),gE P "_law_ring" 567 (.ref 275),gE P "_law_chain" 581 (.ref 282),gE P "_law_meeting" 595 (.ref 289),gE P "_law_spoilt_kind" 601 (.ref 294),gE P "_law_case" 613 (.ref 301),gE P "_law_names" 619 (.ref 306),gE P "_law_tells" 625 (.ref 311),gE P "_law_waiting" 631 (.ref 316),gE P "_law_steps" 637 (.ref 321),gE P "_law_led" 643 (.ref 326),gE P "_law_stands" 656 (.ref 333),gE P "law" 668 (.ref 340)] 69, #[]⟩),
 (59,fO "checked" s0 jG 58),
 (58,cO "checked" 270 17 1 53 54 (.ref 55) (.ref 56) 57 274 275),
 (64,fO "is_net" s1 jG 63),
 (63,cO "is_net" 277 21 1 60 61 .none .none 62 280 281),
 (69,fO "has_parts" s2 jG 68),
 (68,cO "has_parts" 283 28 1 65 66 .none .none 67 286 287),
 (76,fO "is_tuple" s3 jG 75),
 (75,cO "is_tuple" 289 32 3 70 71 (.ref 72) (.ref 73) 74 295 296),
 (83,fO "is_number" s4 jG 82),
 (82,cO "is_number" 298 34 3 77 78 (.ref 79) (.ref 80) 81 304 305),
 (88,fO "is_name" s5 jG 87),
 (87,cO "is_name" 307 36 1 84 85 .none .none 86 310 311),
 (93,fO "are_unlike" s6 jG 92),
 (92,cO "are_unlike" 313 40 1 89 90 .none .none 91 316 317),
 (98,fO "is_row" s7 jG 97),
 (97,cO "is_row" 319 42 2 94 95 .none .none 96 322 323),
 (105,fO "is_wire" s8 jG 104),
 (104,cO "is_wire" 325 44 2 99 100 (.ref 101) (.ref 102) 103 330 331),
 (110,fO "are_wires" s9 jG 109),
 (109,cO "are_wires" 333 46 4 106 107 .none .none 108 336 337),
 (115,fO "are_rows" s10 jG 114),
 (114,cO "are_rows" 339 50 2 111 112 .none .none 113 342 343),
 (122,fO "is_kind" s11 jG 121),
 (121,cO "is_kind" 345 54 3 116 117 (.ref 118) (.ref 119) 120 353 354),
 (129,fO "is_held" s12 jG 128),
 (128,cO "is_held" 356 70 3 123 124 (.ref 125) (.ref 126) 127 362 363),
 (134,fO "wire_names" s13 jG 133),
 (133,cO "wire_names" 365 72 1 130 131 .none .none 132 368 369),
 (139,fO "waiting_gates" s14 jG 138),
 (138,cO "waiting_gates" 371 74 2 135 136 .none .none 137 374 375),
 (144,fO "told" s15 jG 143),
 (143,cO "told" 377 77 3 140 141 .none .none 142 380 381),
 (151,fO "told_held" s16 jG 150),
 (150,cO "told_held" 383 93 3 145 146 (.ref 147) (.ref 148) 149 391 392),
 (158,fO "checked_talk" s17 Xv 157),
 (157,cO "checked_talk" 398 99 2 152 153 (.ref 154) (.ref 155) 156 403 404),
 (163,fO "is_talk" s18 Xv 162),
 (162,cO "is_talk" 406 103 2 159 160 .none .none 161 409 410),
 (168,fO "is_state" s19 Xv 167),
 (167,cO "is_state" 412 111 3 164 165 .none .none 166 415 416),
 (175,fO "steps" s20 yG 174),
 (174,cO "steps" 420 118 3 169 170 (.ref 171) (.ref 172) 173 426 427),
 (182,fO "stands" s21 yG 181),
 (181,cO "stands" 429 120 2 176 177 (.ref 178) (.ref 179) 180 436 437),
 (189,fO "first_stand" s22 yG 188),
 (188,cO "first_stand" 439 127 1 183 184 (.ref 185) (.ref 186) 187 443 444),
 (194,fO "steps_at" s23 yG 193),
 (193,cO "steps_at" 446 129 3 190 191 .none .none 192 449 450),
 (201,fO "is_unasked" s24 yG 200),
 (200,cO "is_unasked" 452 132 3 195 196 (.ref 197) (.ref 198) 199 458 459),
 (208,fO "led_to" s25 yG 207),
 (207,cO "led_to" 461 134 4 202 203 (.ref 204) (.ref 205) 206 469 470),
 (213,fO "changed" s26 yG 212),
 (212,cO "changed" 472 139 3 209 210 .none .none 211 475 476),
 (220,fO "newly_met" s27 yG 219),
 (219,cO "newly_met" 478 141 4 214 215 (.ref 216) (.ref 217) 218 488 489),
 (227,fO "_law_cell_at" s28 gZ 226),
 (226,cO "_law_cell_at" 493 150 2 221 222 (.ref 223) (.ref 224) 225 498 499),
 (234,fO "_law_mixed" s29 gZ 233),
 (233,cO "_law_mixed" 501 156 3 228 229 (.ref 230) (.ref 231) 232 508 509),
 (241,fO "_law_next" s30 gZ 240),
 (240,cO "_law_next" 511 159 3 235 236 (.ref 237) (.ref 238) 239 517 518),
 (248,fO "_law_some" s31 gZ 247),
 (247,cO "_law_some" 520 162 5 242 243 (.ref 244) (.ref 245) 246 529 530),
 (253,fO "_law_table" s32 gZ 252),
 (252,cO "_law_table" 532 167 3 249 250 .none .none 251 535 536),
 (260,fO "_law_kind" s33 gZ 259),
 (259,cO "_law_kind" 538 173 4 254 255 (.ref 256) (.ref 257) 258 547 548),
 (265,fO "_law_net" s34 gZ 264),
 (264,cO "_law_net" 550 183 4 261 262 .none .none 263 553 554),
 (270,fO "_law_talk" s35 gZ 269),
 (269,cO "_law_talk" 556 189 4 266 267 .none .none 268 559 560),
 (275,fO "_law_ring" s36 gZ 274),
 (274,cO "_law_ring" 562 197 2 271 272 .none .none 273 565 566),
 (282,fO "_law_chain" s37 gZ 281),
 (281,cO "_law_chain" 568 203 2 276 277 (.ref 278) (.ref 279) 280 579 580),
 (289,fO "_law_meeting" s38 gZ 288),
 (288,cO "_law_meeting" 582 214 2 283 284 (.ref 285) (.ref 286) 287 593 594),
 (294,fO "_law_spoilt_kind" s39 gZ 293),
 (293,cO "_law_spoilt_kind" 596 228 3 290 291 .none .none 292 599 600),
 (301,fO "_law_case" s40 gZ 300),
 (300,cO "_law_case" 602 234 2 295 296 (.ref 297) (.ref 298) 299 611 612),
 (306,fO "_law_names" s41 gZ 305),
 (305,cO "_law_names" 614 254 1 302 303 .none .none 304 617 618),
 (311,fO "_law_tells" s42 gZ 310),
 (310,cO "_law_tells" 620 256 3 307 308 .none .none 309 623 624),
 (316,fO "_law_waiting" s43 gZ 315),
 (315,cO "_law_waiting" 626 274 2 312 313 .none .none 314 629 630),
 (321,fO "_law_steps" s44 gZ 320),
 (320,cO "_law_steps" 632 277 3 317 318 .none .none 319 635 636),
 (326,fO "_law_led" s45 gZ 325),
 (325,cO "_law_led" 638 281 4 322 323 .none .none 324 641 642),
 (333,fO "_law_stands" s46 gZ 332),
 (332,cO "_law_stands" 644 290 2 327 328 (.ref 329) (.ref 330) 331 654 655),
 (340,fO "law" s47 gZ 339),
 (339,cO "law" 657 302 1 334 335 (.ref 336) (.ref 337) 338 666 667),
 (52,o52)]
def Ka:List Addr:=[3,59,58,64,63,69,68,76,75,83,82,88,87,93,92,98,97,105,104,110,109,115,114,122,121,129,128,134,133,139,138,144,143,151,150,158,157,163,162,168,167,175,174,182,181,189,188,194,193,201,200,208,207,213,212,220,219,227,226,234,233,241,240,248,247,253,252,260,259,265,264,270,269,275,274,282,281,289,288,294,293,301,300,306,305,311,310,316,315,321,320,326,325,333,332,340,339,52]
theorem Ke(P:Params):Ka=(Kf P).map (·.1):=rfl
abbrev Kh:PySem.W.Hook:=PySem.W.kHook Kf Ka Ke
def lo:List Str:="__name__"::"WaitError"::"NoNet"::"NoTalk"::"LETTERS"::"LONGEST_NAME"::"WORDS"::"MOST_INPUTS"::"MOST_GATES"::"MOST_WIRES"::"MOST_TABLE_WIRES"::"DEEPEST_HELD"::"checked"::"is_net"::"has_parts"::"is_tuple"::"is_number"::"is_name"::"are_unlike"::"is_row"::"is_wire"::"are_wires"::"are_rows"::"is_kind"::"is_held"::"wire_names"::"waiting_gates"::"told"::"told_held"::"MOST_STATES"::"checked_talk"::"is_talk"::"is_state"::"steps"::"stands"::"first_stand"::"steps_at"::"is_unasked"::"led_to"::"changed"::"newly_met"::"_law_cell_at"::"_law_mixed"::"_law_next"::"_law_some"::"_law_table"::"_law_kind"::"_law_net"::"_law_talk"::"_law_ring"::"_law_chain"::"_law_meeting"::"_law_spoilt_kind"::"_law_case"::"_law_names"::"_law_tells"::"_law_waiting"::"_law_steps"::"_law_led"::"_law_stands"::[]
def qV:Program:=view PySem.Challenge.pw_anywait_k04_stands [64]
theorem hl:LeftO PySem.Challenge.pw_anywait_k04_stands qV lo (fun s=>recOk [] s) (Hook.obs Kh) (Hook.val Kh) 4430:=fun w=>by
 rw[PySem.W.Fast.te4187177175401517315,PySem.W.Fast.te5923862056798008813,PySem.W.Fast.te14364793385576792824]
 kernel_rfl
end Tx
end
section
namespace L2
open PySem PySem.Spec PyProof.Rows
abbrev Key:=Sum Int Str
def ug:Key->Value->Bool
 |.inl k,v=>Value.isInt k v
 |.inr x,v=>Value.isStrOf x v
def aej(w:World):Key->Int
 |.inl k=>hashInt k
 |.inr x=>hashStr w x
theorem cj:∀{k:Key}{v:Value},ug k v=true->(∃i t,k=Sum.inl i/\v=Value.int i t)\/(∃x t,k=Sum.inr x/\v=Value.str x t)
 |.inl i,v,h=>by
  obtain⟨t,e⟩:=Value.isInt_shape (k:=i) (v:=v) h
  exact .inl ⟨i,t,rfl,e⟩
 |.inr x,v,h=>by
  obtain⟨t,e⟩:=Value.isStrOf_shape (x:=x) (v:=v) h
  exact .inr ⟨x,t,rfl,e⟩
theorem FJ(i:Int)(t:Tok):ug (.inl i) (.int i t)=true:=by simp[ug,Value.isInt]
theorem Fz(x:Str)(t:Tok):ug (.inr x) (.str x t)=true:=by simp[ug,Value.isStrOf]
theorem Vn(a b:Int):decide ((Sum.inl a:Key)=Sum.inl b)=(a==b):=by
 by_cases e:a=b
 ·subst e;simp
 ·have h:¬(Sum.inl a:Key)=Sum.inl b:=fun q=>e (Sum.inl.inj q)
  rw[QEz h]
  exact(beq_eq_false_iff_ne.mpr e).symm
theorem Vk(a b:Str):decide ((Sum.inr a:Key)=Sum.inr b)=decide (a=b):=by
 by_cases e:a=b
 ·subst e;simp
 ·have h:¬(Sum.inr a:Key)=Sum.inr b:=fun q=>e (Sum.inr.inj q)
  rw[QEz h,QEz e]
theorem Vm(a:Int)(b:Str):decide ((Sum.inl a:Key)=Sum.inr b)=false:=QEz (fun q=>nomatch q)
theorem Vl(a:Str)(b:Int):decide ((Sum.inr a:Key)=Sum.inl b)=false:=QEz (fun q=>nomatch q)
def bN(prog:Program)(w:World):PySem.KeyKind prog w Key where
 is:=ug
 hash:=aej w
 inj:=fun v a b ha hb=>by
  rcases cj ha with ⟨i,t,rfl,rfl⟩|⟨x,t,rfl,rfl⟩
  ·rcases cj hb with ⟨j,u,rfl,e⟩|⟨y,u,rfl,e⟩
   ·injection e with e1 _;rw[e1]
   ·exact nomatch e
  ·rcases cj hb with ⟨j,u,rfl,e⟩|⟨y,u,rfl,e⟩
   ·exact nomatch e
   ·injection e with e1 _;rw[e1]
 byValue:=fun k v h=>by
  rcases cj h with ⟨i,t,rfl,rfl⟩|⟨x,t,rfl,rfl⟩<;>rfl
 pyHash:=fun hv h=>by
  rcases cj hv with ⟨i,t,rfl,rfl⟩|⟨x,t,rfl,rfl⟩
  ·exact wpAny_pyHash_int h
  ·exact wpAny_pyHash_str h
 eqBool:=fun hu hv h=>by
  rcases cj hu with ⟨i,t,rfl,rfl⟩|⟨x,t,rfl,rfl⟩
  ·rcases cj hv with ⟨j,u,rfl,rfl⟩|⟨y,u,rfl,rfl⟩
   ·rw[Vn]at h;exact wpAny_eqBool_int h
   ·rw[Vm]at h;exact SeqAt.EqAt.int_str i t y u _ _ _ _ h
  ·rcases cj hv with ⟨j,u,rfl,rfl⟩|⟨y,u,rfl,rfl⟩
   ·rw[Vl]at h;exact SeqAt.EqAt.str_int x t j u _ _ _ _ h
   ·rw[Vk]at h;exact wpAny_eqBool_str h
 «strs»:=fun k x t v h=>by
  rcases cj h with ⟨i,u,rfl,e⟩|⟨y,u,rfl,e⟩
  ·exact nomatch e
  ·injection e with e1 _
   subst e1
   cases v<;>rfl
theorem xx(prog:Program)(w:World)(i:Int)(t:Tok):(bN prog w).is (.inl i) (.int i t)=true:=FJ i t
theorem xu(prog:Program)(w:World)(x:Str)(t:Tok):(bN prog w).is (.inr x) (.str x t)=true:=Fz x t
inductive V where
 |non|bl (b:Bool)|int (i:Int)|str (x:Str)|byt (b:Array UInt8)|flt (b:UInt64)|ref (a:Addr)|ty (n:String)
 deriving DecidableEq
def RelV:V->Value->Prop
 |.non,u=>u=Value.none
 |.bl b,u=>u=Value.bool b
 |.int i,u=>∃t,u=Value.int i t
 |.str x,u=>∃t,u=Value.str x t
 |.byt b,u=>∃t,u=Value.bytes b t
 |.flt b,u=>∃t,u=Value.float b t
 |.ref a,u=>u=Value.ref a
 |.ty n,u=>u=Value.type n
abbrev Vals:List V->List Value->Prop:=Paired RelV
theorem Vals.length{xs:List V}{us:List Value}(r:Vals xs us):xs.length=us.length:=Paired.length r
theorem Vals.get:∀{xs:List V}{us:List Value}{i:Nat}{x:V},Vals xs us->xs[i]? =some x->∃u,us[i]? =some u/\RelV x u
 |_,_,_,_,.nil=>fun e=>by simp at e
 |_,_,0,_,.cons r _=>fun e=>by simp at e;subst e;exact⟨_,rfl,r⟩
 |_,_,i+1,x,.cons _ t=>fun e=>by
  obtain⟨u,h1,h2⟩:=Vals.get (i:=i) (x:=x) t (by simpa using e)
  exact⟨u,by simpa using h1,h2⟩
theorem Vals.set{x:V}{u:Value}(r:RelV x u):∀{xs:List V}{us:List Value}(i:Nat),Vals xs us->Vals (xs.set i x) (us.set i u)
 |_,_,_,.nil=>.nil
 |_,_,0,.cons _ t=>.cons r t
 |_,_,i+1,.cons q t=>.cons q (Vals.set r i t)
theorem Vals.append:∀{xs ys:List V}{us ws:List Value},Vals xs us->Vals ys ws->Vals (xs++ys) (us++ws)
 |_,_,_,_,.nil=>fun s=>s
 |_,_,_,_,.cons r t=>fun s=>.cons r (Vals.append t s)
theorem Vals.take:∀{xs:List V}{us:List Value}(n:Nat),Vals xs us->Vals (xs.take n) (us.take n)
 |_,_,0,_=>.nil
 |_,_,_+1,.nil=>.nil
 |_,_,n+1,.cons r t=>.cons r (Vals.take n t)
theorem Vals.drop:∀{xs:List V}{us:List Value}(n:Nat),Vals xs us->Vals (xs.drop n) (us.drop n)
 |_,_,0,r=>r
 |_,_,_+1,.nil=>.nil
 |_,_,n+1,.cons _ t=>Vals.drop n t
def lZ:Option V->Option Value->Prop
 |some v,some u=>RelV v u
 |none,none=>True
 |_,_=>False
def KV{κ:Type}:List (κ×V)->List (κ×Value)->Prop:=Paired fun(p:κ×V)(q:κ×Value)=>p.1=q.1/\RelV p.2 q.2
def kV:Key->V
 |.inl i=>.int i
 |.inr x=>.str x
abbrev SK:=List Bool×Int
abbrev SV:=SK×Addr×V
def bh(b:Bool):Int:=reduceHash (if b then 1 else 0)
def stH(k:SK):Int:=reduceHash (Builtin.Tuple.tupleHashOf [reduceHash (Builtin.Tuple.tupleHashOf (k.1.map bh)),hashInt k.2])
abbrev LR:SV->SK×Addr×Value->Prop:=fun p q=>p.1=q.1/\p.2.1=q.2.1/\RelV p.2.2 q.2.2
inductive HO where
 |lst (xs:List V)
 |tup (xs:List V)
 |dK (kvs:List (Key×V))|dT (kvs:List (List Key×V))|dS (xs:List SV)
 |set (S:Int->Bool) (n:Nat)
 |ins (C dx:Addr) (fs:List (Str×V))
 |own (x:Addr)
 |xd (fs:List (Str×V))
 |met (f x:Addr)
 |rng (lo hi:Int)
 |frz (o:Obj) (u:HO)
 |tbl (ps:Array Value)
 |ext (φ:Heap->Prop)
abbrev Hp:=Addr->Option HO
def upd(H:Hp)(a:Addr)(o:HO):Hp:=fun b=>if b=a then some o else H b
theorem aU{H:Hp}{a:Addr}{o:HO}:upd H a o a=some o:=by unfold upd;rw[if_pos rfl]
theorem aG{H:Hp}{a b:Addr}{o:HO}(h:b≠a):upd H a o b=H b:=by unfold upd;rw[if_neg h]
theorem aaj{H:Hp}{a b:Addr}{o u:HO}(h:H a=some o)(h':H b=some u)(d:o≠u):a≠b:=by
 intro e;subst e;rw[h]at h';exact d (QEq h')
theorem fU{H:Hp}{a b:Addr}{o:HO}(h:H a=some o)(h':H b=none):a≠b:=by
 intro e;subst e;rw[h]at h';cases h'
def TupOk(h:Heap)(a:Addr)(items:Array Value):Prop:=∃o,h.get? a=some o/\o.cls=.type "tuple"/\o.dict=none/\∃n,o.data=.seq items n
theorem TupOk.is{h:Heap}{a:Addr}{items:Array Value}(x:TupOk h a items):IsTup h a items:=let ⟨o,e,c,_,d⟩:=x;⟨o,e,c,d⟩
theorem TupOk.new(h:Heap)(items:Array Value):TupOk (h.push {cls:=.type "tuple",data:=.seq items}) h.objs.size items:=⟨_,Qzq _ rfl,rfl,rfl,_,rfl⟩
section
variable(P:Program)(w:World)
def bU(H:Hp)(h:Heap)(a:Addr):HO->Prop
 |.lst xs=>xs.length<=sizeLine/\∃(its:List Value)(n:Nat),Vals xs its/\h.get? a=some {cls:=.type "list",data:=.seq its.toArray n}
 |.tup xs=>xs.length<=sizeLine/\∃its:List Value,Vals xs its/\TupOk h a its.toArray
 |.dK kvs=>kvs.length<=sizeLine/\(a==sysModules)=false/\∃vs,KV kvs vs/\h.DictOf (bN P w) a vs
 |.dT kvs=>kvs.length<=sizeLine/\(a==sysModules)=false/\∃xs:List (List Key×Addr×Value),
   Paired (fun(p:List Key×V)(q:List Key×Addr×Value)=>p.1=q.1/\H q.2.1=some (.tup (p.1.map kV))/\RelV p.2 q.2.2) kvs xs/\
   ∃o es ep,h.get? a=some o/\o.ExactDict/\o.data=.dict es ep/\es.toList=xs.map (entryOfKey (tupleKind (bN P w)))/\(xs.map (·.1)).Nodup
 |.dS xs=>xs.length<=sizeLine/\(a==sysModules)=false/\(xs.map (·.1)).Nodup/\∃(ys:List (SK×Addr×Value))(o:Obj)(es:Array DictEntry)(ep:Nat),Paired LR xs ys/\h.get? a=some o/\o.ExactDict/\o.data=.dict es ep/\es.toList=ys.map fun y=>⟨stH y.1,.ref y.2.1,y.2.2⟩
 |.set S n=>h.SetOf (intKind P w) a S n
 |.ins C dx fs=>H dx=some (.own a)/\fs.length<=1000/\dx≠a/\h.get? a=some (PySem.W.instObj C dx)/\
   ∃mA,h.Ns1 dx mA/\(∀f,lZ (fs.lookup f) (mA f))/\PySem.Within mA (fs.map (·.1))
 |.own _=>∃o,h.get? a=some o
 |.xd fs=>∃mA,h.Ns1 a mA/\∀f,lZ (fs.lookup f) (mA f)
 |.rng lo hi=>∃t u v,h.get? a=some {cls:=.type "range",data:=.fields #[.int lo t,.int hi u,.int 1 v]}
 |.frz o u=>h.get? a=some o/\bU H h a u
 |.tbl ps=>h.get? a=some {cls:=.none,data:=.fields ps}
 |.met f x=>h.get? a=some (PySem.W.methodObj (.ref f) (.ref x))
 |.ext φ=>φ h/\(∃o,h.get? a=some o)/\∀h1 h2:Heap,φ h1->(∀o,h1.get? a=some o->h2.get? a=some o)->φ h2
def kI(H:Hp)(h:Heap):Prop:=∀a o,H a=some o->bU P w H h a o
end
section
variable{P:Program}{w:World}{H H':Hp}{h h':Heap}{a:Addr}{o:HO}
theorem bU.lt(x:bU P w H h a o):a<h.objs.size:=by
 cases o with
 |lst xs=>obtain⟨_,_,_,_,e⟩:=x;exact Qqz e
 |tup xs=>obtain⟨_,_,_,p⟩:=x;exact p.is.lt
 |dK kvs=>obtain⟨_,_,_,_,o,_,_,e,_⟩:=x;exact Qqz e
 |dT kvs=>obtain⟨_,_,_,_,o,_,_,e,_⟩:=x;exact Qqz e
 |dS xs=>obtain⟨_,_,_,_,o,_,_,_,e,_⟩:=x;exact Qqz e
 |set S n=>obtain⟨o,_,_,_,e,_⟩:=x;exact Qqz e
 |ins C dx fs=>obtain⟨_,_,_,e,_⟩:=x;exact Qqz e
 |own y=>obtain⟨_,e⟩:=x;exact Qqz e
 |xd fs=>obtain⟨_,⟨_,_,_,e,_⟩,_⟩:=x;exact Qqz e
 |rng lo hi=>obtain⟨_,_,_,e⟩:=x;exact Qqz e
 |frz ob u=>obtain⟨e,_⟩:=x;exact Qqz e
 |tbl ps=>exact Qqz (show h.get? a=some _ from x)
 |met f y=>exact Qqz (show h.get? a=some _ from x)
 |ext φ=>obtain⟨_,⟨_,e⟩,_⟩:=x;exact Qqz e
theorem Paired.Vf{α β:Type}{F G:α->β->Prop}:∀{l₁:List α}{l₂:List β},Paired F l₁ l₂->(∀a b,F a b->G a b)->Paired G l₁ l₂
 |_,_,.nil=>fun _=>.nil
 |_,_,.cons r t=>fun f=>.cons (f _ _ r) (Paired.Vf t f)
theorem bU.stay(x:bU P w H h a o)(k:∀b u,(b=a\/H b=some (.own a))->h.get? b=some u->h'.get? b=some u)
  (ho:∀b,H b=some (.own a)->H' b=some (.own a))(ht:∀b xs,H b=some (.tup xs)->H' b=some (.tup xs)):bU P w H' h' a o:=by
 induction o with
 |lst xs=>obtain⟨z,its,n,r,e⟩:=x;exact⟨z,its,n,r,k _ _ (.inl rfl) e⟩
 |tup xs=>obtain⟨z,its,r,ob,e,c⟩:=x;exact⟨z,its,r,ob,k _ _ (.inl rfl) e,c⟩
 |dK kvs=>obtain⟨z,y,vs,r,ob,es,ep,e,c⟩:=x;exact⟨z,y,vs,r,ob,es,ep,k _ _ (.inl rfl) e,c⟩
 |dT kvs=>
  obtain⟨z,y,xs,r,ob,es,ep,e,c⟩:=x
  exact⟨z,y,xs,Paired.Vf r fun p q z=>⟨z.1,ht _ _ z.2.1,z.2.2⟩,ob,es,ep,k _ _ (.inl rfl) e,c⟩
 |dS xs=>obtain⟨z,y,nd,ys,ob,es,ep,pr,e,c⟩:=x;exact⟨z,y,nd,ys,ob,es,ep,pr,k _ _ (.inl rfl) e,c⟩
 |set S n=>obtain⟨ob,es,ep,t,e,c⟩:=x;exact⟨ob,es,ep,t,k _ _ (.inl rfl) e,c⟩
 |ins C dx fs=>
  obtain⟨d,z,ne,e,mA,⟨od,es,ep,e2,c⟩,r⟩:=x
  exact⟨ho _ d,z,ne,k _ _ (.inl rfl) e,mA,⟨od,es,ep,k _ _ (.inr d) e2,c⟩,r⟩
 |own y=>obtain⟨ob,e⟩:=x;exact⟨ob,k _ _ (.inl rfl) e⟩
 |xd fs=>obtain⟨mA,⟨od,es,ep,e,c⟩,r⟩:=x;exact⟨mA,⟨od,es,ep,k _ _ (.inl rfl) e,c⟩,r⟩
 |rng lo hi=>obtain⟨t,u,v,e⟩:=x;exact⟨t,u,v,k _ _ (.inl rfl) e⟩
 |frz ob u ih=>obtain⟨e,q⟩:=x;exact⟨k _ _ (.inl rfl) e,ih q⟩
 |tbl ps=>
  have e:h.get? a=some {cls:=.none,data:=.fields ps}:=x
  show h'.get? a=some {cls:=.none,data:=.fields ps}
  exact k a _ (.inl rfl) e
 |met f y=>
  have e:h.get? a=some (PySem.W.methodObj (.ref f) (.ref y)):=x
  show h'.get? a=some (PySem.W.methodObj (.ref f) (.ref y))
  exact k a _ (.inl rfl) e
 |ext φ=>obtain⟨p,⟨o,e⟩,st⟩:=x;exact⟨st _ _ p fun o q=>k _ _ (.inl rfl) q,⟨o,k _ _ (.inl rfl) e⟩,st⟩
theorem kI.lt(x:kI P w H h)(e:H a=some o):a<h.objs.size:=(x a o e).lt
theorem kI.fresh(x:kI P w H h)(e:h.objs.size<=a):H a=none:=by
 cases q:H a with
 |none=>rfl
 |some u=>exact absurd (Qvq (x.lt q) e) (Nat.lt_irrefl _)
theorem kI.kept(x:kI P w H h)(k:∀b u,h.get? b=some u->h'.get? b=some u):kI P w H h':=fun a o e=>
 (x a o e).stay (fun b u _ q=>k b u q) (fun _ q=>q) fun _ _ q=>q
theorem kI.laid(x:kI P w H h)(k:∀b u,h.get? b=some u->h'.get? b=some u)(hp:h.objs.size<=a)(new:bU P w (upd H a o) h' a o):kI P w (upd H a o) h':=fun b u e=>by
 have hn:=x.fresh hp
 by_cases hb:b=a
 ·subst hb;rw[aU]at e;cases e;exact new
 ·rw[aG hb]at e
  exact(x b u e).stay (fun c v _ q=>k c v q) (fun c q=>by rw[aG (fU q hn)];exact q) fun c xs q=>by rw[aG (fU q hn)];exact q
end
def Rd(H:Hp)(a:Addr)(u:HO):Prop:=H a=some u\/∃o,H a=some (.frz o u)
theorem Rd.ok{P:Program}{w:World}{H:Hp}{h:Heap}{a:Addr}{u:HO}(r:Rd H a u)(x:kI P w H h):bU P w H h a u:=by
 rcases r with r|⟨o,r⟩
 ·exact x a u r
 ·obtain⟨_,q⟩:=x a _ r
  exact q
def Mut:Option HO->Prop
 |some (.lst _)=>True
 |some (.dK _)=>True
 |some (.dT _)=>True
 |some (.dS _)=>True
 |some (.set _ _)=>True
 |some (.ins _ _ _)=>True
 |some (.ext _)=>True
 |_=>False
section
variable{P:Program}{w:World}{H:Hp}{h h':Heap}{x e:Addr}{o':HO}
theorem kI.write(ok:kI P w H h)(mu:Mut (H x))(he:e=x\/H e=some (.own x))(k:∀b u,b≠e->h.get? b=some u->h'.get? b=some u)(heo:∃u,h'.get? e=some u)
  (new:bU P w (upd H x o') h' x o'):kI P w (upd H x o') h':=fun b u q=>by
 have nown:∀c y,H c=some (.own y)->c≠x:=fun c y r z=>by subst z;rw[r]at mu;exact mu
 have ntup:∀c xs,H c=some (.tup xs)->c≠x:=fun c xs r z=>by subst z;rw[r]at mu;exact mu
 by_cases hb:b=x
 ·subst hb;rw[aU]at q;cases q;exact new
 ·rw[aG hb]at q
  by_cases hbe:b=e
  ·have q':H b=some (.own x):=by
    rcases he with z|z
    ·exact absurd (hbe.trans z) hb
    ·rw[hbe];exact z
   rw[q]at q';cases q'
   obtain⟨v,hv⟩:=heo
   exact⟨v,by rw[hbe];exact hv⟩
  ·refine(ok b u q).stay (fun c v hc r=>k c v ?_ r) (fun c r=>by rw[aG (nown c b r)];exact r) fun c xs r=>by rw[aG (ntup c xs r)];exact r
   rcases hc with rfl|hc
   ·exact hbe
   ·rintro rfl
    rcases he with z|z
    ·exact nown c b hc z
    ·rw[hc]at z;cases z;exact hb rfl
end
structure Un(fs ex:List Addr)(H H':Hp)(h h':Heap):Prop where
 keep:∀b o,h.get? b=some o->H b=none->b∉fs->b∉ex->h'.get? b=some o
 slot:∀b o,h.get? b=some o->H b=none->b∈fs->b∉ex->∃sl,h'.get? b=some {o with slots:=sl}
 free:∀b o,h.get? b=some o->H b=none->b∉ex->H' b=none
 there:∀b o,h.get? b=some o->b∉ex->∃o',h'.get? b=some o'
 tups:∀b xs,H b=some (.tup xs)->H' b=some (.tup xs)
 frzs:∀b o u,H b=some (.frz o u)->H' b=some (.frz o u)
 tbls:∀b ps,H b=some (.tbl ps)->∃more,H' b=some (.tbl (ps++more))
section
variable{fs fs' ex ex':List Addr}{H H1 H2:Hp}{h h1 h2 h':Heap}{a x e:Addr}{o:HO}
theorem Un.any(u:Un fs ex H H1 h h1){b:Addr}{ob:Obj}(q:h.get? b=some ob)(n:H b=none)(hx:b∉ex):∃sl,h1.get? b=some {ob with slots:=sl}:=by
 by_cases hb:b∈fs
 ·exact u.slot b ob q n hb hx
 ·exact⟨ob.slots,u.keep b ob q n hb hx⟩
theorem Un.trans(a:Un fs ex H H1 h h1)(b:Un fs ex H1 H2 h1 h2):Un fs ex H H2 h h2 where
 keep:=fun c ob q n hc hx=>b.keep c ob (a.keep c ob q n hc hx) (a.free c ob q n hx) hc hx
 slot:=fun c ob q n hc hx=>by
  obtain⟨sl,e1⟩:=a.slot c ob q n hc hx
  obtain⟨sl',e2⟩:=b.slot c _ e1 (a.free c ob q n hx) hc hx
  exact⟨sl',e2⟩
 free:=fun c ob q n hx=>by
  obtain⟨o',e1⟩:=a.there c ob q hx
  exact b.free c o' e1 (a.free c ob q n hx) hx
 there:=fun c ob q hx=>by
  obtain⟨o',e1⟩:=a.there c ob q hx
  exact b.there c o' e1 hx
 tups:=fun c xs q=>b.tups c xs (a.tups c xs q)
 frzs:=fun c ob xs q=>b.frzs c ob xs (a.frzs c ob xs q)
 tbls:=fun c ps q=>by
  obtain⟨m1,e1⟩:=a.tbls c ps q
  obtain⟨m2,e2⟩:=b.tbls c _ e1
  exact⟨m1++m2,by rw[e2,Array.append_assoc]⟩
theorem Un.kept(k:∀b u,h.get? b=some u->h'.get? b=some u):Un fs ex H H h h':=
 ⟨fun b ob q _ _ _=>k b ob q,fun b ob q _ _ _=>⟨ob.slots,k b ob q⟩,fun _ _ _ n _=>n,fun b ob q _=>⟨ob,k b ob q⟩,fun _ _ q=>q,fun _ _ _ q=>q,fun _ ps q=>⟨#[],by rw[q];simp⟩⟩
theorem Un.refl:Un fs ex H H h h:=Un.kept fun _ _ q=>q
theorem Un.laid(k:∀b u,h.get? b=some u->h'.get? b=some u)(hp:h.objs.size<=a)(hn:H a=none):Un fs ex H (upd H a o) h h' where
 keep:=fun b u q _ _ _=>k b u q
 slot:=fun b u q _ _ _=>⟨u.slots,k b u q⟩
 free:=fun b u q n _=>by rw[aG (Qvz (Qvq (Qqz q) hp))];exact n
 there:=fun b u q _=>⟨u,k b u q⟩
 tups:=fun b xs q=>by rw[aG (fU q hn)];exact q
 frzs:=fun b u xs q=>by rw[aG (fU q hn)];exact q
 tbls:=fun b ps q=>⟨#[],by rw[aG (fU q hn),q];simp⟩
theorem Un.write(mu:Mut (H x))(he:e=x\/H e=some (.own x))(k:∀b u,b≠e->h.get? b=some u->h'.get? b=some u)(heo:∃u,h'.get? e=some u):Un fs ex H (upd H x o) h h':=by
 have hx:∀b,H b=none->b≠x:=fun b n z=>by subst z;rw[n]at mu;exact mu
 have hb:∀b,H b=none->b≠e:=fun b n z=>by
  subst z
  rcases he with r|r
  ·exact hx b n r
  ·rw[n]at r;cases r
 have hm:∀b u,H b=some u->¬Mut (some u)->b≠x:=fun b u q nm z=>by subst z;rw[q]at mu;exact nm mu
 refine⟨fun b u q n _ _=>k b u (hb b n) q,fun b u q n _ _=>⟨u.slots,k b u (hb b n) q⟩,fun b u q n _=>by rw[aG (hx b n)];exact n,fun b u q _=>?_,
  fun b xs q=>by rw[aG (hm b _ q fun z=>z)];exact q,fun b u xs q=>by rw[aG (hm b _ q fun z=>z)];exact q,fun b ps q=>⟨#[],by rw[aG (hm b _ q fun z=>z),q];simp⟩⟩
 by_cases hbe:b=e
 ·subst hbe;exact heo
 ·exact⟨u,k b u hbe q⟩
end
def trk(h:Heap)(H:Hp):List Addr:=(List.range h.objs.size).filter fun a=>(H a).isSome
def vC(h:Heap)(H:Hp):Heap:=PySem.W.hideAll h (trk h H)
theorem FT(h:Heap)(H:Hp):(vC h H).objs.size=h.objs.size:=PySem.W.hideAll_size _ _
theorem JW{h:Heap}{H:Hp}{b:Addr}{o:Obj}(e:h.get? b=some o)(n:H b=none):(vC h H).get? b=some o:=
 PySem.W.hideAll_get _ e fun hm=>by
  have q:(H b).isSome=true:=(List.mem_filter.mp hm).2
  rw[n]at q;simp at q
theorem O3{h:Heap}{H:Hp}{b:Addr}{o:Obj}(e:(vC h H).get? b=some o):h.get? b=some o/\H b=none:=by
 have e':h.get? b=some o:=PySem.W.of_hideAll (trk h H) e
 refine⟨e',?_⟩
 cases q:H b with
 |none=>rfl
 |some x=>
  have hm:b∈trk h H:=List.mem_filter.mpr ⟨List.mem_range.mpr (Qqz e'),by simp[q]⟩
  have z:(vC h H).get? b=none:=PySem.W.hideAll_none (trk h H) hm
  rw[z]at e;cases e
def Qv(g h:Heap)(L:Addr):List (Addr×Obj):=(List.range h.objs.size).filterMap fun a=>if a=L\/(g.get? a).isSome=true then none else(h.get? a).map fun o=>(a,o)
def rest(g h:Heap)(L d:Addr):List (Addr×Obj):=(Qv g h L).filter fun p=>decide (p.1≠d)
structure Mod(K:QQq)(mg:QZz)(base:Heap):Prop where
 kin:K.In base
 glob:base.Ns mainGlobals mg
 blt:∃mb,base.Ns builtinsNs mb/\∀x:Str,x≠"__name__"->mb x=bootBuiltins x
 nolimit:base.NoLimit
structure Cx where
 prog:Program
 w:World
 K:QQq
 mg:Str->Option Value
 base:Heap
 A:Around
 N:List Str
 s₀:Shared
 H₀:Hp
 env:Env
 outer:List Env
 stack:List Env
 ex:List Addr
 fn:Str->Bool
 calm:Bool
 pn:List (Addr×Obj)
 xe:Value->Shared->Prop
def frs(l:List Env):List Addr:=l.filterMap (·.frame)
abbrev Cx.fs(X:Cx):List Addr:=frs X.outer
def Yq(sc:Scope)(x:Str):Prop:=sc.names.lookup x=some .local\/sc.names.lookup x=some .cell\/sc.names.lookup x=some .free
def Loc(sc:Scope)(x:Str):Prop:=sc.names.lookup x=some .local\/sc.names.lookup x=some .cell
def Look(env:Env)(h:Heap)(m:QZz)(x:Str)(u:Value):Prop:=
 (env.kindOf x=some .local/\m x=some u)\/((env.kindOf x=some .cell\/env.kindOf x=some .free)/\∃c,env.cells.lookup x=some c/\h.IsCell c (some u))
structure Cx.Ok(X:Cx):Prop where
 mod:Mod X.K X.mg X.base
 kind:X.env.scope.kind=.function
 glob:X.env.globals=mainGlobals
 blt:X.env.builtins=builtinsNs
 above:X.s₀.heap.objs.size<=X.env.locals
 inj:∀x y c,X.env.cells.lookup x=some c->X.env.cells.lookup y=some c->x=y
 has:∀x,(X.env.kindOf x=some .cell\/X.env.kindOf x=some .free)->∃c,X.env.cells.lookup x=some c
 cab:∀x c,X.fn x=true->X.env.cells.lookup x=some c->X.s₀.heap.objs.size<=c
 hd:X.calm=true->X.A.handled=none
 frames:X.A.frames=some X.stack
 stk:X.stack=X.outer\/(X.stack=X.env::X.outer/\X.env.frame=some X.env.locals)
 exf:∀b∈X.ex,b≠X.env.locals/\∀x c,X.env.cells.lookup x=some c->c≠b
 bs:∀b o,X.base.get? b=some o->X.s₀.heap.get? b=some o/\X.H₀ b=none
 bsz:X.base.objs.size<=X.s₀.heap.objs.size
 noex:∀b o,X.base.get? b=some o->b∉X.ex
 exfs:∀b∈X.ex,b∉X.fs
 kj:X.s₀.heap.FunFrames X.base X.outer
 frf:∀b∈X.fs,X.H₀ b=none
structure Inv(X:Cx)(QLq:QQz)(σ:List (Option V))(H:Hp)(s:Shared):Prop where
 ok:X.Ok
 os:s.os=X.s₀.os
 bare:AllBare s.gens
 base:Un X.fs X.ex X.H₀ H X.s₀.heap s.heap
 loc:∃m,s.heap.Ns X.env.locals m/\∀(i:Nat)(x:Str)(v:V),X.N[i]? =some x->σ[i]? =some (some v)->Yq X.env.scope x->∃u,RelV v u/\Look X.env s.heap m x u
 cell:∀x c,X.env.cells.lookup x=some c->∃v,s.heap.IsCell c v
 free:H X.env.locals=none
 freeC:∀x c,X.env.cells.lookup x=some c->H c=none
 pin:∀p∈X.pn++QLq,s.heap.get? p.1=some p.2/\H p.1=none/\p.1≠X.env.locals/\p.1∉X.fs/\∀v,p.2.data≠ .cell v
 hok:kI X.prog X.w H s.heap
 len:σ.length=X.N.length
section
variable{X:Cx}{QLq:QQz}{σ:List (Option V)}{H H':Hp}{s:Shared}{h':Heap}
theorem Cx.Ok.aee(ok:X.Ok){b:Addr}{o:Obj}(e:X.base.get? b=some o):b∉X.fs:=fun hb=>by
 have:=(ok.kj.mem hb).1
 rw[e]at this;cases this
theorem Inv.bs(I:Inv X QLq σ H s):∀b o,X.base.get? b=some o->s.heap.get? b=some o/\H b=none:=fun b o e=>
 ⟨I.base.keep b o (I.ok.bs b o e).1 (I.ok.bs b o e).2 (I.ok.aee e) (I.ok.noex b o e),I.base.free b o (I.ok.bs b o e).1 (I.ok.bs b o e).2 (I.ok.noex b o e)⟩
theorem Inv.bk(I:Inv X QLq σ H s):∀b o,X.base.get? b=some o->s.heap.get? b=some o:=fun b o e=>(I.bs b o e).1
theorem Inv.mod(I:Inv X QLq σ H s):Mod X.K X.mg X.base:=I.ok.mod
theorem Inv.XH(I:Inv X QLq σ H s):X.K.In s.heap:=I.ok.mod.kin.keeps I.bk
theorem Inv.fr(I:Inv X QLq σ H s):∃m,Fr X.base X.env.locals s.heap m:=
 let ⟨m,hn,_⟩:=I.loc
 ⟨m,hn,I.bk,Nat.le_trans I.ok.bsz I.ok.above⟩
theorem Inv.lt(I:Inv X QLq σ H s):X.env.locals<s.heap.objs.size:=let ⟨_,hn,_⟩:=I.loc;hn.lt
theorem Inv.sz(I:Inv X QLq σ H s):X.s₀.heap.objs.size<=s.heap.objs.size:=Nat.le_trans I.ok.above (Nat.le_of_lt I.lt)
theorem Inv.aed(I:Inv X QLq σ H s){a:Addr}(h:s.heap.objs.size<=a):a∉X.fs:=fun hb=>by
 obtain⟨_,o,ho,_⟩:=I.ok.kj.mem hb
 exact absurd (Qvq (Qqz ho) (Nat.le_trans I.sz h)) (Nat.lt_irrefl _)
theorem Inv.WL(I:Inv X QLq σ H s):∀x c,X.env.cells.lookup x=some c->c≠X.env.locals:=fun x c e z=>by
 obtain⟨v,o,ho,hd⟩:=I.cell x c e
 obtain⟨m,⟨o',es,ep,ho',hd',_⟩,_⟩:=I.loc
 rw[z,ho']at ho;cases ho;rw[hd']at hd;cases hd
theorem Inv.kj(I:Inv X QLq σ H s):s.heap.FunFrames X.base X.outer:=by
 have all:∀(l:List Env),(∀b∈frs l,b∈X.fs)->X.s₀.heap.FunFrames X.base l->s.heap.FunFrames X.base l:=by
  intro l
  induction l with
  |nil=>intro _ _;trivial
  |cons env r ih=>
   intro hs hl
   obtain⟨hk,⟨L,o,hf,hn,ho,hd⟩,hr⟩:=hl
   have hL:L∈X.fs:=hs L (by unfold frs;rw[List.filterMap_cons,hf];exact QYz)
   obtain⟨sl,e⟩:=I.base.slot L o ho (I.ok.frf L hL) hL fun z=>I.ok.exfs L z hL
   exact⟨hk,⟨L,_,hf,hn,e,hd⟩,ih (fun b hb=>hs b (by unfold frs;rw[List.filterMap_cons,hf];exact QYq _ hb)) hr⟩
 exact all X.outer (fun _ hb=>hb) I.ok.kj
theorem Inv.stack(I:Inv X QLq σ H s):s.heap.FunFrames X.base X.stack:=by
 rcases I.ok.stk with e|⟨e,hf⟩
 ·rw[e];exact I.kj
 ·rw[e]
  obtain⟨m,hn,_⟩:=I.loc
  refine .cons (by rw[I.ok.kind];decide) hf hn ?_ I.kj
  exact Heap.get?_none_of_le (Nat.le_trans I.ok.bsz I.ok.above)
theorem Inv.yQ(I:Inv X QLq σ H s):∀b∈frs X.stack,b∈X.env.locals::X.fs:=fun b hb=>by
 rcases I.ok.stk with e|⟨e,hf⟩
 ·rw[e]at hb;exact QYq _ hb
 ·rw[e]at hb
  unfold frs at hb
  rw[List.filterMap_cons,hf]at hb
  exact hb
theorem Inv.Bg(I:Inv X QLq σ H s):∀b∈frs X.stack,H b=none:=fun b hb=>by
 rcases QCq.mp (I.yQ b hb)with e|hb
 ·rw[e];exact I.free
 ·obtain⟨_,o,ho,_⟩:=I.ok.kj.mem hb
  exact I.base.free b o ho (I.ok.frf b hb) fun z=>I.ok.exfs b z hb
theorem Inv.step{g':Array GenState}{t':Nat}{d':Drawn}{ch:List Addr}(I:Inv X QLq σ H s)
  (hch:∀b∈ch,(b∈X.ex\/X.s₀.heap.objs.size<=b)/\b≠X.env.locals/\(∀x c,X.env.cells.lookup x=some c->c≠b)/\∀p∈X.pn++QLq,p.1≠b)
  (keep:∀b o,b≠X.env.locals->b∉X.fs->b∉ch->s.heap.get? b=some o->H b=none->h'.get? b=some o)
  (slot:∀b o,b≠X.env.locals->b∈X.fs->b∉ch->s.heap.get? b=some o->H b=none->∃sl,h'.get? b=some {o with slots:=sl})(free:∀b o,b∉ch->s.heap.get? b=some o->H b=none->H' b=none)
  (there:∀b o,b∉ch->s.heap.get? b=some o->∃o',h'.get? b=some o')
  (tups:∀b xs,H b=some (.tup xs)->H' b=some (.tup xs))(frzs:∀b o u,H b=some (.frz o u)->H' b=some (.frz o u))(tbls:∀b ps,H b=some (.tbl ps)->∃more,H' b=some (.tbl (ps++more)))
  (ns:∀m,s.heap.Ns X.env.locals m->h'.Ns X.env.locals m)(hok:kI X.prog X.w H' h')(hg:AllBare g'):
  Inv X QLq σ H' {s with heap:=h',gens:=g',drawn:=d',toks:=t'}:=by
 have neL:∀b o,X.s₀.heap.get? b=some o->b≠X.env.locals:=fun b o e=>Qvz (Qvq (Qqz e) I.ok.above)
 have neC:∀b o,X.s₀.heap.get? b=some o->b∉X.ex->b∉ch:=fun b o e hx hb=>by
  rcases (hch b hb).1 with z|z
  ·exact hx z
  ·exact absurd (Qvq (Qqz e) z) (Nat.lt_irrefl _)
 have cellK:∀x c,X.env.cells.lookup x=some c->∀v,s.heap.IsCell c v->h'.IsCell c v:=fun x c e v⟨o,ho,hd⟩=>by
  have nch:c∉ch:=fun z=>(hch c z).2.2.1 x c e rfl
  by_cases hc:c∈X.fs
  ·obtain⟨sl,q⟩:=slot c o (I.WL x c e) hc nch ho (I.freeC x c e)
   exact⟨_,q,hd⟩
  ·exact⟨o,keep c o (I.WL x c e) hc nch ho (I.freeC x c e),hd⟩
 refine⟨I.ok,I.os,hg,⟨fun b o e n hb hx=>?_,fun b o e n hb hx=>?_,fun b o e n hx=>?_,fun b o e hx=>?_,fun b xs e=>tups b xs (I.base.tups b xs e),fun b o xs e=>frzs b o xs (I.base.frzs b o xs e),fun b ps e=>?_⟩,?_,fun x c e=>?_,?_,fun x c e=>?_,fun p hp=>?_,hok,I.len⟩
 ·exact keep b o (neL b o e) hb (neC b o e hx) (I.base.keep b o e n hb hx) (I.base.free b o e n hx)
 ·obtain⟨sl,e1⟩:=I.base.slot b o e n hb hx
  obtain⟨sl',e2⟩:=slot b _ (neL b o e) hb (neC b o e hx) e1 (I.base.free b o e n hx)
  exact⟨sl',e2⟩
 ·obtain⟨o',e1⟩:=I.base.there b o e hx
  exact free b o' (neC b o e hx) e1 (I.base.free b o e n hx)
 ·obtain⟨o',e1⟩:=I.base.there b o e hx
  exact there b o' (neC b o e hx) e1
 ·obtain⟨m1,e1⟩:=I.base.tbls b ps e
  obtain⟨m2,e2⟩:=tbls b _ e1
  exact⟨m1++m2,by rw[e2,Array.append_assoc]⟩
 ·obtain⟨m,hn,hl⟩:=I.loc
  refine⟨m,ns m hn,fun i x v e1 e2 e3=>?_⟩
  obtain⟨u,r,l⟩:=hl i x v e1 e2 e3
  refine⟨u,r,?_⟩
  rcases l with l|⟨k,c,e,z⟩
  ·exact .inl l
  ·exact .inr ⟨k,c,e,cellK x c e _ z⟩
 ·obtain⟨v,z⟩:=I.cell x c e
  exact⟨v,cellK x c e v z⟩
 ·obtain⟨m,⟨o,_,_,ho,_⟩,_⟩:=I.loc
  exact free _ o (fun z=>(hch _ z).2.1 rfl) ho I.free
 ·obtain⟨v,o,ho,hd⟩:=I.cell x c e
  exact free c o (fun z=>(hch c z).2.2.1 x c e rfl) ho (I.freeC x c e)
 ·obtain⟨e,n,ne,nf,d⟩:=I.pin p hp
  have nch:p.1∉ch:=fun z=>(hch p.1 z).2.2.2 p hp rfl
  exact⟨keep p.1 p.2 ne nf nch e n,free p.1 p.2 nch e n,ne,nf,d⟩
theorem Inv.un{t':Nat}(I:Inv X QLq σ H s)(u:Un X.fs [] H H' s.heap h')(hok:kI X.prog X.w H' h'):Inv X QLq σ H' {s with heap:=h',toks:=t'}:=by
 obtain⟨m,⟨o,es,ep,ho,r⟩,_⟩:=id I.loc
 obtain⟨sl,hL⟩:=u.any ho I.free (by simp)
 exact I.step (g':=s.gens) (d':=s.drawn) (ch:=[]) (fun _ z=>nomatch z) (fun b o _ hb _ e n=>u.keep b o e n hb (by simp)) (fun b o _ hb _ e n=>u.slot b o e n hb (by simp)) (fun b o _ e n=>u.free b o e n (by simp)) (fun b o _ e=>u.there b o e (by simp)) u.tups u.frzs u.tbls (fun m' hm=>by
  obtain⟨o',es',ep',ho',r'⟩:=hm
  rw[ho]at ho';cases ho'
  exact⟨_,es',ep',hL,r'⟩) hok I.bare
theorem Inv.call{g':Array GenState}{t':Nat}{d':Drawn}{ch:List Addr}(I:Inv X QLq σ H s)(u:Un (frs X.stack) ch H H' s.heap h')(hok:kI X.prog X.w H' h')(hg:AllBare g')
  (hch:∀b∈ch,(b∈X.ex\/X.s₀.heap.objs.size<=b)/\b≠X.env.locals/\(∀x c,X.env.cells.lookup x=some c->c≠b)/\∀p∈X.pn++QLq,p.1≠b):
  Inv X QLq σ H' {s with heap:=h',gens:=g',drawn:=d',toks:=t'}:=by
 obtain⟨m,⟨o,es,ep,ho,r⟩,_⟩:=id I.loc
 obtain⟨sl,hL⟩:=u.any ho I.free fun z=>(hch _ z).2.1 rfl
 exact I.step (ch:=ch) hch (fun b o hL hb hc e n=>u.keep b o e n (fun z=>(QCq.mp (I.yQ b z)).elim hL hb) hc) (fun b o _ _ hc e n=>u.any e n hc) (fun b o hc e n=>u.free b o e n hc) (fun b o hc e=>u.there b o e hc) u.tups u.frzs u.tbls (fun m' hm=>by
  obtain⟨o',es',ep',ho',r'⟩:=hm
  rw[ho]at ho';cases ho'
  exact⟨_,es',ep',hL,r'⟩) hok hg
theorem Inv.turned{t':Nat}{it:Addr}(I:Inv X QLq σ H s)(k:∀b o,b≠it->s.heap.get? b=some o->h'.get? b=some o)(hn:H it=none)(hL:it≠X.env.locals)
  (h1:it∈X.ex\/X.s₀.heap.objs.size<=it)(h2:∀x c,X.env.cells.lookup x=some c->c≠it)(h3:∀p∈X.pn++QLq,p.1≠it):Inv X QLq σ H {s with heap:=h',toks:=t'}:=by
 have nit:∀b u,H b=some u->b≠it:=fun b u e z=>by rw[z,hn]at e;cases e
 refine I.step (g':=s.gens) (d':=s.drawn) (ch:=[it]) (fun b hb=>?_) (fun b o _ _ hc e _=>k b o (fun z=>hc (by simp[z])) e) (fun b o _ _ hc e _=>⟨o.slots,k b o (fun z=>hc (by simp[z])) e⟩) (fun _ _ _ _ n=>n)
  (fun b o hc e=>⟨o,k b o (fun z=>hc (by simp[z])) e⟩) (fun _ _ e=>e) (fun _ _ _ e=>e) (fun b ps e=>⟨#[],by rw[e];simp⟩) (fun m hm=>?_) (fun b u e=>?_) I.bare
 ·have e:b=it:=by simpa using hb
  subst e
  exact⟨h1,hL,h2,h3⟩
 ·obtain⟨o,es,ep,ho,r⟩:=hm
  exact⟨o,es,ep,k _ o (Ne.symm hL) ho,r⟩
 ·refine(I.hok b u e).stay (fun c v hc q=>k c v ?_ q) (fun _ q=>q) fun _ _ q=>q
  rcases hc with z|z
  ·rw[z];exact nit b u e
  ·exact nit c _ z
theorem Inv.tok(I:Inv X QLq σ H s)(t:Nat):Inv X QLq σ H {s with toks:=t}:=I.un (h':=s.heap) (t':=t) Un.refl I.hok
theorem Inv.kept{t':Nat}(I:Inv X QLq σ H s)(k:∀b u,s.heap.get? b=some u->h'.get? b=some u):Inv X QLq σ H {s with heap:=h',toks:=t'}:=I.un (Un.kept k) (I.hok.kept k)
theorem Inv.laid{a:Addr}{o:HO}{t':Nat}(I:Inv X QLq σ H s)(k:∀b u,s.heap.get? b=some u->h'.get? b=some u)(hp:s.heap.objs.size<=a)(new:bU X.prog X.w (upd H a o) h' a o):
  Inv X QLq σ (upd H a o) {s with heap:=h',toks:=t'}:=I.un (Un.laid k hp (I.hok.fresh hp)) (I.hok.laid k hp new)
theorem Inv.write{x e:Addr}{o:HO}{t':Nat}(I:Inv X QLq σ H s)(mu:Mut (H x))(he:e=x\/H e=some (.own x))(k:∀b u,b≠e->s.heap.get? b=some u->h'.get? b=some u)(heo:∃u,h'.get? e=some u)
  (new:bU X.prog X.w (upd H x o) h' x o):Inv X QLq σ (upd H x o) {s with heap:=h',toks:=t'}:=I.un (Un.write mu he k heo) (I.hok.write mu he k heo new)
theorem Inv.Bt{pins':QQz}(I:Inv X QLq σ H s)(h:∀p∈pins',s.heap.get? p.1=some p.2/\H p.1=none/\p.1≠X.env.locals/\p.1∉X.fs/\∀v,p.2.data≠ .cell v):Inv X pins' σ H s:=
 ⟨I.ok,I.os,I.bare,I.base,I.loc,I.cell,I.free,I.freeC,fun p hp=>(QXz.mp hp).elim (fun z=>I.pin p (QWz _ z)) (h p),I.hok,I.len⟩
theorem xr{N:List Str}(hN:N.Nodup){i j:Nat}{x:Str}(a:N[i]? =some x)(b:N[j]? =some x):i=j:=by
 obtain⟨h1,e1⟩:=QCz.mp a
 obtain⟨h2,e2⟩:=QCz.mp b
 exact(List.getElem_inj hN).mp (e1.trans e2.symm)
theorem sG{M:Model}{A:Around}{E:QZq}{i:Nat}{x:Str}{v:V}{u:Value}{Q:Unit->Shared->Prop}(I:Inv X QLq σ H s)(hN:X.N.Nodup)(hi:X.N[i]? =some x)(hx:Loc X.env.scope x)(r:RelV v u)
  (h:∀s',Inv X QLq (σ.set i (some v)) H s'->(∃a,Heap.SameBut a s.heap s'.heap/\(a=X.env.locals\/X.env.cells.lookup x=some a))->Q () s')(hf:X.fn x=true\/X.env.scope.names.lookup x=some .local:=by first|exact .inl rfl|exact .inr rfl|assumption):wpAny M A (storeName X.env x u) Q E s:=by
 obtain⟨m,hn,hl⟩:=id I.loc
 have hcls:(X.env.scope.kind== .class||(X.env.scope.kind== .module&&X.env.locals !=X.env.globals))=false:=by rw[I.ok.kind];rfl
 have hiσ:i<σ.length:=by rw[I.len];exact(QCz.mp hi).1
 have WL:=I.WL
 have tracked:∀{a:Addr}{h':Heap},(∃o,s.heap.get? a=some o/\H a=none)->Heap.SameBut a s.heap h'->kI X.prog X.w H h':=fun{a h'}ha hs b ob e=>by
  obtain⟨_,_,hfree⟩:=ha
  refine(I.hok b ob e).stay (fun c w' hc q=>(hs.2 c ?_).trans q) (fun _ q=>q) fun _ _ q=>q
  rintro rfl
  rcases hc with rfl|hc
  ·rw[hfree]at e;cases e
  ·rw[hfree]at hc;cases hc
 rcases hx with hk|hk
 ·refine wpAny_storeName_local hk hn (fun h' hn' hs=>?_) hcls
  obtain⟨oL,_,_,hoL,_⟩:=id hn
  refine h _ ⟨I.ok,I.os,I.bare,⟨fun b o e n hb hx=>?_,fun b o e n hb hx=>?_,I.base.free,fun b o e hx=>?_,I.base.tups,I.base.frzs,I.base.tbls⟩,⟨_,hn',fun j y v' e1 e2 e3=>?_⟩,fun y c e=>?_,I.free,I.freeC,fun p hp=>?_,tracked ⟨oL,hoL,I.free⟩ hs,by simpa using I.len⟩ ⟨_,hs,.inl rfl⟩
  ·exact(hs.2 b (Qvz (Qvq (Qqz e) I.ok.above))).trans (I.base.keep b o e n hb hx)
  ·obtain⟨sl,e1⟩:=I.base.slot b o e n hb hx
   exact⟨sl,(hs.2 b (Qvz (Qvq (Qqz e) I.ok.above))).trans e1⟩
  ·obtain⟨o',e1⟩:=I.base.there b o e hx
   exact⟨o',(hs.2 b (Qvz (Qvq (Qqz e) I.ok.above))).trans e1⟩
  ·by_cases hj:j=i
   ·subst hj
    rw[hi]at e1;cases e1
    rw[Qwq hiσ]at e2
    cases e2
    exact⟨u,r,.inl ⟨hk,by simp⟩⟩
   ·rw[Qxz (Ne.symm hj)]at e2
    obtain⟨u',r',q⟩:=hl j y v' e1 e2 e3
    refine⟨u',r',?_⟩
    rcases q with ⟨k,e⟩|⟨k,c,e,z⟩
    ·refine .inl ⟨k,?_⟩
     have:y≠x:=fun e=>hj (xr hN e1 (e▸hi))
     simp[this,e]
    ·exact .inr ⟨k,c,e,z.sameBut hs (WL y c e)⟩
  ·obtain⟨w',z⟩:=I.cell y c e
   exact⟨w',z.sameBut hs (WL y c e)⟩
  ·obtain⟨e,n,ne,nf,d⟩:=I.pin p hp
   exact⟨(hs.2 p.1 ne).trans e,n,ne,nf,d⟩
 ·have hfn:X.fn x=true:=by
   rcases hf with z|z
   ·exact z
   ·rw[z]at hk;cases hk
  obtain⟨c,hc⟩:=I.ok.has x (.inl hk)
  obtain⟨w',z⟩:=I.cell x c hc
  refine wpAny_storeName_cell I.ok.kind hk hc z (fun h' hc' hs=>?_)
  obtain⟨oc,hoc,hocd⟩:=id z
  refine h {s with heap:=h'} ⟨I.ok,I.os,I.bare,⟨fun b o e n hb hx=>?_,fun b o e n hb hx=>?_,I.base.free,fun b o e hx=>?_,I.base.tups,I.base.frzs,I.base.tbls⟩,⟨m,hn.sameBut hs (Ne.symm (WL x c hc)),fun j y v' e1 e2 e3=>?_⟩,fun y c' e=>?_,I.free,I.freeC,fun p hp=>?_,tracked ⟨oc,hoc,I.freeC x c hc⟩ hs,by simpa using I.len⟩ ⟨c,hs,.inr hc⟩
  ·exact(hs.2 b (Qvz (Qvq (Qqz e) (I.ok.cab x c hfn hc)))).trans (I.base.keep b o e n hb hx)
  ·obtain⟨sl,e1⟩:=I.base.slot b o e n hb hx
   exact⟨sl,(hs.2 b (Qvz (Qvq (Qqz e) (I.ok.cab x c hfn hc)))).trans e1⟩
  ·obtain⟨o',e1⟩:=I.base.there b o e hx
   exact⟨o',(hs.2 b (Qvz (Qvq (Qqz e) (I.ok.cab x c hfn hc)))).trans e1⟩
  ·by_cases hj:j=i
   ·subst hj
    rw[hi]at e1;cases e1
    rw[Qwq hiσ]at e2
    cases e2
    exact⟨u,r,.inr ⟨.inl hk,c,hc,hc'⟩⟩
   ·rw[Qxz (Ne.symm hj)]at e2
    obtain⟨u',r',q⟩:=hl j y v' e1 e2 e3
    refine⟨u',r',?_⟩
    rcases q with q|⟨k,c',e,z'⟩
    ·exact .inl q
    ·refine .inr ⟨k,c',e,z'.sameBut hs ?_⟩
     rintro rfl
     exact hj (xr hN e1 (I.ok.inj _ _ _ e hc▸hi))
  ·by_cases hcc:c'=c
   ·subst hcc;exact⟨_,hc'⟩
   ·obtain⟨w2,z2⟩:=I.cell y c' e
    exact⟨w2,z2.sameBut hs hcc⟩
  ·obtain⟨e,n,ne,nf,d⟩:=I.pin p hp
   refine⟨(hs.2 p.1 ?_).trans e,n,ne,nf,d⟩
   intro q
   rw[q,hoc]at e
   have q':oc=p.2:=QEq e
   exact d w' (by rw[<-q'];exact hocd)
theorem wL{M:Model}{A:Around}{E:QZq}{i:Nat}{x:Str}{v:V}{u:Value}{Q:Unit->Shared->Prop}(I:Inv X QLq σ H s)(hN:X.N.Nodup)(hi:X.N[i]? =some x)(hx:Loc X.env.scope x)(r:RelV v u)
  (h:∀s',Inv X QLq (σ.set i (some v)) H s'->Q () s')(hf:X.fn x=true\/X.env.scope.names.lookup x=some .local:=by first|exact .inl rfl|exact .inr rfl|assumption):wpAny M A (storeName X.env x u) Q E s:=
 sG I hN hi hx r (fun s' I' _=>h s' I') hf
theorem Inv.call'{s':Shared}{ch:List Addr}(I:Inv X QLq σ H s)(ho:s'.os=s.os)(u:Un (frs X.stack) ch H H' s.heap s'.heap)(hok:kI X.prog X.w H' s'.heap)(hg:AllBare s'.gens)
  (hch:∀b∈ch,(b∈X.ex\/X.s₀.heap.objs.size<=b)/\b≠X.env.locals/\(∀x c,X.env.cells.lookup x=some c->c≠b)/\∀p∈X.pn++QLq,p.1≠b):Inv X QLq σ H' s':=by
 obtain⟨h',g',d',t',o'⟩:=s'
 have e:o'=s.os:=ho
 subst e
 exact I.call (g':=g') (t':=t') (d':=d') u hok hg hch
end
abbrev XK:=Value->Option Addr->Hp->Prop
abbrev St:=List (Option V)
abbrev VK:=V->Hp->Prop
abbrev TE:=St->Hp->VK->Prop
abbrev TT:=St->Hp->(Bool->Hp->Prop)->Prop
abbrev TA:=St->Hp->(List V->Hp->Prop)->Prop
structure Ends where
 nx:St->Hp->Prop
 rt:VK
 bk:St->Hp->Prop:=fun _ _=>False
 ct:St->Hp->Prop:=fun _ _=>False
abbrev TS:=Ends->St->Hp->Prop
def EP(X:Cx)(QLq:QQz)(σ:St)(Q:VK)(u:Value)(s':Shared):Prop:=∃v H',Inv X QLq σ H' s'/\RelV v u/\Q v H'
def TP(X:Cx)(QLq:QQz)(σ:St)(Q:Bool->Hp->Prop)(b:Bool)(s':Shared):Prop:=∃H',Inv X QLq σ H' s'/\Q b H'
def AP(X:Cx)(QLq:QQz)(σ:St)(Q:List V->Hp->Prop)(us:List Value)(s':Shared):Prop:=∃vs H',Inv X QLq σ H' s'/\Vals vs us/\Q vs H'
def SP(X:Cx)(QLq:QQz)(D:Ends)(f:Flow)(s':Shared):Prop:=
 match f with
 |.next=>∃σ' H',Inv X QLq σ' H' s'/\D.nx σ' H'
 |.brk=>∃σ' H',Inv X QLq σ' H' s'/\D.bk σ' H'
 |.cont=>∃σ' H',Inv X QLq σ' H' s'/\D.ct σ' H'
 |.ret u=>∃v σ' H',Inv X QLq σ' H' s'/\RelV v u/\D.rt v H'
def PE(X:Cx)(e:Expr)(t:TE):Prop:=
 ∀(QLq:QQz)(s:Shared)(σ:St)(H:Hp)(Q:VK),Inv X QLq σ H s->t σ H Q->wpAny (model X.prog X.w) X.A (eval e X.env) (EP X QLq σ Q) X.xe s
def PT(X:Cx)(e:Expr)(t:TT):Prop:=
 ∀(QLq:QQz)(s:Shared)(σ:St)(H:Hp)(Q:Bool->Hp->Prop),Inv X QLq σ H s->t σ H Q->wpAny (model X.prog X.w) X.A (isTrue e X.env (eval e X.env)) (TP X QLq σ Q) X.xe s
def PW(X:Cx)(e:Expr)(t:TT):Prop:=
 ∀(whole:Sem Value)(QLq:QQz)(s:Shared)(σ:St)(H:Hp)(Q:Bool->Hp->Prop),Inv X QLq σ H s->t σ H Q->wpAny (model X.prog X.w) X.A (isTrue e X.env whole) (TP X QLq σ Q) X.xe s
theorem PW.pt{X:Cx}{e:Expr}{t:TT}(h:PW X e t):PT X e t:=h _
def PA(X:Cx)(es:List Expr)(t:TA):Prop:=
 ∀(pos:Pos)(QLq:QQz)(s:Shared)(σ:St)(H:Hp)(Q:List V->Hp->Prop),Inv X QLq σ H s->t σ H Q->wpAny (model X.prog X.w) X.A (spliced (backTo pos (starEach es X.env))) (AP X QLq σ Q) X.xe s
def PS(X:Cx)(st:Stmt)(t:TS):Prop:=
 ∀(QLq:QQz)(s:Shared)(σ:St)(H:Hp)(D:Ends),Inv X QLq σ H s->t D σ H->wpAny (model X.prog X.w) X.A (exec st X.env) (SP X QLq D) X.xe s
def v9(X:Cx)(st:List Stmt)(t:TS):Prop:=
 ∀(QLq:QQz)(s:Shared)(σ:St)(H:Hp)(D:Ends),Inv X QLq σ H s->t D σ H->wpAny (model X.prog X.w) X.A (execs st X.env) (SP X QLq D) X.xe s
theorem b8{α:Type}{t:Sem α}{Q Q':α->Shared->Prop}{M:Model}{A:Around}{E:QZq}{s:Shared}(h:wpAny M A t Q E s)(hQ:∀a s,Q a s->Q' a s):wpAny M A t Q' E s:=QGq h hQ fun _ _ x=>x
section
variable{X:Cx}
theorem bin{a b:Expr}{ta tb:TE}(ha:PE X a ta)(hb:PE X b tb){QLq:QQz}{s:Shared}{σ:St}{H:Hp}{R:V->V->Hp->Prop}(I:Inv X QLq σ H s)(h:ta σ H fun x H1=>tb σ H1 fun y H2=>R x y H2)
  {α:Type}{Q:α->Shared->Prop}{f:Value->Value->Sem α}
  (hf:∀v u s2 x y H2,Inv X QLq σ H2 s2->RelV x v->RelV y u->R x y H2->wpAny (model X.prog X.w) X.A (f v u) Q X.xe s2):
  wpAny (model X.prog X.w) X.A (eval a X.env) (fun v s₁=>wpAny (model X.prog X.w) X.A (eval b X.env) (fun u s₂=>wpAny (model X.prog X.w) X.A (f v u) Q X.xe s₂) X.xe s₁) X.xe s:=by
 refine b8 (ha QLq s σ H _ I h) fun v s1⟨x,H1,I1,r1,q1⟩=>?_
 refine b8 (hb QLq s1 σ H1 _ I1 q1) fun u s2⟨y,H2,I2,r2,q2⟩=>?_
 exact hf v u s2 x y H2 I2 r1 r2 q2
def Hg(i:Nat):TE:=fun σ H Q=>∃v,σ[i]? =some (some v)/\Q v H
def tC(v:V):TE:=fun _ H Q=>Q v H
theorem Io{i:Nat}{x:Str}{pos:Pos}(hN:X.N[i]? =some x)(hv:Yq X.env.scope x)(hd:(x==("__debug__":Str))=false:=by decide)(hcd:(x==("__classdict__":Str))=false:=by decide):PE X (.Name x pos) (Hg i):=by
 intro QLq s σ H Q I h
 obtain⟨v,e,h⟩:=h
 obtain⟨m,hn,hl⟩:=I.loc
 obtain⟨u,r,l⟩:=hl i x v hN e hv
 have fin:EP X QLq σ Q u s:=⟨v,H,I,r,h⟩
 rcases l with ⟨hk,hm⟩|⟨hk,c,hc,hcell⟩
 ·exact wpAny_Name (wpAny_loadName_local I.ok.kind hk hn hm fin) hd
 ·rcases hk with hk|hk
  ·exact wpAny_Name (wpAny_loadName_cell I.ok.kind hk hc hcell fin) hd
  ·exact wpAny_Name (wpAny_loadName_free I.ok.kind hk hc hcell fin hcd) hd
theorem UG{i j pos}:PE X (.Constant (.int i) j pos) (tC (.int i)):=fun _ _ _ H _ I h=>wpAny_Constant_int ⟨.int i,H,I.tok _,⟨_,rfl⟩,h⟩
theorem Z4{b j pos}:PE X (.Constant (.bool b) j pos) (tC (.bl b)):=fun _ _ _ H _ I h=>Constant_bool ⟨.bl b,H,I,rfl,h⟩
theorem Uy{j pos}:PE X (.Constant .none j pos) (tC .non):=fun _ _ _ H _ I h=>Constant_none ⟨.non,H,I,rfl,h⟩
theorem Ux{x j pos}:PE X (.Constant (.str x) j pos) (tC (.str x)):=fun _ _ _ H _ I h=>Calls.Constant_str ⟨.str x,H,I.tok _,⟨_,rfl⟩,h⟩
def Gl(X:Cx)(x:Str):Prop:=X.env.kindOf x=some .globalImplicit
theorem Ci{E:QZq}{QLq:QQz}{s:Shared}{σ:St}{H:Hp}{x:Str}{u:Value}{pos:Pos}{Q:QZq}(I:Inv X QLq σ H s)(hg:Gl X x)(hm:X.mg x=some u)(h:Q u s)
  (hd:(x==("__debug__":Str))=false:=by decide):wpAny (model X.prog X.w) X.A (eval (.Name x pos) X.env) Q E s:=
 Calls.Name_function_global I.ok.kind hg (Calls.loadGlobal_global (by rw[I.ok.glob];exact I.mod.glob.keeps I.bk) hm h) hd
theorem jr{E:QZq}{QLq:QQz}{s:Shared}{σ:St}{H:Hp}{x:Str}{u:Value}{pos:Pos}{Q:QZq}(I:Inv X QLq σ H s)(hg:Gl X x)(hm:X.mg x=none)(hv:bootBuiltins x=some u)(h:Q u s)
  (hn:x≠"__name__":=by decide)(hd:(x==("__debug__":Str))=false:=by decide):wpAny (model X.prog X.w) X.A (eval (.Name x pos) X.env) Q E s:=by
 obtain⟨mb,h1,h2⟩:=I.mod.blt
 exact Calls.Name_function_global I.ok.kind hg (Calls.loadGlobal_builtin (by rw[I.ok.glob];exact I.mod.glob.keeps I.bk) hm (by rw[I.ok.blt];exact h1.keeps I.bk) ((h2 x hn).trans hv) h) hd
theorem Oj{x:Str}{v:V}{u:Value}{pos:Pos}(hg:Gl X x)(hm:X.mg x=some u)(r:RelV v u)(hd:(x==("__debug__":Str))=false:=by decide):PE X (.Name x pos) (tC v):=
 fun _ _ _ H _ I h=>Ci I hg hm ⟨v,H,I,r,h⟩ hd
theorem Oq{x:Str}{v:V}{u:Value}{pos:Pos}(hg:Gl X x)(hm:X.mg x=none)(hv:bootBuiltins x=some u)(r:RelV v u)(hn:x≠"__name__":=by decide)(hd:(x==("__debug__":Str))=false:=by decide):PE X (.Name x pos) (tC v):=
 fun _ _ _ H _ I h=>jr I hg hm hv ⟨v,H,I,r,h⟩ hn hd
variable{a b:Expr}{ta tb:TE}{pos:Pos}
variable{tA tB':TT}{rest:List Expr}
def adk(t u:TT):TT:=fun σ H Q=>t σ H fun c H1=>if c=true then u σ H1 Q else Q false H1
def tOr(t u:TT):TT:=fun σ H Q=>t σ H fun c H1=>if c=true then Q true H1 else u σ H1 Q
def ade(t:TT):TT:=fun σ H Q=>t σ H fun c H1=>Q (!c) H1
theorem NT(ha:PT X a tA):PW X (.BoolOp .And [a] pos) tA:=by
 intro wh QLq s σ H Q I h
 refine isTrue_and (b8 (ha QLq s σ H Q I h) fun c s1 e=>?_)
 cases c with
 |true=>exact isTrue_and_nil e
 |false=>exact e
theorem Uo(ha:PT X a tA):PW X (.BoolOp .Or [a] pos) tA:=by
 intro wh QLq s σ H Q I h
 refine isTrue_or (b8 (ha QLq s σ H Q I h) fun c s1 e=>?_)
 cases c with
 |false=>exact isTrue_or_nil e
 |true=>exact e
theorem Up(ha:PT X a tA)(hb:PW X (.BoolOp .And (b::rest) pos) tB'):PW X (.BoolOp .And (a::b::rest) pos) (adk tA tB'):=by
 intro wh QLq s σ H Q I h
 refine isTrue_and (b8 (ha QLq s σ H _ I h) fun c s1⟨H1,I1,q1⟩=>?_)
 cases c with
 |true=>exact hb wh QLq s1 σ H1 Q I1 q1
 |false=>exact⟨H1,I1,q1⟩
theorem ZX(ha:PT X a tA)(hb:PW X (.BoolOp .Or (b::rest) pos) tB'):PW X (.BoolOp .Or (a::b::rest) pos) (tOr tA tB'):=by
 intro wh QLq s σ H Q I h
 refine isTrue_or (b8 (ha QLq s σ H _ I h) fun c s1⟨H1,I1,q1⟩=>?_)
 cases c with
 |true=>exact⟨H1,I1,q1⟩
 |false=>exact hb wh QLq s1 σ H1 Q I1 q1
theorem Ur(ha:PT X a tA):PT X (.UnaryOp .Not a pos) (ade tA):=by
 intro QLq s σ H Q I h
 exact isTrue_not (ha QLq s σ H (fun c H1=>Q (!c) H1) I h)
def Y9(ta tb:TE):TE:=fun σ H Q=>ta σ H fun x H1=>∃c,x=.bl c/\if c=true then tb σ H1 Q else Q (.bl false) H1
def adc(ta tb:TE):TE:=fun σ H Q=>ta σ H fun x H1=>∃c,x=.bl c/\if c=true then Q (.bl true) H1 else tb σ H1 Q
theorem Iu{op}{t:TE}(h:PE X a t):PE X (.BoolOp op [a] pos) t:=fun QLq s σ H Q I hw=>BoolOp_one (h QLq s σ H Q I hw)
theorem UL(ha:PE X a ta)(hb:PE X (.BoolOp .And (b::rest) pos) tb):PE X (.BoolOp .And (a::b::rest) pos) (Y9 ta tb):=by
 intro QLq s σ H Q I h
 refine BoolOp_and (b8 (ha QLq s σ H _ I h) fun v s1⟨x,H1,I1,r1,q1⟩=>?_)
 obtain⟨c,rfl,q1⟩:=q1
 cases r1
 refine wpAny_truthy_bool ?_
 cases c with
 |true=>exact hb QLq s1 σ H1 Q I1 q1
 |false=>exact⟨.bl false,H1,I1,rfl,q1⟩
theorem Z2(ha:PE X a ta)(hb:PE X (.BoolOp .Or (b::rest) pos) tb):PE X (.BoolOp .Or (a::b::rest) pos) (adc ta tb):=by
 intro QLq s σ H Q I h
 refine BoolOp_or (b8 (ha QLq s σ H _ I h) fun v s1⟨x,H1,I1,r1,q1⟩=>?_)
 obtain⟨c,rfl,q1⟩:=q1
 cases r1
 refine wpAny_truthy_bool ?_
 cases c with
 |false=>exact hb QLq s1 σ H1 Q I1 q1
 |true=>exact⟨.bl true,H1,I1,rfl,q1⟩
def tIf(t:TT)(ta tb:TE):TE:=fun σ H Q=>t σ H fun c H1=>if c=true then ta σ H1 Q else tb σ H1 Q
theorem Iv{c:Expr}(hc:PT X c tA)(ha:PE X a ta)(hb:PE X b tb):PE X (.IfExp c a b pos) (tIf tA ta tb):=by
 intro QLq s σ H Q I h
 refine wpAny_IfExp (b8 (hc QLq s σ H _ I h) fun d s1⟨H1,I1,q1⟩=>?_)
 cases d with
 |true=>exact ha QLq s1 σ H1 Q I1 q1
 |false=>exact hb QLq s1 σ H1 Q I1 q1
end
def iH(K:QQq)(H:Hp)(a:Addr)(xs:List V):Prop:=
 Rd H a (.lst xs)\/
  ∃(o:Obj)(its:Array Value)(n:Nat),K.lookup a=some o/\o.cls=.type "list"/\o.dict=none/\o.data=.seq its n/\its.size<=sizeLine/\Vals xs its.toList
def gQ(K:QQq)(H:Hp)(a:Addr)(xs:List V):Prop:=
 Rd H a (.tup xs)\/
  ∃(o:Obj)(its:Array Value)(n:Nat),K.lookup a=some o/\o.cls=.type "tuple"/\o.dict=none/\o.data=.seq its n/\its.size<=sizeLine/\Vals xs its.toList
def ae9:Value->Option V
 |.none=>some .non
 |.bool b=>some (.bl b)
 |.int i _=>some (.int i)
 |.str x _=>some (.str x)
 |.bytes b _=>some (.byt b)
 |.float b _=>some (.flt b)
 |.ref a=>some (.ref a)
 |.type n=>some (.ty n)
 |_=>none
theorem RelV.abs{x:V}{u:Value}(r:RelV x u):ae9 u=some x:=by
 cases x with
 |non=>cases r;rfl
 |bl _=>cases r;rfl
 |int _=>obtain⟨t,rfl⟩:=r;rfl
 |str _=>obtain⟨t,rfl⟩:=r;rfl
 |byt _=>obtain⟨t,rfl⟩:=r;rfl
 |flt _=>obtain⟨t,rfl⟩:=r;rfl
 |ref _=>cases r;rfl
 |ty _=>cases r;rfl
theorem RelV.inj{x y:V}{u:Value}(r:RelV x u)(q:RelV y u):x=y:=QEq (r.abs.symm.trans q.abs)
theorem Vals.inj:∀{xs ys:List V}{us:List Value},Vals xs us->Vals ys us->xs=ys
 |_,_,_,.nil,.nil=>rfl
 |_,_,_,.cons r t,.cons r' t'=>by rw[r.inj r',Vals.inj t t']
section
variable{X:Cx}{QLq:QQz}{σ:St}{H:Hp}{s:Shared}{a:Addr}{xs ys:List V}
theorem Inv.list(I:Inv X QLq σ H s)(h:iH X.K H a xs):∃its:List Value,Vals xs its/\PlainL s.heap a its.toArray/\xs.length<=sizeLine:=by
 rcases h with h|⟨o,its,n,hk,hc,hd,hs,hz,r⟩
 ·obtain⟨z,its,n,r,e⟩:=h.ok I.hok
  exact⟨its,r,⟨_,n,e,rfl,rfl,rfl⟩,z⟩
 ·refine⟨its.toList,r,⟨o,n,I.XH a o hk,hc,hd,by simpa using hs⟩,?_⟩
  have e:=r.length
  simp only[Array.length_toList]at e
  omega
theorem Inv.yN(I:Inv X QLq σ H s)(h:gQ X.K H a xs):∃its:List Value,Vals xs its/\TupOk s.heap a its.toArray/\xs.length<=sizeLine:=by
 rcases h with h|⟨o,its,n,hk,hc,hn,hs,hz,r⟩
 ·obtain⟨z,its,r,p⟩:=h.ok I.hok
  exact⟨its,r,p,z⟩
 ·refine⟨its.toList,r,⟨o,I.XH a o hk,hc,hn,n,by simpa using hs⟩,?_⟩
  have e:=r.length
  simp only[Array.length_toList]at e
  omega
theorem Inv.tuple(I:Inv X QLq σ H s)(h:gQ X.K H a xs):∃its:List Value,Vals xs its/\IsTup s.heap a its.toArray/\xs.length<=sizeLine:=by
 obtain⟨its,r,p,z⟩:=I.yN h
 exact⟨its,r,p.is,z⟩
theorem Inv.xK(I:Inv X QLq σ H s)(h:iH X.K H a xs)(h':iH X.K H a ys):xs=ys:=by
 obtain⟨its,r,⟨o,n,e,_,_,d⟩,_⟩:=I.list h
 obtain⟨its',r',⟨o',n',e',_,_,d'⟩,_⟩:=I.list h'
 rw[e]at e';cases e'
 rw[d]at d'
 injection d' with d1 _
 have:its=its':=by simpa using congrArg Array.toList d1
 subst this
 exact r.inj r'
theorem Inv.sy(I:Inv X QLq σ H s)(h:gQ X.K H a xs)(h':gQ X.K H a ys):xs=ys:=by
 obtain⟨its,r,⟨o,e,_,n,d⟩,_⟩:=I.tuple h
 obtain⟨its',r',⟨o',e',_,n',d'⟩,_⟩:=I.tuple h'
 rw[e]at e';cases e'
 rw[d]at d'
 injection d' with d1 _
 have:its=its':=by simpa using congrArg Array.toList d1
 subst this
 exact r.inj r'
end
abbrev Cx.wish(X:Cx)(E:QZq):Cx:={X with xe:=E}
abbrev Cx.nox(X:Cx):Cx:=X.wish fun _ _=>False
theorem Cx.Ok.wish{X:Cx}(ok:X.Ok)(E:QZq):(X.wish E).Ok:=
 ⟨ok.mod,ok.kind,ok.glob,ok.blt,ok.above,ok.inj,ok.has,ok.cab,ok.hd,ok.frames,ok.stk,ok.exf,ok.bs,ok.bsz,ok.noex,ok.exfs,ok.kj,ok.frf⟩
theorem Cx.Ok.jk{X:Cx}{E:QZq}(ok:(X.wish E).Ok):X.Ok:=
 ⟨ok.mod,ok.kind,ok.glob,ok.blt,ok.above,ok.inj,ok.has,ok.cab,ok.hd,ok.frames,ok.stk,ok.exf,ok.bs,ok.bsz,ok.noex,ok.exfs,ok.kj,ok.frf⟩
section
variable{X:Cx}{QLq:QQz}{σ:St}{H:Hp}{s:Shared}{E:QZq}
theorem Inv.wish(I:Inv X QLq σ H s)(E:QZq):Inv (X.wish E) QLq σ H s:=⟨I.ok.wish E,I.os,I.bare,I.base,I.loc,I.cell,I.free,I.freeC,I.pin,I.hok,I.len⟩
theorem Inv.jk(I:Inv (X.wish E) QLq σ H s):Inv X QLq σ H s:=⟨I.ok.jk,I.os,I.bare,I.base,I.loc,I.cell,I.free,I.freeC,I.pin,I.hok,I.len⟩
theorem SP.jk{D:Ends}{f:Flow}{s':Shared}(h:SP (X.wish E) QLq D f s'):SP X QLq D f s':=by
 cases f with
 |next=>obtain⟨σ',H',I,q⟩:=h;exact⟨σ',H',I.jk,q⟩
 |brk=>obtain⟨σ',H',I,q⟩:=h;exact⟨σ',H',I.jk,q⟩
 |cont=>obtain⟨σ',H',I,q⟩:=h;exact⟨σ',H',I.jk,q⟩
 |ret u=>obtain⟨v,σ',H',I,r,q⟩:=h;exact⟨v,σ',H',I.jk,r,q⟩
theorem v9.nox{st:List Stmt}{t:TS}(h:v9 X.nox st t):v9 X st t:=fun QLq s σ H D I hw=>
 QGq (h QLq s σ H D (I.wish _) hw) (fun _ _ q=>q.jk) fun _ _ z=>False.elim z
end
section
variable{X:Cx}{st:Stmt}{rest:List Stmt}{t u:TS}{e:Expr}{te:TE}{pos:Pos}
def Y0:TS:=fun D σ H=>D.nx σ H
def YQ(t u:TS):TS:=fun D σ H=>t {D with nx:=u D} σ H
theorem N8:v9 X [] Y0:=fun _ _ σ H _ I h=>wpAny_execs_nil ⟨σ,H,I,h⟩
theorem Ig(h1:PS X st t)(h2:v9 X rest u):v9 X (st::rest) (YQ t u):=by
 intro QLq s σ H D I h
 refine wpAny_execs_cons (b8 (h1 QLq s σ H {D with nx:=u D} I h) fun f s1 q=>?_)
 cases f with
 |next=>
  obtain⟨σ',H',I',q⟩:=q
  exact h2 QLq s1 σ' H' D I' q
 |ret v=>exact q
 |brk=>exact q
 |cont=>exact q
theorem Inv.quiet{QLq:QQz}{σ:St}{H:Hp}{s:Shared}(I:Inv X QLq σ H s):interactive X.env=false:=by simp[interactive,I.ok.kind]
def Y6(te:TE):TS:=fun D σ H=>te σ H fun _ H1=>D.nx σ H1
theorem Br(he:PE X e te)(hs:swapsWith e none pos.line X.env=pure false:=by rfl):PS X (.Expr e pos) (Y6 te):=by
 intro QLq s σ H D I h
 exact wpAny_Expr_any (b8 (he QLq s σ H _ I h) fun v s1⟨x,H1,I1,r1,q1⟩=>⟨σ,H1,I1,q1⟩) I.quiet hs
def YT(te:TE):TS:=fun D σ H=>te σ H D.rt
theorem mH(he:PE X e te):PS X (.Return (some e) pos) (YT te):=by
 intro QLq s σ H D I h
 exact wpAny_Return_some (b8 (he QLq s σ H _ I h) fun v s1⟨x,H1,I1,r1,q1⟩=>⟨x,σ,H1,I1,r1,q1⟩)
def YS:TS:=fun D _ H=>D.rt .non H
theorem Oa:PS X (.Return none pos) YS:=fun _ _ σ H _ I h=>wpAny_Return_none ⟨.non,σ,H,I,rfl,h⟩
def adg(c:TT)(t u:TS):TS:=fun D σ H=>c σ H fun b H1=>if b=true then t D σ H1 else u D σ H1
theorem Z0{c:Expr}{a b:List Stmt}{tc:TT}(hc:PT X c tc)(ha:v9 X a t)(hb:v9 X b u):PS X (.If c a b pos) (adg tc t u):=by
 intro QLq s σ H D I h
 refine wpAny_If (b8 (hc QLq s σ H _ I h) fun d s1⟨H1,I1,q1⟩=>?_)
 cases d with
 |true=>exact ha QLq s1 σ H1 D I1 q1
 |false=>exact hb QLq s1 σ H1 D I1 q1
end
abbrev TG:=V->St->Hp->(St->Hp->Prop)->Prop
abbrev WX:=List V->St->Hp->(St->Hp->Prop)->Prop
def PG(X:Cx)(target:Expr)(t:TG):Prop:=
 ∀(QLq:QQz)(s:Shared)(σ:St)(H:Hp)(v:V)(u:Value)(Q:St->Hp->Prop),Inv X QLq σ H s->RelV v u->t v σ H Q->
  wpAny (model X.prog X.w) X.A (assign target X.env u) (fun _ s'=>∃σ' H',Inv X QLq σ' H' s'/\Q σ' H') X.xe s
def PGs(X:Cx)(ts:List Expr)(t:WX):Prop:=
 ∀(QLq:QQz)(s:Shared)(σ:St)(H:Hp)(vs:List V)(us:List Value)(Q:St->Hp->Prop),Inv X QLq σ H s->Vals vs us->t vs σ H Q->
  wpAny (model X.prog X.w) X.A (assignInOrder ((assignEach ts X.env).map (·.2)) us) (fun _ s'=>∃σ' H',Inv X QLq σ' H' s'/\Q σ' H') X.xe s
abbrev WW:=V->V->V->Hp->(Hp->Prop)->Prop
def Ls(X:Cx)(t:WW):Prop:=
 ∀(QLq:QQz)(s:Shared)(σ:St)(H:Hp)(o i v:V)(ov iv u:Value)(Q:Hp->Prop),Inv X QLq σ H s->RelV o ov->RelV i iv->RelV v u->t o i v H Q->
  wpAny (model X.prog X.w) X.A (setItem ov iv u) (fun _ s'=>∃H',Inv X QLq σ H' s'/\Q H') X.xe s
section
variable{X:Cx}{pos:Pos}
def RX(i:Nat):TG:=fun v σ H Q=>Q (σ.set i (some v)) H
theorem Oh{i:Nat}{x:Str}(hN:X.N.Nodup)(hi:X.N[i]? =some x)(hx:Loc X.env.scope x)(hf:X.fn x=true\/X.env.scope.names.lookup x=some .local:=by first|exact .inl rfl|exact .inr rfl|assumption):PG X (.Name x pos) (RX i):=by
 intro QLq s σ H v u Q I r h
 exact wpAny_assign_Name (wL I hN hi hx r (fun s' I'=>⟨_,H,I',h⟩) hf)
def aeL:WX:=fun vs σ H Q=>vs=[]/\Q σ H
def aa3(t:TG)(u:WX):WX:=fun vs σ H Q=>∃v r,vs=v::r/\t v σ H fun σ' H'=>u r σ' H' Q
theorem Og:PGs X [] aeL:=by
 intro QLq s σ H vs us Q I r h
 obtain⟨e,h⟩:=h
 subst e
 cases r
 exact assignInOrder_nil ⟨σ,H,I,h⟩
theorem Im{e:Expr}{es:List Expr}{t:TG}{u:WX}(h1:PG X e t)(h2:PGs X es u)
  (hs:(assignEach (e::es) X.env).map (·.2)=assign e X.env::(assignEach es X.env).map (·.2):=by rfl):PGs X (e::es) (aa3 t u):=by
 intro QLq s σ H vs us Q I r h
 obtain⟨v,vr,e1,h⟩:=h
 subst e1
 cases r with
 |cons r rr=>
  rw[hs]
  refine assignInOrder_cons (b8 (h1 QLq s σ H _ _ _ I r h) fun _ s1⟨σ1,H1,I1,q1⟩=>?_)
  exact h2 QLq s1 σ1 H1 _ _ Q I1 rr q1
def aeJ(K:QQq)(n:Nat)(t:WX):TG:=fun v σ H Q=>∃a xs,v=.ref a/\gQ K H a xs/\xs.length=n/\t xs σ H Q
theorem Uu{es:List Expr}{k:Nat}{t:WX}{n:Nat}(hc:X.calm=true)(h:PGs X es t)
  (hn:(assignEach es X.env).length=n:=by rfl)(hst:(assignEach es X.env).findIdx? (·.1)=none:=by rfl):PG X (.Tuple es k pos) (aeJ X.K n t):=by
 intro QLq s σ H v u Q I r hw
 obtain⟨a,xs,e1,hq,hl,hw⟩:=hw
 subst e1
 cases r
 obtain⟨its,rv,ht,hz⟩:=I.tuple hq
 refine assign_Tuple_tuple (I.ok.hd hc) ht (by simp[hn,<-hl,rv.length]) hst fun h' hx=>?_
 have I1:Inv X QLq σ H {s with heap:=h'}:=I.kept (t':=s.toks) fun b o e=>hx b o (Qvz (Qqz e)) e
 exact h QLq _ σ H xs _ Q I1 (by simpa using rv) hw
def aeK(to ti:TE)(t:WW):TG:=fun v σ H Q=>to σ H fun o H1=>ti σ H1 fun i H2=>t o i v H2 fun H3=>Q σ H3
theorem Uv{o i:Expr}{to ti:TE}{t:WW}(ho:PE X o to)(hi:PE X i ti)(hs:Ls X t)
  (ha:∀v,assign (.Subscript o i pos) X.env v=(do
   let ov<-holding [v] (eval o X.env)
   let iv<-holding [v,ov] (eval i X.env)
   standAt pos
   holding [v,ov,iv] (setItem ov iv v)
   release [v,ov,iv] []):=by intro _;rfl):PG X (.Subscript o i pos) (aeK to ti t):=by
 intro QLq s σ H v u Q I r h
 rw[ha]
 refine QKq (Qqq (b8 (ho QLq s σ H _ I h) fun ov s1⟨x,H1,I1,r1,q1⟩=>?_))
 refine QKq (Qqq (b8 (hi QLq s1 σ H1 _ I1 q1) fun iv s2⟨y,H2,I2,r2,q2⟩=>?_))
 refine QKq (wpAny_standAt (QKq (Qqq (b8 (hs QLq s2 σ H2 x y v ov iv u _ I2 r1 r2 r q2) fun _ s3⟨H3,I3,q3⟩=>?_))))
 exact wpAny_release ⟨σ,H3,I3,q3⟩
def Y8(te:TE)(g:TG):TS:=fun D σ H=>te σ H fun x H1=>g x σ H1 D.nx
theorem Ij{tg e:Expr}{te:TE}{g:TG}(he:PE X e te)(hg:PG X tg g)(hs:swapsWithSole [tg] e pos.line X.env=pure false:=by rfl)(hw:swappedStores [tg] e X.env=pure none:=by rfl)
  (h1:(assignEach [tg] X.env).map (·.2)=[assign tg X.env]:=by rfl):PS X (.Assign [tg] e pos) (Y8 te g):=by
 intro QLq s σ H D I h
 refine wpAny_Assign_stores (b8 (he QLq s σ H _ I h) fun v s1⟨x,H1,I1,r1,q1⟩=>?_) hs hw
 rw[h1]
 exact b8 (hg QLq s1 σ H1 x v _ I1 r1 q1) fun _ s2 q=>q
theorem Us{i:Nat}{x:Str}{e:Expr}{te:TE}{pos':Pos}(hN:X.N.Nodup)(hi:X.N[i]? =some x)(hx:Loc X.env.scope x)(he:PE X e te)(hs:swapsWith e (some (.Name x pos')) pos.line X.env=pure false:=by rfl)(hf:X.fn x=true\/X.env.scope.names.lookup x=some .local:=by first|exact .inl rfl|exact .inr rfl|assumption):
  PS X (.Assign [.Name x pos'] e pos) (Y8 te (RX i)):=by
 intro QLq s σ H D I h
 refine wpAny_Assign_Name (b8 (he QLq s σ H _ I h) fun v s1⟨y,H1,I1,r1,q1⟩=>?_) hs
 exact wL I1 hN hi hx r1 (fun s2 I2=>⟨_,H1,I2,q1⟩) hf
end
section
variable{X:Cx}{pos:Pos}
def Tu(c:TT)(tb:TS):TS:=fun D σ H=>∃W:Nat->St->Hp->Prop,(∃m,W m σ H)/\∀m σ H,W m σ H->
 c σ H fun b H1=>if b=true then∃N:St->Hp->Prop,(∀σ' H',N σ' H'->∃m',m'<m/\W m' σ' H')/\tb {D with nx:=N,ct:=N,bk:=D.nx} σ H1 else D.nx σ H1
theorem Ii{c:Expr}{body:List Stmt}{tc:TT}{tb:TS}(hp:PassesOwn (model X.prog X.w) X.A X.env X.xe)(hc:PT X c tc)(hb:v9 X body tb):PS X (.While c body [] pos) (Tu tc tb):=by
 intro QLq s σ H D I h
 obtain⟨W,⟨m0,w0⟩,turn⟩:=h
 refine wpAny_While (codeAny_whileLoop (fun n s'=>∃σ' H',Inv X QLq σ' H' s'/\W n σ' H') ?_ m0 ⟨σ,H,I,w0⟩)
 rintro n s1 ⟨σ1,H1,I1,w1⟩
 refine wpAny_passesOwn hp (b8 (hc QLq s1 σ1 H1 _ I1 (turn n σ1 H1 w1)) fun b s2⟨H2,I2,q2⟩=>?_)
 cases b with
 |true=>
  obtain⟨N,hN,q2⟩:=q2
  rw[if_pos rfl]
  refine wpAny_passesOwn hp (b8 (hb QLq s2 σ1 H2 _ I2 q2) fun f s3 q3=>?_)
  cases f with
  |next=>
   obtain⟨σ3,H3,I3,n3⟩:=q3
   obtain⟨m',hm,w3⟩:=hN σ3 H3 n3
   exact⟨m',hm,σ3,H3,I3,w3⟩
  |cont=>
   obtain⟨σ3,H3,I3,n3⟩:=q3
   obtain⟨m',hm,w3⟩:=hN σ3 H3 n3
   exact⟨m',hm,σ3,H3,I3,w3⟩
  |brk=>exact q3
  |ret v=>exact q3
 |false=>
  rw[if_neg Qjz]
  exact wpAny_execs_nil ⟨σ1,H2,I2,q2⟩
end
structure It where
 go:Nat->Hp->Prop
 yld:Nat->Hp->V->Hp->Prop
 stop:Nat->Hp->Prop
def gh(X:Cx)(QLq:QQz)(H:Hp)(b:Addr):Prop:=
 H b=none/\b≠X.env.locals/\b∉X.fs/\(b∈X.ex\/X.s₀.heap.objs.size<=b)/\(∀x c,X.env.cells.lookup x=some c->c≠b)/\∀p∈X.pn++QLq,p.1≠b
theorem Inv.zX{X:Cx}{QLq:QQz}{σ:St}{H H':Hp}{s:Shared}{b:Addr}(I:Inv X QLq σ H s)(hb:s.heap.objs.size<=b)(hn:H' b=none):gh X QLq H' b:=by
 refine⟨hn,Nat.ne_of_gt (Qvq I.lt hb),I.aed hb,.inr (Nat.le_trans I.sz hb),fun x c e z=>?_,fun p hp z=>?_⟩
 ·obtain⟨v,q⟩:=I.cell x c e
  exact absurd (Qvq q.lt (by rw[z];exact hb)) (Nat.lt_irrefl _)
 ·exact absurd (Qvq (Qqz (I.pin p hp).1) (by rw[z];exact hb)) (Nat.lt_irrefl _)
structure Turn(P:Program)(w:World)(K:QQq)(tg:Expr)(J:It)(fp:List Addr)(it:Addr)(tn:Nat->Heap->Prop):Prop where
 mem:it∈fp
 obj:∀i h,tn i h->∀b∈fp,∃o,h.get? b=some o/\∀v,o.data≠ .cell v
 keep:∀i h h',tn i h->(∀b∈fp,∀o,h.get? b=some o->h'.get? b=some o)->tn i h'
 item:∀(X:Cx),X.prog=P->X.w=w->X.K=K->X.calm=true->∀(i:Nat)(QLq:QQz)(s:Shared)(σ:St)(H:Hp)(E:QZq),Inv X QLq σ H s->(∀b∈fp,gh X QLq H b)->tn i s.heap->J.go i H->
  wpAny (model P w) X.A (pyNext (.ref it)) (fun r s1=>∃u,r=some u/\
   wpAny (model P w) X.A (letOwnedTupleGo tg (.ref it) u) (fun _ s2=>∃x H',Inv X QLq σ H' s2/\RelV x u/\J.yld i H x H'/\tn (i+1) s2.heap/\∀b∈fp,H' b=none) E s1) E s
 done:∀(X:Cx),X.prog=P->X.w=w->X.K=K->X.calm=true->∀(i:Nat)(QLq:QQz)(s:Shared)(σ:St)(H:Hp)(E:QZq),Inv X QLq σ H s->(∀b∈fp,gh X QLq H b)->tn i s.heap->J.stop i H->
  wpAny (model P w) X.A (pyNext (.ref it)) (fun r s1=>r=none/\Inv X QLq σ H s1) E s
 self:∀(A:Around)(i:Nat)(s:Shared)(Q:QZq)(E:QZq),tn i s.heap->Q (.ref it) s->wpAny (model P w) A (pyIter (.ref it)) Q E s
abbrev TI:=St->Hp->(It->Hp->Prop)->Prop
def PIE(X:Cx)(QLq:QQz)(σ:St)(tg:Expr)(R:It->Hp->Prop)(itv:Value)(s2:Shared):Prop:=
 ∃(it:Addr)(fp:List Addr)(tn:Nat->Heap->Prop)(J:It)(H':Hp),itv=.ref it/\Inv X QLq σ H' s2/\Turn X.prog X.w X.K tg J fp it tn/\tn 0 s2.heap/\(∀b∈fp,gh X QLq H' b)/\R J H'
def PI(X:Cx)(tg iter:Expr)(wi:TI):Prop:=
 ∀(QLq:QQz)(s:Shared)(σ:St)(H:Hp)(R:It->Hp->Prop),Inv X QLq σ H s->wi σ H R->
  wpAny (model X.prog X.w) X.A (eval iter X.env) (fun v s1=>wpAny (model X.prog X.w) X.A (pyIter v) (PIE X QLq σ tg R) X.xe s1) X.xe s
theorem Cy {M : Model} {A : Around} {E : QZq} {s : Shared} {tg : Expr} {it : Addr} {u : Value} {o : Obj} {n : String} {vs : Array Value} {Q : Unit -> Shared -> Prop} (ho : s.heap.get? it = some o) (hc : o.cls = .type n) (hd : o.data = .fields vs)
    (hn : ["enumerate", "zip", "dict_itemiterator", "dict_reverseitemiterator", "odict_iterator", "itertools.zip_longest", "itertools.pairwise"].contains n = false) (hQ : Q () s) : wpAny M A (letOwnedTupleGo tg (.ref it) u) Q E s := by
  unfold letOwnedTupleGo
  cases tg <;> first
    | exact QKz hQ
    | (cases u <;> first
        | exact QKz hQ
        | (refine QKq (wpAny_load ho ?_)
           rw [hc, hd]
           show wpAny M A (if (["enumerate", "zip", "dict_itemiterator", "dict_reverseitemiterator", "odict_iterator", "itertools.zip_longest", "itertools.pairwise"].contains n && vs[0]? == some (rawInt _)) = true then _ else _) Q E s
           rw [if_neg (by intro h; rw [hn, Bool.false_and] at h; cases h)]
           exact QKz hQ))
def Itl(K:QQq)(a:Addr):It:=
 ⟨fun i H=>∃xs x,iH K H a xs/\xs[i]? =some x,fun i H x H'=>H'=H/\∀xs,iH K H a xs->xs[i]? =some x,fun i H=>∃xs,iH K H a xs/\xs.length<=i⟩
def Itt(K:QQq)(a:Addr):It:=
 ⟨fun i H=>∃xs x,gQ K H a xs/\xs[i]? =some x,fun i H x H'=>H'=H/\∀xs,gQ K H a xs->xs[i]? =some x,fun i H=>∃xs,gQ K H a xs/\xs.length<=i⟩
def Itr(lo:Int)(n:Nat):It:=⟨fun i _=>i<n,fun i H x H'=>H'=H/\x=.int (lo+i),fun i _=>n<=i⟩
theorem DN{P:Program}{w:World}{K:QQq}{tg:Expr}(a it:Addr):Turn P w K tg (Itl K a) [it] it (fun i h=>h.IsListIter it a i) where
 mem:=by simp
 obj:=fun i h st b hb=>by
  have e:b=it:=by simpa using hb
  subst e
  obtain⟨o,e,c,d⟩:=st
  exact⟨o,e,fun v z=>by rw[d]at z;cases z⟩
 keep:=fun i h h' st k=>st.at fun o e=>k it (by simp) o e
 item:=by
  intro X hP hw hK hc i QLq s σ H E I hf st hg
  subst hP hw hK
  obtain⟨xs,x,hq,hx⟩:=hg
  obtain⟨its,rv,p,hz⟩:=I.list hq
  obtain⟨u,hu,ru⟩:=rv.get hx
  obtain⟨f0,f1,f2,f3,f4,f5⟩:=hf it (by simp)
  refine wpAny_pyNext_list_item st p.isList (x:=u) (by simpa using hu) fun h' st' sb=>?_
  have I1:Inv X QLq σ H {s with heap:=h'}:=I.turned (t':=s.toks) (fun b o hb e=>(sb.2 b hb).trans e) f0 f1 f3 f4 f5
  obtain⟨o,e,c,d⟩:=id st'
  exact⟨u,rfl,Cy (s:={s with heap:=h'}) e c d (by decide) ⟨x,H,I1,ru,⟨rfl,fun ys hy=>by rw[I.xK hy hq];exact hx⟩,st',fun b hb=>(hf b hb).1⟩⟩
 done:=by
  intro X hP hw hK hc i QLq s σ H E I hf st hg
  subst hP hw hK
  obtain⟨xs,hq,hx⟩:=hg
  obtain⟨its,rv,p,hz⟩:=I.list hq
  obtain⟨f0,f1,f2,f3,f4,f5⟩:=hf it (by simp)
  have hl:=rv.length
  exact wpAny_pyNext_list_end (I.ok.hd hc) st p.isList (by simp;omega) fun h' eb=>⟨rfl,I.turned (t':=s.toks) (fun b o hb e=>eb b o hb e) f0 f1 f3 f4 f5⟩
 self:=fun _ _ _ _ _ st h=>wpAny_pyIter_listiter st h
theorem yL{P:Program}{w:World}{K:QQq}{tg:Expr}(a it:Addr):Turn P w K tg (Itt K a) [it] it (fun i h=>h.IsTupleIter it a i) where
 mem:=by simp
 obj:=fun i h st b hb=>by
  have e:b=it:=by simpa using hb
  subst e
  obtain⟨o,e,c,d⟩:=st
  exact⟨o,e,fun v z=>by rw[d]at z;cases z⟩
 keep:=fun i h h' st k=>st.at fun o e=>k it (by simp) o e
 item:=by
  intro X hP hw hK hc i QLq s σ H E I hf st hg
  subst hP hw hK
  obtain⟨xs,x,hq,hx⟩:=hg
  obtain⟨its,rv,p,hz⟩:=I.tuple hq
  obtain⟨u,hu,ru⟩:=rv.get hx
  obtain⟨f0,f1,f2,f3,f4,f5⟩:=hf it (by simp)
  refine wpAny_pyNext_tuple_item st (show s.heap.IsTuple a its.toArray from p) (x:=u) (by simpa using hu) fun h' st' sb=>?_
  have I1:Inv X QLq σ H {s with heap:=h'}:=I.turned (t':=s.toks) (fun b o hb e=>(sb.2 b hb).trans e) f0 f1 f3 f4 f5
  obtain⟨o,e,c,d⟩:=id st'
  exact⟨u,rfl,Cy (s:={s with heap:=h'}) e c d (by decide) ⟨x,H,I1,ru,⟨rfl,fun ys hy=>by rw[I.sy hy hq];exact hx⟩,st',fun b hb=>(hf b hb).1⟩⟩
 done:=by
  intro X hP hw hK hc i QLq s σ H E I hf st hg
  subst hP hw hK
  obtain⟨xs,hq,hx⟩:=hg
  obtain⟨its,rv,p,hz⟩:=I.tuple hq
  obtain⟨f0,f1,f2,f3,f4,f5⟩:=hf it (by simp)
  have hl:=rv.length
  exact wpAny_pyNext_tuple_end (I.ok.hd hc) st (show s.heap.IsTuple a its.toArray from p) (by simp;omega) fun h' eb=>⟨rfl,I.turned (t':=s.toks) (fun b o hb e=>eb b o hb e) f0 f1 f3 f4 f5⟩
 self:=fun _ _ _ _ _ st h=>wpAny_pyIter_tupleiter st h
theorem yM{P:Program}{w:World}{K:QQq}{tg:Expr}(it:Addr)(lo:Int)(n:Nat):Turn P w K tg (Itr lo n) [it] it (fun i h=>IsRangeIter h it (lo+(i:Nat)*1) ((n:Int)- (i:Nat)) 1) where
 mem:=by simp
 obj:=fun i h st b hb=>by
  have e:b=it:=by simpa using hb
  subst e
  exact⟨_,st,fun v z=>by
   have z':Data.fields _=Data.cell v:=z
   cases z'⟩
 keep:=fun i h h' st k=>k it (by simp) _ st
 item:=by
  intro X hP hw hK hc i QLq s σ H E I hf st hg
  subst hP hw hK
  obtain⟨f0,f1,f2,f3,f4,f5⟩:=hf it (by simp)
  have W:=Walks.range (prog:=X.prog) (w:=X.w) (I.ok.hd hc) it lo 1 n
  refine W.item i s _ _ hg st fun v h' tk hv st' kk=>?_
  obtain⟨t,rfl⟩:=hv
  have I1:Inv X QLq σ H {s with heap:=h',toks:=tk}:=I.turned (fun b o hb e=>kk b o (by simpa using hb) e) f0 f1 f3 f4 f5
  refine⟨_,rfl,Cy (s:={s with heap:=h',toks:=tk}) (n:="range_iterator") st' rfl rfl (by decide) ⟨.int (lo+i),H,I1,⟨t,?_⟩,⟨rfl,rfl⟩,st',fun b hb=>(hf b hb).1⟩⟩
  rw[Int.mul_one]
 done:=by
  intro X hP hw hK hc i QLq s σ H E I hf st hg
  subst hP hw hK
  obtain⟨f0,f1,f2,f3,f4,f5⟩:=hf it (by simp)
  exact wpAny_pyNext_range_end (I.ok.hd hc) st (by have:n<=i:=hg;omega) fun h' eb=>⟨rfl,I.turned (t':=s.toks) (fun b o hb e=>eb b o hb e) f0 f1 f3 f4 f5⟩
 self:=fun _ _ _ _ _ st h=>wpAny_pyIter_rangeiter st h
section
variable{X:Cx}{tg:Expr}
theorem HJ{QLq:QQz}{σ:St}{H:Hp}{s:Shared}{R:It->Hp->Prop}{E:QZq}{lo hi:Int}{t u v:Tok}{tk:Nat}(I:Inv X QLq σ H s)(h1: -(2 ^62)<=lo)(h2:lo<2 ^62)(h3: -(2 ^62)<=hi)(h4:hi<2 ^62)
  (q:R (Itr lo (hi-lo).toNat) H):wpAny (model X.prog X.w) X.A (pyIter (.ref s.heap.objs.size)) (PIE X QLq σ tg R) E {s with heap:=s.heap.push {cls:=.type "range",data:=.fields #[.int lo t,.int hi u,.int 1 v]},toks:=tk}:=by
 refine wpAny_pyIter_range (IsRange.new ..) (small_one h1 h2 h3 h4) ?_
 have I1:Inv X QLq σ H {s with heap:=s.heap.push {cls:=.type "range",data:=.fields #[.int lo t,.int hi u,.int 1 v]},toks:=tk}:=I.kept fun b o e=>QWq _ e
 refine⟨(s.heap.push {cls:=.type "range",data:=.fields #[.int lo t,.int hi u,.int 1 v]}).objs.size,[(s.heap.push {cls:=.type "range",data:=.fields #[.int lo t,.int hi u,.int 1 v]}).objs.size],_,_,H,rfl,
  I1.kept (t':=tk) fun b o e=>QWq _ e,yM _ lo (hi-lo).toNat,?_,fun b hb=>?_,q⟩
 ·have e1:lo+((0:Nat):Int)*1=lo:=by simp
  have e2:(((hi-lo).toNat:Nat):Int)- ((0:Nat):Int)=Builtin.Range.rangeSize lo hi 1:=by rw[rangeSize_one];split<;>omega
  show IsRangeIter _ _ (lo+((0:Nat):Int)*1) ((((hi-lo).toNat:Nat):Int)- ((0:Nat):Int)) 1
  rw[e1,e2]
  exact Qzq _ rfl
 ·have e:b=(s.heap.push {cls:=.type "range",data:=.fields #[.int lo t,.int hi u,.int 1 v]}).objs.size:=by simpa using hb
  subst e
  exact I1.zX (QVz _) (I1.hok.fresh (QVz _))
def aaV(ta:TA):TI:=fun σ H R=>ta σ H fun vs H1=>∃j:Int,vs=[.int j]/\ -(2 ^62)<=j/\j<2 ^62/\R (Itr 0 j.toNat) H1
theorem Ex{a:Expr}{ta:TA}{p pos:Pos}(hg:Gl X "range")(hm:X.mg "range"=none)(ha:PA X [a] ta)(hs:starEach [a] X.env=[(false,eval a X.env)]:=by rfl):PI X tg (.Call (.Name "range" p) [a] [] pos) (aaV ta):=by
 intro QLq s σ H R I h
 refine Call_ (jr I hg hm boot_range (PyProof.Rows.callWith_type1 (b8 (ha pos QLq s σ H _ I h) fun us s1⟨vs,H1,I1,r1,q1⟩=>?_) hs rfl))
 obtain⟨j,e,q1,q2,q⟩:=q1
 subst e
 cases r1 with
 |cons r rr=>
  cases rr
  obtain⟨t,rfl⟩:=r
  exact call_range_1 (HJ I1 (by omega) (by omega) q1 q2 (by simpa using q))
def adh(wi:TI)(g:TG)(tb:TS):TS:=fun D σ H=>wi σ H fun J H1=>∃W:Nat->Nat->St->Hp->Prop,(∃m,W 0 m σ H1)/\∀i m σ H,W i m σ H->
 (J.stop i H/\D.nx σ H)\/(J.go i H/\∃N:St->Hp->Prop,(∀σ' H',N σ' H'->∃m',m'<m/\W (i+1) m' σ' H')/\∀x H',J.yld i H x H'->g x σ H' fun σ2 H2=>tb {D with nx:=N,ct:=N,bk:=D.nx} σ2 H2)
def mJ(fp:List Addr)(h:Heap):List (Addr×Obj):=fp.filterMap fun b=>(h.get? b).map fun o=>(b,o)
theorem iu{fp:List Addr}{h:Heap}{b:Addr}{o:Obj}(hb:b∈fp)(e:h.get? b=some o):(b,o)∈mJ fp h:=List.mem_filterMap.mpr ⟨b,hb,by rw[e];rfl⟩
theorem Fe{fp:List Addr}{h:Heap}{p:Addr×Obj}(hp:p∈mJ fp h):p.1∈fp/\h.get? p.1=some p.2:=by
 obtain⟨b,hb,e⟩:=List.mem_filterMap.mp hp
 cases q:h.get? b with
 |none=>rw[q]at e;cases e
 |some o=>
  rw[q]at e
  have e':(b,o)=p:=QEq e
  subst e'
  exact⟨hb,q⟩
theorem Inv.pinned{QLq:QQz}{σ:St}{H:Hp}{s:Shared}{fp:List Addr}(I:Inv X QLq σ H s)(hf:∀b∈fp,gh X QLq H b)(ho:∀b∈fp,∃o,s.heap.get? b=some o/\∀v,o.data≠ .cell v):Inv X (QLq++mJ fp s.heap) σ H s:=
 I.Bt fun p hp=>(QXz.mp hp).elim (fun z=>I.pin p (QVq _ z)) fun z=>by
  obtain⟨hb,e⟩:=Fe z
  obtain⟨f0,f1,f2,_⟩:=hf p.1 hb
  obtain⟨o,e',d⟩:=ho p.1 hb
  rw[e]at e';cases e'
  exact⟨e,f0,f1,f2,d⟩
theorem Inv.kO{QLq pl:QQz}{σ:St}{H:Hp}{s:Shared}(I:Inv X (QLq++pl) σ H s):Inv X QLq σ H s:=I.Bt fun p hp=>I.pin p (QVq _ (QWz _ hp))
theorem Ut{iter:Expr}{body:List Stmt}{wi:TI}{g:TG}{tb:TS}{pos:Pos}(hp:PassesOwn (model X.prog X.w) X.A X.env X.xe)(hc:X.calm=true)(hi:PI X tg iter wi)(hg:PG X tg g)(hb:v9 X body tb)
  (hs:∀x,foldedSetIterable iter X.env x=pure x:=by intro _;rfl):PS X (.For tg iter body [] pos) (adh wi g tb):=by
 intro QLq s σ H D I h
 refine wpAny_For (b8 (hi QLq s σ H _ I h) fun v s1 h1=>b8 h1 fun itv s2 h2=>?_) hs
 obtain⟨it,fp,tn,J,H2,e,I2,T,st2,f2,W,⟨m0,w0⟩,turn⟩:=h2
 subst e
 have stat:∀{H':Hp},(∀b∈fp,H' b=none)->∀b∈fp,gh X QLq H' b:=fun hn b hb=>⟨hn b hb,(f2 b hb).2⟩
 refine codeAny_forLoop_any (fun n s'=>∃i σ' H',Inv X QLq σ' H' s'/\tn i s'.heap/\(∀b∈fp,H' b=none)/\W i n σ' H') ?_ m0 ⟨0,σ,H2,I2,st2,fun b hb=>(f2 b hb).1,w0⟩
 rintro n s3 ⟨i,σ3,H3,I3,st3,fr3,w3⟩
 rcases turn i n σ3 H3 w3 with ⟨stop,qn⟩|⟨go,N,hN,step⟩
 ·refine wpAny_passesOwn hp (b8 (T.done X rfl rfl rfl hc i QLq s3 σ3 H3 X.xe I3 (stat fr3) st3 stop) fun r s4⟨hr,I4⟩=>?_)
  subst hr
  exact wpAny_execs_nil ⟨σ3,H3,I4,qn⟩
 ·refine wpAny_passesOwn hp (b8 (T.item X rfl rfl rfl hc i QLq s3 σ3 H3 X.xe I3 (stat fr3) st3 go) fun r s4⟨u,hr,h4⟩=>?_)
  subst hr
  refine wpAny_passesOwn hp (b8 h4 fun _ s5⟨x,H5,I5,r5,y5,st5,fr5⟩=>?_)
  have I5':=I5.pinned (stat fr5) (T.obj _ _ st5)
  refine wpAny_passesOwn hp (b8 (hg _ s5 σ3 H5 x u _ I5' r5 (step x H5 y5)) fun _ s6⟨σ6,H6,I6,q6⟩=>?_)
  refine wpAny_passesOwn hp (b8 (hb _ s6 σ6 H6 _ I6 q6) fun f s7 q7=>?_)
  have again:∀{σ7:St}{H7:Hp},Inv X (QLq++mJ fp s5.heap) σ7 H7 s7->N σ7 H7->∃m,m<n/\∃i σ' H',Inv X QLq σ' H' s7/\tn i s7.heap/\(∀b∈fp,H' b=none)/\W i m σ' H':=fun{σ7 H7}I7 n7=>by
   obtain⟨m',hm,w7⟩:=hN σ7 H7 n7
   refine⟨m',hm,i+1,σ7,H7,I7.kO,T.keep _ _ _ st5 fun b hb o e=>(I7.pin (b,o) (QVq _ (QVq _ (iu hb e)))).1,fun b hb=>?_,w7⟩
   obtain⟨o,e,d⟩:=T.obj _ _ st5 b hb
   exact(I7.pin (b,o) (QVq _ (QVq _ (iu hb e)))).2.1
  cases f with
  |next=>obtain⟨σ7,H7,I7,n7⟩:=q7;exact again I7 n7
  |cont=>obtain⟨σ7,H7,I7,n7⟩:=q7;exact again I7 n7
  |brk=>obtain⟨σ7,H7,I7,q7⟩:=q7;exact⟨σ7,H7,I7.kO,q7⟩
  |ret v=>obtain⟨x7,σ7,H7,I7,r7,q7⟩:=q7;exact⟨x7,σ7,H7,I7.kO,r7,q7⟩
end
abbrev R2:=V->V->Hp->VK->Prop
def fH(X:Cx)(f:Value->Value->Sem Value)(r:R2):Prop:=
 ∀(QLq:QQz)(s:Shared)(σ:St)(H:Hp)(x y:V)(v u:Value)(Q:VK),Inv X QLq σ H s->RelV x v->RelV y u->r x y H Q->
  wpAny (model X.prog X.w) X.A (f v u) (EP X QLq σ Q) X.xe s
def UnR(X:Cx)(f:Value->Sem Value)(r:V->Hp->VK->Prop):Prop:=
 ∀(QLq:QQz)(s:Shared)(σ:St)(H:Hp)(x:V)(v:Value)(Q:VK),Inv X QLq σ H s->RelV x v->r x H Q->
  wpAny (model X.prog X.w) X.A (f v) (EP X QLq σ Q) X.xe s
def fJ(X:Cx)(f:Value)(r:List V->Hp->VK->Prop):Prop:=
 ∀(QLq:QQz)(s:Shared)(σ:St)(H:Hp)(xs:List V)(us:List Value)(Q:VK),Inv X QLq σ H s->Vals xs us->r xs H Q->
  wpAny (model X.prog X.w) X.A (call f us) (EP X QLq σ Q) X.xe s
def afc(X:Cx)(r:V->Hp->(Bool->Hp->Prop)->Prop):Prop:=
 ∀(QLq:QQz)(s:Shared)(σ:St)(H:Hp)(x:V)(v:Value)(Q:Bool->Hp->Prop),Inv X QLq σ H s->RelV x v->r x H Q->
  wpAny (model X.prog X.w) X.A (truthy v) (TP X QLq σ Q) X.xe s
def Xk(r:R2)(ta tb:TE):TE:=fun σ H Q=>ta σ H fun x H1=>tb σ H1 fun y H2=>r x y H2 Q
def tUn(r:V->Hp->VK->Prop)(ta:TE):TE:=fun σ H Q=>ta σ H fun x H1=>r x H1 Q
def rI(C:Int->Int->Prop)(g:Int->Int->V):R2:=fun x y H Q=>∃i j,x=.int i/\y=.int j/\C i j/\Q (g i j) H
def H8(g:Int->Int->V):R2:=fun x y H Q=>∃i j,x=.int i/\y=.int j/\Q (g i j) H
def rU(g:Int->V):V->Hp->VK->Prop:=fun x H Q=>∃i,x=.int i/\Q (g i) H
section
variable{X:Cx}{a b c:Expr}{ta tb tc:TE}{pos:Pos}
theorem WN(ha:PE X a ta)(hb:PE X b tb){QLq:QQz}{s:Shared}{σ:St}{H:Hp}{R:V->V->Hp->Prop}(I:Inv X QLq σ H s)
  (h:ta σ H fun x H1=>tb σ H1 fun y H2=>R x y H2){Q:QZq}{f:Value->Value->Sem Value}
  (hf:∀v u s2 x y H2,Inv X QLq σ H2 s2->RelV x v->RelV y u->R x y H2->wpAny (model X.prog X.w) X.A (f v u) Q X.xe s2):
  wpAny (model X.prog X.w) X.A (eval a X.env) (fun v s₁=>wpAny (model X.prog X.w) X.A (eval b X.env) (fun u s₂=>wpAny (model X.prog X.w) X.A (f v u) Q X.xe s₂) X.xe s₁) X.xe s:=by
 refine b8 (ha QLq s σ H _ I h) fun v s1⟨x,H1,I1,r1,q1⟩=>?_
 refine b8 (hb QLq s1 σ H1 _ I1 q1) fun u s2⟨y,H2,I2,r2,q2⟩=>?_
 exact hf v u s2 x y H2 I2 r1 r2 q2
theorem tL{op:Operator}{r:R2}(ho:fH X (binaryOp op) r)(ha:PE X a ta)(hb:PE X b tb):PE X (.BinOp a op b pos) (Xk r ta tb):=by
 intro QLq s σ H Q I h
 exact wpAny_BinOp (WN ha hb I h fun v u s2 x y H2 I2 rx ry q=>ho QLq s2 σ H2 x y v u Q I2 rx ry q)
theorem Z1{op:UnaryOp}{r:V->Hp->VK->Prop}(ho:UnR X (unaryOp op) r)(ha:PE X a ta):PE X (.UnaryOp op a pos) (tUn r ta):=by
 intro QLq s σ H Q I h
 exact UnaryOp_ (b8 (ha QLq s σ H _ I h) fun v s1⟨x,H1,I1,r1,q1⟩=>ho QLq s1 σ H1 x v Q I1 r1 q1)
theorem opI{f:Value->Value->Sem Value}{C:Int->Int->Prop}{g:Int->Int->Int}
  (rule:∀(i j:Int)(t u:Tok)(s:Shared)(Q:QZq)(E:QZq),C i j->Q (.int (g i j) s.toks) {s with toks:=s.toks+1}->wpAny (model X.prog X.w) X.A (f (.int i t) (.int j u)) Q E s):
  fH X f (rI C fun i j=>.int (g i j)):=by
 intro QLq s σ H x y v u Q I rx ry h
 obtain⟨i,j,rfl,rfl,hc,q⟩:=h
 obtain⟨t,rfl⟩:=rx
 obtain⟨t',rfl⟩:=ry
 exact rule i j t t' s _ _ hc ⟨.int (g i j),H,I.tok _,⟨_,rfl⟩,q⟩
theorem aad{f:Value->Value->Sem Value}{g:Int->Int->Int}
  (rule:∀(i j:Int)(t u:Tok)(s:Shared)(Q:QZq)(E:QZq),Q (.int (g i j) s.toks) {s with toks:=s.toks+1}->wpAny (model X.prog X.w) X.A (f (.int i t) (.int j u)) Q E s):
  fH X f (H8 fun i j=>.int (g i j)):=by
 intro QLq s σ H x y v u Q I rx ry h
 obtain⟨i,j,rfl,rfl,q⟩:=h
 obtain⟨t,rfl⟩:=rx
 obtain⟨t',rfl⟩:=ry
 exact rule i j t t' s _ _ ⟨.int (g i j),H,I.tok _,⟨_,rfl⟩,q⟩
theorem O2{f:Value->Value->Sem Value}{g:Int->Int->Bool}
  (rule:∀(i j:Int)(t u:Tok)(s:Shared)(Q:QZq)(E:QZq),Q (.bool (g i j)) s->wpAny (model X.prog X.w) X.A (f (.int i t) (.int j u)) Q E s):
  fH X f (H8 fun i j=>.bl (g i j)):=by
 intro QLq s σ H x y v u Q I rx ry h
 obtain⟨i,j,rfl,rfl,q⟩:=h
 obtain⟨t,rfl⟩:=rx
 obtain⟨t',rfl⟩:=ry
 exact rule i j t t' s _ _ ⟨.bl (g i j),H,I,rfl,q⟩
def abE(i j:Int):Prop:=0<j/\j<1073741824
def abD(i j:Int):Prop:=0<=j/\j<=1000000/\i.natAbs<2 ^64
def QB(i j:Int):Prop:=(-(2 ^64)<i/\i<2 ^64)\/(-(2 ^64)<j/\j<2 ^64)
theorem QB.ok{i j:Int}(h:QB i j):IntMulOk i j:=by
 rcases h with ⟨h1,h2⟩|⟨h1,h2⟩
 ·exact .of_left (intBits_le_64 h1 h2)
 ·exact .of_right (intBits_le_64 h1 h2)
theorem Va:fH X (binaryOp .Add) (H8 fun i j=>.int (i+j)):=aad fun _ _ _ _ _ _ _ q=>add_int q
theorem UV:fH X (binaryOp .Sub) (H8 fun i j=>.int (i-j)):=aad fun _ _ _ _ _ _ _ q=>sub_int q
theorem U3:fH X (binaryOp .Mult) (rI QB fun i j=>.int (i*j)):=opI fun _ _ _ _ _ _ _ hc q=>mul_int q hc.ok
theorem Ox:fH X (binaryOp .FloorDiv) (rI abE fun i j=>.int (i/j)):=opI fun i j _ _ _ _ _ hc q=>by
 have h1:(0:Int)<j:=hc.1
 have h2:j<1073741824:=hc.2
 exact floordiv_int (by omega) (by rw[Int.fdiv_eq_ediv_of_nonneg i (by omega)];exact q) (.inl (PyProof.noPylong_small (by omega)))
theorem U4:fH X (binaryOp .Mod) (rI (fun _ j=>0<j) fun i j=>.int (i%j)):=opI fun i j _ _ _ _ _ hc q=>by
 have h1:(0:Int)<j:=hc
 exact mod_int' (by omega) (by rw[Int.fmod_eq_emod_of_nonneg i (by omega)];exact q)
theorem UW:fH X (binaryOp .Pow) (rI abD fun i j=>.int (i ^j.toNat)):=opI fun _ _ _ _ _ _ _ hc q=>pow_int_small hc.1 hc.2.1 hc.2.2 q
theorem unI{f:Value->Sem Value}{g:Int->Int}
  (rule:∀(i:Int)(t:Tok)(s:Shared)(Q:QZq)(E:QZq),Q (.int (g i) s.toks) {s with toks:=s.toks+1}->wpAny (model X.prog X.w) X.A (f (.int i t)) Q E s):
  UnR X f (rU fun i=>.int (g i)):=by
 intro QLq s σ H x v Q I rx h
 obtain⟨i,rfl,q⟩:=h
 obtain⟨t,rfl⟩:=rx
 exact rule i t s _ _ ⟨.int (g i),H,I.tok _,⟨_,rfl⟩,q⟩
theorem Ti:UnR X (unaryOp .USub) (rU fun i=>.int (-i)):=unI fun _ _ _ _ _ q=>neg_int q
end
def Nf:V->V->Bool
 |.non,.non=>true|.non,.int _=>true|.int _,.non=>true|.non,.bl _=>true|.bl _,.non=>true|.non,.str _=>true|.str _,.non=>true
 |.int _,.int _=>true|.bl _,.bl _=>true|.str _,.str _=>true|.byt _,.byt _=>true
 |.int _,.str _=>true|.str _,.int _=>true|.bl _,.str _=>true|.str _,.bl _=>true
 |_,_=>false
def rEq:R2:=fun x y H Q=>Nf x y=true/\Q (.bl (decide (x=y))) H
def rNe:R2:=fun x y H Q=>Nf x y=true/\Q (.bl (!decide (x=y))) H
theorem Dg{i j:Int}:decide (V.int i=V.int j)=(i==j):=by
 rw[Bool.eq_iff_iff]
 simp
theorem Ks{i j:Bool}:decide (V.bl i=V.bl j)=(i==j):=by
 rw[Bool.eq_iff_iff]
 simp
theorem De{i j:Str}:decide (V.str i=V.str j)=(i==j):=by
 rw[Bool.eq_iff_iff]
 simp
theorem Dh{i j:Array UInt8}:decide (V.byt i=V.byt j)=(i.toList==j.toList):=by
 rw[Bool.eq_iff_iff]
 cases i
 cases j
 simp
section
variable{X:Cx}{a b c:Expr}{ta tb tc:TE}{pos:Pos}
theorem bz{QLq:QQz}{σ:St}{H:Hp}{s:Shared}{Q:VK}{k k':Bool}(I:Inv X QLq σ H s)(q:Q (.bl k) H)(e:k=k'):EP X QLq σ Q (.bool k') s:=by
 subst e
 exact⟨.bl k,H,I,rfl,q⟩
theorem aab:fH X (compareOp .Eq) rEq:=by
 intro QLq s σ H x y v u Q I rx ry h
 obtain⟨hs,q⟩:=h
 cases x with
 |non=>
  cases rx
  cases y with
  |non=>cases ry;exact PySem.EqNone.eq_none_none (bz I q (by simp))
  |bl j=>cases ry;exact PySem.EqNone.eq_none_bool (bz I q (by simp))
  |int j=>obtain⟨t',rfl⟩:=ry;exact PySem.EqNone.eq_none_int (bz I q (by simp))
  |str j=>obtain⟨t',rfl⟩:=ry;exact PySem.EqNone.eq_none_str (bz I q (by simp))
  |_=>exact absurd (show false=true from hs) Qjz
 |bl i=>
  cases rx
  cases y with
  |non=>cases ry;exact PySem.EqNone.eq_bool_none (bz I q (by simp))
  |bl j=>cases ry;exact eq_bool (bz I q Ks)
  |str j=>obtain⟨t',rfl⟩:=ry;exact PySem.EqMixed.eq_bool_str (bz I q (by simp))
  |_=>exact absurd (show false=true from hs) Qjz
 |int i=>
  obtain⟨t,rfl⟩:=rx
  cases y with
  |non=>cases ry;exact PySem.EqNone.eq_int_none (bz I q (by simp))
  |int j=>obtain⟨t',rfl⟩:=ry;exact eq_int (bz I q Dg)
  |str j=>obtain⟨t',rfl⟩:=ry;exact PySem.EqMixed.eq_int_str (bz I q (by simp))
  |_=>exact absurd (show false=true from hs) Qjz
 |str i=>
  obtain⟨t,rfl⟩:=rx
  cases y with
  |non=>cases ry;exact PySem.EqNone.eq_str_none (bz I q (by simp))
  |bl j=>cases ry;exact PySem.EqMixed.eq_str_bool (bz I q (by simp))
  |int j=>obtain⟨t',rfl⟩:=ry;exact PySem.EqMixed.eq_str_int (bz I q (by simp))
  |str j=>obtain⟨t',rfl⟩:=ry;exact eq_str (bz I q De)
  |_=>exact absurd (show false=true from hs) Qjz
 |byt i=>
  obtain⟨t,rfl⟩:=rx
  cases y with
  |byt j=>obtain⟨t',rfl⟩:=ry;exact PySem.W.eq_bytes (bz I q Dh)
  |_=>exact absurd (show false=true from hs) Qjz
 |_=>cases y<;>exact absurd (show false=true from hs) Qjz
theorem Z6:fH X (compareOp .NotEq) rNe:=by
 intro QLq s σ H x y v u Q I rx ry h
 obtain⟨hs,q⟩:=h
 cases x with
 |non=>
  cases rx
  cases y with
  |non=>cases ry;exact PySem.EqNone.ne_none_none (bz I q (by simp))
  |bl j=>cases ry;exact PySem.EqNone.ne_none_bool (bz I q (by simp))
  |int j=>obtain⟨t',rfl⟩:=ry;exact PySem.EqNone.ne_none_int (bz I q (by simp))
  |str j=>obtain⟨t',rfl⟩:=ry;exact PySem.EqNone.ne_none_str (bz I q (by simp))
  |_=>exact absurd (show false=true from hs) Qjz
 |bl i=>
  cases rx
  cases y with
  |non=>cases ry;exact PySem.EqNone.ne_bool_none (bz I q (by simp))
  |bl j=>cases ry;exact ne_bool (bz I q (congrArg not Ks))
  |str j=>obtain⟨t',rfl⟩:=ry;exact PySem.EqMixed.ne_bool_str (bz I q (by simp))
  |_=>exact absurd (show false=true from hs) Qjz
 |int i=>
  obtain⟨t,rfl⟩:=rx
  cases y with
  |non=>cases ry;exact PySem.EqNone.ne_int_none (bz I q (by simp))
  |int j=>obtain⟨t',rfl⟩:=ry;exact ne_int (bz I q (congrArg not Dg))
  |str j=>obtain⟨t',rfl⟩:=ry;exact PySem.EqMixed.ne_int_str (bz I q (by simp))
  |_=>exact absurd (show false=true from hs) Qjz
 |str i=>
  obtain⟨t,rfl⟩:=rx
  cases y with
  |non=>cases ry;exact PySem.EqNone.ne_str_none (bz I q (by simp))
  |bl j=>cases ry;exact PySem.EqMixed.ne_str_bool (bz I q (by simp))
  |int j=>obtain⟨t',rfl⟩:=ry;exact PySem.EqMixed.ne_str_int (bz I q (by simp))
  |str j=>obtain⟨t',rfl⟩:=ry;exact ne_str (bz I q (congrArg not De))
  |_=>exact absurd (show false=true from hs) Qjz
 |byt i=>
  obtain⟨t,rfl⟩:=rx
  cases y with
  |byt j=>obtain⟨t',rfl⟩:=ry;exact PySem.W.ne_bytes (bz I q (congrArg not Dh))
  |_=>exact absurd (show false=true from hs) Qjz
 |_=>cases y<;>exact absurd (show false=true from hs) Qjz
theorem Z7:fH X (compareOp .Lt) (H8 fun i j=>.bl (decide (i<j))):=O2 fun _ _ _ _ _ _ _ q=>lt_int q
theorem Z8:fH X (compareOp .LtE) (H8 fun i j=>.bl (decide (i<=j))):=O2 fun _ _ _ _ _ _ _ q=>le_int q
theorem Z9:fH X (compareOp .Gt) (H8 fun i j=>.bl (decide (j<i))):=O2 fun _ _ _ _ _ _ _ q=>gt_int q
theorem aaa:fH X (compareOp .GtE) (H8 fun i j=>.bl (decide (j<=i))):=O2 fun _ _ _ _ _ _ _ q=>ge_int q
theorem Fb:fH X (compareOp .In) (fun x y H Q=>∃i j,x=.str i/\y=.str j/\Q (.bl (!(Builtin.Str.occurrences j i 0 j.length 1).isEmpty)) H):=by
 intro QLq s σ H x y v u Q I rx ry h
 obtain⟨i,j,rfl,rfl,q⟩:=h
 obtain⟨t,rfl⟩:=rx
 obtain⟨t',rfl⟩:=ry
 exact in_str (bz I q rfl)
theorem U6:fH X (compareOp .Is) (fun x y H Q=>y=.non/\Q (.bl (decide (x=.non))) H):=by
 intro QLq s σ H x y v u Q I rx ry h
 obtain⟨rfl,q⟩:=h
 cases ry
 refine is_none_gen (bz I q ?_)
 cases x<;>first
  |(cases rx;rfl)
  |(obtain⟨t,rfl⟩:=rx;rfl)
theorem Ov:fH X (compareOp .IsNot) (fun x y H Q=>y=.non/\Q (.bl (!decide (x=.non))) H):=by
 intro QLq s σ H x y v u Q I rx ry h
 obtain⟨rfl,q⟩:=h
 cases ry
 refine isnot_none_gen (bz I q ?_)
 cases x<;>first
  |(cases rx;rfl)
  |(obtain⟨t,rfl⟩:=rx;rfl)
theorem fH.or{f:Value->Value->Sem Value}{r r':R2}(h:fH X f r)(h':fH X f r'):fH X f (fun x y H Q=>r x y H Q\/r' x y H Q):=by
 intro QLq s σ H x y v u Q I rx ry q
 rcases q with q|q
 ·exact h QLq s σ H x y v u Q I rx ry q
 ·exact h' QLq s σ H x y v u Q I rx ry q
theorem Om{op:CmpOp}{r:R2}(ho:fH X (compareOp op) r)(ha:PE X a ta)(hb:PE X b tb)(hm:behindInMarks op b=false):PE X (.Compare a [op] [b] pos) (Xk r ta tb):=by
 intro QLq s σ H Q I h
 exact wpAny_Compare1 (WN ha hb I h fun v u s2 x y H2 I2 rx ry q=>ho QLq s2 σ H2 x y v u Q I2 rx ry q) hm
def QX(t:TE):TT:=fun σ H Q=>t σ H fun x H'=>∃k,x=.bl k/\Q k H'
theorem N7{op:CmpOp}{r:R2}(ho:fH X (compareOp op) r)(ha:PE X a ta)(hb:PE X b tb)(hm:behindInMarks op b=false):PT X (.Compare a [op] [b] pos) (QX (Xk r ta tb)):=by
 intro QLq s σ H Q I h
 refine wpAny_isTrue_Compare1 (b8 (ha QLq s σ H _ I h) fun v s1⟨x,H1,I1,r1,q1⟩=>b8 (hb QLq s1 σ H1 _ I1 q1) fun u s2⟨y,H2,I2,r2,q2⟩=>
  b8 (ho QLq s2 σ H2 x y v u _ I2 r1 r2 q2) fun c s3⟨z,H3,I3,r3,k,e,q3⟩=>?_) hm
 subst e
 cases r3
 exact wpAny_truthy_bool ⟨H3,I3,q3⟩
def yO(r r':R2)(ta tb tc:TE):TE:=fun σ H Q=>ta σ H fun x H1=>tb σ H1 fun y H2=>r x y H2 fun z H3=>∃k,z=.bl k/\
 (if k=true then tc σ H3 fun w' H4=>r' y w' H4 Q else Q (.bl false) H3)
theorem Iz{op op':CmpOp}{r r':R2}(ho:fH X (compareOp op) r)(ho':fH X (compareOp op') r')(ha:PE X a ta)(hb:PE X b tb)(hc:PE X c tc)
  (hm:lastMarks [op,op'] [b,c]=false:=by with_unfolding_all rfl):PE X (.Compare a [op,op'] [b,c] pos) (yO r r' ta tb tc):=by
 intro QLq s σ H Q I h
 refine Compare_chain (b8 (ha QLq s σ H _ I h) fun v s1⟨x,H1,I1,r1,q1⟩=>chain_link (b8 (hb QLq s1 σ H1 _ I1 q1) fun u s2⟨y,H2,I2,r2,q2⟩=>
  b8 (ho QLq s2 σ H2 x y v u _ I2 r1 r2 q2) fun d s3⟨z,H3,I3,r3,k,e,q3⟩=>?_)) hm
 subst e
 cases r3
 refine wpAny_truthy_bool ?_
 cases k with
 |false=>exact ite_ff ⟨.bl false,H3,I3,rfl,q3⟩
 |true=>exact ite_tt (chain_last (b8 (hc QLq s3 σ H3 _ I3 q3) fun w' s4⟨z',H4,I4,r4,q4⟩=>ho' QLq s4 σ H4 y z' u w' Q I4 r2 r4 q4))
theorem Ie{op op':CmpOp}{r r':R2}(ho:fH X (compareOp op) r)(ho':fH X (compareOp op') r')(ha:PE X a ta)(hb:PE X b tb)(hc:PE X c tc)
  (hm:lastMarks [op,op'] [b,c]=false:=by with_unfolding_all rfl):PT X (.Compare a [op,op'] [b,c] pos) (QX (yO r r' ta tb tc)):=by
 intro QLq s σ H Q I h
 refine isTrue_chain (b8 (ha QLq s σ H _ I h) fun v s1⟨x,H1,I1,r1,q1⟩=>test_link (b8 (hb QLq s1 σ H1 _ I1 q1) fun u s2⟨y,H2,I2,r2,q2⟩=>
  b8 (ho QLq s2 σ H2 x y v u _ I2 r1 r2 q2) fun d s3⟨z,H3,I3,r3,k,e,q3⟩=>?_)) hm
 subst e
 cases r3
 refine wpAny_truthy_bool ?_
 cases k with
 |false=>
  obtain⟨k',e',q'⟩:=q3
  cases e'
  exact ite_ff ⟨H3,I3,q'⟩
 |true=>
  refine ite_tt (test_last (b8 (hc QLq s3 σ H3 _ I3 q3) fun w' s4⟨z',H4,I4,r4,q4⟩=>b8 (ho' QLq s4 σ H4 y z' u w' _ I4 r2 r4 q4) fun d' s5⟨z2,H5,I5,r5,k2,e2,q5⟩=>?_))
  subst e2
  cases r5
  exact wpAny_truthy_bool ⟨H5,I5,q5⟩
def Lk(K:QQq)(x:V)(H:Hp)(k:Bool):Prop:=
 match x with
 |.non=>k=false
 |.bl b=>k=b
 |.int i=>k=(i !=0)
 |.str y=>y.length<=sizeLine/\k=((y.length:Int) !=0)
 |.byt y=>y.size<=sizeLine/\k=((y.size:Int) !=0)
 |.ref p=>(∃xs,iH K H p xs/\k= !xs.isEmpty)\/(∃xs,gQ K H p xs/\k= !xs.isEmpty)\/∃kvs,H p=some (.dK kvs)/\k= !kvs.isEmpty
 |_=>False
theorem zP{κ:Type}{kvs:List (κ×V)}{vs:List (κ×Value)}(r:KV kvs vs):(!vs.isEmpty)= !kvs.isEmpty:=by
 cases r<;>rfl
theorem qj{xs:List V}{its:List Value}(r:Vals xs its):(!its.toArray.isEmpty)= !xs.isEmpty:=by
 cases r<;>simp
theorem mU:(sizeLine:Nat)<2 ^63:=by rw[sizeLine_eq];decide
theorem Ha:afc X (fun x H Q=>∃k,Lk X.K x H k/\Q k H):=by
 intro QLq s σ H x v Q I rx h
 obtain⟨k,e,q⟩:=h
 have hl:=mU
 have hs:sizeLine=16777216:=sizeLine_eq
 cases x with
 |non=>
  cases rx
  have e':k=false:=e
  subst e'
  exact truthy_none ⟨H,I,q⟩
 |bl b=>
  cases rx
  have e':k=b:=e
  subst e'
  exact wpAny_truthy_bool ⟨H,I,q⟩
 |int i=>
  obtain⟨t,rfl⟩:=rx
  have e':k=(i !=0):=e
  subst e'
  exact PySem.P.truthy_int ⟨H,I,q⟩
 |str y=>
  obtain⟨t,rfl⟩:=rx
  obtain⟨hy,e'⟩:y.length<=sizeLine/\k=((y.length:Int) !=0):=e
  subst e'
  exact PySem.P.truthy_str (by omega) ⟨H,I.tok _,q⟩
 |byt y=>
  obtain⟨t,rfl⟩:=rx
  obtain⟨hy,e'⟩:y.size<=sizeLine/\k=((y.size:Int) !=0):=e
  subst e'
  exact PySem.W.truthy_bytes (by omega) ⟨H,I.tok _,q⟩
 |ref p=>
  cases rx
  have e':(∃xs,iH X.K H p xs/\k= !xs.isEmpty)\/(∃xs,gQ X.K H p xs/\k= !xs.isEmpty)\/∃kvs,H p=some (.dK kvs)/\k= !kvs.isEmpty:=e
  rcases e' with ⟨xs,hx,e'⟩|⟨xs,hx,e'⟩|⟨kvs,hx,e'⟩
  ·subst e'
   obtain⟨its,r,pl,hz⟩:=I.list hx
   have hlen:=r.length
   exact wpAny_truthy_list pl.isList (by simp only[Qyq];omega) ⟨H,I.tok _,by rw[qj r];exact q⟩
  ·subst e'
   obtain⟨its,r,pl,hz⟩:=I.tuple hx
   have hlen:=r.length
   exact truthy_tuple pl (by simp only[Qyq];omega) ⟨H,I.tok _,by rw[qj r];exact q⟩
  ·subst e'
   obtain⟨hz,hS,vs,r,m⟩:kvs.length<=sizeLine/\(p==sysModules)=false/\∃vs,KV kvs vs/\s.heap.DictOf (bN X.prog X.w) p vs:=I.hok p _ hx
   have hlen:kvs.length=vs.length:=Paired.length r
   exact wpAny_truthy_dict hS m (by omega) ⟨H,I.tok _,by rw[zP r];exact q⟩
 |_=>exact(show False from e).elim
theorem Ib(ha:PE X a ta)(he:∀whole,isTrue a X.env whole=(do let v<-whole;standAt a.pos;holding [v] (truthy v))):
  PT X a (fun σ H Q=>ta σ H fun x H'=>∃k,Lk X.K x H' k/\Q k H'):=by
 intro QLq s σ H Q I h
 exact isTrue_plain (b8 (ha QLq s σ H _ I h) fun v s1⟨x,H1,I1,r1,q1⟩=>Ha QLq s1 σ H1 x v Q I1 r1 q1) (he _)
theorem vals1{x:V}{us:List Value}(r:Vals [x] us):∃u,us=[u]/\RelV x u:=by
 cases r with
 |cons r1 r2=>cases r2;exact⟨_,rfl,r1⟩
theorem Gn:fJ X (.type "int") (fun xs H Q=>(∃i,xs=[.int i]/\Q (.int i) H)\/∃k,xs=[.bl k]/\Q (.int (if k then 1 else 0)) H):=by
 intro QLq s σ H xs us Q I r h
 rcases h with ⟨i,rfl,q⟩|⟨k,rfl,q⟩
 ·obtain⟨u,rfl,t,rfl⟩:=vals1 r
  exact call_int_int ⟨.int i,H,I,⟨_,rfl⟩,q⟩
 ·obtain⟨u,rfl,r1⟩:=vals1 r
  cases r1
  exact call_int_bool ⟨.int (if k then 1 else 0),H,I.tok _,⟨_,rfl⟩,q⟩
def WY(K:QQq)(x:V)(H:Hp)(n:Nat):Prop:=
 match x with
 |.str y=>y.length<=sizeLine/\n=y.length
 |.byt y=>y.size<=sizeLine/\n=y.size
 |.ref p=>(∃xs,iH K H p xs/\n=xs.length)\/∃xs,gQ K H p xs/\n=xs.length
 |_=>False
theorem KN:fJ X (.builtin "len") (fun xs H Q=>∃x n,xs=[x]/\WY X.K x H n/\Q (.int n) H):=by
 intro QLq s σ H xs us Q I r h
 obtain⟨x,n,rfl,e,q⟩:=h
 obtain⟨u,rfl,rx⟩:=vals1 r
 have hl:=mU
 have hs:sizeLine=16777216:=sizeLine_eq
 cases x with
 |str y=>
  obtain⟨t,rfl⟩:=rx
  obtain⟨hy,e'⟩:y.length<=sizeLine/\n=y.length:=e
  subst e'
  exact len_str (by omega) ⟨.int _,H,I.tok _,⟨_,rfl⟩,q⟩
 |byt y=>
  obtain⟨t,rfl⟩:=rx
  obtain⟨hy,e'⟩:y.size<=sizeLine/\n=y.size:=e
  subst e'
  exact PySem.W.len_bytes (by omega) ⟨.int _,H,I.tok _,⟨_,rfl⟩,q⟩
 |ref p=>
  cases rx
  have e':(∃xs,iH X.K H p xs/\n=xs.length)\/∃xs,gQ X.K H p xs/\n=xs.length:=e
  rcases e' with ⟨xs,hx,e'⟩|⟨xs,hx,e'⟩
  ·subst e'
   obtain⟨its,r',pl,hz⟩:=I.list hx
   have hlen:=r'.length
   exact Calls.call_len_list pl.isList (by simp only[Qyq];omega) ⟨.int xs.length,H,I.tok _,⟨_,by simp only[Qyq];rw[hlen]⟩,q⟩
  ·subst e'
   obtain⟨its,r',pl,hz⟩:=I.tuple hx
   have hlen:=r'.length
   exact len_tuple pl (by simp only[Qyq];omega) ⟨.int xs.length,H,I.tok _,⟨_,by simp only[Qyq];rw[hlen]⟩,q⟩
 |_=>exact(show False from e).elim
end
section
variable{prog:Program}{w:World}{A:Around}{E:QZq}{s:Shared}{K:QQq}{x dx C f:Addr}{mA:QZz}{name:Str}{v:Value}
end
theorem lZ.some_of{v:V}{o:Option Value}(r:lZ (some v) o):∃u,o=some u/\RelV v u:=by
 cases o with
 |none=>exact(show False from r).elim
 |some u=>exact⟨u,rfl,r⟩
section
variable{P:Program}{w:World}{H H':Hp}{h h':Heap}{a C dx:Addr}{fs fs':List (Str×V)}
end
section
variable{X:Cx}{QLq:QQz}{σ:St}{H:Hp}{s:Shared}{a C dx:Addr}{fs:List (Str×V)}{f:Str}{v:V}{A:Around}{E:QZq}
end
section
variable{X:Cx}{o e value:Expr}{f:Str}{pos pos' tpos:Pos}{ta tv:TE}
end
section
variable{X:Cx}{QLq:QQz}{σ:St}{H:Hp}{s:Shared}{A:Around}{E:QZq}{Q:QZq}{c:Value}{b:Bool}
end
structure jc(k:Nat)(A:Around):Prop where
 hd:A.handled=none
 dp:A.depth+3*k+5<recursionLimit
 un:A.units+16*k+200<cLine
theorem jc.deeper{k:Nat}{A:Around}(r:jc (k+1) A)(env:Env):jc k (A.deeper env):=
 ⟨r.hd,by have:=r.dp;show A.depth+1+3*k+5<_;omega,by have:=r.un;show A.units+3+16*k+200<_;omega⟩
theorem jc.in1{k:Nat}{A:Around}(r:jc (k+1) A):jc k A.in1:=
 ⟨r.hd,by have:=r.dp;show A.depth+3*k+5<_;omega,by have:=r.un;show A.units+1+16*k+200<_;omega⟩
theorem jc.depth{k:Nat}{A:Around}(r:jc k A):A.depth<recursionLimit:=by have:=r.dp;omega
def YZ:TA:=fun _ H Q=>Q [] H
def Hj(ta:TE)(tr:TA):TA:=fun σ H Q=>ta σ H fun x H1=>tr σ H1 fun xs H2=>Q (x::xs) H2
section
variable{X:Cx}{e:Expr}{es:List Expr}{te:TE}{t:TA}{pos:Pos}
theorem fD:PA X [] YZ:=fun _ _ _ _ H Q I h=>Calls.spliced_nil ⟨[],H,I,.nil,h⟩
theorem cJ(ha:PE X e te)(hr:PA X es t)(hs:starEach (e::es) X.env=(false,eval e X.env)::starEach es X.env:=by rfl):PA X (e::es) (Hj te t):=by
 intro pos QLq s σ H Q I h
 rw[hs]
 show wpAny _ _ (spliced ((false,eval e X.env)::backTo pos (starEach es X.env))) _ _ s
 refine Calls.spliced_cons (b8 (ha QLq s σ H _ I h) fun u s1⟨x,H1,I1,r1,q1⟩=>?_)
 exact b8 (hr pos QLq s1 σ H1 _ I1 q1) fun us s2⟨xs,H2,I2,r2,q2⟩=>⟨x::xs,H2,I2,.cons r1 r2,q2⟩
def adb(t:TA):TE:=fun σ H Q=>t σ H fun xs H1=>xs.length<=sizeLine/\∀p,H1 p=none->Q (.ref p) (upd H1 p (.tup xs))
def adf(t:TA):TE:=fun σ H Q=>t σ H fun xs H1=>xs.length<=sizeLine/\∀p,H1 p=none->Q (.ref p) (upd H1 p (.lst xs))
theorem Uw{x1}(h:PA X es t):PE X (.Tuple es x1 pos) (adb t):=by
 intro QLq s σ H Q I hq
 refine wpAny_Tuple_spliced (b8 (h pos QLq s σ H _ I hq) fun us s1⟨xs,H1,I1,r,z,q⟩=>⟨by rw[<-r.length];exact z,?_⟩)
 have hf:H1 s1.heap.objs.size=none:=I1.hok.fresh (QVz _)
 refine⟨.ref s1.heap.objs.size,upd H1 s1.heap.objs.size (.tup xs),I1.laid (t':=s1.toks) (fun b u e=>QWq _ e) (QVz _) ?_,rfl,q _ hf⟩
 exact⟨z,us,r,TupOk.new _ _⟩
theorem Uz(h:PA X es t):PE X (.List es pos) (adf t):=by
 intro QLq s σ H Q I hq
 refine wpAny_List_spliced (b8 (h pos QLq s σ H _ I hq) fun us s1⟨xs,H1,I1,r,z,q⟩=>⟨by rw[<-r.length];exact z,?_⟩)
 have hf:H1 s1.heap.objs.size=none:=I1.hok.fresh (QVz _)
 refine⟨.ref s1.heap.objs.size,upd H1 s1.heap.objs.size (.lst xs),I1.laid (t':=s1.toks) (fun b u e=>QWq _ e) (QVz _) ?_,rfl,q _ hf⟩
 exact⟨z,us,0,r,Qzq _ rfl⟩
end
abbrev Sp:=List V->Hp->VK->XK->Prop
abbrev GC:=List Env->Hp->Shared->XK->Value->Shared->Prop
structure Ax(P:Program)(w:World)(K:QQq)(mg:QZz)(base:Heap)(A:Around)(outer:List Env)(s:Shared)(H:Hp):Prop where
 frames:A.frames=some outer
 mod:Mod K mg base
 bs:∀b o,base.get? b=some o->s.heap.get? b=some o/\H b=none
 bsz:base.objs.size<=s.heap.objs.size
 kj:s.heap.FunFrames base outer
 frf:∀b∈frs outer,H b=none
 hok:kI P w H s.heap
 bare:AllBare s.gens
def CE(outer:List Env)(P:Program)(w:World)(H:Hp)(s:Shared)(Q:VK)(u:Value)(s':Shared):Prop:=
 ∃v H',s'.os=s.os/\AllBare s'.gens/\Un (frs outer) [] H H' s.heap s'.heap/\kI P w H' s'.heap/\RelV v u/\Q v H'
def CR(CX:GC)(outer:List Env)(P:Program)(w:World)(H:Hp)(s:Shared)(Q:VK)(E:XK)(r:Result)(s':Shared):Prop:=
 match r with
 |.ok (.ret u)=>CE outer P w H s Q u s'
 |.ok _=>False
 |.error e=>CX outer H s E e s'
structure nA(P:Program)(w:World)(K:QQq)(mg:QZz)(base:Heap)(CX:GC)(k:Nat)(f:Addr)(fd:FuncData)(ps:List Str)(sp:Sp):Prop where
 len:∀vs H Q E,sp vs H Q E->vs.length=ps.length
 run:∀(A:Around)(outer:List Env)(s:Shared)(H:Hp)(args:Args)(us:List Value)(vs:List V)(Q:VK)(E:XK),jc k A->Ax P w K mg base A outer s H->BindsTo s fd args (ps.zip us)->Vals vs us->sp vs H Q E->
  codeAny (model P w) A (.call (.ref f) args) (CR CX outer P w H s Q E) s
theorem Ax.in1{P:Program}{w:World}{K:QQq}{mg:QZz}{base:Heap}{A:Around}{outer:List Env}{s:Shared}{H:Hp}(e:Ax P w K mg base A outer s H):
  Ax P w K mg base A.in1 outer s H:=⟨e.frames,e.mod,e.bs,e.bsz,e.kj,e.frf,e.hok,e.bare⟩
section
variable{X:Cx}{QLq:QQz}{σ:St}{H:Hp}{s s':Shared}
theorem Inv.env0(I:Inv X QLq σ H s):Ax X.prog X.w X.K X.mg X.base X.A X.stack s H:=
 ⟨I.ok.frames,I.ok.mod,I.bs,Nat.le_trans I.ok.bsz I.sz,I.stack,I.Bg,I.hok,I.bare⟩
theorem Inv.after{Q:VK}{u:Value}(I:Inv X QLq σ H s)(h:CE X.stack X.prog X.w H s Q u s'):EP X QLq σ Q u s':=by
 obtain⟨v,H',os,bare,un,hok,r,q⟩:=h
 obtain⟨hh,g,d,t,os'⟩:=s'
 obtain rfl:os'=s.os:=os
 exact⟨v,H',I.call (h':=hh) (g':=g) (d':=d) (t':=t) (ch:=[]) un hok bare (fun b z=>absurd z (by simp)),r,q⟩
end
def Y7(sp:Sp)(dvs:List V)(E:XK)(t:TA):TE:=fun σ H Q=>t σ H fun vs H1=>sp (vs++dvs) H1 Q E
def Binds(K:QQq)(fd:FuncData)(ps:List Str)(ds:List Value):Prop:=
 ∀(s:Shared)(us:List Value),K.In s.heap->(us++ds).length=ps.length->BindsTo s fd ⟨us,[]⟩ (ps.zip (us++ds))
theorem Binds.all{K:QQq}{fd:FuncData}{ps:List Str}(h:∀us:List Value,us.length=ps.length->bindArgs fd ⟨us,[]⟩=pure (ps.zip us)):Binds K fd ps []:=fun s us _ hl=>by
 rw[List.append_nil]at hl⊢
 exact .of_eq (h us hl)
def Av(CX:GC)(X:Cx)(E:XK):Prop:=∀(QLq:QQz)(σ:St)(H:Hp)(s:Shared)(e:Value)(s':Shared),Inv X QLq σ H s->CX X.stack H s E e s'->X.xe e s'
section
variable{X:Cx}{CX:GC}{k:Nat}{f C:Addr}{fd:FuncData}{ps:List Str}{sp:Sp}{dvs:List V}{ds:List Value}{E:XK}{x m:Str}{p pos apos:Pos}{e o:Expr}{es:List Expr}{ta:TE}{t:TA}
theorem Ub{QLq:QQz}{σ:St}{H:Hp}{s:Shared}{Q:VK}{us:List Value}{vs:List V}(F:nA X.prog X.w X.K X.mg X.base CX k f fd ps sp)(hr:jc k X.A)(hb:Binds X.K fd ps ds)(hd:Vals dvs ds)(hx:Av CX X E)
  (I:Inv X QLq σ H s)(r:Vals vs us)(h:sp (vs++dvs) H Q E):wpAny (model X.prog X.w) X.A (call (.ref f) us) (EP X QLq σ Q) X.xe s:=by
 have r2:Vals (vs++dvs) (us++ds):=r.append hd
 have hl:(us++ds).length=ps.length:=by rw[<-r2.length];exact F.len _ _ _ _ h
 refine wpAny_call (codeAny_mono (F.run X.A X.stack s H ⟨us,[]⟩ (us++ds) (vs++dvs) Q E hr I.env0 (hb s us I.XH hl) r2 h) fun r s' hq=>?_)
 cases r with
 |error e=>exact hx QLq σ H s e s' I hq
 |ok fl=>
  cases fl with
  |ret u=>exact I.after hq
  |next=>exact False.elim hq
  |brk=>exact False.elim hq
  |cont=>exact False.elim hq
theorem Oo(F:nA X.prog X.w X.K X.mg X.base CX k f fd ps sp)(hr:jc k X.A)(hg:Gl X x)(hm:X.mg x=some (.ref f))(hk:PySem.W.keepIn X.K (.ref f)=true)(hb:Binds X.K fd ps ds)(hd:Vals dvs ds)(hx:Av CX X E)
  (ha:PA X (e::es) t)(hdb:(x==("__debug__":Str))=false:=by decide)(he:starEach (e::es) X.env=(false,eval e X.env)::starEach es X.env:=by rfl)(hpl:(backTo pos (starEach es X.env)).any (·.1)=false:=by rfl):
  PE X (.Call (.Name x p) (e::es) [] pos) (Y7 sp dvs E t):=by
 intro QLq s σ H Q I h
 refine wpAny_Call_Name_kw (Ci I hg hm ?_ hdb)
 refine PySem.W.callWith_K (h₀:=X.base) I.ok.mod.kin hk (b8 (ha pos QLq s σ H _ I h) fun us s1⟨vs,H1,I1,r,q⟩=>⟨I1.XH,?_⟩) he hpl
 exact Ub F hr hb hd hx I1 r q
end
section
variable{X:Cx}{CX:GC}{k:Nat}{f C:Addr}{fd:FuncData}{ps ks:List Str}{sp:Sp}{E:XK}{x m:Str}{p pos apos kpos:Pos}{e o:Expr}{es:List Expr}{kws:List Keyword}{te ta:TE}{t tk:TA}{nm:Option Str}
variable{g:List Value->List Value->List Value}{gV:List V->List V->List V}
end
structure jN(N P:List Str)(sc:Scope):Prop where
 kind:sc.kind=.function
 co:sc.isCoroutine=false
 gen:sc.isGenerator=false
 nd:N.Nodup
 pre:N.take P.length=P
 par:∀x∈P,sc.names.lookup x=some .local\/sc.names.lookup x=some .cell
 nofree:∀y∈sc.names,y.2≠ .free
theorem uD{kindOf:Str->Option NameKind}{x:Str}:∀{binds:List (Str×Value)}{m:QZz},(∀v,(x,v)∉binds)->bindL kindOf binds m x=m x
 |[],_,_=>rfl
 |(n,v)::r,m,h=>by
  unfold bindL
  rw[uD fun w hw=>h w (QYq _ hw)]
  split
  ·have:x≠n:=by rintro rfl;exact h v QYz
   simp[this]
  ·rfl
theorem uF{kindOf:Str->Option NameKind}{x:Str}:∀{binds:List (Str×Value)}{m:QZz},(∀v,(x,v)∉binds)->bindC kindOf binds m x=m x
 |[],_,_=>rfl
 |(n,v)::r,m,h=>by
  unfold bindC
  rw[uF fun w hw=>h w (QYq _ hw)]
  split
  ·rfl
  ·have:x≠n:=by rintro rfl;exact h v QYz
   simp[this]
theorem uE{kindOf:Str->Option NameKind}{x:Str}{v:Value}:∀{P:List Str}{vs:List Value}{i:Nat}{m:QZz},P.Nodup->P[i]? =some x->vs[i]? =some v->kindOf x=some .local->
  bindL kindOf (P.zip vs) m x=some v
 |[],_,_,_,_,h,_,_=>by simp at h
 |_::_,[],_,_,_,_,h,_=>by simp at h
 |p::P,w::vs,0,m,nd,h1,h2,hk=>by
  simp at h1 h2;subst h1;subst h2
  show bindL kindOf ((p,w)::P.zip vs) m p=_
  unfold bindL
  rw[uD fun v hv=>(List.nodup_cons.mp nd).1 (List.of_mem_zip hv).1,if_pos hk]
  simp
 |p::P,w::vs,i+1,m,nd,h1,h2,hk=>by
  show bindL kindOf ((p,w)::P.zip vs) m x=_
  unfold bindL
  exact uE (i:=i) (List.nodup_cons.mp nd).2 (by simpa using h1) (by simpa using h2) hk
theorem uG{kindOf:Str->Option NameKind}{x:Str}{v:Value}:∀{P:List Str}{vs:List Value}{i:Nat}{m:QZz},P.Nodup->P[i]? =some x->vs[i]? =some v->kindOf x≠some .local->
  bindC kindOf (P.zip vs) m x=some v
 |[],_,_,_,_,h,_,_=>by simp at h
 |_::_,[],_,_,_,_,h,_=>by simp at h
 |p::P,w::vs,0,m,nd,h1,h2,hk=>by
  simp at h1 h2;subst h1;subst h2
  show bindC kindOf ((p,w)::P.zip vs) m p=_
  unfold bindC
  rw[uF fun v hv=>(List.nodup_cons.mp nd).1 (List.of_mem_zip hv).1,if_neg hk]
  simp
 |p::P,w::vs,i+1,m,nd,h1,h2,hk=>by
  show bindC kindOf ((p,w)::P.zip vs) m x=_
  unfold bindC
  exact uG (i:=i) (List.nodup_cons.mp nd).2 (by simpa using h1) (by simpa using h2) hk
def start(N:List Str)(vs:List V):St:=vs.map some++List.replicate (N.length-vs.length) none
def z9(CX:GC)(P:Program)(w:World)(K:QQq)(mg:QZz)(base:Heap)(N:List Str)(qual:Str)(scope:Scope)(f:Addr)(cd:Value)(A:Around)(outer:List Env)(s:Shared)(H:Hp)(E:XK):Cx where
 prog:=P
 w:=w
 K:=K
 mg:=mg
 base:=base
 A:=A.deeper (envOfC qual scope s.heap.objs.size f cd)
 N:=N
 s₀:=s
 H₀:=H
 env:=envOfC qual scope s.heap.objs.size f cd
 outer:=outer
 stack:=envOfC qual scope s.heap.objs.size f cd::outer
 ex:=[]
 calm:=true
 fn:=fun _=>true
 pn:=[]
 xe:=fun e s'=>wpAny (model P w) (A.deeper (envOfC qual scope s.heap.objs.size f cd)) (leaving (envOfC qual scope s.heap.objs.size f cd) e) (fun _ s''=>CX outer H s E e s'') (fun e' s''=>CX outer H s E e' s'') s'
theorem yj{sc:Scope}{n:Nat}{x:Str}(h:sc.names.lookup x=some .cell):∃c,(cellsFrom n sc.names []).lookup x=some c:=by
 have q:=PySem.W.cellsFrom_some sc.names n [] (.inl h)
 exact Option.isSome_iff_exists.mp q
theorem FQ{CX:GC}{P:Program}{w:World}{K:QQq}{mg:QZz}{base:Heap}{N ps:List Str}{qual:Str}{scope:Scope}{f:Addr}{cd:Value}{A:Around}{outer:List Env}{s s1:Shared}{H:Hp}{E:XK}{us:List Value}{vs:List V}
  (S:jN N ps scope)(hd:A.handled=none)(e0:Ax P w K mg base A outer s H)(hl:vs.length=ps.length)(r:Vals vs us)
  (x:InCallC s s.heap.objs.size (bindL (envOfC qual scope s.heap.objs.size f cd).kindOf (ps.zip us) fun _=>none) (cellsFrom (s.heap.objs.size+1) scope.names []) (bindC (envOfC qual scope s.heap.objs.size f cd).kindOf (ps.zip us) fun _=>none) s1):
  Inv (z9 CX P w K mg base N qual scope f cd A outer s H E) [] (start N vs) H s1:=by
 have hpl:ps.length<=N.length:=by have:=congrArg List.length S.pre;rw[List.length_take]at this;omega
 obtain⟨h1,tk,rfl,hk⟩:=x.done
 have noA:∀b:Addr,b∉(z9 CX P w K mg base N qual scope f cd A outer s H E).ex:=fun b z=>absurd (show b∈([]:List Addr)from z) (by simp)
 refine⟨⟨e0.mod,S.kind,rfl,rfl,QVz _,fun y z c h1 h2=>?_,fun y hy=>?_,fun y c _ h=>?_,fun _=>hd,Around.frames_deeper e0.frames,.inr ⟨rfl,rfl⟩,fun b z=>absurd z (noA b),e0.bs,e0.bsz,fun b _ _=>noA b,fun b z=>absurd z (noA b),e0.kj,e0.frf⟩,
  rfl,e0.bare,Un.kept hk,⟨_,x.toInCall.ns,fun i y v h1 h2 h3=>?_⟩,fun y c h=>⟨_,x.cell y c h⟩,e0.hok.fresh (QVz _),fun y c h=>?_,fun p hp=>absurd (show p∈([]:QQz)from hp) (by simp),e0.hok.kept hk,?_⟩
 ·exact name_of_addr x.apart (PySem.mem_of_lookup h1) (PySem.mem_of_lookup h2)
 ·have hy:scope.names.lookup y=some .cell\/scope.names.lookup y=some .free:=hy
  rcases hy with hy|hy
  ·exact yj hy
  ·exact absurd rfl (S.nofree _ (PySem.mem_of_lookup hy))
 ·exact Nat.le_of_lt (x.above y c (PySem.mem_of_lookup h))
 ·have hi:i<vs.length:=by
   unfold start at h2
   by_cases hi:i<vs.length
   ·exact hi
   ·rw[QIz (by simpa using hi)]at h2
    rw[List.getElem?_replicate]at h2
    split at h2<;>cases h2
  have ha:vs[i]? =some v:=by
   unfold start at h2
   rw[Qwz (by simpa using hi),QFz]at h2
   cases e:vs[i]? with
   |none=>rw[e]at h2;cases h2
   |some a=>rw[e]at h2;cases h2;rfl
  obtain⟨u,hu,rv⟩:=r.get ha
  have hp:ps[i]? =some y:=by
   rw[<-S.pre,List.getElem?_take_of_lt (by omega)];exact h1
  have ndP:ps.Nodup:=by rw[<-S.pre];exact S.nd.sublist (List.take_sublist _ _)
  refine⟨u,rv,?_⟩
  rcases S.par y (QBz hp)with k|k
  ·exact .inl ⟨k,uE ndP hp hu k⟩
  ·obtain⟨c,e⟩:=yj (n:=s.heap.objs.size+1) k
   refine .inr ⟨.inl k,c,e,?_⟩
   have q:=x.cell y c e
   rw[uG ndP hp hu (by show scope.names.lookup y≠_;rw[k];decide)]at q
   exact q
 ·exact e0.hok.fresh (Nat.le_of_lt (x.above y c (PySem.mem_of_lookup h)))
 ·unfold start
  show _=N.length
  rw[QTq,QAq,List.length_replicate]
  omega
theorem aa4{CX:GC}{P:Program}{w:World}{K:QQq}{mg:QZz}{base:Heap}{k:Nat}{f:Addr}{name qual:Str}{params:Arguments}{body:List Stmt}{scope:Scope}{dV kV doc pm cdv ct oc:Value}{an od:Option Addr}
  {osl:Array (Option Value)}{N ps:List Str}{sp:Sp}(lk:K.lookup f=some ⟨oc,od,.func (PySem.W.fnOf name qual params body scope dV kV doc pm an cdv ct),osl⟩)(hcd:PySem.W.codeIn K cdv qual=true)(S:jN N ps scope)
  (len:∀vs H Q E,sp vs H Q E->vs.length=ps.length)
  (hbody:∀(A:Around)(outer:List Env)(s:Shared)(H:Hp)(vs:List V)(Q:VK)(E:XK),jc k (A.deeper (envOfC qual scope s.heap.objs.size f cdv))->sp vs H Q E->
   ∃t,v9 (z9 CX P w K mg base N qual scope f cdv A outer s H E) body t/\t {nx:=fun _ H'=>Q .non H',rt:=Q} (start N vs) H):
  nA P w K mg base CX (k+1) f (PySem.W.fnOf name qual params body scope dV kV doc pm an cdv ct) ps sp:=by
 refine⟨len,fun A outer s H args us vs Q E hr e0 hb r hsp=>?_⟩
 have hl:=len _ _ _ _ hsp
 have KX:K.In s.heap:=e0.mod.kin.keeps fun b o e=>(e0.bs b o e).1
 have lim:s.heap.NoLimit:=e0.mod.nolimit.keeps fun b o e=>(e0.bs b o e).1
 have hkind:∀y∈ps.zip us,scope.names.lookup y.1=some .local\/(scope.names.lookup y.1=some .cell/\((cellsFrom (s.heap.objs.size+1) scope.names []).lookup y.1).isSome=true):=fun⟨n,v⟩hy=>by
  rcases S.par n (List.of_mem_zip hy).1 with q|q
  ·exact .inl q
  ·exact .inr ⟨q,PySem.W.cellsFrom_some _ _ _ (.inl q)⟩
 refine codeAny_call_function hr.depth (KX _ _ lk) rfl S.co S.gen rfl (PySem.W.codeRec_of KX hcd) (hb _ _ _ _ ?_)
 refine wpAny_newFunctionEnv_cells S.kind hkind fun env he s1 x=>?_
 subst he
 refine⟨lim.keeps x.toInCall.keep,codeAny_func ?_⟩
 obtain⟨t,ht,hq⟩:=hbody A outer s H vs Q E (hr.deeper _) hsp
 have I:Inv (z9 CX P w K mg base N qual scope f cdv A outer s H E) [] (start N vs) H s1:=FQ S hr.hd e0 hl r x
 refine QGq (ht [] s1 (start N vs) H _ I hq) (fun fl s' hs=>?_) fun e s' hs=>hs
 have fin:∀{σ':St}{H':Hp}{v:V}{u:Value},Inv (z9 CX P w K mg base N qual scope f cdv A outer s H E) [] σ' H' s'->RelV v u->Q v H'->CE outer P w H s Q u s':=
  fun{σ' H' v u}J rv q=>⟨v,H',J.os,J.bare,J.base,J.hok,rv,q⟩
 cases fl with
 |ret u=>
  obtain⟨v,σ',H',J,rv,q⟩:=hs
  exact fin J rv q
 |next=>
  obtain⟨σ',H',J,q⟩:=hs
  exact fin (v:=V.non) (u:=Value.none) J rfl q
 |brk=>
  obtain⟨_,_,_,q⟩:=hs
  exact False.elim q
 |cont=>
  obtain⟨_,_,_,q⟩:=hs
  exact False.elim q
section
variable{X:Cx}{x:Str}{p pos:Pos}{e:Expr}{es:List Expr}{t:TA}{id T:String}{r:List V->Hp->VK->Prop}
def tCB(r:List V->Hp->VK->Prop)(t:TA):TE:=fun σ H Q=>t σ H fun vs H1=>r vs H1 Q
theorem pR(hc:fJ X (.builtin id) r)(hg:Gl X x)(hm:X.mg x=none)(hv:bootBuiltins x=some (.builtin id))(ha:PA X (e::es) t)(hn:x≠"__name__":=by decide)(hdb:(x==("__debug__":Str))=false:=by decide)
  (he:starEach (e::es) X.env=(false,eval e X.env)::starEach es X.env:=by rfl)(hpl:(backTo pos (starEach es X.env)).any (·.1)=false:=by rfl):PE X (.Call (.Name x p) (e::es) [] pos) (tCB r t):=by
 intro QLq s σ H Q I h
 refine wpAny_Call_Name_kw (jr I hg hm hv ?_ hn hdb)
 exact PyProof.Rows.callWith_builtin1 (b8 (ha pos QLq s σ H _ I h) fun us s1⟨vs,H1,I1,r1,q1⟩=>hc QLq s1 σ H1 vs us Q I1 r1 q1) he hpl
theorem mK(hc:fJ X (.type T) r)(hg:Gl X x)(hm:X.mg x=none)(hv:bootBuiltins x=some (.type T))(ha:PA X (e::es) t)(hn:x≠"__name__":=by decide)(hdb:(x==("__debug__":Str))=false:=by decide)
  (he:starEach (e::es) X.env=(false,eval e X.env)::starEach es X.env:=by rfl)(hpl:(backTo pos (starEach es X.env)).any (·.1)=false:=by rfl):PE X (.Call (.Name x p) (e::es) [] pos) (tCB r t):=by
 intro QLq s σ H Q I h
 refine wpAny_Call_Name_kw (jr I hg hm hv ?_ hn hdb)
 exact PyProof.Rows.callWith_type1 (b8 (ha pos QLq s σ H _ I h) fun us s1⟨vs,H1,I1,r1,q1⟩=>hc QLq s1 σ H1 vs us Q I1 r1 q1) he hpl
end
end L2
namespace HT
open PySem PyProof.Rows
section
open PySem.SeqAt
open PySem.AutoSeq1 (wpAny_loadPart')
open PySem.MeetsSeq PySem.MeetsSeq2 PySem.MeetsSeq3
end
section
variable{prog:Program}{w:World}{A:Around}{E:QZq}{s:Shared}
theorem Qj{t b:Addr}{vs ws:List Value}{Q:QZq}(ht:IsTup s.heap t vs.toArray)(hb:IsTup s.heap b ws.toArray)(hv:vs≠[])
  (h1:ws=[]->Q (.ref t) s)(h2:ws≠[]->Q (.ref s.heap.objs.size) {s with heap:=s.heap.push {cls:=.type "tuple",data:=.seq (vs++ws).toArray}})
  (hsz:vs.length+ws.length<=sizeLine):wpAny (model prog w) A (binaryOp .Add (.ref t) (.ref b)) Q E s:=by
 obtain⟨⟨cls,dd,data,sl⟩,ho,hc,n,hd⟩:=id ht
 obtain⟨⟨cls2,dd2,data2,sl2⟩,ho2,hc2,n2,hd2⟩:=id hb
 simp only at hc hd hc2 hd2
 subst hc hd hc2 hd2
 have e:vs.toArray++ws.toArray=(vs++ws).toArray:=by simp
 by_cases hw:ws=[]
 ·exact concat_meets ⟨_,ho,rfl⟩ ⟨_,ho2,rfl⟩ noFill_tuple_add seq_tuple_add PySem.F.slot_tuple_add PySem.F.entry_tuple_add (PySem.F.args_tuple_add_2 _ _)
   (tuple_addW1 t b vs.toArray ws.toArray n n2 dd dd2 sl sl2 (by simpa using hv) (by simp[hw])) ⟨ho,ho2,h1 hw⟩
 ·refine concat_meets ⟨_,ho,rfl⟩ ⟨_,ho2,rfl⟩ noFill_tuple_add seq_tuple_add PySem.F.slot_tuple_add PySem.F.entry_tuple_add (PySem.F.args_tuple_add_2 _ _)
   (tuple_addW2 t b vs.toArray ws.toArray n n2 dd dd2 sl sl2 (by simpa using hv) (by simpa using hw) (by rw[Qyq,Qyq];exact hsz)) ⟨ho,ho2,?_⟩
  rw[e]
  exact h2 hw
def cX(n d:Nat):Option Int->Nat
 |none=>d
 |some v=>if v<0 then(v+(n:Int)).toNat else min v.toNat n
theorem kZ(n d:Nat):cX n d none=d:=rfl
theorem Ua(n d:Nat)(hd:d<=n)(o:Option Int):cX n d o<=n:=by
 cases o with
 |none=>exact hd
 |some v=>
  show(if v<0 then(v+(n:Int)).toNat else min v.toNat n)<=n
  by_cases hv:v<0
  ·rw[if_pos hv];omega
  ·rw[if_neg hv];exact Nat.min_le_right _ _
theorem Dl(v:Int)(n d:Nat):(if v<0 then max (v+(n:Int)) 0 else min v (n:Int))=((cX n d (some v):Nat):Int):=by
 show(if v<0 then max (v+(n:Int)) 0 else min v (n:Int))=(((if v<0 then(v+(n:Int)).toNat else min v.toNat n):Nat):Int)
 by_cases hv:v<0
 ·simp only[if_pos hv];omega
 ·simp only[if_neg hv];omega
theorem Aq(lo hi:Option Int)(n:Nat):Builtin.Slice.sliceAdjust lo hi 1 (n:Int)=(((cX n 0 lo:Nat):Int),((cX n n hi:Nat):Int)):=by
 have h1:¬((1:Int)<0):=by omega
 unfold Builtin.Slice.sliceAdjust
 simp only[h1,if_false]
 refine Prod.ext ?_ ?_
 ·cases lo with
  |none=>rfl
  |some v=>exact Dl v n 0
 ·cases hi with
  |none=>rfl
  |some v=>exact Dl v n n
theorem zx(i j:Nat):Builtin.Slice.slicePlaces (i:Int) (j:Int) 1=j-i:=by
 unfold Builtin.Slice.slicePlaces
 have h1:(1:Int)>0:=by omega
 simp only[h1,if_true,Int.ediv_one]
 split<;>omega
theorem pH{v:Value}{o:Option Int}{Q:Option Int->Shared->Prop}(p:IsPart v o)(h:Q o s):wpAny (model prog w) A (Builtin.Slice.slicePartIndex v) Q E s:=by
 cases p with
 |none=>exact slicePart_none h
 |int i t=>exact slicePart_int h
theorem gU{sl:Addr}{vl vu:Value}{lo hi:Option Int}{n:Nat}{Q:Int×Int×Nat->Shared->Prop}(hs:s.heap.IsSliceOf sl vl vu .none)(pl:IsPart vl lo)(pu:IsPart vu hi)
  (h:Q (((cX n 0 lo:Nat):Int),1,cX n n hi-cX n 0 lo) s):wpAny (model prog w) A (Builtin.Slice.sliceApplied (.ref sl) (pure (n:Int))) Q E s:=by
 obtain⟨os,hos,hcs,hds⟩:=id hs
 unfold Builtin.Slice.sliceApplied Builtin.Slice.sliceFields
 refine QKq (QKq (QGz hos hds (x:=vl) rfl (QKq (QGz hos hds (x:=vu) rfl (QKq (QGz hos hds (x:=.none) rfl (QKz ?_)))))))
 refine QKq (slicePart_none ?_)
 show wpAny _ _ (if ((1:Int)==0)=true then _ else _) _ _ s
 rw[if_neg (by decide)]
 refine QKq (pH pl (QKq (pH pu (QKq (QKz ?_)))))
 show wpAny _ _ (match Builtin.Slice.sliceAdjust lo hi 1 (n:Int)with|(lo,hi)=>pure (lo,(1:Int),Builtin.Slice.slicePlaces lo hi 1)) _ _ s
 rw[Aq lo hi n]
 show wpAny _ _ (pure (((cX n 0 lo:Nat):Int),(1:Int),Builtin.Slice.slicePlaces ((cX n 0 lo:Nat):Int) ((cX n n hi:Nat):Int) 1)) _ _ s
 rw[zx]
 exact QKz h
theorem Il(xs:Array Value)(i k:Nat):((List.range k).filterMap fun(m:Nat)=>xs[((i:Int)+(m:Int)*1).toNat]?).toArray=((xs.toList.drop i).take k).toArray:=by
 have e:(fun(m:Nat)=>xs[((i:Int)+(m:Int)*1).toNat]?)=fun m=>xs[i+m]? :=by
  funext m
  have:((i:Int)+(m:Int)*1).toNat=i+m:=by omega
  rw[this]
 rw[e]
 have:=pick_run xs i k
 rw[List.filterMap_map]at this
 have e2:((fun x=>xs[x]?)∘fun x=>i+x)=fun m=>xs[i+m]? :=rfl
 rw[e2]at this
 rw[this]
theorem lK{t sl:Addr}{items:Array Value}{vl vu:Value}{lo hi:Option Int}{Q:QZq}(ht:IsTup s.heap t items)(hs:s.heap.IsSliceOf sl vl vu .none)(pl:IsPart vl lo)(pu:IsPart vu hi)
  (hw:¬(cX items.size 0 lo=0/\cX items.size items.size hi=items.size))
  (h:Q (.ref s.heap.objs.size) {s with heap:=s.heap.push {cls:=.type "tuple",data:=.seq ((items.toList.drop (cX items.size 0 lo)).take (cX items.size items.size hi-cX items.size 0 lo)).toArray}})
  (hsz:items.size<=sizeLine):wpAny (model prog w) A (getItem (.ref t) (.ref sl)) Q E s:=by
 have htake:sizeOk (.seq ((items.toList.drop (cX items.size 0 lo)).take (cX items.size items.size hi-cX items.size 0 lo)).toArray):=by
  show((items.toList.drop (cX items.size 0 lo)).take (cX items.size items.size hi-cX items.size 0 lo)).toArray.size<=sizeLine
  rw[Qyq,List.length_take,List.length_drop,Array.length_toList]
  omega
 have hj:cX items.size items.size hi<=items.size:=Ua _ _ (QVz _) hi
 obtain⟨os,hos,hcs,hds⟩:=id hs
 have hTs:s.TypeIs (.ref sl) "slice":=⟨os,hos,hcs⟩
 unfold getItem
 try with_reducible refine Qqq ?_
 first|refine QKq (QKz ?_)|skip
 refine QKq (wpAny_sequenceKey ht.typeIs (by decide) ?_)
 refine QKq (wpAny_callSpecial?_slot (name:=Str.ofString "__getitem__") ht.typeIs PyProof.Rows.slot_tuple_getitem
  (Qzz PyProof.Rows.slot_tuple_getitem ht.typeIs entry_tuple_getitem ?_ (args_tuple_getitem _ _)))
 show wpAny _ _ (Builtin.Tuple.tupleItemsOf (.ref t)>>=_) _ _ s
 refine QKq (tupleItemsOf_ ht ?_)
 refine QKq (wpAny_typeOf hTs ?_)
 rw[if_pos (by decide)]
 refine QKq (gU hs pl pu ?_)
 have hno:¬((((cX items.size 0 lo:Nat):Int)==0&&(1:Int)==1&&(cX items.size items.size hi-cX items.size 0 lo)==items.size)=true):=by
  intro q
  rw[QUq,QUq]at q
  have q1:((cX items.size 0 lo:Nat):Int)=0:=eq_of_beq q.1.1
  have q2:cX items.size items.size hi-cX items.size 0 lo=items.size:=eq_of_beq q.2
  exact hw ⟨by omega,by omega⟩
 show wpAny _ _ (if (((cX items.size 0 lo:Nat):Int)==0&&(1:Int)==1&&(cX items.size items.size hi-cX items.size 0 lo)==items.size)=true then _ else _) _ _ s
 rw[if_neg hno,Il]
 first
  |exact QKq (m:=Builtin.Tuple.tupleExact _) (Qjq (QKz ⟨_,rfl,QKz h⟩) htake)
  |exact QKq (m:=Builtin.Tuple.tupleExact _) (Qjq (QKq (QKz (QKz ⟨_,rfl,QKz h⟩))) htake)
  |exact QKq (QKq (m:=Builtin.Tuple.tupleExact _) (Qjq (QKz (QKz ⟨_,rfl,QKz h⟩)) htake))
  |exact QKq (QKq (m:=Builtin.Tuple.tupleExact _) (Qjq (QKz ⟨_,rfl,QKz h⟩) htake))
end
end HT
namespace L2
open PySem PySem.Spec PyProof.Rows
abbrev TO:=St->Hp->(Option Int->Hp->Prop)->Prop
def PO(X:Cx)(e:Option Expr)(t:TO):Prop:=
 ∀(QLq:QQz)(s:Shared)(σ:St)(H:Hp)(Q:Option Int->Hp->Prop),Inv X QLq σ H s->t σ H Q->
  wpAny (model X.prog X.w) X.A (evalPart e X.env) (fun u s'=>∃o H',Inv X QLq σ H' s'/\IsPart u o/\Q o H') X.xe s
def MP:TO:=fun _ H Q=>Q none H
def YW(t:TE):TO:=fun σ H Q=>t σ H fun x H1=>∃i,x=.int i/\Q (some i) H1
section
variable{X:Cx}{e:Expr}{te:TE}{lo hi:Option Expr}{tl th:TO}{pos p2:Pos}
theorem Oe:PO X none MP:=by
 intro QLq s σ H Q I h
 rw[evalPart_none]
 exact QKz ⟨none,H,I,.none,h⟩
theorem Od(h:PE X e te):PO X (some e) (YW te):=by
 intro QLq s σ H Q I hw
 rw[evalPart_some]
 refine b8 (h QLq s σ H _ I hw) fun u s1⟨x,H1,I1,r1,q1⟩=>?_
 obtain⟨i,rfl,q⟩:=q1
 obtain⟨t,rfl⟩:=r1
 exact⟨some i,H1,I1,.int i t,q⟩
def Qx(X:Cx)(r:V->Option Int->Option Int->Hp->VK->Prop):Prop:=
 ∀(QLq:QQz)(s:Shared)(σ:St)(H:Hp)(x:V)(v vl vu:Value)(lo hi:Option Int)(sl:Addr)(Q:VK),Inv X QLq σ H s->RelV x v->s.heap.IsSliceOf sl vl vu .none->IsPart vl lo->IsPart vu hi->r x lo hi H Q->
  ∃T id,typeLookup (.type T) "__getitem__"=pure (some (.builtin id))/\s.TypeIs v T/\wpAny (model X.prog X.w) X.A (getItem v (.ref sl)) (EP X QLq σ Q) X.xe s
theorem Qx.or{r r':V->Option Int->Option Int->Hp->VK->Prop}(h:Qx X r)(h':Qx X r'):Qx X (fun x lo hi H Q=>r x lo hi H Q\/r' x lo hi H Q):=by
 intro QLq s σ H x v vl vu lo hi sl Q I rx hs pl pu q
 rcases q with q|q
 ·exact h QLq s σ H x v vl vu lo hi sl Q I rx hs pl pu q
 ·exact h' QLq s σ H x v vl vu lo hi sl Q I rx hs pl pu q
def tSl(r:V->Option Int->Option Int->Hp->VK->Prop)(te:TE)(tl th:TO):TE:=fun σ H Q=>te σ H fun x H1=>tl σ H1 fun l H2=>th σ H2 fun u H3=>r x l u H3 Q
theorem Ir{r:V->Option Int->Option Int->Hp->VK->Prop}(hr:Qx X r)(he:PE X e te)(hl:PO X lo tl)(hu:PO X hi th):PE X (.Subscript e (.Slice lo hi none p2) pos) (tSl r te tl th):=by
 intro QLq s σ H Q I h
 refine Subscript_ (b8 (he QLq s σ H _ I h) fun v s1⟨x,H1,I1,r1,q1⟩=>?_)
 refine wpAny_Slice (b8 (hl QLq s1 σ H1 _ I1 q1) fun vl s2⟨l,H2,I2,pl,q2⟩=>b8 (hu QLq s2 σ H2 _ I2 q2) fun vu s3⟨u,H3,I3,pu,q3⟩=>?_)
 rw[evalPart_none]
 refine QKz ?_
 have I4:Inv X QLq σ H3 {s3 with heap:=s3.heap.push {cls:=.type "slice",data:=.fields #[vl,vu,.none]}}:=I3.kept (t':=s3.toks) fun b ob q=>QWq _ q
 obtain⟨T,id,hT,ht,hg⟩:=hr QLq {s3 with heap:=s3.heap.push {cls:=.type "slice",data:=.fields #[vl,vu,.none]}} σ H3 x v vl vu l u s3.heap.objs.size Q I4 r1 (Heap.IsSliceOf.new ..) pl pu q3
 show wpAny (model X.prog X.w) X.A (subscriptTail e (.Slice lo hi none p2) v (.ref s3.heap.objs.size)) (EP X QLq σ Q) X.xe {s3 with heap:=s3.heap.push {cls:=.type "slice",data:=.fields #[vl,vu,.none]}}
 exact tail_any (ops:=[.ref s3.heap.objs.size,v]) ht hT hg (by with_unfolding_all rfl)
def qH(xs:List V)(lo hi:Option Int):List V:=(xs.drop (HT.cX xs.length 0 lo)).take (HT.cX xs.length xs.length hi-HT.cX xs.length 0 lo)
theorem nQ(xs:List V)(lo hi:Option Int):(qH xs lo hi).length<=xs.length:=by
 unfold qH
 rw[List.length_take,List.length_drop]
 omega
def ZK(K:QQq):V->Option Int->Option Int->Hp->VK->Prop:=fun x lo hi H Q=>∃a xs,x=.ref a/\gQ K H a xs/\
 ¬(HT.cX xs.length 0 lo=0/\HT.cX xs.length xs.length hi=xs.length)/\∀p,H p=none->Q (.ref p) (upd H p (.tup (qH xs lo hi)))
theorem T6:Qx X (ZK X.K):=by
 intro QLq s σ H x v vl vu lo hi sl Q I rx hs pl pu h
 obtain⟨a,xs,rfl,hx,hw,q⟩:=h
 cases rx
 obtain⟨its,r,ht,hz⟩:=I.tuple hx
 have hlen:its.toArray.size=xs.length:=by rw[Qyq];exact r.length.symm
 refine⟨"tuple",_,PyProof.Rows.slot_tuple_getitem.lookup,ht.typeIs,?_⟩
 refine HT.lK ht hs pl pu (by rw[hlen];exact hw) ?_ (by rw[hlen];exact hz)
 rw[hlen]
 refine⟨.ref s.heap.objs.size,_,I.laid (t':=s.toks) (o:=.tup (qH xs lo hi)) (fun b ob q=>QWq _ q) (QVz _) ?_,rfl,q _ (I.hok.fresh (QVz _))⟩
 exact⟨Nat.le_trans (nQ xs lo hi) hz,_,(r.drop (HT.cX xs.length 0 lo)).take (HT.cX xs.length xs.length hi-HT.cX xs.length 0 lo),TupOk.new _ _⟩
def ZW(K:QQq):R2:=fun x y H Q=>∃a b xs ys,x=.ref a/\y=.ref b/\gQ K H a xs/\gQ K H b ys/\xs≠[]/\xs.length+ys.length<=sizeLine/\
 (ys=[]->Q (.ref a) H)/\(ys≠[]->∀p,H p=none->Q (.ref p) (upd H p (.tup (xs++ys))))
theorem Vals.bB{xs:List V}{us:List Value}(r:Vals xs us):us=[]↔xs=[]:=by
 cases r with
 |nil=>simp
 |cons _ _=>simp
theorem Oz:fH X (binaryOp .Add) (ZW X.K):=by
 intro QLq s σ H x y v u Q I rx ry h
 obtain⟨a,b,xs,ys,rfl,rfl,ha,hb,hx,hz,q1,q2⟩:=h
 cases rx
 cases ry
 obtain⟨its,r1,p1,_⟩:=I.tuple ha
 obtain⟨its2,r2,p2,_⟩:=I.tuple hb
 refine HT.Qj p1 p2 (fun z=>hx (r1.bB.mp z)) (fun z=>⟨.ref a,H,I,rfl,q1 (r2.bB.mp z)⟩) (fun z=>?_) (by rw[<-r1.length,<-r2.length];exact hz)
 refine⟨.ref s.heap.objs.size,_,I.laid (t':=s.toks) (o:=.tup (xs++ys)) (fun b ob q=>QWq _ q) (QVz _) ?_,rfl,q2 (fun w=>z (r2.bB.mpr w)) _ (I.hok.fresh (QVz _))⟩
 exact⟨by rw[QTq];exact hz,_,r1.append r2,TupOk.new _ _⟩
end
def Pr(n:Nat)(i:Int):Option Nat:=if 0<=i then(if i<n then some i.toNat else none)else if-(n:Int)<=i then some (i+n).toNat else none
def WP{α:Type}(xs:List α)(i:Int):Option α:=(Pr xs.length i).bind fun j=>xs[j]?
theorem Cr{n:Nat}{i:Int}{j:Nat}(h:Pr n i=some j):seqIndex? i n=some j/\j<n/\ -(n:Int)<=i/\i<n:=by
 unfold Pr at h
 by_cases h0:0<=i
 ·rw[if_pos h0]at h
  by_cases h1:i<n
  ·rw[if_pos h1]at h
   have e:i.toNat=j:=QEq h
   exact⟨by rw[seqIndex_of h0 h1,e],by omega,by omega,h1⟩
  ·rw[if_neg h1]at h;cases h
 ·rw[if_neg h0]at h
  by_cases h1: -(n:Int)<=i
  ·rw[if_pos h1]at h
   have e:(i+n).toNat=j:=QEq h
   exact⟨by rw[seqIndex_neg (by omega) h1,e],by omega,h1,by omega⟩
  ·rw[if_neg h1]at h;cases h
theorem v6{α:Type}{xs:List α}{i:Int}{v:α}(h:WP xs i=some v):∃j,seqIndex? i xs.length=some j/\xs[j]? =some v/\j<xs.length/\ -(xs.length:Int)<=i/\i<xs.length:=by
 unfold WP at h
 cases e:Pr xs.length i with
 |none=>rw[e]at h;cases h
 |some j=>
  rw[e]at h
  obtain⟨h1,h2,h3,h4⟩:=Cr e
  exact⟨j,h1,h,h2,h3,h4⟩
def v8(b:Expr):Prop:=∀o i,subscripted b false o i=operate [o,i] (getItem o i)
def Gz(X:Cx)(r:R2):Prop:=
 ∀(value slice:Expr)(QLq:QQz)(s:Shared)(σ:St)(H:Hp)(x y:V)(v u:Value)(Q:VK),Inv X QLq σ H s->RelV x v->RelV y u->r x y H Q->
  subscripted slice false v u=operate [v,u] (getItem v u)->wpAny (model X.prog X.w) X.A (subscriptTail value slice v u) (EP X QLq σ Q) X.xe s
def MtR(X:Cx)(id:String)(r:V->List V->Hp->VK->Prop):Prop:=
 ∀(QLq:QQz)(s:Shared)(σ:St)(H:Hp)(x:V)(xs:List V)(v:Value)(us:List Value)(Q:VK),Inv X QLq σ H s->RelV x v->Vals xs us->r x xs H Q->
  wpAny (model X.prog X.w) X.A (call (.builtin id) (v::us)) (EP X QLq σ Q) X.xe s
section
variable{X:Cx}{a b:Expr}{ta tb:TE}{pos:Pos}
theorem Gz.or{r r':R2}(h:Gz X r)(h':Gz X r'):Gz X (fun x y H Q=>r x y H Q\/r' x y H Q):=by
 intro value slice QLq s σ H x y v u Q I rx ry q hs
 rcases q with q|q
 ·exact h value slice QLq s σ H x y v u Q I rx ry q hs
 ·exact h' value slice QLq s σ H x y v u Q I rx ry q hs
theorem Rp{r:R2}(hr:Gz X r)(ha:PE X a ta)(hb:PE X b tb)(hs:v8 b):PE X (.Subscript a b pos) (Xk r ta tb):=by
 intro QLq s σ H Q I h
 exact Subscript_ (WN ha hb I h fun v u s2 x y H2 I2 rx ry q=>hr a b QLq s2 σ H2 x y v u Q I2 rx ry q (hs _ _))
def Ul(K:QQq):R2:=fun x y H Q=>∃p xs i v,x=.ref p/\y=.int i/\iH K H p xs/\WP xs i=some v/\Q v H
def Uk(K:QQq):R2:=fun x y H Q=>∃p xs i v,x=.ref p/\y=.int i/\gQ K H p xs/\WP xs i=some v/\Q v H
def HX:R2:=fun x y H Q=>∃z i c,x=.str z/\y=.int i/\z.length<=sizeLine/\WP z.cps.toList i=some c/\Q (.str ⟨#[c]⟩) H
theorem Cq:Gz X (Ul X.K):=by
 intro value slice QLq s σ H x y v u Q I rx ry h hs
 obtain⟨p,xs,i,z,rfl,rfl,hq,he,q⟩:=h
 cases rx
 obtain⟨t,rfl⟩:=ry
 obtain⟨its,r,pl,hz⟩:=I.list hq
 obtain⟨j,h1,h2,h3,h4,h5⟩:=v6 he
 obtain⟨w,ew,rw'⟩:=r.get h2
 have hl:=r.length
 have hn:=mU
 have fin:EP X QLq σ Q w s:=⟨z,H,I,rw',q⟩
 by_cases h0:0<=i
 ·have hj:i.toNat=j:=by
   rw[seqIndex_of h0 h5]at h1
   exact QEq h1
  exact item_listR pl.isList h0 (by omega) (by rw[hj];simpa using ew) fin hs
 ·have hj:(i+(its.toArray.size:Int)).toNat=j:=by
   rw[seqIndex_neg (by omega) h4]at h1
   rw[Qyq,<-hl]
   exact QEq h1
  exact subscriptTail_builtinR (x:=w) pl.isList.typeIs slot_list_getitem.lookup
   (wpAny_getItem_list_neg (Q:=fun r s'=>r=w/\EP X QLq σ Q r s') pl.isList (by omega) (by rw[Qyq]<;>omega) (by omega) (by rw[hj];simpa using ew) ⟨rfl,fin⟩) hs
theorem JG:Gz X (Uk X.K):=by
 intro value slice QLq s σ H x y v u Q I rx ry h hs
 obtain⟨p,xs,i,z,rfl,rfl,hq,he,q⟩:=h
 cases rx
 obtain⟨t,rfl⟩:=ry
 obtain⟨its,r,pl,hz⟩:=I.tuple hq
 obtain⟨j,h1,h2,h3,h4,h5⟩:=v6 he
 obtain⟨w,ew,rw'⟩:=r.get h2
 have hl:=r.length
 have hn:=mU
 have fin:EP X QLq σ Q w s:=⟨z,H,I,rw',q⟩
 exact subscriptTail_builtinR (x:=w) pl.typeIs slot_tuple_getitem.lookup
  (getItem_tuple (j:=j) (Q:=fun r s'=>r=w/\EP X QLq σ Q r s') pl (by omega) (by omega) (by rw[Qyq,<-hl];exact h1) (by simpa using ew) ⟨rfl,fin⟩) hs
theorem Vx:Gz X HX:=by
 intro value slice QLq s σ H x y v u Q I rx ry h hs
 obtain⟨z,i,c,rfl,rfl,hz,he,q⟩:=h
 obtain⟨t,rfl⟩:=rx
 obtain⟨t',rfl⟩:=ry
 obtain⟨j,h1,h2,h3,h4,h5⟩:=v6 he
 have hl:z.cps.toList.length=z.length:=by simp[Str.length]
 rw[hl]at h1 h4 h5
 have hn:=mU
 exact tail_any (typeIs_str s z t) slot_str_getitem.lookup (getItem_str (c:=c) (by
  have e1:decide (i< -(2 ^63:Int))=false:=QEz (by omega)
  have e2:decide (i>=2 ^63)=false:=QEz (by omega)
  rw[e1,e2,Bool.or_false]) (by rw[h1];simpa using h2) ⟨.str ⟨#[c]⟩,H,I.tok _,⟨_,rfl⟩,q⟩) hs
def rIx(K:QQq):R2:=fun x y H Q=>Ul K x y H Q\/Uk K x y H Q\/HX x y H Q
theorem JH:Gz X (rIx X.K):=Cq.or (JG.or Vx)
theorem zH(its:List Value)(n j:Nat)(u:Value):Obj.mapSeq (·.setIfInBounds j u) {cls:=.type "list",data:=.seq its.toArray n}={cls:=.type "list",data:=.seq (its.set j u).toArray n}:=by
 simp[Obj.mapSeq]
theorem Inv.lst{QLq:QQz}{σ:St}{H:Hp}{s:Shared}{p:Addr}{xs:List V}(I:Inv X QLq σ H s)(h:H p=some (.lst xs)):
  ∃(its:List Value)(n:Nat),Vals xs its/\s.heap.get? p=some {cls:=.type "list",data:=.seq its.toArray n}/\xs.length<=sizeLine:=by
 obtain⟨z,its,n,r,e⟩:=I.hok p _ h
 exact⟨its,n,r,e,z⟩
theorem Inv.Vh{QLq:QQz}{σ:St}{H:Hp}{s:Shared}{p:Addr}{xs ys:List V}{its its':List Value}{n n':Nat}{f:Obj->Obj}(I:Inv X QLq σ H s)(h:H p=some (.lst xs))
  (ho:s.heap.get? p=some {cls:=.type "list",data:=.seq its.toArray n})(hf:f {cls:=.type "list",data:=.seq its.toArray n}={cls:=.type "list",data:=.seq its'.toArray n'})(r:Vals ys its')(hz:ys.length<=sizeLine)(t:Nat):
  Inv X QLq σ (upd H p (.lst ys)) {s with heap:=s.heap.update p f,toks:=t}:=by
 have e:(s.heap.update p f).get? p=some {cls:=.type "list",data:=.seq its'.toArray n'}:=by
  rw[Heap.get?_update_self f ho (by rw[hf]<;>rfl),hf]
 refine I.write (x:=p) (e:=p) (by rw[h];trivial) (.inl rfl) (fun b u hb q=>(Heap.get?_update_other _ _ (Ne.symm hb)).trans q) ⟨_,e⟩ ?_
 exact⟨hz,its',n',r,e⟩
def Rf:V->V->V->Hp->(Hp->Prop)->Prop:=fun o i v H Q=>∃p xs k j,o=.ref p/\i=.int k/\H p=some (.lst xs)/\Pr xs.length k=some j/\Q (upd H p (.lst (xs.set j v)))
theorem set_list:Ls X Rf:=by
 intro QLq s σ H o i v ov iv u Q I ro ri rv h
 obtain⟨p,xs,k,j,rfl,rfl,hp,hj,q⟩:=h
 cases ro
 obtain⟨t,rfl⟩:=ri
 obtain⟨its,n,r,ho,hz⟩:=I.lst hp
 obtain⟨h1,h2,h3,h4⟩:=Cr hj
 have hl:=r.length
 have hn:=mU
 have I':Inv X QLq σ (upd H p (.lst (xs.set j v))) {s with heap:=s.heap.update p (Obj.mapSeq (·.setIfInBounds j u))}:=
  I.Vh hp ho (zH its n j u) (r.set rv j) (by rw[List.length_set];exact hz) s.toks
 by_cases h0:0<=k
 ·have hk:k.toNat=j:=by
   rw[seqIndex_of h0 h4]at h1
   exact QEq h1
  exact PySem.W.ki_setAt ho h0 (by omega) (by rw[Qyq,<-hl];exact h4) (by rw[hk];exact⟨_,I',q⟩)
 ·have hk:(k+(its.toArray.size:Int)).toNat=j:=by
   rw[seqIndex_neg (by omega) h3]at h1
   rw[Qyq,<-hl]
   exact QEq h1
  exact PySem.W.ki_setBack ho (by omega) (by rw[Qyq,<-hl];exact h3) (by omega) (by rw[hk];exact⟨_,I',q⟩)
theorem uX(lo hi:Option Int)(n:Nat):(sliceBounds lo hi none n).1=((HT.cX n 0 lo:Nat):Int)/\(sliceBounds lo hi none n).2.1=((HT.cX n n hi:Nat):Int)/\(sliceBounds lo hi none n).2.2=1:=by
 refine⟨?_,?_,rfl⟩
 ·cases lo with
  |none=>simp[sliceBounds,HT.cX]
  |some i=>
   simp only[sliceBounds,HT.cX,Option.getD_none,show(1:Int)>0 by decide,if_true]
   by_cases h:i<0
   ·simp only[h,if_true]<;>omega
   ·simp only[h,if_false]<;>omega
 ·cases hi with
  |none=>simp[sliceBounds,HT.cX]
  |some i=>
   simp only[sliceBounds,HT.cX,Option.getD_none,show(1:Int)>0 by decide,if_true]
   by_cases h:i<0
   ·simp only[h,if_true]<;>omega
   ·simp only[h,if_false]<;>omega
theorem rJ(its:List Value)(lo hi:Option Int):slicePick its.toArray lo hi none=((its.drop (HT.cX its.length 0 lo)).take (HT.cX its.length its.length hi-HT.cX its.length 0 lo)).toArray:=by
 obtain⟨h1,h2,h3⟩:=uX lo hi its.toArray.size
 unfold slicePick
 rw[h1,h2,h3]
 simp only[sliceRange_one,pick_run,Qyq]<;>rfl
def ZL(K:QQq):V->Option Int->Option Int->Hp->VK->Prop:=fun x lo hi H Q=>∃a xs,x=.ref a/\iH K H a xs/\∀p,H p=none->Q (.ref p) (upd H p (.lst (qH xs lo hi)))
theorem M5:Qx X (ZL X.K):=by
 intro QLq s σ H x v vl vu lo hi sl Q I rx hs pl pu h
 obtain⟨a,xs,rfl,hx,q⟩:=h
 cases rx
 obtain⟨its,r,ht,hz⟩:=I.list hx
 have hlen:=r.length
 refine⟨"list",_,slot_list_getitem.lookup,ht.isList.typeIs,?_⟩
 refine wpAny_getItem_list_slice ht.isList hs pl pu .none (by simp) ?_ (by rw[Qyq]<;>omega)
 rw[rJ,<-hlen]
 refine⟨.ref s.heap.objs.size,_,I.laid (t':=s.toks) (o:=.lst (qH xs lo hi)) (fun b ob q=>QWq _ q) (QVz _) ?_,rfl,q _ (I.hok.fresh (QVz _))⟩
 exact⟨Nat.le_trans (nQ xs lo hi) hz,_,0,(r.drop (HT.cX xs.length 0 lo)).take (HT.cX xs.length xs.length hi-HT.cX xs.length 0 lo),Qzq _ rfl⟩
def gA:V->Bool
 |.non=>true
 |.bl _=>true
 |.int _=>true
 |.str _=>true
 |_=>false
def Km:V->V->Bool
 |.non,.non=>true
 |.bl a,.bl b=>a==b
 |.bl a,.int b=>(if a then 1 else 0)==b
 |.int a,.bl b=>a==(if b then 1 else 0)
 |.int a,.int b=>a==b
 |.str a,.str b=>a==b
 |_,_=>false
theorem Wu{A:Around}{s:Shared}{y x:V}{u v:Value}(ry:RelV y u)(rx:RelV x v)(fy:gA y=true)(fx:gA x=true):SeqAt.EqAt A s u v (Km y x):=by
 cases y with
 |non=>
  cases ry
  cases x with
  |non=>cases rx;exact SeqAt.EqAt.same _
  |bl b=>cases rx;exact SeqAt.EqAt.none_bool b
  |int b=>obtain⟨t,rfl⟩:=rx;exact SeqAt.EqAt.none_int b t
  |str b=>obtain⟨t,rfl⟩:=rx;exact SeqAt.EqAt.none_str b t
  |_=>exact absurd (show false=true from fx) Qjz
 |bl a=>
  cases ry
  cases x with
  |non=>cases rx;exact SeqAt.EqAt.bool_none a
  |bl b=>cases rx;exact SeqAt.EqAt.bool_bool a b
  |int b=>obtain⟨t,rfl⟩:=rx;exact SeqAt.EqAt.bool_int a b t
  |str b=>obtain⟨t,rfl⟩:=rx;exact SeqAt.EqAt.bool_str a b t
  |_=>exact absurd (show false=true from fx) Qjz
 |int a=>
  obtain⟨t',rfl⟩:=ry
  cases x with
  |non=>cases rx;exact SeqAt.EqAt.int_none a t'
  |bl b=>cases rx;exact SeqAt.EqAt.int_bool a t' b
  |int b=>obtain⟨t,rfl⟩:=rx;exact SeqAt.EqAt.int_int a t' b t
  |str b=>obtain⟨t,rfl⟩:=rx;exact SeqAt.EqAt.int_str a t' b t
  |_=>exact absurd (show false=true from fx) Qjz
 |str a=>
  obtain⟨t',rfl⟩:=ry
  cases x with
  |non=>cases rx;exact SeqAt.EqAt.str_none a t'
  |bl b=>cases rx;exact SeqAt.EqAt.str_bool a t' b
  |int b=>obtain⟨t,rfl⟩:=rx;exact SeqAt.EqAt.str_int a t' b t
  |str b=>obtain⟨t,rfl⟩:=rx;exact SeqAt.EqAt.str_str a t' b t
  |_=>exact absurd (show false=true from fx) Qjz
 |_=>exact absurd (show false=true from fy) Qjz
def wj(x:V)(u:Value):Bool:=match u with
 |.none=>Km .non x
 |.bool b=>Km (.bl b) x
 |.int i _=>Km (.int i) x
 |.str z _=>Km (.str z) x
 |_=>false
theorem z6{x y:V}{u:Value}(r:RelV y u)(f:gA y=true):wj x u=Km y x:=by
 cases y with
 |non=>cases r;rfl
 |bl b=>cases r;rfl
 |int i=>obtain⟨t,rfl⟩:=r;rfl
 |str z=>obtain⟨t,rfl⟩:=r;rfl
 |_=>exact absurd (show false=true from f) Qjz
theorem lY{x:V}:∀{xs:List V}{us:List Value},Vals xs us->xs.all gA=true->us.any (wj x)=xs.any fun y=>Km y x
 |_,_,.nil=>fun _=>rfl
 |y::xs,u::us,.cons r t=>fun f=>by
  rw[List.all_cons,QUq]at f
  rw[List.any_cons,List.any_cons,z6 r f.1,lY t f.2]
theorem fV{A:Around}{s:Shared}{x:V}{v:Value}(rx:RelV x v)(fx:gA x=true):∀{xs:List V}{us:List Value},Vals xs us->xs.all gA=true->∀u∈us,SeqAt.EqAt A s u v (wj x u)
 |_,_,.nil=>fun _=>fun u hu=>by cases hu
 |y::xs,u::us,.cons r t=>fun f=>fun u' hu=>by
  rw[List.all_cons,QUq]at f
  rcases QCq.mp hu with rfl|hu
  ·rw[z6 r f.1];exact Wu r rx f.1 fx
  ·exact fV rx fx t f.2 u' hu
def inV(x:V)(xs:List V):Bool:=xs.any fun y=>Km y x
def rIn(K:QQq)(neg:Bool):R2:=fun x y H Q=>∃p xs,y=.ref p/\(iH K H p xs\/gQ K H p xs)/\gA x=true/\xs.all gA=true/\Q (.bl (if neg then !inV x xs else inV x xs)) H
theorem Fd:fH X (compareOp .In) (rIn X.K false):=by
 intro QLq s σ H x y v u Q I rx ry h
 obtain⟨p,xs,rfl,hq,fx,fs,q⟩:=h
 cases ry
 rcases hq with hq|hq
 ·obtain⟨its,r,pl,hz⟩:=I.list hq
  refine SeqAt.in_listAt (wj x) pl.isList (fun w hw=>fV rx fx r fs w (by simpa using hw)) ⟨.bl _,H,I,rfl,?_⟩
  rw[show its.toArray.any (wj x)=its.any (wj x) by simp,lY r fs]
  exact q
 ·obtain⟨its,r,pl,hz⟩:=I.tuple hq
  refine SeqAt.in_tupleAt (wj x) pl (fun w hw=>fV rx fx r fs w (by simpa using hw)) ⟨.bl _,H,I,rfl,?_⟩
  rw[show its.toArray.any (wj x)=its.any (wj x) by simp,lY r fs]
  exact q
theorem vg:fH X (compareOp .NotIn) (rIn X.K true):=by
 intro QLq s σ H x y v u Q I rx ry h
 obtain⟨p,xs,rfl,hq,fx,fs,q⟩:=h
 cases ry
 rcases hq with hq|hq
 ·obtain⟨its,r,pl,hz⟩:=I.list hq
  refine SeqAt.notIn_listAt (wj x) pl.isList (fun w hw=>fV rx fx r fs w (by simpa using hw)) ⟨.bl _,H,I,rfl,?_⟩
  rw[show its.toArray.any (wj x)=its.any (wj x) by simp,lY r fs]
  exact q
 ·obtain⟨its,r,pl,hz⟩:=I.tuple hq
  refine SeqAt.notIn_tupleAt (wj x) pl (fun w hw=>fV rx fx r fs w (by simpa using hw)) ⟨.bl _,H,I,rfl,?_⟩
  rw[show its.toArray.any (wj x)=its.any (wj x) by simp,lY r fs]
  exact q
theorem vZ:fJ X (.type "list") (fun xs H Q=>∃p ys,xs=[.ref p]/\(iH X.K H p ys\/gQ X.K H p ys)/\∀l,H l=none->Q (.ref l) (upd H l (.lst ys))):=by
 intro QLq s σ H xs us Q I r h
 obtain⟨p,ys,rfl,hq,q⟩:=h
 obtain⟨u,rfl,rx⟩:=vals1 r
 cases rx
 have fin:∀(its:List Value),Vals ys its->ys.length<=sizeLine->∀(h':Heap)(c':Nat),(∀b o',s.heap.get? b=some o'->h'.get? b=some o')->
   h'.get? s.heap.objs.size=some {cls:=.type "list",dict:=none,data:=.seq its.toArray c',slots:= #[]}->EP X QLq σ Q (.ref s.heap.objs.size) {s with heap:=h'}:=fun its r' hz h' c' kp e=>
  ⟨.ref s.heap.objs.size,_,I.laid (t':=s.toks) kp (QVz _) (show bU X.prog X.w _ h' _ (.lst ys)from⟨hz,its,c',r',e⟩),rfl,q _ (I.hok.fresh (QVz _))⟩
 rcases hq with hq|hq
 ·obtain⟨its,r',pl,hz⟩:=I.list hq
  have hlen:=r'.length
  obtain⟨o,ho,hc,n,hd⟩:=pl.isList
  exact call_list_seq p (.inl rfl) ho hc hd (fun h' c' kp e=>fin its r' hz h' c' kp e) (by simp only[Qyq]<;>omega)
 ·obtain⟨its,r',pl,hz⟩:=I.tuple hq
  have hlen:=r'.length
  obtain⟨o,ho,hc,n,hd⟩:=pl
  exact call_list_seq p (.inr rfl) ho hc hd (fun h' c' kp e=>fin its r' hz h' c' kp e) (by simp only[Qyq]<;>omega)
theorem rY:fJ X (.type "tuple") (fun xs H Q=>∃p ys,xs=[.ref p]/\((iH X.K H p ys/\∀l,H l=none->Q (.ref l) (upd H l (.tup ys)))\/(gQ X.K H p ys/\Q (.ref p) H))):=by
 intro QLq s σ H xs us Q I r h
 obtain⟨p,ys,rfl,h⟩:=h
 obtain⟨u,rfl,rx⟩:=vals1 r
 cases rx
 rcases h with ⟨hq,q⟩|⟨hq,q⟩
 ·obtain⟨its,r',pl,hz⟩:=I.list hq
  have hlen:=r'.length
  refine call_tuple_list pl.isList (fun h' kp=>?_) (by simp only[Qyq]<;>omega)
  have I1:Inv X QLq σ H {s with heap:=h'}:=I.kept (t':=s.toks) kp
  have I2:Inv X QLq σ (upd H h'.objs.size (.tup ys)) {s with heap:=h'.push {cls:=.type "tuple",data:=.seq its.toArray}}:=
   I1.laid (t':=s.toks) (fun b o e=>QWq _ e) (QVz _) (show bU X.prog X.w _ _ _ (.tup ys)from⟨hz,its,r',TupOk.new _ _⟩)
  exact⟨.ref h'.objs.size,_,I2,rfl,q _ (I1.hok.fresh (QVz _))⟩
 ·obtain⟨its,r',pl,hz⟩:=I.tuple hq
  exact call_tuple_same pl ⟨.ref p,H,I,rfl,q⟩
def tyV(K:QQq)(T:String)(x:V)(H:Hp):Prop:=match x with
 |.str _=>T="str"
 |.int _=>T="int"
 |.ref p=>(T="list"/\∃xs,iH K H p xs)\/(T="tuple"/\∃o,K.lookup p=some o/\o.cls=.type "tuple"/\o.dict=none)\/
   (T="dict"/\((∃kvs,H p=some (.dK kvs))\/∃kvs,H p=some (.dT kvs)))\/(T="set"/\∃S n,H p=some (.set S n))
 |_=>False
theorem Tj{QLq:QQz}{σ:St}{H:Hp}{s:Shared}{T:String}{x:V}{v:Value}(I:Inv X QLq σ H s)(r:RelV x v)(ty:tyV X.K T x H):
  s.TypeIs v T/\∀a,v=.ref a->∃ob,s.heap.get? a=some ob/\ob.dict=none:=by
 cases x with
 |str z=>
  obtain⟨t,rfl⟩:=r
  cases (show T="str" from ty)
  exact⟨typeIs_str s z t,fun _ e=>nomatch e⟩
 |int i=>
  obtain⟨t,rfl⟩:=r
  cases (show T="int" from ty)
  exact⟨typeIs_int s i t,fun _ e=>nomatch e⟩
 |ref p=>
  cases r
  rcases ty with ⟨rfl,xs,hq⟩|⟨rfl,o,hk,hc,hd⟩|⟨rfl,hk⟩|⟨rfl,S,n,hk⟩
  ·obtain⟨its,_,pl,_⟩:=I.list hq
   refine⟨pl.isList.typeIs,fun a e=>?_⟩
   cases e
   obtain⟨o,n,e,c,hd,_⟩:=pl
   exact⟨o,e,hd⟩
  ·refine⟨⟨o,I.XH p o hk,hc⟩,fun a e=>?_⟩
   cases e
   exact⟨o,I.XH _ o hk,hd⟩
  ·have z:∃o,s.heap.get? p=some o/\o.ExactDict:=by
    rcases hk with ⟨kvs,hk⟩|⟨kvs,hk⟩
    ·obtain⟨_,_,_,_,o,_,_,e,ex,_⟩:=I.hok p _ hk
     exact⟨o,e,ex⟩
    ·obtain⟨_,_,_,_,o,_,_,e,ex,_⟩:=I.hok p _ hk
     exact⟨o,e,ex⟩
   obtain⟨o,e,ex⟩:=z
   refine⟨⟨o,e,ex.1⟩,fun a e2=>?_⟩
   cases e2
   exact⟨o,e,ex.2.1⟩
  ·obtain⟨o,_,_,_,e,ex,_⟩:=I.hok p _ hk
   refine⟨⟨o,e,ex.1⟩,fun a e2=>?_⟩
   cases e2
   exact⟨o,e,ex.2.1⟩
 |_=>exact False.elim ty
def tBM(K:QQq)(T:String)(r:V->List V->Hp->VK->Prop)(to:TE)(t:TA):TE:=fun σ H Q=>to σ H fun x H1=>tyV K T x H1/\t σ H1 fun xs H2=>r x xs H2 Q
variable{o e:Expr}{es:List Expr}{to:TE}{t:TA}{name:Str}{apos cpos:Pos}{T id:String}{r:V->List V->Hp->VK->Prop}
theorem Z3(pa:PlainAttrs T)(slot:Slot T name id)(hty:typeOf (.builtin id)=pure (.type "method_descriptor"))(hm:MtR X id r)(ho:PE X o to)(ha:PA X (e::es) t)
  (hbase:attributeBase o name X.env (eval o X.env)=eval o X.env:=by rfl)
  (hfew:((backTo cpos (starEach (e::es) X.env)).all (fun x=> !x.1)&&(backToKw cpos (keywordEach [] X.env)).all (fun x=>x.1.isSome)
   &&decide ((e::es).length+([]:List Keyword).length+(if ([]:List Keyword).isEmpty then 0 else 1)<30))=true:=by rfl)
  (hline:(apos.endLine==cpos.line)=true:=by rfl)(hs:starEach (e::es) X.env=(false,eval e X.env)::starEach es X.env:=by rfl)(hplain:(backTo cpos (starEach es X.env)).any (·.1)=false:=by rfl):
  PE X (.Call (.Attribute o name apos) (e::es) [] cpos) (tBM X.K T r to t):=by
 intro QLq s σ H Q I h
 refine wpAny_Call_method_late hbase hfew hline rfl (b8 (ho QLq s σ H _ I h) fun v s1⟨x,H1,I1,r1,ty,q1⟩=>?_)
 obtain⟨h1,h2⟩:=Tj I1 r1 ty
 refine⟨T,id,pa,slot,hty,h1,h2,?_⟩
 have hA:=ha cpos QLq s1 σ H1 _ I1 q1
 rw[hs]at hA⊢
 refine Calls.callWith_builtin (by show(false||(backTo cpos (starEach es X.env)).any (·.1))=false;rw[hplain]<;>rfl) (Calls.evalArgs_plain ?_)
 exact b8 hA fun us s2⟨vs,H2,I2,r2,q2⟩=>hm QLq s2 σ H2 x vs v us Q I2 r1 r2 q2
end
def MtM(X:Cx)(id:String)(r:V->List V->Hp->VK->Prop):Prop:=
 ∀(QLq:QQz)(s:Shared)(σ:St)(H:Hp)(x:V)(xs:List V)(v:Value)(us:List Value)(Q:VK),Inv X QLq σ H s->RelV x v->Vals xs us->r x xs H Q->
  wpAny (model X.prog X.w) X.A (call (.builtin id) (v::us)) (EP X QLq σ Q) X.xe s
theorem Vals.one:∀{x:V}{us:List Value},Vals [x] us->∃u,us=[u]/\RelV x u
 |_,_,.cons r .nil=>⟨_,rfl,r⟩
theorem Vals.two:∀{x y:V}{us:List Value},Vals [x,y] us->∃u v,us=[u,v]/\RelV x u/\RelV y v
 |_,_,_,.cons r (.cons q .nil)=>⟨_,_,rfl,r,q⟩
theorem Vals.zero:∀{us:List Value},Vals [] us->us=[]
 |_,.nil=>rfl
theorem Vals.eraseIdx:∀{xs:List V}{us:List Value}(i:Nat),Vals xs us->Vals (xs.eraseIdx i) (us.eraseIdx i)
 |_,_,_,.nil=>.nil
 |_,_,0,.cons _ t=>t
 |_,_,i+1,.cons r t=>.cons r (Vals.eraseIdx i t)
theorem ud{α:Type}:∀(l:List α)(i:Nat),(l.eraseIdx i).length<=l.length
 |[],_=>QVz _
 |_::_,0=>Nat.le_succ _
 |_::r,i+1=>Nat.succ_le_succ (ud r i)
section
variable{X:Cx}{QLq:QQz}{σ:St}{H:Hp}{s:Shared}{l b:Addr}{xs ys zs:List V}
theorem Inv.aal{its its':List Value}{n:Nat}{f:Array Value->Array Value}{t':Nat}(I:Inv X QLq σ H s)(hH:H l=some (.lst xs))
  (e:s.heap.get? l=some {cls:=.type "list",data:=.seq its.toArray n})(hf:f its.toArray=its'.toArray)(hv:Vals ys its')(hz:ys.length<=sizeLine):
  Inv X QLq σ (upd H l (.lst ys)) {s with heap:=s.heap.update l (Obj.mapSeq f),toks:=t'}:=by
 have q:=PySem.IsL.update e f
 rw[hf]at q
 refine I.write (x:=l) (e:=l) (by rw[hH];exact trivial) (.inl rfl) (fun b' u hb hu=>(Heap.get?_update_other s.heap (Obj.mapSeq f) (Ne.symm hb)).trans hu) ⟨_,q⟩ ?_
 exact⟨hz,its',_,hv,q⟩
theorem Inv.aeg{its:List Value}{t':Nat}(I:Inv X QLq σ H s)(hv:Vals ys its)(hz:ys.length<=sizeLine):
  Inv X QLq σ (upd H s.heap.objs.size (.lst ys)) {s with heap:=s.heap.push {cls:=.type "list",data:=.seq its.toArray},toks:=t'}:=
 I.laid (fun _ _ q=>QWq _ q) (QVz _) ⟨hz,its,0,hv,Qzq _ rfl⟩
theorem Inv.fresh(I:Inv X QLq σ H s):H s.heap.objs.size=none:=I.hok.fresh (QVz _)
theorem Inv.aak(I:Inv X QLq σ H s)(hH:H l=some (.lst xs)):xs.length<=sizeLine/\∃(its:List Value)(n:Nat),Vals xs its/\xs.length=its.length/\s.heap.get? l=some {cls:=.type "list",data:=.seq its.toArray n}:=by
 obtain⟨z,its,n,r,e⟩:=I.hok l _ hH
 exact⟨z,its,n,r,r.length,e⟩
end
section
variable{X:Cx}
def NQ:V->List V->Hp->VK->Prop:=fun x vs H Q=>∃l xs y,x=.ref l/\vs=[y]/\H l=some (.lst xs)/\xs.length<sizeLine/\Q .non (upd H l (.lst (xs++[y])))
theorem tV:MtM X "list.append" NQ:=by
 intro QLq s σ H x vs v us Q I rx rv h
 obtain⟨l,xs,y,rfl,rfl,hH,hz,q⟩:=h
 cases rx
 obtain⟨u,rfl,ru⟩:=rv.one
 obtain⟨z,its,n,r,hl,e⟩:=I.aak hH
 refine call_meets F.slot_list_append ⟨_,e,rfl⟩ F.entry_list_append (F.args_list_append_2 _ _) (PySem.list_append l its.toArray n u (by rw[Qyq];omega)) ⟨e,?_⟩
 refine⟨.non,_,I.aal (its':=its++[u]) hH e (by simp) (r.append (.cons ru .nil)) ?_,rfl,q⟩
 rw[QTq,List.length_singleton]
 omega
def Ui:V->List V->Hp->VK->Prop:=fun x vs H Q=>∃l xs i k y,x=.ref l/\vs=[.int i]/\H l=some (.lst xs)/\ -(2 ^63)<=i/\i<2 ^63/\seqIndex? i xs.length=some k/\xs[k]? =some y/\Q y (upd H l (.lst (xs.eraseIdx k)))
theorem Jk:MtM X "list.pop" Ui:=by
 intro QLq s σ H x vs v us Q I rx rv h
 obtain⟨l,xs,i,k,y,rfl,rfl,hH,h1,h2,hk,hy,q⟩:=h
 cases rx
 obtain⟨u,rfl,ru⟩:=rv.one
 obtain⟨t,rfl⟩:=ru
 obtain⟨z,its,n,r,hl,e⟩:=I.aak hH
 obtain⟨w,hw,rw'⟩:=r.get hy
 refine call_meets F.slot_list_pop ⟨_,e,rfl⟩ F.entry_list_pop (F.args_list_pop_2 _ _)
  (MeetsSeq.list_pop_at l its.toArray n i t k w (fitsIndex_both h1 h2) (by rw[Qyq,<-hl];exact hk) (by rw[<-Array.getElem?_toList];exact hw) (by rw[Qyq];omega)) ⟨e,?_⟩
 refine⟨y,_,I.aal (its':=its.eraseIdx k) hH e ?_ (r.eraseIdx k) ?_,rw',q⟩
 ·show its.toArray.eraseIdxIfInBounds k=(its.eraseIdx k).toArray
  rw[List.eraseIdxIfInBounds_toArray]
 ·have:=ud xs k
  omega
end
section
variable{prog:Program}{w:World}{A:Around}{E:QZq}{s:Shared}
end
section
variable{X:Cx}
end
section
variable{κ:Type}[DecidableEq κ]
def gR(kvs:List (κ×V))(k:κ):Option V:=(kvs.find? fun kv=>decide (kv.1=k)).map (·.2)
def putK(kvs:List (κ×V))(k:κ)(v:V):List (κ×V):=
 if (kvs.any fun kv=>decide (kv.1=k))=true then kvs.map (fun kv=>if kv.1=k then(kv.1,v)else kv)else kvs++[(k,v)]
theorem ji{p:κ×V}{r:List (κ×V)}{k:κ}(e:p.1=k):gR (p::r) k=some p.2:=by simp[gR,List.find?_cons,e]
theorem jj{p:κ×V}{r:List (κ×V)}{k:κ}(e:¬p.1=k):gR (p::r) k=gR r k:=by simp[gR,List.find?_cons,e]
theorem o6(k:κ):∀kvs:List (κ×V),(kvs.any fun kv=>decide (kv.1=k))=(gR kvs k).isSome
 |[]=>rfl
 |p::r=>by
  rw[List.any_cons]
  by_cases e:p.1=k
  ·simp only[ji e,QFq e,Bool.true_or,Option.isSome_some]
  ·rw[jj e,QEz e,Bool.false_or];exact o6 k r
theorem gq(kvs:List (κ×V))(k:κ)(v:V):(putK kvs k v).length<=kvs.length+1:=by
 unfold putK
 split
 ·rw[QAq];omega
 ·rw[QTq,QBq,List.length_nil];omega
theorem lZ.dJ{o:Option V}{u:Option Value}(r:lZ o u):o.isSome=u.isSome:=by
 cases o with
 |none=>cases u with
  |none=>rfl
  |some _=>exact(show False from r).elim
 |some _=>cases u with
  |none=>exact(show False from r).elim
  |some _=>rfl
theorem lZ.getD{o:Option V}{u:Option Value}{d:V}{d':Value}(r:lZ o u)(rd:RelV d d'):RelV (o.getD d) (u.getD d'):=by
 cases o with
 |none=>cases u with
  |none=>exact rd
  |some _=>exact(show False from r).elim
 |some _=>cases u with
  |none=>exact(show False from r).elim
  |some _=>exact r
theorem KV.val{kvs:List (κ×V)}{vs:List (κ×Value)}(r:KV kvs vs)(k:κ):lZ (gR kvs k) (valueAt vs k):=by
 unfold KV at r
 induction r with
 |nil=>exact True.intro
 | @cons p q ps qs h t ih=>
  obtain⟨h1,h2⟩:=h
  by_cases e:p.1=k
  ·have e':q.1=k:=h1.symm.trans e
   have b:valueAt (q::qs) k=some q.2:=by simp[valueAt,List.find?_cons,e']
   rw[ji e,b];exact h2
  ·have e':¬q.1=k:=fun z=>e (h1.trans z)
   have b:valueAt (q::qs) k=valueAt qs k:=by simp[valueAt,List.find?_cons,e']
   rw[jj e,b];exact ih
theorem KV.any{kvs:List (κ×V)}{vs:List (κ×Value)}(r:KV kvs vs)(k:κ):(kvs.any fun kv=>decide (kv.1=k))=vs.any fun kv=>decide (kv.1=k):=by
 unfold KV at r
 induction r with
 |nil=>rfl
 |cons h t ih=>rw[List.any_cons,List.any_cons,ih,h.1]
theorem KV.repl{kvs:List (κ×V)}{vs:List (κ×Value)}(r:KV kvs vs)(k:κ){y:V}{u:Value}(ry:RelV y u):
  KV (kvs.map fun kv=>if kv.1=k then(kv.1,y)else kv) (vs.map fun kv=>if kv.1=k then(kv.1,u)else kv):=by
 unfold KV at r⊢
 induction r with
 |nil=>exact .nil
 | @cons p q ps qs h t ih=>
  rw[Qyz,Qyz]
  refine .cons ?_ ih
  obtain⟨h1,h2⟩:=h
  by_cases e:p.1=k
  ·rw[if_pos e,if_pos (h1.symm.trans e)];exact⟨h1,ry⟩
  ·rw[if_neg e,if_neg (fun z=>e (h1.trans z))];exact⟨h1,h2⟩
theorem KV.put{kvs:List (κ×V)}{vs:List (κ×Value)}(r:KV kvs vs)(k:κ){y:V}{u:Value}(ry:RelV y u):KV (putK kvs k y) (stored vs k u):=by
 unfold putK stored
 rw[r.any k]
 by_cases e:(vs.any fun kv=>decide (kv.1=k))=true
 ·rw[if_pos e,if_pos e];exact r.repl k ry
 ·rw[if_neg e,if_neg e];exact Paired.snoc r ⟨rfl,ry⟩
theorem KV.length{kvs:List (κ×V)}{vs:List (κ×Value)}(r:KV kvs vs):kvs.length=vs.length:=Paired.length r
end
theorem nJ{P:Program}{w:World}{k:Key}{u:Value}(r:RelV (kV k) u):(bN P w).is k u=true:=by
 cases k with
 |inl i=>obtain⟨t,e⟩:=(show∃t,u=Value.int i t from r);subst e;exact xx P w i t
 |inr x=>obtain⟨t,e⟩:=(show∃t,u=Value.str x t from r);subst e;exact xu P w x t
theorem ul{P:Program}{w:World}:∀{ks:List Key}{us:List Value},Vals (ks.map kV) us->ItemsAre (bN P w) ks us
 |[],_,r=>by rw[List.map_nil]at r;cases r;exact .nil
 |k::ks,_,r=>by
  rw[Qyz]at r
  cases r with
  |cons h t=>exact .cons (nJ h) (ul t)
abbrev KT(H:Hp):List (List Key×V)->List (List Key×Addr×Value)->Prop:=Paired fun p q=>p.1=q.1/\H q.2.1=some (.tup (p.1.map kV))/\RelV p.2 q.2.2
theorem KT.val{H:Hp}{kvs:List (List Key×V)}{xs:List (List Key×Addr×Value)}(r:KT H kvs xs)(k:List Key):lZ (gR kvs k) ((atKey xs k).map (·.2)):=by
 induction r with
 |nil=>exact True.intro
 | @cons p q ps qs h t ih=>
  obtain⟨h1,_,h2⟩:=h
  by_cases e:p.1=k
  ·have e':q.1=k:=h1.symm.trans e
   have b:atKey (q::qs) k=some q.2:=by simp[atKey,List.find?_cons,e']
   rw[ji e,b];exact h2
  ·have e':¬q.1=k:=fun z=>e (h1.trans z)
   have b:atKey (q::qs) k=atKey qs k:=by simp[atKey,List.find?_cons,e']
   rw[jj e,b];exact ih
theorem KT.repl{H:Hp}{kvs:List (List Key×V)}{xs:List (List Key×Addr×Value)}(r:KT H kvs xs)(k:List Key){y:V}{u:Value}(ry:RelV y u):
  KT H (kvs.map fun kv=>if kv.1=k then(kv.1,y)else kv) (xs.map (putAt k u)):=by
 induction r with
 |nil=>exact .nil
 | @cons p q ps qs h t ih=>
  rw[Qyz,Qyz]
  refine .cons ?_ ih
  obtain⟨h1,h2,h3⟩:=h
  unfold putAt
  by_cases e:p.1=k
  ·rw[if_pos e,if_pos (h1.symm.trans e)];exact⟨h1,h2,ry⟩
  ·rw[if_neg e,if_neg (fun z=>e (h1.trans z))];exact⟨h1,h2,h3⟩
theorem KT.put{H:Hp}{kvs:List (List Key×V)}{xs:List (List Key×Addr×Value)}(r:KT H kvs xs)(k:List Key){b:Addr}{y:V}{u:Value}(hb:H b=some (.tup (k.map kV)))(ry:RelV y u):
  KT H (putK kvs k y) (storedH xs k b u):=by
 have e:(kvs.any fun kv=>decide (kv.1=k))=(atKey xs k).isSome:=by
  rw[o6,(r.val k).dJ,Option.isSome_map]
 unfold putK storedH
 rw[e]
 by_cases q:(atKey xs k).isSome=true
 ·rw[if_pos q,if_pos q];exact r.repl k ry
 ·rw[if_neg q,if_neg q];exact Paired.snoc r ⟨rfl,hb,ry⟩
theorem KT.keeps{H H':Hp}{kvs:List (List Key×V)}{xs:List (List Key×Addr×Value)}(r:KT H kvs xs)(ht:∀b ys,H b=some (.tup ys)->H' b=some (.tup ys)):KT H' kvs xs:=
 Paired.Vf r fun _ _ z=>⟨z.1,ht _ _ z.2.1,z.2.2⟩
section
variable{P:Program}{w:World}{H:Hp}{h:Heap}{a:Addr}
theorem Bq{u:HO}(ok:kI P w H h)(e:Rd H a u):bU P w H h a u:=e.ok ok
theorem nP{kvs:List (Key×V)}(ok:kI P w H h)(e:Rd H a (.dK kvs)):kvs.length<=sizeLine/\(a==sysModules)=false/\∃vs,KV kvs vs/\h.DictOf (bN P w) a vs:=
 show bU P w H h a (.dK kvs)from Bq ok e
theorem Kp{kvs:List (Key×V)}(ok:kI P w H h)(e:H a=some (.dK kvs)):kvs.length<=sizeLine/\(a==sysModules)=false/\∃vs,KV kvs vs/\h.DictOf (bN P w) a vs:=nP ok (.inl e)
theorem mW{ks:List Key}(ok:kI P w H h)(e:H a=some (.tup (ks.map kV))):(tupleKind (bN P w)).is h ks a:=by
 obtain⟨_,its,r,o,h1,h2,_,n,h3⟩:=(show bU P w H h a (.tup (ks.map kV))from ok a _ e)
 exact⟨o,its.toArray,n,h1,h2,h3,by simpa using ul r⟩
theorem qG{kvs:List (List Key×V)}(ok:kI P w H h)(e:Rd H a (.dT kvs)):kvs.length<=sizeLine/\(a==sysModules)=false/\
  ∃xs,KT H kvs xs/\h.DictOfH (tupleKind (bN P w)) a xs:=by
 obtain⟨z,y,xs,r,o,es,ep,h1,h2,h3,h4,h5⟩:=(show bU P w H h a (.dT kvs)from Bq ok e)
 refine⟨z,y,xs,r,o,es,ep,h1,h2,h3,h4,fun x hx=>?_,h5⟩
 have all:∀{l:List (List Key×V)}{m:List (List Key×Addr×Value)},KT H l m->∀x∈m,(tupleKind (bN P w)).is h x.1 x.2.1:=by
  intro l m q
  induction q with
  |nil=>intro x hx;exact nomatch hx
  | @cons p q ps qs hq t ih=>
   intro x hx
   rcases QCq.mp hx with e|hx
   ·subst e
    exact mW ok (by rw[<-hq.1];exact hq.2.1)
   ·exact ih x hx
 exact all r x hx
theorem aba{kvs:List (List Key×V)}(ok:kI P w H h)(e:H a=some (.dT kvs)):kvs.length<=sizeLine/\(a==sysModules)=false/\
  ∃xs,KT H kvs xs/\h.DictOfH (tupleKind (bN P w)) a xs:=qG ok (.inl e)
end
def rF(H:Hp)(a:Addr)(y:V)(r:Option V):Prop:=
 (∃kvs k,Rd H a (.dK kvs)/\y=kV k/\r=gR kvs k)\/∃kvs k b,Rd H a (.dT kvs)/\y=.ref b/\H b=some (.tup (k.map kV))/\r=gR kvs k
def Ay(H:Hp)(a:Addr)(y v:V)(H':Hp):Prop:=
 (∃kvs k,H a=some (.dK kvs)/\y=kV k/\kvs.length<sizeLine/\H'=upd H a (.dK (putK kvs k v)))\/
 ∃kvs k b,H a=some (.dT kvs)/\y=.ref b/\H b=some (.tup (k.map kV))/\kvs.length<sizeLine/\H'=upd H a (.dT (putK kvs k v))
theorem rF.k{H:Hp}{a:Addr}{kvs:List (Key×V)}{k:Key}(e:H a=some (.dK kvs)):rF H a (kV k) (gR kvs k):=.inl ⟨kvs,k,.inl e,rfl,rfl⟩
theorem rF.t{H:Hp}{a b:Addr}{kvs:List (List Key×V)}{k:List Key}(e:H a=some (.dT kvs))(eb:H b=some (.tup (k.map kV))):rF H a (.ref b) (gR kvs k):=.inr ⟨kvs,k,b,.inl e,rfl,eb,rfl⟩
theorem Ay.k{H:Hp}{a:Addr}{kvs:List (Key×V)}{k:Key}{v:V}(e:H a=some (.dK kvs))(hl:kvs.length<sizeLine):Ay H a (kV k) v (upd H a (.dK (putK kvs k v))):=.inl ⟨kvs,k,e,rfl,hl,rfl⟩
theorem Ay.t{H:Hp}{a b:Addr}{kvs:List (List Key×V)}{k:List Key}{v:V}(e:H a=some (.dT kvs))(eb:H b=some (.tup (k.map kV)))(hl:kvs.length<sizeLine):
  Ay H a (.ref b) v (upd H a (.dT (putK kvs k v))):=.inr ⟨kvs,k,b,e,rfl,eb,hl,rfl⟩
section
variable{X:Cx}{QLq:QQz}{σ:St}{H:Hp}{s:Shared}{a:Addr}{y v:V}{u r:Value}{o:Option V}{A:Around}{E:QZq}
theorem Inv.big(I:Inv X QLq σ H s):sysModules<s.heap.objs.size:=by
 have h:mainGlobals<s.heap.objs.size:=(I.mod.glob.keeps I.bk).lt
 exact Nat.lt_trans (by decide) h
theorem Gj{Q:QZq}(hu:A.units+1<cLine)(I:Inv X QLq σ H s)(g:rF H a y (some v))(ry:RelV y u)(h:∀w' s',Inv X QLq σ H s'->RelV v w'->Q w' s'):
  wpAny (model X.prog X.w) A (getItem (.ref a) u) Q E s:=by
 rcases g with ⟨kvs,k,e,ey,l⟩|⟨kvs,k,b,e,ey,eb,l⟩
 ·subst ey
  obtain⟨z,hd,vs,rel,dd⟩:=nP I.hok e
  obtain⟨w',hw,rw'⟩:=lZ.some_of (v:=v) (o:=valueAt vs k) (by rw[l];exact rel.val k)
  exact wpAny_getItem_of (nJ ry) dd.mapOf hw (h w' _ (I.tok _) rw')
 ·subst ey
  cases (show u=Value.ref b from ry)
  obtain⟨z,hd,xs,rel,dd⟩:=qG I.hok e
  obtain⟨w',hw,rw'⟩:=lZ.some_of (v:=v) (o:=(atKey xs k).map (·.2)) (by rw[l];exact rel.val k)
  obtain⟨p,hp,hp2⟩:=QJz.mp hw
  refine wpAny_getItem_heap (tupleKind_room_in1 hu) (mW I.hok eb) dd hp ?_
  rw[hp2]
  exact h w' _ (I.tok _) rw'
theorem ae2{Q:QZq}(hu:A.units+1<cLine)(I:Inv X QLq σ H s)(g:rF H a y o)(ry:RelV y u)(h:∀s',Inv X QLq σ H s'->Q (.bool o.isSome) s'):
  wpAny (model X.prog X.w) A (compareOp .In u (.ref a)) Q E s:=by
 rcases g with ⟨kvs,k,e,ey,l⟩|⟨kvs,k,b,e,ey,eb,l⟩
 ·subst ey
  obtain⟨z,hd,vs,rel,dd⟩:=nP I.hok e
  refine wpAny_in_of (nJ ry) hd dd.mapOf ?_
  rw[<- (rel.val k).dJ,<-l]
  exact h _ (I.tok _)
 ·subst ey
  cases (show u=Value.ref b from ry)
  obtain⟨z,hd,xs,rel,dd⟩:=qG I.hok e
  refine wpAny_in_heap (tupleKind_room_in1 hu) (mW I.hok eb) hd dd ?_
  have q:=(rel.val k).dJ
  rw[Option.isSome_map]at q
  rw[<-q,<-l]
  exact h _ (I.tok _)
theorem Qg{Q:QZq}(hu:A.units+1<cLine)(I:Inv X QLq σ H s)(g:rF H a y o)(ry:RelV y u)(h:∀s',Inv X QLq σ H s'->Q (.bool (!o.isSome)) s'):
  wpAny (model X.prog X.w) A (compareOp .NotIn u (.ref a)) Q E s:=by
 rcases g with ⟨kvs,k,e,ey,l⟩|⟨kvs,k,b,e,ey,eb,l⟩
 ·subst ey
  obtain⟨z,hd,vs,rel,dd⟩:=nP I.hok e
  refine wpAny_notIn_of (nJ ry) hd dd.mapOf ?_
  rw[<- (rel.val k).dJ,<-l]
  exact h _ (I.tok _)
 ·subst ey
  cases (show u=Value.ref b from ry)
  obtain⟨z,hd,xs,rel,dd⟩:=qG I.hok e
  refine wpAny_notIn_heap (tupleKind_room_in1 hu) (mW I.hok eb) hd dd ?_
  have q:=(rel.val k).dJ
  rw[Option.isSome_map]at q
  rw[<-q,<-l]
  exact h _ (I.tok _)
theorem jL{h':Heap}{t':Nat}{ob:HO}(I:Inv X QLq σ H s)(mu:Mut (H a))(hs:Heap.SameBut a s.heap h')(he:∃q,h'.get? a=some q)(new:bU X.prog X.w (upd H a ob) h' a ob):
  Inv X QLq σ (upd H a ob) {s with heap:=h',toks:=t'}:=
 I.write (x:=a) (e:=a) mu (.inl rfl) (fun b q hb z=>(hs.2 b hb).trans z) he new
theorem z7{P:Program}{w:World}{H':Hp}{h':Heap}{kvs:List (Key×V)}{vs:List (Key×Value)}(z:kvs.length<=sizeLine)(hd:(a==sysModules)=false)(rel:KV kvs vs)(dd:h'.DictOf (bN P w) a vs):
  bU P w H' h' a (.dK kvs):=⟨z,hd,vs,rel,dd⟩
theorem Gi{H':Hp}{Q:Unit->Shared->Prop}(hu:A.units+1<cLine)(I:Inv X QLq σ H s)(g:Ay H a y v H')(ry:RelV y u)(rv:RelV v r)(h:∀s',Inv X QLq σ H' s'->Q () s'):
  wpAny (model X.prog X.w) A (setItem (.ref a) u r) Q E s:=by
 rcases g with ⟨kvs,k,e,ey,l,eH⟩|⟨kvs,k,b,e,ey,eb,l,eH⟩
 ·subst ey eH
  obtain⟨z,hd,vs,rel,dd⟩:=Kp I.hok e
  have hz:vs.length<=sizeLine:=by rw[<-rel.length];exact z
  have hl:(putK kvs k v).length<=sizeLine:=by have:=gq kvs k v;omega
  refine wpAny_setItem_pairs (hsz:=hz) (nJ ry) dd fun h' dd' hs=>h _ ?_
  have he:∃q,h'.get? a=some q:=let ⟨q,_,_,hq,_⟩:=dd';⟨q,hq⟩
  exact jL I (by rw[e];exact True.intro) hs he (z7 hl hd (rel.put k rv) dd')
 ·subst ey eH
  cases (show u=Value.ref b from ry)
  obtain⟨z,hd,xs,rel,dd⟩:=aba I.hok e
  have hz:xs.length<=sizeLine:=by rw[<-Paired.length rel];exact z
  have hl:(putK kvs k v).length<=sizeLine:=by have:=gq kvs k v;omega
  refine wpAny_setItem_heap (hsz:=hz) (tupleKind_room_in1 hu) (mW I.hok eb) dd fun h' dd' hs=>h _ ?_
  obtain⟨q,es,ep,hq,h2,h3,h4,_,h5⟩:=dd'
  refine jL I (by rw[e];exact True.intro) hs ⟨q,hq⟩ ⟨hl,hd,_,(rel.put k eb rv).keeps fun c ys ec=>?_,q,es,ep,hq,h2,h3,h4,h5⟩
  rw[aG (aaj ec e (fun z=>nomatch z))]
  exact ec
end
section
variable{X:Cx}{QLq:QQz}{σ:St}{H:Hp}{s:Shared}{a:Addr}{kvs:List (Key×V)}{k:Key}{u:Value}{A:Around}{E:QZq}
theorem abb{Q:QZq}(I:Inv X QLq σ H s)(e:Rd H a (.dK kvs))(h:∀t s',Inv X QLq σ H s'->Q (.int kvs.length t) s'):wpAny (model X.prog X.w) A (call (.builtin "len") [.ref a]) Q E s:=by
 obtain⟨z,hd,vs,rel,dd⟩:=nP I.hok e
 refine call_len_dict hd dd (by rw[<-rel.length];rw[sizeLine_eq]at z;omega) ?_
 rw[<-rel.length]
 exact h _ _ (I.tok _)
end
theorem yg{X:Cx}{QLq:QQz}{σ:St}{H:Hp}{s:Shared}{a:Addr}{y:V}{o:Option V}(I:Inv X QLq σ H s)(g:rF H a y o):s.TypeIs (.ref a) "dict":=by
 rcases g with ⟨kvs,k,e,_,_⟩|⟨kvs,k,b,e,_,_,_⟩
 ·obtain⟨_,_,vs,_,dd⟩:=nP I.hok e
  exact dd.typeIs
 ·obtain⟨_,_,xs,_,dd⟩:=qG I.hok e
  exact dd.typeIs
section
variable{X:Cx}{o i e value:Expr}{pos pos' tpos:Pos}{td ty tv:TE}
end
theorem ye{P:Program}{w:World}{H:Hp}(h:Heap)(hb:sysModules<h.objs.size):bU P w H (h.push {cls:=.type "dict",data:=.dict #[]}) h.objs.size (.dK []):=
 ⟨QIq _,beq_eq_false_iff_ne.mpr (Ne.symm (Qvz hb)),[],.nil,Heap.DictOf.new h⟩
section
variable{X:Cx}{pos:Pos}
end
def uU:List (TE×TE)->St->Hp->(List (V×V)->Hp->Prop)->Prop
 |[],_,H,Q=>Q [] H
 |(tk,tv)::r,σ,H,Q=>tk σ H fun x H1=>tv σ H1 fun y H2=>uU r σ H2 fun ps H3=>Q ((x,y)::ps) H3
abbrev VV:List (V×V)->List (Value×Value)->Prop:=Paired fun p q=>RelV p.1 q.1/\RelV p.2 q.2
def PPs(X:Cx)(pos:Pos)(keys:List (Option Expr))(values:List Expr)(km:List (TE×TE)):Prop:=
 ∀(QLq:QQz)(s:Shared)(σ:St)(H:Hp)(Q:List (V×V)->Hp->Prop),Inv X QLq σ H s->uU km σ H Q->
  wpAny (model X.prog X.w) X.A (evalPairs (pairTrees keys values X.env pos)) (fun vs s'=>∃ps H',Inv X QLq σ H' s'/\VV ps vs/\Q ps H') X.xe s
theorem Oc{X:Cx}{pos:Pos}:PPs X pos [] [] []:=fun QLq s σ H Q I h=>pairTrees_nil_walk ⟨[],H,I,.nil,h⟩
theorem Ik{X:Cx}{pos:Pos}{k v:Expr}{ks:List (Option Expr)}{vs:List Expr}{tk tv:TE}{km:List (TE×TE)}(hk:PE X k tk)(hv:PE X v tv)(hr:PPs X pos ks vs km):
  PPs X pos (some k::ks) (v::vs) ((tk,tv)::km):=fun QLq s σ H Q I h=>
 pairTrees_cons_walk (b8 (hk QLq s σ H _ I h) fun u s1⟨x,H1,I1,rx,q1⟩=>b8 (hv QLq s1 σ H1 _ I1 q1) fun w2 s2⟨y,H2,I2,ry,q2⟩=>
  b8 (hr QLq s2 σ H2 _ I2 q2) fun ws s3⟨ps,H3,I3,rel,q3⟩=>⟨(x,y)::ps,H3,I3,.cons ⟨rx,ry⟩ rel,q3⟩)
def ir(kvs more:List (Key×V)):List (Key×V):=more.foldl (fun acc kv=>putK acc kv.1 kv.2) kvs
theorem KV.merge:∀{more:List (Key×V)}{rs:List (Key×Value)}{kvs:List (Key×V)}{vs:List (Key×Value)},KV more rs->KV kvs vs->KV (ir kvs more) (merged vs rs):=by
 intro more rs kvs vs r
 unfold KV at r
 induction r generalizing kvs vs with
 |nil=>intro q;exact q
 | @cons p q ps qs h t ih=>
  intro r0
  have e:KV (putK kvs p.1 p.2) (stored vs q.1 q.2):=by
   have:=r0.put p.1 h.2
   rw[<-h.1];exact this
  exact ih e
theorem jT:∀(more kvs:List (Key×V)),(ir kvs more).length<=kvs.length+more.length
 |[]=>fun kvs=>by show kvs.length<=kvs.length+0;omega
 |p::r=>fun kvs=>by
  have h1:=jT r (putK kvs p.1 p.2)
  have h2:=gq kvs p.1 p.2
  show(ir (putK kvs p.1 p.2) r).length<=_
  rw[QBq];omega
theorem qK{P:Program}{w:World}:∀{kvs:List (Key×V)}{ws:List (Value×Value)},VV (kvs.map fun kv=>(kV kv.1,kv.2)) ws->∃rs,Carries (bN P w) ws rs/\KV kvs rs
 |[],_,r=>by rw[List.map_nil]at r;cases r;exact⟨[],True.intro,.nil⟩
 |p::kvs,_,r=>by
  rw[Qyz]at r
  cases r with
  | @cons a b as bs h t=>
   obtain⟨rs,c,q⟩:=qK (P:=P) (w:=w) t
   obtain⟨b1,b2⟩:=b
   exact⟨(p.1,b2)::rs,⟨nJ h.1,rfl,c⟩,.cons ⟨rfl,h.2⟩ q⟩
structure M2(X:Cx)(o:Expr)(m:Str)(apos:Pos)(e f:Expr)(cpos:Pos):Prop where
 base:attributeBase o m X.env (eval o X.env)=eval o X.env
 few:((backTo cpos (starEach [e,f] X.env)).all (fun x=> !x.1)&&(backToKw cpos (keywordEach [] X.env)).all (fun x=>x.1.isSome)
  &&decide (([e,f]:List Expr).length+([]:List Keyword).length+(if ([]:List Keyword).isEmpty then 0 else 1)<30))=true
 line:(apos.endLine==cpos.line)=true
 trees:backTo cpos (starEach [e,f] X.env)=[(false,eval e X.env),(false,eval f X.env)]
def IsD(H:Hp)(a:Addr):Prop:=(∃kvs,Rd H a (.dK kvs))\/∃kvs,Rd H a (.dT kvs)
theorem VB{X:Cx}{QLq:QQz}{σ:St}{H:Hp}{s:Shared}{a:Addr}(I:Inv X QLq σ H s)(d:IsD H a):
  s.TypeIs (.ref a) "dict"/\(∀b,Value.ref a=.ref b->∃ob,s.heap.get? b=some ob/\ob.dict=none)/\(a==sysModules)=false:=by
 rcases d with ⟨kvs,e⟩|⟨kvs,e⟩
 ·obtain⟨_,hd,vs,_,dd⟩:=nP I.hok e
  refine⟨dd.typeIs,fun b q=>?_,hd⟩
  cases q
  obtain⟨ob,_,_,h1,h2,_⟩:=dd
  exact⟨ob,h1,h2.2.1⟩
 ·obtain⟨_,hd,xs,_,dd⟩:=qG I.hok e
  refine⟨dd.typeIs,fun b q=>?_,hd⟩
  cases q
  obtain⟨ob,_,_,h1,h2,_⟩:=dd
  exact⟨ob,h1,h2.2.1⟩
section
variable{X:Cx}{QLq:QQz}{σ:St}{H:Hp}{s:Shared}{a:Addr}{y d:V}{u r:Value}{o:Option V}{A:Around}{E:QZq}
theorem Wy{Q:QZq}(hu:A.units+1<cLine)(I:Inv X QLq σ H s)(g:rF H a y o)(ry:RelV y u)(rd:RelV d r)(h:∀w' s',Inv X QLq σ H s'->RelV (o.getD d) w'->Q w' s'):
  wpAny (model X.prog X.w) A (call (.builtin "dict.get") [.ref a,u,r]) Q E s:=by
 rcases g with ⟨kvs,k,e,ey,l⟩|⟨kvs,k,b,e,ey,eb,l⟩
 ·subst ey
  obtain⟨z,hd,vs,rel,dd⟩:=nP I.hok e
  refine call_meetsIn PySem.F.slot_dict_get dd.typeIs PySem.F.entry_dict_get (PySem.F.args_dict_get_3 _ _ _) (meets_dict_get_default (bN X.prog X.w) a (nJ ry) hd r) ⟨_,dd.mapOf,h _ _ (I.tok _) ?_⟩
  rw[l]
  exact(rel.val k).getD rd
 ·subst ey
  cases (show u=Value.ref b from ry)
  obtain⟨z,hd,xs,rel,dd⟩:=qG I.hok e
  refine call_meetsIn PySem.F.slot_dict_get dd.typeIs PySem.F.entry_dict_get (PySem.F.args_dict_get_3 _ _ _) (meetsH_dict_get_default (tupleKind (bN X.prog X.w)) a b hd r) ⟨tupleKind_room_in1 hu,k,xs,mW I.hok eb,dd,h _ _ (I.tok _) ?_⟩
  rw[l]
  exact(rel.val k).getD rd
end
def Tv(td ty tx:TE):TE:=fun σ H Q=>td σ H fun x H1=>∃a,x=.ref a/\IsD H1 a/\ty σ H1 fun y H2=>tx σ H2 fun z H3=>∃o,rF H3 a y o/\Q (o.getD z) H3
section
variable{X:Cx}{o e f:Expr}{apos cpos:Pos}{td ty tx:TE}
theorem Iw(hu:X.A.units+1<cLine)(ho:PE X o td)(he:PE X e ty)(hf:PE X f tx)(m:M2 X o "get" apos e f cpos):PE X (.Call (.Attribute o "get" apos) [e,f] [] cpos) (Tv td ty tx):=by
 intro QLq s σ H Q I h
 refine wpAny_Call_method m.base m.few m.line PySem.F.plainAttrs_dict PySem.F.slot_dict_get PySem.F.type_dict_get (b8 (ho QLq s σ H _ I h) fun u s1⟨x,H1,I1,rx,a,ex,d,q1⟩=>?_)
 subst ex
 obtain rfl:u=Value.ref a:=rx
 obtain⟨t1,t2,_⟩:=VB I1 d
 refine⟨t1,t2,?_⟩
 rw[m.trees]
 refine Calls.callWith_builtin rfl (Calls.evalArgs_plain (Calls.spliced_cons (b8 (he QLq s1 σ H1 _ I1 q1) fun iv s2⟨y,H2,I2,ry,q2⟩=>
  Calls.spliced_cons (b8 (hf QLq s2 σ H2 _ I2 q2) fun fv s3⟨z,H3,I3,rz,ov,g,q3⟩=>Calls.spliced_nil ?_))))
 exact Wy hu I3 g ry rz fun w' s4 I4 rw'=>⟨_,H3,I4,rw',q3⟩
end
section
variable{X:Cx}{QLq:QQz}{σ:St}{H:Hp}{s:Shared}{a:Addr}{kvs:List (Key×V)}{A:Around}{E:QZq}
end
section
variable{X:Cx}{QLq:QQz}{σ:St}{H:Hp}{s:Shared}{a:Addr}{y:V}{u:Value}{A:Around}{E:QZq}
end
end L2
namespace Att
open PySem PySem.W PySem.Calls PyProof.Rows
theorem oM{P:Params}{h:Heap}:∀(ns:List Int)(vs:List Value),WellAll P h vs (ns.map WData.int)->IntsAre vs ns:=by
 intro ns
 induction ns with
 |nil=>
  intro vs w
  rw[List.map_nil]at w
  cases w
  exact .nil
 |cons n ns ih=>
  intro vs w
  rw[Qyz]at w
  cases w with
  |cons a b=>
   cases a
   exact .cons _ _ (ih _ b)
theorem Ed{l:OpenLaw}{n:Nat}(hn:l.most=some n){P:Params}{h:Heap}{args:List WData}{vals:List Value}
  (hpre:l.row.toRowW.claim.pre args=true)(hwl:WellAll P h vals args):
  ∃a vs ns,vals=[Value.ref a]/\args=[WData.list (ns.map WData.int)]/\h.get? a=some {cls:=.type "list",data:=.seq vs.toArray}/\IntsAre vs ns/\ns.length<=n:=by
 have hsh:WShape.hasAll [] args [.list .int]=true:=(pre_splitW hpre).1
 have hc:l.pre.holds [] {args:=args}=true:=(pre_splitW hpre).2
 obtain⟨d,r,rfl,h1,h2⟩:=hasAllW_cons hsh
 obtain rfl:=hasAllW_nil h2
 obtain⟨xs,rfl,h3⟩:=hasW_list h1
 obtain⟨ns,rfl⟩:=items_int h3
 have hlen:ns.length<=n:=by
  unfold OpenLaw.pre at hc
  have h4:(WTm.not (.lt (.lit (.int (n:Int))) (.len (.arg 0)))).holds [] {args:=[.list (ns.map .int)]}=true:=by
   have h4:=(holds_andW hc).1
   rw[hn]at h4
   exact h4
  have h5:=condW_of h4 (w_not (w_lt w_lit (w_len_list (w_arg rfl))))
  rw[QAq]at h5
  refine Nat.le_of_not_lt fun q=>?_
  have q':(n:Int)< ((ns.length:Nat):Int):=by omega
  first
   |(rw[QFq q']at h5;exact absurd h5 (by decide))
   |(simp at h5;omega)
 cases hwl with
 |cons w1 w2=>
  cases w2
  cases w1 with
  |list ho hall=>exact⟨_,_,ns,rfl,rfl,ho,oM ns _ hall,hlen⟩
theorem Ew(l:OpenLaw)(args:List WData):l.row.toRowW.claim.post args (.bool true) args=true:=
 postW_of (r:=l.row.toRowW) (X:=(true==true))
  (show WShape.has [] (.bool true) .bool=true by first|rfl|decide|simp[WShape.has,WShape.arms,WShape.armsAll])
  (show(WTm.eq .res (.lit (.bool true))).value [] {args:=args,res:=some (.bool true),after:=args}=some (.bool (true==true))from w_eq_bool (w_res rfl) w_lit) rfl
theorem yu{l:OpenLaw}{n:Nat}{q:Program}{loose:List Str}{XP:QZz->Heap->Prop}{YP:World->Heap->Prop}{d:DefRec}
  (hn:l.most=some n)(hdf:d.params.defaults=[])
  (call:∀(w:World)(s₀ s₁:Shared)(mg mb:QZz)(fa:Addr)(o:Obj)(pm cd doc:Value)(a:Addr)(vs:List Value)(ns:List Int),
   Ground q loose [] XP w s₀ mg mb s₁.heap->YP w s₁.heap->
   s₁.heap.get? fa=some o->o.data=.func (docDef d.name d.params d.body d.scope pm cd doc)->s₁.heap.CodeRec cd d.name->mg d.name=some (.ref fa)->
   s₁.heap.get? a=some {cls:=.type "list",data:=.seq vs.toArray}->IntsAre vs ns->ns.length<=n->s₁.gens= #[]->
   codeAny (model l.prog w) callerA (.call (.ref fa) ⟨[.ref a],[]⟩) (fun r s'=>r=.ok (.ret (.bool true))/\OldK s₁.heap s'.heap/\s'.os=s₁.os/\AllBare s'.gens) s₁):
  WalkO q loose XP YP l.row.toRowW d [] (fun f vs=>PySem.call f vs):=by
 intro w s₀ s₁ mg mb G Y fa o pm cd doc dV kV ho hd hcd hD hmg hg args vals as hpre hlay hrd hwl hlo
 obtain rfl:dV=.none:=Dflts.none hD hdf
 obtain rfl:kV=.none:=Dflts.noKw hD
 obtain⟨a,vs,ns,rfl,rfl,hobj,hints,hlen⟩:=Ed hn hpre hwl
 refine enter_call (codeAny_mono (call w s₀ s₁ mg mb fa o pm cd doc a vs ns G Y ho (fd_plain hd) hcd hmg hobj hints hlen hg) fun r s' hq=>?_)
 obtain⟨rfl,h2,h3,h4⟩:=hq
 exact⟨.inl ⟨.bool true,.bool true,[],rfl,fun _=>rfl,.bool true,Ew l _,fun _=>⟨List.Pairwise.nil,fun _ hm=>(nomatch hm)⟩⟩,h2,h3,h4⟩
section
variable{prog:Program}{w:World}{A:Around}{E:QZq}{s:Shared}{K:Frag}
end
end Att
namespace L2
open PySem PySem.Spec PyProof.Rows
theorem su:∀{vs:List Value}{ns:List Int},IntsAre vs ns->Vals (ns.map V.int) vs
 |_,_,.nil=>.nil
 |_,_,.cons n t h=>.cons ⟨t,rfl⟩ (su h)
def Only(H:Hp):Prop:=∀b,H b=none\/∃o xs,H b=some (.frz o (.lst xs))
theorem Js{P:Program}{w:World}{K:QQq}{mg mb:QZz}{CX:GC}{k:Nat}{fa a:Addr}{fd:FuncData}{x:Str}{sp:Sp}{s₁:Shared}{vs:List Value}{ns:List Int}
  (KX:K.In s₁.heap)(hns:s₁.heap.Ns mainGlobals mg)(hb:s₁.heap.Ns builtinsNs mb)(hbb:∀x:Str,x≠"__name__"->mb x=bootBuiltins x)(hlim:s₁.heap.NoLimit)(hg:s₁.gens= #[])
  (ha:s₁.heap.get? a=some {cls:=.type "list",data:=.seq vs.toArray})(hi:IntsAre vs ns)(hl:ns.length<=sizeLine)(hr:jc k callerA)
  (F:∀base:Heap,K.In base->base.Ns mainGlobals mg->nA P w K mg base CX k fa fd [x] sp)(hbind:∀(s:Shared)(u:Value),BindsTo s fd ⟨[u],[]⟩ [(x,u)])
  (hsp:∀H:Hp,Only H->iH K H a (ns.map V.int)->sp [.ref a] H (fun v _=>v=.bl true) fun _ _ _=>False)
  (hCX:∀H e s',CX [] H s₁ (fun _ _ _=>False) e s'->False):
  codeAny (model P w) callerA (.call (.ref fa) ⟨[.ref a],[]⟩) (fun r s'=>r=.ok (.ret (.bool true))/\OldK s₁.heap s'.heap/\s'.os=s₁.os/\AllBare s'.gens) s₁:=by
 have rv:=su hi
 have lenV:=hi.length
 have core:∀H:Hp,Only H->iH K H a (ns.map V.int)->kI P w H s₁.heap->(∀b,H b≠none->b=a)->(H a≠none->K.lookup a=none)->
   codeAny (model P w) callerA (.call (.ref fa) ⟨[.ref a],[]⟩) (fun r s'=>r=.ok (.ret (.bool true))/\OldK s₁.heap s'.heap/\s'.os=s₁.os/\AllBare s'.gens) s₁:=by
  intro H hO hS hok hA hK
  have lR:∀{b:Addr}{o:Obj},s₁.heap.get? b=some o->H b=none->(vC s₁.heap H).get? b=some o:=fun e n=>JW e n
  have noA:∀{b:Addr}{o:Obj}{es:Array DictEntry}{ep:Nat},s₁.heap.get? b=some o->o.data=.dict es ep->H b=none:=fun{b o es ep}e d=>by
   cases q:H b with
   |none=>rfl
   |some u=>
    have e':b=a:=hA b (by rw[q];simp)
    subst e'
    rw[ha]at e;cases e
    have d':Data.seq vs.toArray _=Data.dict es ep:=d
    cases d'
  have nsK:∀{b:Addr}{m:QZz},s₁.heap.Ns b m->(vC s₁.heap H).Ns b m:=fun{b m}⟨o,es,ep,e,d,r⟩=>⟨o,es,ep,lR e (noA e d),d,r⟩
  have hKb:K.In (vC s₁.heap H):=fun b o e=>lR (KX b o e) (by
   cases q:H b with
   |none=>rfl
   |some u=>
    have e':b=a:=hA b (by rw[q];simp)
    subst e'
    rw[hK (by rw[q];simp)]at e;cases e)
  have hM:Mod K mg (vC s₁.heap H):=⟨hKb,nsK hns,⟨mb,nsK hb,hbb⟩,let ⟨mc,h1,h2⟩:=hlim;⟨mc,nsK h1,h2⟩⟩
  have e0:Ax P w K mg (vC s₁.heap H) callerA [] s₁ H:=⟨rfl,hM,fun b o e=>O3 e,Nat.le_of_eq (FT _ _),trivial,fun b hb=>absurd (show b∈([]:List Addr)from hb) (by simp),hok,.of_eq hg⟩
  refine codeAny_mono ((F _ hKb (nsK hns)).run callerA [] s₁ H ⟨[.ref a],[]⟩ [.ref a] [.ref a] _ _ hr e0 (hbind s₁ (.ref a)) (.cons rfl .nil) (hsp H hO hS)) fun r s' h=>?_
  cases r with
  |error e=>exact(hCX H e s' h).elim
  |ok fl=>
   cases fl with
   |next=>exact False.elim h
   |brk=>exact False.elim h
   |cont=>exact False.elim h
   |ret u=>
    obtain⟨v,H',os,bare,un,hok',r',q⟩:=h
    have q':v=.bl true:=q
    subst q'
    obtain rfl:u=Value.bool true:=r'
    refine⟨rfl,OldK.of_keep fun b o e=>?_,os,bare⟩
    cases q:H b with
    |none=>exact un.keep b o e q (by intro z;exact absurd (show b∈([]:List Addr)from z) (by simp)) (by simp)
    |some u=>
     rcases hO b with z|⟨ob,xs,z⟩
     ·rw[q]at z;cases z
     ·have z2:=un.frzs b ob _ z
      obtain⟨e1,_⟩:=hok b _ z
      obtain⟨e2,_⟩:=hok' b _ z2
      rw[e]at e1;cases e1
      exact e2
 cases hk:K.lookup a with
 |some o=>
  have e:=KX a o hk
  rw[ha]at e
  cases e
  refine core (fun _=>none) (fun _=>.inl rfl) (.inr ⟨_,vs.toArray,_,hk,rfl,rfl,rfl,by rw[Qyq,lenV];exact hl,by simpa using rv⟩) (fun b u z=>by have z':(none:Option HO)=some u:=z;cases z') (fun b z=>absurd rfl z) fun z=>absurd rfl z
 |none=>
  refine core (fun b=>if b=a then some (.frz {cls:=.type "list",data:=.seq vs.toArray} (.lst (ns.map V.int)))else none) (fun b=>?_) (.inl (.inr ⟨{cls:=.type "list",data:=.seq vs.toArray},if_pos rfl⟩)) (fun b u z=>?_) (fun b z=>?_) fun _=>hk
  ·by_cases hb:b=a
   ·exact .inr ⟨_,_,if_pos hb⟩
   ·exact .inl (if_neg hb)
  ·by_cases hb:b=a
   ·have z':=(if_pos hb).symm.trans z
    cases z'
    subst hb
    exact⟨ha,by rw[QAq];exact hl,vs,_,rv,ha⟩
   ·have z':=(if_neg hb).symm.trans z
    cases z'
  ·by_cases hb:b=a
   ·exact hb
   ·exact absurd (if_neg hb) z
theorem Mi{l:PySem.W.OpenLaw}{n k:Nat}{q:Program}{loose:List Str}{XP:QZz->Heap->Prop}{YP:World->Heap->Prop}{d:DefRec}{K:Params->QQq}{CX:World->GC}{sp:World->Sp}{x:Str}
  (hn:l.most=some n)(hn2:n<=sizeLine)(hdf:d.params.defaults=[])(hr:jc k callerA)
  (hY:∀(w:World)(h:Heap),YP w h->(K w.params).In h)
  (F:∀(w:World)(mg:QZz)(fa:Addr)(h:Heap),(K w.params).In h->h.Ns mainGlobals mg->mg d.name=some (.ref fa)->
   ∃fd:FuncData,(∀(s:Shared)(u:Value),BindsTo s fd ⟨[u],[]⟩ [(x,u)])/\
    ∀base:Heap,(K w.params).In base->base.Ns mainGlobals mg->nA l.prog w (K w.params) mg base (CX w) k fa fd [x] (sp w))
  (hsp:∀(w:World)(H:Hp)(a:Addr)(ns:List Int),ns.length<=n->Only H->iH (K w.params) H a (ns.map V.int)->sp w [.ref a] H (fun v _=>v=.bl true) fun _ _ _=>False)
  (hCX:∀(w:World)(H:Hp)(s:Shared)(e:Value)(s':Shared),CX w [] H s (fun _ _ _=>False) e s'->False):
  PySem.W.WalkO q loose XP YP l.row.toRowW d [] (fun f vs=>PySem.call f vs):=by
 refine Att.yu hn hdf fun w s₀ s₁ mg mb fa o pm cd doc a vs ns G Y ho hd hcd hmg hobj hints hlen hg=>?_
 have KX:=hY w _ Y
 obtain⟨fd,hb,hF⟩:=F w mg fa _ KX G.T.g hmg
 exact Js KX G.T.g G.T.b G.T.builtins G.T.nolimit hg hobj hints (Nat.le_trans hlen hn2) hr hF hb (fun H hO hS=>hsp w H a ns hlen hO hS) fun H e s'=>hCX w H s₁ e s'
abbrev GD:GC:=fun _ _ _ _ _ _=>False
abbrev E0:XK:=fun _ _ _=>False
theorem Z5{X:Cx}:Av GD X E0:=fun _ _ _ _ _ _ _ h=>h.elim
structure W3(K:QQq)(x qual:Str)(st:Stmt)(f:Addr)(fd:FuncData):Prop where
 ex:∃(oc:Value)(od:Option Addr)(kV doc pm:Value)(an:Option Addr)(cdv ct:Value)(osl:Array (Option Value)),
  fd=PySem.W.fnOf x qual (dF st) (dD st) (aX st) .none kV doc pm an cdv ct/\K.lookup f=some ⟨oc,od,.func fd,osl⟩/\PySem.W.codeIn K cdv qual=true
 kp:PySem.W.keepIn K (.ref f)=true
section
variable{P:Program}{w:World}{K:QQq}{mg:QZz}{base:Heap}
theorem W3.ok{x qual:Str}{st:Stmt}{f:Addr}{fd:FuncData}{N ps:List Str}{k:Nat}{sp:Sp}(F:W3 K x qual st f fd)(S:jN N ps (aX st))(len:∀vs H Q E,sp vs H Q E->vs.length=ps.length)
  (hbody:∀(cdv:Value)(A:Around)(outer:List Env)(s:Shared)(H:Hp)(vs:List V)(Q:VK)(E:XK),jc k (A.deeper (envOfC qual (aX st) s.heap.objs.size f cdv))->sp vs H Q E->
   ∃t,v9 (z9 GD P w K mg base N qual (aX st) f cdv A outer s H E).nox (dD st) t/\t {nx:=fun _ H'=>Q .non H',rt:=Q} (start N vs) H):nA P w K mg base GD (k+1) f fd ps sp:=by
 obtain⟨oc,od,kV,doc,pm,an,cdv,ct,osl,rfl,lk,hcd⟩:=F.ex
 refine aa4 lk hcd S len fun A outer s H vs Q E hr hsp=>?_
 obtain⟨t,h,q⟩:=hbody cdv A outer s H vs Q E hr hsp
 exact⟨t,h.nox,q⟩
theorem W3.binds{x qual:Str}{st:Stmt}{f:Addr}{fd:FuncData}{ps:List Str}(F:W3 K x qual st f fd)
  (h:∀(kV doc pm:Value)(an:Option Addr)(cdv ct:Value)(us:List Value),us.length=ps.length->bindArgs (PySem.W.fnOf x qual (dF st) (dD st) (aX st) .none kV doc pm an cdv ct) ⟨us,[]⟩=pure (ps.zip us)):Binds K fd ps []:=by
 obtain⟨oc,od,kV,doc,pm,an,cdv,ct,osl,rfl,lk,hcd⟩:=F.ex
 exact .all (h kV doc pm an cdv ct)
theorem Wq{x qual:Str}{st:Stmt}{f:Addr}{oc:Value}{od an:Option Addr}{osl:Array (Option Value)}{kV doc pm cdv ct:Value}(l:K.lookup f=some ⟨oc,od,.func (PySem.W.fnOf x qual (dF st) (dD st) (aX st) .none kV doc pm an cdv ct),osl⟩)
  (c:PySem.W.codeIn K cdv qual=true)(k:PySem.W.keepIn K (.ref f)=true):W3 K x qual st f (PySem.W.fnOf x qual (dF st) (dD st) (aX st) .none kV doc pm an cdv ct):=⟨⟨oc,od,kV,doc,pm,an,cdv,ct,osl,rfl,l,c⟩,k⟩
end
theorem Ec{n:Nat}(h:n<=1000):n<sizeLine:=Nat.lt_of_le_of_lt h (by decide)
section
variable{X:Cx}
end
def yC(H H':Hp):Prop:=∀b o,H b=some o->H' b=some o
theorem yC.trans{H H1 H2:Hp}(a:yC H H1)(b:yC H1 H2):yC H H2:=fun c o h=>b c o (a c o h)
theorem yC.free{H H':Hp}(e:yC H H'){l:Addr}(h:H' l=Option.none):H l=Option.none:=by
 cases q:H l with
 |none=>rfl
 |some o=>
  rw[e l o q]at h
  cases h
theorem yC.seq{K:QQq}{H H':Hp}{a:Addr}{xs:List V}(e:yC H H')(h:iH K H a xs):iH K H' a xs:=by
 rcases h with (h|⟨o,h⟩)|h
 ·exact .inl (.inl (e _ _ h))
 ·exact .inl (.inr ⟨o,e _ _ h⟩)
 ·exact .inr h
end L2
end
section
namespace Mini
open PySem L2 PySem.SeqAt
def oK:Bool->Value->Bool
 |b,.bool c=>c==b
 |_,_=>false
theorem jK{b:Bool}{v:Value}(h:oK b v=true):v=.bool b:=by
 cases v<;>simp_all[oK]
section
variable{prog:Program}{w:World}{A:Around}{E:QZq}{s:Shared}
theorem FW{b:Bool}{Q:Int->Shared->Prop}(h:Q (bh b) {s with toks:=s.toks+1}):wpAny (model prog w) A (pyHash (.bool b)) Q E s:=by
 refine PySem.W.pyHash_slot (T:="bool") rfl F.slot_bool_hash entry_int_hash (args_int_hash _) (beq_builtin_none _) (.inl rfl) ?_
 cases b
 ·exact(show wpAny _ _ (mkInt 0>>=fun x=>ret x) _ _ s from QKq (wpAny_mkInt (QKz ⟨_,_,rfl,h⟩)))
 ·exact(show wpAny _ _ (mkInt 1>>=fun x=>ret x) _ _ s from QKq (wpAny_mkInt (QKz ⟨_,_,rfl,h⟩)))
theorem Kl{a b:Bool}{u v:Value}{Q:Bool->Shared->Prop}(h:oK a u=true)(g:oK b v=true)(q:Q (decide (a=b)) s):wpAny (model prog w) A (eqBool u v) Q E s:=by
 rw[jK h,jK g]
 refine EqAt.bool_bool a b _ _ _ _ ?_
 have e:(a==b)=decide (a=b):=by cases a<;>cases b<;>rfl
 rw[e]
 exact q
theorem JR(v:Value)(a b:Bool)(h:oK a v=true)(g:oK b v=true):a=b:=by
 have:=jK h
 rw[jK g]at this
 cases this
 rfl
theorem JQ(k:Bool)(x:Str)(t:Tok)(v:Value)(h:oK k (.str x t)=true):oK k v=v.isStr x:=by cases h
theorem JP(k:Bool)(v:Value)(h:oK k v=true):carriedByValue v=true:=by rw[jK h];rfl
def fB(prog:Program)(w:World):KeyKind prog w Bool:=⟨oK,bh,JR,JP,fun h q=>by rw[jK h];exact FW q,fun h g q=>Kl h g q,JQ⟩
def nu(prog:Program)(w:World)(h:Heap)(k:SK)(a:Addr):Prop:=∃b t,h.IsTuple a #[.ref b,.int k.2 t]/\IsTupleKey (fB prog w) h k.1 b
def yR(prog:Program)(w:World)(k:SK):Int:=reduceHash (Builtin.Tuple.tupleHashOf [tupleKeyHash (fB prog w) k.1,hashInt k.2])
theorem Py{k:SK}{a:Addr}{Q:Int->Shared->Prop}(hu:A.units+1<cLine)(x:nu prog w s.heap k a)(h:Q (yR prog w k) {s with toks:=s.toks+(k.1.length+3)}):wpAny (model prog w) A (pyHash (.ref a)) Q E s:=by
 obtain⟨b,t,⟨o,ho,hc,n,hd⟩,kb⟩:=x
 have hu0:A.units<cLine:=by omega
 refine PySem.W.pyHash_slot (T:="tuple") ⟨o,ho,hc⟩ F.slot_tuple_hash F.entry_tuple_hash (F.args_tuple_hash_1 _) (beq_builtin_none _) (.inr hu0) ?_
 show wpAny _ A.in1 (Builtin.Tuple.tupleItemsOf (.ref a)>>=_) _ _ s
 refine QKq (wpAny_tupleItemsOf (n:=n) ho hd (QKq ?_))
 rw[<-Array.forIn_toList,List.forIn_cons]
 refine QKq (QKq (wpAny_pyHash_tuple (show A.in1.units<cLine from hu) kb ?_))
 refine QKz ?_
 show wpAny _ A.in1 (forIn [Value.int k.2 t] _ _) _ E _
 rw[List.forIn_cons]
 refine QKq (QKq (wpAny_pyHash_int (QKz ?_)))
 show wpAny _ A.in1 (forIn ([]:List Value) _ _) _ E _
 rw[List.forIn_nil]
 refine QKz (show wpAny _ A.in1 (mkInt (Builtin.Tuple.tupleHashOf [tupleKeyHash (fB prog w) k.1,hashInt k.2])>>=fun x=>ret x) _ E _ from QKq (wpAny_mkInt (QKz ⟨_,_,rfl,?_⟩)))
 unfold yR at h
 simpa[Nat.add_assoc]using h
theorem xQ{P P':Program}{W W':World}{ks:List Bool}{vs:List Value}(x:ItemsAre (fB P W) ks vs):ItemsAre (fB P' W') ks vs:=by
 induction x with
 |nil=>exact .nil
 |cons a _ ih=>exact .cons a ih
theorem nu.inj{h:Heap}{a:Addr}{x y:SK}(g:nu prog w h x a)(f:nu prog w h y a):x=y:=by
 obtain⟨b,t,⟨o,ho,hc,n,hd⟩,kb⟩:=g
 obtain⟨b',t',⟨o',ho',hc',n',hd'⟩,kb'⟩:=f
 rw[ho]at ho'
 cases ho'
 rw[hd]at hd'
 simp only[Data.seq.injEq,Array.mk.injEq,List.cons.injEq,Value.ref.injEq,Value.int.injEq,and_true]at hd'
 obtain⟨⟨rfl,e,_⟩,_⟩:=hd'
 exact Prod.ext (kb.inj kb') e
theorem IsTuple.keep{h h':Heap}{a d:Addr}{its:Array Value}{o:Obj}{es:Array DictEntry}{ep:Nat}(x:h.IsTuple a its)(ho:h.get? d=some o)(hd:o.data=.dict es ep)(hs:Heap.SameBut d h h'):h'.IsTuple a its:=by
 obtain⟨o',ho',hc,n,hd'⟩:=x
 have ne:a≠d:=fun z=>by
  subst z
  rw[ho]at ho'
  cases ho'
  rw[hd]at hd'
  cases hd'
 exact⟨o',(hs.2 a ne).trans ho',hc,n,hd'⟩
theorem nu.keep{h h':Heap}{k:SK}{a d:Addr}{o:Obj}{es:Array DictEntry}{ep:Nat}(x:nu prog w h k a)(ho:h.get? d=some o)(hd:o.data=.dict es ep)(hs:Heap.SameBut d h h'):nu prog w h' k a:=by
 obtain⟨b,t,g,kb⟩:=x
 exact⟨b,t,IsTuple.keep g ho hd hs,kb.keeps ho hd hs⟩
theorem aa7{x y:SK}{a b:Addr}{Q:Bool->Shared->Prop}(hu:A.units+1<cLine)(g:nu prog w s.heap x a)(f:nu prog w s.heap y b)(q:Q (decide (x=y)) s):wpAny (model prog w) A (eqBool (.ref a) (.ref b)) Q E s:=by
 by_cases c:a=b
 ·subst c
  have:=g.inj f
  subst this
  exact EqAt.same _ _ _ _ _ (by simpa using q)
 ·obtain⟨a1,t,ga,ka⟩:=g
  obtain⟨b1,u,gb,kb⟩:=f
  have e0:EqAt A.in1 s (.ref a1) (.ref b1) (decide (x.1=y.1)):=fun P W E' Q' q'=>by
   have mv:∀{ks:List Bool}{c:Addr},IsTupleKey (fB prog w) s.heap ks c->IsTupleKey (fB P W) s.heap ks c:=fun z=>let ⟨o,its,n,h1,h2,h3,h4⟩:=z;⟨o,its,n,h1,h2,h3,xQ h4⟩
   exact wpAny_eqBool_tuple (show A.in1.units<cLine from hu) (mv ka) (mv kb) q'
  have rc:=RcAt.tuples (A:=A) (e:=fun j=>if j=0 then decide (x.1=y.1)else x.2==y.2) ga gb (by omega) fun j h1 h2=>by
   match j,h1,h2 with
   |0,_,_=>exact e0
   |1,_,_=>exact EqAt.int_int _ _ _ _
  refine EqAt.of_refs c rc _ _ _ _ ?_
  have:((List.range (min 2 2)).all (fun j=>if j=0 then decide (x.1=y.1)else x.2==y.2)&&2==2)=decide (x=y):=by
   obtain⟨x1,x2⟩:=x
   obtain⟨y1,y2⟩:=y
   by_cases p:x1=y1<;>by_cases r:x2=y2<;>simp[List.range,List.range.loop,p,r]
  show Q ((List.range (min 2 2)).all (fun j=>if j=0 then decide (x.1=y.1)else x.2==y.2)&&2==2) s
  rw[this]
  exact q
theorem tK{d:Nat}{a:Addr}{its:Array Value}{Q:Bool->Shared->Prop}(x:s.heap.IsTuple a its)(hq:∀v∈its.toList,∀R:Bool->Shared->Prop,R true s->wpAny (model prog w) A (eqIsQuiet d v) R E s)(q:Q true s):
  wpAny (model prog w) A (eqIsQuiet (d+1) (.ref a)) Q E s:=by
 obtain⟨o,ho,hc,n,hd⟩:=x
 have hT:s.TypeIs (.ref a) "tuple":=⟨o,ho,hc⟩
 unfold eqIsQuiet
 refine QKq (wpAny_specialOf hT F.slot_tuple_eq.lookup (show wpAny _ A (isInstance (.ref a) (.type "tuple")>>=_) _ E s from QKq (wpAny_isInstance hT isSubtype_tuple_tuple ?_)))
 rw[if_neg (by decide)]
 refine QKq (wpAny_seqItems (n:=n) ho hd (QKq ?_))
 show wpAny _ A (forIn its _ _) _ E s
 rw[<-Array.forIn_toList]
 refine wpAny_forIn_list _ (fun rest r s'=>s'=s/\r=(none,())/\∀v∈rest,v∈its.toList) _ (fun v rest r s'=>?_) (fun r s'=>?_) _ _ ⟨rfl,rfl,fun v hv=>hv⟩
 ·rintro ⟨rfl,rfl,hm⟩
  exact QKq (hq v (hm v QYz) _ (QKz ⟨rfl,rfl,fun u hu=>hm u (QYq _ hu)⟩))
 ·rintro ⟨rfl,rfl,_⟩
  exact QKz q
theorem tH{v:Value}(d:Nat)(hv:carriedByValue v=true){R:Bool->Shared->Prop}(r:R true s):wpAny (model prog w) A (eqIsQuiet d v) R E s:=by
 rw[eqIsQuiet_byValue d hv]
 exact QKz r
theorem H9{k:SK}{a:Addr}{Q:Bool->Shared->Prop}(x:nu prog w s.heap k a)(q:Q true s):wpAny (model prog w) A (eqIsQuiet 8 (.ref a)) Q E s:=by
 obtain⟨b,t,g,o,its,n,h1,h2,h3,h4⟩:=x
 refine tK g (fun v hv R r=>?_) q
 simp only[QCq,QAz,or_false]at hv
 rcases hv with rfl|rfl
 ·exact tK ⟨o,h1,h2,n,h3⟩ (fun v hv R r=>tH _ (h4.byValue v hv) r) r
 ·exact tH _ rfl r
noncomputable def jo(prog:Program)(w:World):HeapKind prog w SK where
 is:=nu prog w
 hash:=yR prog w
 draws:=fun k=>k.1.length+3
 room:=fun A=>A.units+1<cLine
 inj:=fun g f=>g.inj f
 keeps:=fun x ho hd hs=>x.keep ho hd hs
 pyHash:=fun hu x q=>Py hu x q
 eqBool:=fun hu g f q=>aa7 hu g f q
 quiet:=fun x q=>H9 x q
end
end Mini
end
section
namespace Mini
open PySem L2
abbrev sD(xs:List SV):HO:=.dS xs
def cA(K:QQq)(H:Hp)(k:SK)(a:Addr):Prop:=∃b,gQ K H a [.ref b,.int k.2]/\gQ K H b (k.1.map .bl)
def xJ(k:SK):List SV->Option V
 |[]=>none
 |x::xs=>if x.1=k then some x.2.2 else xJ k xs
def rN(k:SK)(a:Addr)(v:V)(xs:List SV):List SV:=if (xJ k xs).isSome then xs.map (fun x=>if x.1=k then(x.1,x.2.1,v)else x)else xs++[(k,a,v)]
theorem oU:∀{xs:List SV}{ys:List (SK×Addr×Value)},Paired LR xs ys->ys.map (·.1)=xs.map (·.1)
 |_,_,.nil=>rfl
 |_,_,.cons h t=>by simp[oU t,h.1]
theorem xH{k:SK}:∀{xs:List SV}{ys:List (SK×Addr×Value)},Paired LR xs ys->lZ (xJ k xs) ((atKey ys k).map (·.2))
 |_,_,.nil=>trivial
 |x::xs,y::ys,.cons h t=>by
  have ih:=xH (k:=k) t
  simp only[xJ,atKey,List.find?_cons]
  rw[h.1]
  by_cases c:y.1=k
  ·simp only[c,if_true,decide_true,Option.map_some]
   exact h.2.2
  ·simp only[c,if_false,decide_false]
   exact ih
section
variable{X:Cx}{QLq:QQz}{σ:L2.St}{H:Hp}{s:Shared}{A:Around}{E:QZq}{d a:Addr}{k:SK}{xs:List SV}
theorem xR{P:Program}{W:World}:∀{bs:List Bool}{us:List Value},Vals (bs.map V.bl) us->ItemsAre (fB P W) bs us
 |[],_,r=>by cases r;exact .nil
 |b::bs,_,r=>by
  cases r with
  |cons h t=>
   cases h
   exact .cons (by show oK b (.bool b)=true;simp[oK]) (xR t)
theorem mV(I:L2.Inv X QLq σ H s)(h:cA X.K H k a):nu X.prog X.w s.heap k a:=by
 obtain⟨b,h1,h2⟩:=h
 obtain⟨its,r,p,_⟩:=I.tuple h1
 obtain⟨its2,r2,p2,_⟩:=I.tuple h2
 obtain⟨u,v,rfl,ru,rv⟩:=Vals.two r
 cases ru
 obtain⟨t,rfl⟩:=rv
 obtain⟨o,q1,q2,n,q3⟩:=p2
 exact⟨b,t,p,o,its2.toArray,n,q1,q2,q3,xR r2⟩
theorem lL(I:L2.Inv X QLq σ H s)(hd:Rd H d (sD xs))(hk:∀x∈xs,cA X.K H x.1 x.2.1):∃ys,Paired LR xs ys/\s.heap.DictOfH (jo X.prog X.w) d ys/\(d==sysModules)=false/\xs.length<=sizeLine:=by
 obtain⟨z,y,nd,ys,o,es,ep,pr,h1,h2,h3,h4⟩:=(show bU X.prog X.w H s.heap d (.dS xs)from Bq I.hok hd)
 refine⟨ys,pr,⟨o,es,ep,h1,h2,h3,h4,?_,by rw[oU pr];exact nd⟩,y,z⟩
 have go:∀{xs:List SV}{ys:List (SK×Addr×Value)},Paired LR xs ys->(∀x∈xs,cA X.K H x.1 x.2.1)->∀y∈ys,nu X.prog X.w s.heap y.1 y.2.1:=by
  intro xs ys pr
  induction pr with
  |nil=>intro _ y hy;cases hy
  | @cons x y xs ys h t ih=>
   intro hk q hq
   rcases QCq.mp hq with rfl|hq
   ·rw[<-h.1,<-h.2.1];exact mV I (hk x QYz)
   ·exact ih (fun z hz=>hk z (QYq _ hz)) q hq
 exact go pr hk
theorem adt{Q:QZq}(hu:A.units+2<cLine)(I:L2.Inv X QLq σ H s)(hd:Rd H d (sD xs))(hk:∀x∈xs,cA X.K H x.1 x.2.1)(ha:cA X.K H k a)(h:∀s',L2.Inv X QLq σ H s'->Q (.bool (xJ k xs).isSome) s'):
  wpAny (model X.prog X.w) A (compareOp .In (.ref a) (.ref d)) Q E s:=by
 obtain⟨ys,pr,dd,y,z⟩:=lL I hd hk
 refine wpAny_in_heap (knd:=jo X.prog X.w) (show A.in1.units+1<cLine from hu) (mV I ha) y dd ?_
 have e:(atKey ys k).isSome=(xJ k xs).isSome:=by rw[(xH (k:=k) pr).dJ];simp
 rw[e]
 exact h _ (I.tok _)
theorem Ng{Q:QZq}(hu:A.units+2<cLine)(I:L2.Inv X QLq σ H s)(hd:Rd H d (sD xs))(hk:∀x∈xs,cA X.K H x.1 x.2.1)(ha:cA X.K H k a)(h:∀s',L2.Inv X QLq σ H s'->Q (.bool (!(xJ k xs).isSome)) s'):
  wpAny (model X.prog X.w) A (compareOp .NotIn (.ref a) (.ref d)) Q E s:=by
 obtain⟨ys,pr,dd,y,z⟩:=lL I hd hk
 refine PyProof.Rows.wpAny_notIn_heap (knd:=jo X.prog X.w) (show A.in1.units+1<cLine from hu) (mV I ha) y dd ?_
 have e:(atKey ys k).isSome=(xJ k xs).isSome:=by rw[(xH (k:=k) pr).dJ];simp
 rw[e]
 exact h _ (I.tok _)
theorem Eg{v:V}{Q:QZq}(hu:A.units+2<cLine)(I:L2.Inv X QLq σ H s)(hd:Rd H d (sD xs))(hk:∀x∈xs,cA X.K H x.1 x.2.1)(ha:cA X.K H k a)(hv:xJ k xs=some v)(h:∀u s',L2.Inv X QLq σ H s'->RelV v u->Q u s'):
  wpAny (model X.prog X.w) A (getItem (.ref d) (.ref a)) Q E s:=by
 obtain⟨ys,pr,dd,y,z⟩:=lL I hd hk
 obtain⟨u,hw,ru⟩:=lZ.some_of (v:=v) (o:=(atKey ys k).map (·.2)) (by rw[<-hv];exact xH pr)
 obtain⟨p,hp,rfl⟩:=QJz.mp hw
 exact wpAny_getItem_heap (knd:=jo X.prog X.w) (show A.in1.units+1<cLine from hu) (mV I ha) dd hp (h _ _ (I.tok _) ru)
theorem xg{v:V}{r:Value}(rv:RelV v r){ys:List (SK×Addr×Value)}(pr:Paired LR xs ys):Paired LR (rN k a v xs) (storedH ys k a r):=by
 have e:(atKey ys k).isSome=(xJ k xs).isSome:=by rw[(xH (k:=k) pr).dJ];simp
 unfold rN storedH
 rw[e]
 split
 ·rename_i z
  clear e z
  induction pr with
  |nil=>exact .nil
  | @cons x y xs ys h t ih=>
   refine .cons ?_ ih
   show LR (if x.1=k then(x.1,x.2.1,v)else x) (putAt k r y)
   unfold putAt
   by_cases c:y.1=k
   ·rw[if_pos c,if_pos (h.1.trans c)];exact⟨h.1,h.2.1,rv⟩
   ·rw[if_neg c,if_neg fun q=>c (h.1.symm.trans q)];exact h
 ·exact Paired.snoc pr ⟨rfl,rfl,rv⟩
theorem NZ(v:V):(rN k a v xs).length<=xs.length+1:=by
 unfold rN
 split<;>simp
theorem Q7{P:Program}{w:World}{H':Hp}{h':Heap}{ys:List (SK×Addr×Value)}(z:xs.length<=sizeLine)(y:(d==sysModules)=false)(pr:Paired LR xs ys)(dd:h'.DictOfH (jo P w) d ys):bU P w H' h' d (sD xs):=by
 obtain⟨o,es,ep,h1,h2,h3,h4,h5,h6⟩:=dd
 exact⟨z,y,by rw[<-oU pr];exact h6,ys,o,es,ep,pr,h1,h2,h3,h4⟩
theorem Ef{v:V}{r:Value}{Q:Unit->Shared->Prop}(hu:A.units+2<cLine)(I:L2.Inv X QLq σ H s)(hd:H d=some (sD xs))(hk:∀x∈xs,cA X.K H x.1 x.2.1)(ha:cA X.K H k a)(hl:xs.length<sizeLine)(rv:RelV v r)
  (h:∀s',L2.Inv X QLq σ (upd H d (sD (rN k a v xs))) s'->Q () s'):wpAny (model X.prog X.w) A (setItem (.ref d) (.ref a) r) Q E s:=by
 obtain⟨ys,pr,dd,y,z⟩:=lL I (.inl hd) hk
 have hz:ys.length<=sizeLine:=by
  have:=congrArg List.length (oU pr)
  simp at this
  omega
 refine wpAny_setItem_heap (knd:=jo X.prog X.w) (hsz:=hz) (show A.in1.units+1<cLine from hu) (mV I ha) dd fun h' dd' hs=>h _ ?_
 have he:∃q,h'.get? d=some q:=let ⟨q,_,_,hq,_⟩:=dd';⟨q,hq⟩
 have pl:=NZ (k:=k) (a:=a) (xs:=xs) v
 exact jL I (by rw[hd];exact True.intro) hs he (Q7 (by omega) y (xg rv pr) dd')
end
end Mini
end
section
namespace Mini
open PySem L2
theorem DR{d:Addr}{x y:Value}{P:Program}{W:World}{A:Around}{E:QZq}{s:Shared}{Q:PUnit->Shared->Prop}(h:wpAny (model P W) A (dictSet d x y) (fun _ s'=>Q PUnit.unit s') E s):wpAny (model P W) A (storeAll d [(x,y)]) Q E s:=by
 unfold storeAll
 rw[List.forIn_cons]
 refine QKq (QKq (b8 h fun _ s' q=>QKz ?_))
 show wpAny _ _ (forIn ([]:List (Value×Value)) PUnit.unit _) _ _ _
 rw[List.forIn_nil]
 exact QKz q
def Y5(K:QQq)(km:List (TE×TE)):TE:=fun σ H Q=>∀p,H p=none->uU km σ (upd H p (.dK [])) fun ps H2=>H2 p=some (.dK [])/\((∃kvs:List (Key×V),ps=kvs.map (fun kv=>(kV kv.1,kv.2))/\kvs.length<=15/\Q (.ref p) (upd H2 p (.dK (ir [] kvs))))\/∃k a v,ps=[(.ref a,v)]/\cA K H2 k a/\Q (.ref p) (upd H2 p (sD [(k,a,v)])))
theorem bare{P:Program}{w:World}{h:Heap}{a:Addr}(d:h.DictOf (bN P w) a []):h.DictOfH (jo P w) a []:=by
 obtain⟨o,es,ep,h1,h2,h3,h4,h5,h6⟩:=d
 have e:es.toList=[]:=by
  cases q:es.toList with
  |nil=>rfl
  |cons x y=>rw[q]at h5;cases h5
 exact⟨o,es,ep,h1,h2,h3,by simp[e],fun x hx=>(nomatch hx),List.nodup_nil⟩
theorem Ol{X:Cx}{pos:Pos}{keys:List (Option Expr)}{values:List Expr}{km:List (TE×TE)}(hu:X.A.units+2<cLine)(h:PPs X pos keys values km)(hall:keys.all (·.isSome)=true)(hl:keys.length=values.length)(h0:keys≠[])
  (h15:keys.length<=15):PE X (.Dict keys values pos) (Y5 X.K km):=by
 intro QLq s σ H Q I q
 have hn:=I.hok.fresh (QVz s.heap.objs.size)
 have I1:=I.laid (a:=s.heap.objs.size) (o:=.dK []) (h':=s.heap.push {cls:=.type "dict",data:=.dict #[]}) (t':=s.toks) (fun _ _ q=>QWq _ q) (QVz _) (ye s.heap I.big)
 refine wpAny_Dict_any hall hl h0 h15 (b8 (h QLq _ σ _ _ I1 (q _ hn)) fun ws s2⟨ps,H2,I2,rel,e,z⟩=>?_)
 obtain⟨_,hd,vs0,r0,dd⟩:=Kp I2.hok e
 cases r0
 rcases z with ⟨kvs,ep,lk,q2⟩|⟨k,a,v,ep,ka,q2⟩
 ·subst ep
  obtain⟨rs,c,rk⟩:=qK (P:=X.prog) (w:=X.w) rel
  have hz:(ir [] kvs).length<=sizeLine:=by
   have h1:=jT kvs []
   rw[List.length_nil]at h1
   rw[sizeLine_eq];omega
  refine wpAny_storeAll (knd:=bN X.prog X.w) ws rs [] s2 _ c dd ?_ fun h' dd' hs=>?_
  ·have e1:=c.length
   have e2:=rk.length
   rw[sizeLine_eq,List.length_nil]
   omega
  have he:∃q,h'.get? s.heap.objs.size=some q:=let ⟨q,_,_,hq,_⟩:=dd';⟨q,hq⟩
  exact⟨.ref s.heap.objs.size,_,jL I2 (by rw[e];exact True.intro) hs he (z7 hz hd (rk.merge .nil) dd'),rfl,q2⟩
 ·subst ep
  cases rel with
  | @cons _ b _ bs rv t=>
   cases t
   obtain⟨b1,b2⟩:=b
   obtain⟨r1,r2⟩:=rv
   cases r1
   refine DR (wpAny_dictSet_heap (knd:=jo X.prog X.w) (hsz:=by simp) (show X.A.units+1<cLine by omega) (mV I2 ka) (bare dd) fun h' dd' hs=>?_)
   have he:∃q,h'.get? s.heap.objs.size=some q:=let ⟨q,_,_,hq,_⟩:=dd';⟨q,hq⟩
   refine⟨.ref s.heap.objs.size,_,jL I2 (by rw[e];exact True.intro) hs he (Q7 (by rw[sizeLine_eq];show 1<=_;decide) hd (xg r2 .nil) dd'),rfl,q2⟩
end Mini
end
section
namespace Mini
open PySem L2
def oO(h:Heap)(d:Addr)(es:Array DictEntry)(ep:Nat):Prop:=∃o,h.get? d=some o/\o.ExactDict/\o.data=.dict es ep
section
variable{prog:Program}{w:World}{A:Around}{E:QZq}{s:Shared}{d it:Addr}{es:Array DictEntry}{i ep:Nat}
theorem Gs{Q:QZq}(y:(d==sysModules)=false)(B:oO s.heap d es ep)
  (q:Q (.ref s.heap.objs.size) {s with heap:=s.heap.push {cls:=.type "dict_keyiterator",data:=.fields #[.ref d,.int 0 0,.int es.size 0,.int ep 0]}}):wpAny (model prog w) A (pyIter (.ref d)) Q E s:=by
 obtain⟨o,h1,h2,h3⟩:=B
 have t:s.TypeIs (.ref d) "dict":=⟨o,h1,h2.1⟩
 refine wpAny_pyIter_slot t F.slot_dict_iter (Qzz F.slot_dict_iter t F.entry_dict_iter ?_ (F.args_dict_iter_1 _))
 unfold Builtin.«dict.__iter__» Builtin.Dict.dictSlotNone
 refine QKq (QKq (wpAny_notOrdered_dict t (QKz ?_)))
 show wpAny _ _ (Builtin.Dict.showsAll d>>=_) _ _ s;unfold Builtin.Dict.showsAll;rw[if_neg (by rw[y];decide)]
 refine QKq (QKz (QKq (wpAny_dictEntries h1 h3 (QKq (wpAny_dictEpoch h1 h3 ?_)))))
 refine QKq (Qjq (QKz ⟨_,rfl,"dict_keyiterator",_,⟨_,Qzq _ rfl,rfl⟩,F.slot_dict_keyiterator_next.lookup,q⟩))
theorem Gu{e:DictEntry}{Q:Option Value->Shared->Prop}(st:s.heap.IsKeyIter it d i es.size ep)(B:oO s.heap d es ep)(x:es[i]? =some e)
  (q:∀h',h'.IsKeyIter it d (i+1) es.size ep->Heap.SameBut it s.heap h'->Q (some e.key) {s with heap:=h'}):wpAny (model prog w) A (pyNext (.ref it)) Q E s:=by
 obtain⟨o,g1,g2,g3⟩:=id st
 obtain⟨od,h1,h2,h3⟩:=B
 unfold pyNext
 refine QKq (wpAny_attempt (wpAny_callSpecial?_slot (name:=Str.ofString "__next__") st.typeIs F.slot_dict_keyiterator_next (Qzz F.slot_dict_keyiterator_next st.typeIs F.entry_dict_keyiterator_next ?_ (F.args_dict_keyiterator_next_1 _))))
 refine QKq (QKz (QKq (QKq ?_)))
 first|refine QKq (wpAny_typeNameOfWhole_keyiter st.typeIs (QKz ?_))|refine QKq (wpAny_typeNameOf_keyiter st.typeIs (QKz ?_))
 refine QKq (wpAny_fieldsOf g1 g3 ?_)
 simp only[show Builtin.Dict_items.ownsTuple "dict_keyiterator"=false by decide,Qxq,if_false]
 show wpAny _ _ (if (Value.ref d==Value.none)=true then _ else _) _ _ s;rw[if_neg (show¬((Value.ref d==Value.none)=true)from nofun)]
 refine QKq (QKz (QKq (wpAny_dictEntries h1 h3 ?_)))
 rw[if_neg (by simp)]
 refine QKq (QKz (QKq (wpAny_dictEpoch h1 h3 ?_)))
 rw[if_neg (by simp)]
 refine QKz ?_
 simp only[show¬((i:Int)<0) by omega,if_false,Int.toNat_natCast,x]
 refine QKq ?_
 first|refine QKq (wpAny_typeNameOfWhole_keyiter st.typeIs (QKz ?_))|refine QKq (wpAny_typeNameOf_keyiter st.typeIs (QKz ?_))
 refine QKq (wpAny_isOneOf_keyiter st.typeIs ?_)
 show wpAny _ _ (setField (.ref it) 1 (rawInt ((i:Int)+1))>>=_) _ _ s;refine QKq (wpAny_setField g1 g3 (by simp) ?_)
 have st':(s.heap.update it (Obj.mapFields (·.setIfInBounds 1 (rawInt ((i:Int)+1))))).IsKeyIter it d (i+1) es.size ep:=⟨_,Heap.get?_update_self _ g1 (Obj.isFreed_of_fields (Obj.data_mapFields g3 _)),(Obj.cls_mapFields ..).trans g2,by rw[Obj.data_mapFields g3];simp[rawInt]⟩
 refine QKq (Qqq (QKq (wpAny_isOneOf_keyiter (s:={s with heap:=s.heap.update it (Obj.mapFields (·.setIfInBounds 1 (rawInt ((i:Int)+1))))}) st'.typeIs ?_)))
 show wpAny _ _ (pure e.key) _ _ _
 exact QKz (QKz ⟨_,rfl,QKz (q _ st' (Heap.SameBut.update ..))⟩)
theorem K4{Q:Option Value->Shared->Prop}(hh:A.handled=none)(st:s.heap.IsKeyIter it d i es.size ep)(B:oO s.heap d es ep)(x:es.size<=i)
  (q:∀h',Heap.ExtBut it s.heap h'->Q none {s with heap:=h'}):wpAny (model prog w) A (pyNext (.ref it)) Q E s:=by
 obtain⟨o,g1,g2,g3⟩:=id st
 obtain⟨od,h1,h2,h3⟩:=B
 unfold pyNext
 refine QKq (wpAny_attempt (wpAny_callSpecial?_slot (name:=Str.ofString "__next__") st.typeIs F.slot_dict_keyiterator_next (Qzz F.slot_dict_keyiterator_next st.typeIs F.entry_dict_keyiterator_next ?_ (F.args_dict_keyiterator_next_1 _))))
 refine QKq (QKz (QKq (QKq ?_)))
 first|refine QKq (wpAny_typeNameOfWhole_keyiter st.typeIs (QKz ?_))|refine QKq (wpAny_typeNameOf_keyiter st.typeIs (QKz ?_))
 refine QKq (wpAny_fieldsOf g1 g3 ?_)
 simp only[show Builtin.Dict_items.ownsTuple "dict_keyiterator"=false by decide,Qxq,if_false]
 show wpAny _ _ (if (Value.ref d==Value.none)=true then _ else _) _ _ s;rw[if_neg (show¬((Value.ref d==Value.none)=true)from nofun)]
 refine QKq (QKz (QKq (wpAny_dictEntries h1 h3 ?_)))
 rw[if_neg (by simp)]
 refine QKq (QKz (QKq (wpAny_dictEpoch h1 h3 ?_)))
 rw[if_neg (by simp)]
 refine QKz ?_
 simp only[show¬((i:Int)<0) by omega,if_false,Int.toNat_natCast,Array.getElem?_eq_none x]
 refine QKq ?_
 first|refine QKq (wpAny_typeNameOfWhole_keyiter st.typeIs (QKz ?_))|refine QKq (wpAny_typeNameOf_keyiter st.typeIs (QKz ?_))
 show wpAny _ _ (setField (.ref it) 0 .none>>=_) _ _ s;refine QKq (wpAny_setField g1 g3 (by simp) ?_)
 show wpAny _ _ (newExc (.type "StopIteration") []>>=_) _ _ _;refine QKq ?_
 simp only[newExc,newTuple]
 refine QKq (Qjq (QKq (m:=firstArgMember _ _) (wpAny_of_eq (a:=Value.none) (by first|rfl|(simp only[firstArgMember];rfl)) ?_)) (by size_fits))
 refine Qjq ?_ (by size_fits);simp only[raiseNew]
 refine QKq (wpAny_handled ?_);rw[show A.in1.handled=none from hh]
 refine QKq (QKz (wpAny_throw ?_));refine QKq (wpAny_isInstance (T:="StopIteration") (b:=true) ⟨_,Qzq _ rfl,rfl⟩ isSubtype_stop ?_)
 exact QKz (q _ (((Heap.SameBut.update ..).extBut.push _).push _))
end
end Mini
end
section
namespace Mini
open PySem L2
section
variable{prog:Program}{w:World}{A:Around}{E:QZq}{s:Shared}{d it:Addr}{es:Array DictEntry}{ep:Nat}
theorem oO.stay{h h':Heap}(B:oO h d es ep)(k:∀o,h.get? d=some o->h'.get? d=some o):oO h' d es ep:=let ⟨o,e,r⟩:=B;⟨o,k _ e,r⟩
theorem oO.lt{h:Heap}(B:oO h d es ep):d<h.objs.size:=let ⟨_,e,_⟩:=B;Qqz e
theorem oO.type(B:oO s.heap d es ep):s.TypeIs (.ref d) "dict":=let ⟨o,e,c,_⟩:=B;⟨o,e,c.1⟩
theorem Am(hh:A.handled=none)(ne:d≠it):Walks prog w A it [it,d] [it] es.size (fun i v=>∃e,es[i]? =some e/\v=e.key) (fun i h=>h.IsKeyIter it d i es.size ep/\oO h d es ep) where
 sub:=fun b hb=>QCq.mpr (.inl (QDz.mp hb))
 frame:=fun _ _ _ st k=>⟨st.1.at fun o e=>k it QYz o e,st.2.stay fun o e=>k d (QYq _ QYz) o e⟩
 item:=fun i s Q E hi st q=>Gu st.1 st.2 (e:=es[i]) (Array.getElem?_eq_getElem hi) fun h' st' sb=>q _ h' s.toks ⟨es[i],Array.getElem?_eq_getElem hi,rfl⟩ ⟨st',st.2.stay fun o e=>(sb.2 d ne).trans e⟩ fun b o hb e=>(sb.2 b fun z=>hb (QDz.mpr z)).trans e
 done:=fun s Q E st q=>K4 hh st.1 st.2 (QVz _) fun h' eb=>q h' s.toks fun b o hb e=>eb b o (fun z=>hb (QDz.mpr z)) e
 self:=fun _ _ _ _ st q=>wpAny_pyIter_keyiter st.1 q
theorem K3(y:(d==sysModules)=false):PySem.W.KdlSrc prog w "dict" d d es.size (fun i v=>∃e,es[i]? =some e/\v=e.key) (fun h=>oO h d es ep) where
 type:=fun _ B=>B.type
 there:=fun _ B=>⟨B.lt,B.lt⟩
 keep:=fun _ _ B k=>B.stay fun o e=>k d (.inl rfl) o e
 notList:=by decide
 notTuple:=by decide
 hint:=fun _ _ _ _ B q=>PySem.W.kdl_hint_dict B.type q
 iter:=fun _ _ hh B=>⟨_,_,(fun _ _ q=>Gs y B q),Am hh (Qvz B.lt),⟨⟨_,Qzq _ rfl,rfl,rfl⟩,B.stay fun o e=>QWq _ e⟩⟩
end
end Mini
end
section
namespace Mini
open PySem L2
section
variable{X:Cx}
theorem Nv{P:Program}{w:World}:∀{xs:List SV}{ys:List (SK×Addr×Value)}{vs:List Value},Paired LR xs ys->vs=ys.map (fun y=>Value.ref y.2.1)->Vals (xs.map fun x=>V.ref x.2.1) vs:=by
 intro xs ys vs pr e
 subst e
 induction pr with
 |nil=>exact .nil
 |cons h t ih=>exact .cons (by show Value.ref _=Value.ref _;rw[h.2.1]) ih
theorem Ai(hc:X.calm=true):fJ X (.type "list") (fun xs H Q=>(∃p ys,xs=[.ref p]/\(iH X.K H p ys\/gQ X.K H p ys)/\∀l,H l=none->Q (.ref l) (upd H l (.lst ys)))\/
  ∃a ks,xs=[.ref a]/\Rd H a (sD ks)/\∀l,H l=none->Q (.ref l) (upd H l (.lst (ks.map fun x=>.ref x.2.1)))):=by
 intro QLq s σ H xs us Q I r h
 rcases h with h|⟨a,ks,rfl,e,q⟩
 ·exact vZ QLq s σ H xs us Q I r h
 obtain⟨u,rfl,rx⟩:=vals1 r
 cases rx
 obtain⟨z,y,nd,ys,o,es,ep,pr,h1,h2,h3,h4⟩:=(show bU X.prog X.w H s.heap a (.dS ks)from Bq I.hok e)
 have le:es.size=ys.length:=by rw[<-Array.length_toList,h4,QAq]
 have lk:ks.length=ys.length:=Paired.length pr
 refine PySem.W.kdl_call (K3 (es:=es) (ep:=ep) y) (I.ok.hd hc) ⟨o,h1,h2,h3⟩ (by omega) fun h' tk acc c' kp g it=>?_
 have ev:acc.toList=ys.map fun y=>Value.ref y.2.1:=by
  refine List.ext_getElem? fun i=>?_
  rw[Array.getElem?_toList,QFz]
  by_cases hi:i<acc.size
  ·obtain⟨e,e1,e2⟩:=it.2 i acc[i] (Array.getElem?_eq_getElem hi)
   rw[<-Array.getElem?_toList,h4,QFz]at e1
   obtain⟨p,p1,p2⟩:=QJz.mp e1
   rw[Array.getElem?_eq_getElem hi,p1,e2,<-p2]
   rfl
  ·have:acc.size=ys.length:=by rw[it.1,le]
   rw[Array.getElem?_eq_none (by omega),List.getElem?_eq_none (by omega)]
   rfl
 refine⟨.ref s.heap.objs.size,_,I.laid (t':=tk) kp (QVz _) (show bU X.prog X.w _ h' _ (.lst _)from⟨by rw[QAq];omega,acc.toList,c',Nv (P:=X.prog) (w:=X.w) pr ev,by simpa using g⟩),rfl,q _ (I.hok.fresh (QVz _))⟩
end
end Mini
end
section
namespace Mini
open PySem
inductive D where
 |non|bl (b:Bool)|int (i:Int)|str (x:Str)
 |tup (xs:List D)|lst (xs:List D)|cC (ks:List D) (vs:List D)|iJ (ks:List D) (vs:List D)
 deriving Inhabited
inductive Ob where
 |lst (xs:List D)|dct (ks vs:List D)|sdt (ks vs:List D)
 deriving Inhabited
def Ob.d:Ob->D
 |.lst xs=>.lst xs
 |.dct ks vs=>.cC ks vs
 |.sdt ks vs=>.iJ ks vs
inductive Sl where
 |un|val (d:D)|own (o:Ob)|bor (o:Ob)
 deriving Inhabited
abbrev Ev:=List Sl
inductive Rv where
 |val (d:D)|new (o:Ob)|ref (i:Nat)|tmp (o:Ob)
def Rv.jb:Rv->Option D
 |.val d=>some d
 |.new o=>some o.d
 |_=>none
def Rv.wM:Rv->Option Sl
 |.val d=>some (.val d)
 |.new o=>some (.own o)
 |_=>none
def aY:List Rv->Option (List D)
 |[]=>some []
 |r::rs=>r.jb.bind fun d=>(aY rs).map (d:: ·)
inductive Out(α:Type)where
 |ok (a:α) (σ:Ev)|exc (c:Nat) (σ:Ev)|bad
def Out.bind{α β:Type}:Out α->(α->Ev->Out β)->Out β
 |.ok a σ,f=>f a σ
 |.exc c σ,_=>.exc c σ
 |.bad,_=>.bad
def Out.ao{β:Type}:Out Rv->(D->Ev->Out β)->Out β
 |.ok (.val d) σ,f=>f d σ
 |.ok (.new o) σ,f=>f o.d σ
 |.ok _ _,_=>.bad
 |.exc c σ,_=>.exc c σ
 |.bad,_=>.bad
def Out.cu{β:Type}(tr:D->Option Bool)(r:Out Rv)(f:Bool->Ev->Out β):Out β:=
 r.ao fun d σ=>match tr d with|some b=>f b σ|none=>.bad
def Out.map{α β:Type}(g:α->β):Out α->Out β
 |.ok a σ=>.ok (g a) σ
 |.exc c σ=>.exc c σ
 |.bad=>.bad
def lift{α:Type}(σ:Ev):Option α->Out α
 |some a=>.ok a σ
 |none=>.bad
inductive Ma where
 |add|sub|mul|mod|fdiv|pow
 deriving DecidableEq
inductive Cm where
 |eq|ne|lt|le|gt|ge|isin|notin|jf|notN
 deriving DecidableEq
inductive Ty where
 |tup|lst|str|bool|int|cC
 deriving DecidableEq
inductive Bi where
 |all|any|tuple|list|sorted|int|dict|len|copy
 deriving DecidableEq
inductive Tg where
 |name (i:Nat)|tup (is:List Nat)
inductive E where
 |var (i:Nat)|con (d:D)|glob (k:Nat)
 |nil|cons (h t:E)
 |tup (es:E)|lis (es:E)
 |op (o:Ma) (a b:E)|neg (a:E)|cmp (o:Cm) (a b:E)|chain (o₁ o₂:Cm) (a b c:E)
 |and (es:E)|or (es:E)|not (a:E)|ite (c a b:E)
 |idx (a i:E)|slc (a lo hi:E)|noneE
 |call (f:Nat) (args:E)|ref (i:Nat)|tmp (e:E)|rd (e:E)
 |isi (a:E) (t:Ty)|bi (b:Bi) (a:E)
 |range1 (a:E)|range2 (a b:E)|zip (a b:E)
 |count (a b:E)|popAt (i:Nat) (a:E)|index (a b:E)
 |get2 (d k x:E)|dsp (es:E)|tcall (f:Nat) (args:E) (hs:List (Nat×D))
 |comp (nl:Nat) (tg:Tg) (it:E) (cond:E) (elt:E)
inductive S where
 |nil|cons (h t:S)
 |set (i:Nat) (e:E)|setT (is:List Nat) (e:E)|setIx (i:Nat) (ix e:E)
 |expr (e:E)|append (i:Nat) (e:E)|extend (i:Nat) (e:E)|update (i:Nat) (e:E)
 |ret (e:E)|ite (c:E) (a b:S)
 |for_ (tg:Tg) (it:E) (b:S)|while_ (c:E) (b:S)
 |raise (c:Nat)|try_ (b:S) (c:Nat) (i:Nat) (h:S)|pass|brk|cont
abbrev AAG:E:=.con (.int 1)
abbrev AAH:E:=.con (.int 0)
abbrev AAL:E:=.con (.bl true)
abbrev AAP:S:=.cons (.ret (.con (.bl false))) .nil
abbrev AAQ:E:=.con (.int 2)
abbrev AAR:E:=.cons (.var 0) .nil
abbrev AAS:E:=.cons (.con (.str "p")) (.cons (.con (.str "q")) (.cons (.con (.str "rr")) (.cons (.con (.str "go")) (.cons (.con (.str "abcdef")) .nil))))
abbrev AAT:E:=.cons (.var 1) (.cons (.var 2) .nil)
abbrev AAV:E:=.cons (.con (.int 3)) .nil
abbrev AAX:E:=.cons (.var 1) (.cons (.var 2) (.cons (.var 5) .nil))
abbrev AAZ:E:=.cons (.var 3) .nil
abbrev AAa:E:=.cons (.con (.str "same")) (.cons (.con (.str "not")) .nil)
abbrev AAb:E:=.idx (.var 0) AAH
abbrev AAc:E:=.idx (.var 0) AAG
abbrev AAd:E:=.call 30 (.cons (.var 0) (.cons (.ref 1) (.cons AAQ .nil)))
abbrev AAe:S:=.cons (.append 3 (.tup (.cons (.idx (.var 2) (.var 4)) (.cons (.tup (.cons (.con (.str "held")) (.cons (.tup (.cons (.con (.str "same")) (.cons (.idx (.var 2) (.op .sub (.var 4) AAG)) .nil))) (.cons (.idx (.var 2) (.op .mod (.op .add (.var 4) AAG) (.bi .len (.var 2)))) (.cons (.con (.bl false)) .nil))))) .nil)))) .nil
abbrev AAf:E:=.idx (.var 2) AAG
abbrev AAg:E:=.cmp .eq (.call 30 (.cons (.var 1) (.cons (.ref 2) (.cons AAQ .nil)))) AAG
abbrev AAh:E:=.cmp .ne (.call 15 (.cons (.var 1) (.cons (.idx (.var 4) (.var 0)) (.cons (.var 4) .nil)))) (.idx (.var 4) (.var 0))
abbrev AAi:S:=.set 2 (.slc (.lis (.cons (.con (.str "p")) (.cons (.con (.str "q")) (.cons (.con (.str "rr")) (.cons (.con (.str "go")) .nil))))) .noneE (.op .add AAG (.call 30 (.cons (.var 0) (.cons (.ref 1) (.cons (.con (.int 4)) .nil))))))
abbrev AAj:S:=.cons (.append 5 (.tup (.cons (.var 6) (.cons (.tup (.cons (.idx (.lis AAa) (.var 7)) AAZ)) .nil)))) (.cons (.append 4 (.cmp .eq (.idx (.var 4) (.neg AAG)) (.cmp .eq (.var 7) AAH))) (.cons (.set 3 (.var 6)) .nil))
abbrev AAk:E:=.or (.cons (.not (.call 9 (.cons (.idx (.var 1) AAH) (.cons (.var 2) (.cons AAH (.cons (.bi .len (.var 2)) .nil)))))) (.cons (.not (.call 3 (.cons (.idx (.var 1) AAG) (.cons AAG (.cons (.glob 8) .nil))))) .nil))
abbrev AAl:E:=.idx (.var 0) AAQ
abbrev AAm:E:=.cons (.var 1) .nil
abbrev AAn:E:=.cmp .ne (.call 42 (.cons AAc (.cons (.var 3) (.cons (.idx (.var 3) AAb) .nil)))) (.idx (.var 3) AAb)
abbrev AAo:S:=.set 4 (.slc (.tup (.cons (.con (.str "a")) (.cons (.con (.str "b")) (.cons (.con (.str "come")) .nil)))) .noneE (.call 30 (.cons (.var 0) (.cons (.ref 1) (.cons (.op .add (.var 2) AAG) .nil)))))
abbrev AAp:E:=.idx (.var 2) AAH
abbrev AAq:S:=.cons (.set 3 (.call 42 (.cons AAc AAT))) (.cons (.ret (.idx (.lis (.cons (.var 2) AAZ)) (.bi .int (.cmp .eq (.idx (.var 1) AAl) (.cmp .eq (.var 3) (.idx (.var 0) (.con (.int 3)))))))) .nil)
abbrev AAr:E:=.op .add AAG (.call 30 (.cons (.var 0) (.cons (.ref 1) AAZ)))
abbrev AAs:E:=.idx (.idx (.var 1) AAG) AAf
abbrev AAt:E:=.call 3 (.cons (.var 0) (.cons AAQ (.cons AAQ .nil)))
abbrev AAu:E:=.or (.cons (.not (.call 3 (.cons AAb (.cons AAH (.cons (.glob 3) .nil))))) (.cons (.not (.call 3 (.cons AAc (.cons AAG (.cons (.glob 4) .nil))))) .nil))
abbrev AAv:S:=.cons (.set 3 (.op .add (.slc (.var 3) AAG .noneE) (.call 27 (.cons (.var 0) (.cons (.var 1) (.cons (.idx (.var 3) AAH) (.cons (.ref 2) .nil))))))) .nil
abbrev AAw:E:=.and (.cons (.cmp .gt (.bi .len (.var 5)) (.var 3)) (.cons (.or (.cons (.cmp .gt (.bi .len (.var 5)) (.var 4)) (.cons (.cmp .eq AAd AAG) .nil))) .nil))
abbrev AAx:E:=.cons (.bi .len (.var 1)) .nil
abbrev AAy:S:=.cons (.setIx 3 (.var 6) (.op .add (.idx (.var 3) (.idx (.var 2) (.var 4))) (.lis (.cons (.var 5) .nil)))) (.cons (.append 2 (.var 6)) .nil)
abbrev AAz:E:=.con (.str "a")
abbrev ABG:E:=.cons AAH .nil
abbrev ABH:E:=.idx (.var 1) AAH
abbrev ABI:S:=.cons (.setIx 3 (.var 6) (.op .add (.idx (.var 3) (.var 2)) (.lis (.cons (.var 5) .nil)))) (.cons (.append 4 (.var 6)) .nil)
abbrev ABJ:E:=.cons (.cmp .notin (.var 6) (.var 3)) .nil
abbrev ABK:S:=.cons (.ret (.or (.cons (.bi .all (.var 4)) (.cons (.and (.cons (.var 1) (.cons (.bi .any (.var 4)) .nil))) .nil)))) .nil
abbrev ABL:E:=.cmp .gt (.call 30 (.cons (.var 1) (.cons (.ref 2) AAV))) AAH
abbrev ABM:E:=.comp 1 (.name 0) (.idx (.var 1) AAG) AAL (.call 19 (.cons (.var 0) (.cons (.var 4) (.cons (.bi .len AAf) .nil))))
abbrev ABN:E:=.cons (.var 2) .nil
abbrev ABO:E:=.con (.str "table")
abbrev ABP:S:=.set 2 (.slc (.lis AAS) .noneE (.op .add (.con (.int 3)) (.call 30 (.cons (.var 0) (.cons (.ref 1) AAV)))))
abbrev ABQ:E:=.or (.cons (.not (.call 3 (.cons (.var 0) (.cons (.con (.int 3)) AAV)))) (.cons (.not (.call 2 AAR)) .nil))
abbrev ABR:S:=.cons (.ret (.tup (.cons (.tup (.cons (.tup (.cons AAz .nil)) (.cons (.bi .tuple (.var 5)) (.cons (.bi .tuple (.var 4)) .nil)))) (.cons (.tup (.cons (.tup (.cons (.idx (.var 2) (.neg AAG)) .nil)) (.cons (.tup (.cons (.tup (.cons (.tup (.cons AAz (.cons AAG .nil))) .nil)) (.cons (.tup (.cons (.tup (.cons (.idx (.var 2) (.neg AAG)) ABG)) .nil)) .nil))) .nil))) .nil)))) .nil
abbrev ABS:S:=.cons (.expr (.popAt 5 (.call 30 (.cons (.var 0) (.cons (.ref 1) (.cons (.bi .len (.var 5)) .nil)))))) .nil
abbrev ABT:S:=.set 6 (.call 45 (.cons (.var 0) (.cons (.var 1) (.cons (.idx (.var 2) (.var 4)) (.cons (.var 5) .nil)))))
abbrev ABU:E:=.cons (.var 0) (.cons (.call 33 (.cons (.var 1) (.cons (.ref 2) (.cons (.var 7) (.cons AAG .nil))))) .nil)
abbrev ABV:E:=.con (.str "held")
abbrev ABW:E:=.comp 1 (.name 0) (.var 0) AAL (.call 4 (.cons AAc (.cons AAH (.cons (.op .sub (.var 3) AAG) .nil))))
abbrev ABX:E:=.lis .nil
abbrev ABY:E:=.con (.str "and")
abbrev ABZ:E:=.comp 2 (.tup [0,1]) (.zip (.var 0) (.slc (.var 0) AAG .noneE)) AAL (.cmp .lt (.var 0) (.var 1))
abbrev ABa:E:=.bi .len (.var 2)
abbrev ABb:E:=.cons (.var 0) (.cons (.call 30 (.cons (.var 1) (.cons (.ref 2) (.cons (.var 6) .nil)))) .nil)
abbrev ABc:E:=.and (.cons (.cmp .isin AAL (.var 4)) (.cons (.cmp .isin (.con (.bl false)) (.var 4)) .nil))
abbrev ABd:E:=.cons (.var 0) (.cons AAp .nil)
abbrev ABe:E:=.con (.str "or")
abbrev ABf:E:=.cmp .ne (.idx (.idx (.var 3) AAH) (.var 0)) (.cmp .eq (.idx (.var 5) (.var 0)) (.var 4))
abbrev ABg:E:=.con (.str "same")
abbrev ABh:E:=.con (.str "both")
abbrev ABi:E:=.bi .list (.var 2)
abbrev ABj:S:=.set 3 (.call 31 (.cons (.var 0) (.cons (.ref 1) (.cons (.var 2) (.cons AAG AAV)))))
abbrev ABk:E:=.zip (.call 13 AAR) (.var 1)
abbrev ABl:E:=.cmp .isin (.var 0) (.var 4)
abbrev ABm:E:=.or (.cons (.not (.isi (.var 3) .lst)) (.cons (.cmp .ne (.var 3) (.var 4)) .nil))
abbrev ABn:E:=.call 44 (.cons (.var 0) (.cons (.var 1) (.cons (.idx (.var 2) (.var 4)) .nil)))
abbrev ABo:E:=.and (.cons (.cmp .notin (.var 3) AAb) (.cons (.cmp .notin (.var 3) ABH) .nil))
abbrev ABp:E:=.comp 2 (.tup [0,1]) AAc AAL (.call 11 (.cons (.var 1) (.cons (.var 3) ABG)))
abbrev ABq:S:=.cons (.ret (.tup (.cons (.var 4) (.cons (.bi .tuple (.var 6)) .nil)))) .nil
abbrev ABr:S:=.cons (.ret (.op .add (.bi .list AAb) (.comp 1 (.name 0) AAc AAL AAb))) .nil
abbrev ABs:E:=.cons (.con (.int 4)) .nil
abbrev ABt:E:=.idx (.var 2) (.call 30 (.cons (.var 0) (.cons (.ref 1) (.cons ABa .nil))))
abbrev ABu:E:=.cmp .eq (.call 30 (.cons (.var 0) (.cons (.ref 2) (.cons AAQ .nil)))) AAG
abbrev ABv:E:=.comp 1 (.name 0) (.var 0) AAL (.cmp .eq (.count (.var 1) (.var 0)) AAG)
abbrev ABw:E:=.cons (.var 0) (.cons (.ref 2) .nil)
abbrev ABx:E:=.cons (.var 2) AAZ
abbrev ABy:E:=.bi .len (.var 0)
abbrev ABz:S:=.cons (.ret (.tup (.cons (.var 5) (.cons (.var 7) .nil)))) .nil
abbrev ACG:S:=.set 2 (.bi .dict (.bi .list (.zip (.call 41 AAR) (.var 1))))
abbrev ACH:S:=.ret (.con .non)
abbrev ACI:E:=.comp 1 (.name 0) (.var 0) AAL (.call 8 (.cons (.var 0) ABN))
abbrev ACJ:E:=.comp 1 (.name 0) (.var 0) AAL (.call 7 (.cons (.var 0) ABN))
abbrev ACL:E:=.cmp .eq AAd AAG
abbrev ACM:E:=.not (.call 3 (.cons (.var 1) (.cons AAQ (.cons AAQ .nil))))
abbrev ACN:S:=.cons (.ret (.cmp .notin (.con (.bl false)) (.var 4))) .nil
abbrev ACO:S:=.cons (.ret (.tup (.cons (.var 5) (.cons AAf .nil)))) .nil
abbrev ACP:E:=.con (.str "b")
abbrev ACQ:E:=.call 17 (.cons (.var 0) AAm)
abbrev ACR:S:=.cons (.ret (.cmp .isin (.bi .tuple (.var 4)) AAl)) .nil
abbrev ACS:E:=.bi .tuple (.var 5)
abbrev ACT:S:=.set 2 (.dsp (.cons (.call 22 AAR) (.cons ABX .nil)))
abbrev ACU:E:=.cons (.var 0) AAT
abbrev ACV:E:=.comp 1 (.name 0) (.var 0) AAL (.isi (.var 0) .bool)
abbrev ACW:E:=.and (.cons (.cmp .notN (.var 6) (.con (.non))) ABJ)
abbrev ACX:E:=.cmp .eq (.var 0) (.var 4)
abbrev ACY:E:=.and (.cons (.cmp .notN (.var 6) (.con .non)) ABJ)
abbrev ACZ:S:=.set 2 (.lis (.cons (.tup (.cons AAl ABG)) .nil))
abbrev ACa:E:=.idx (.var 2) AAc
abbrev ACb:E:=.idx (.var 1) AAc
abbrev ACc:E:=.con (.str "not")
abbrev ACd:E:=.con (.int 3)
abbrev ACe:E:=.not (.call 3 (.cons (.var 0) (.cons AAH AAx)))
abbrev ACf:E:=.call 3 (.cons (.var 0) (.cons (.var 1) AAm))
abbrev ACg:S:=.setT [1,2] (.call 40 (.cons (.var 0) ABG))
abbrev ACh:E:=.comp 1 (.name 0) (.var 1) AAL (.call 5 AAR)
abbrev ACi:S:=.cons (.set 4 (.op .add (.var 4) AAG)) .nil
abbrev ACj:S:=.cons (.ret (.cmp .isin AAL (.var 4))) .nil
abbrev ACk:S:=.cons (.ret (.cmp .isin (.var 4) AAl)) .nil
abbrev ACl:E:=.con (.str "q")
abbrev ACm:E:=.con (.str "p")
abbrev ACn:S:=.set 3 (.dsp (.cons AAp (.cons ABX .nil)))
abbrev ACo:S:=.set 3 (.op .add (.var 3) (.call 43 ABd))
abbrev ACp:E:=.op .add AAp (.var 4)
abbrev ACq:E:=.cmp .eq (.var 4) AAQ
abbrev ACr:E:=.cmp .eq (.var 3) ABV
abbrev ACs:E:=.cmp .eq (.var 3) ABO
abbrev ACt:S:=.set 6 (.call 25 (.cons (.var 0) AAX))
abbrev ACu:S:=.set 4 (.lis (.cons (.tup .nil) .nil))
abbrev ACv:E:=.cmp .ne (.call 20 AAX) (.call 44 AAX)
abbrev ACw:S:=.cons (.ret (.idx (.var 4) AAH)) .nil
abbrev ACx:S:=.cons (.ret (.bi .any (.var 4))) .nil
abbrev ACy:S:=.cons (.ret (.bi .all (.var 4))) .nil
abbrev ACz:E:=.cons (.call 7 (.cons AAl AAx)) .nil
abbrev ADG:S:=.set 6 (.op .add (.var 4) (.var 5))
abbrev ADH:S:=.set 5 (.slc (.tup AAS) .noneE AAr)
abbrev ADJ:E:=.not (.call 3 (.cons (.var 0) ABx))
abbrev ADK:E:=.isi (.var 0) .tup
abbrev ADL:E:=.comp 1 (.name 0) (.var 0) AAL AAt
abbrev ADM:E:=.call 41 AAR
abbrev ADN:E:=.bi .len (.var 4)
abbrev ADP:S:=.set 4 (.idx (.call 46 AAT) AAH)
abbrev ADQ:S:=.cons (.ret (.call 16 ACU)) .nil
abbrev ADR:E:=.cons (.not (.call 6 AAm)) .nil
def small(i:Int):Bool:=decide (-18446744073709551616<i/\i<18446744073709551616)
def tY(i:Int):Bool:=decide (-4611686018427387904<=i/\i<4611686018427387904)
def fits(n:Nat):Bool:=decide (n<=16777216)
def b2i(b:Bool):Int:=if b then 1 else 0
def ix?(n:Nat)(i:Int):Option Nat:=
 let j:=if i<0 then i+n else i
 if 0<=j/\j<n then some j.toNat else none
def at?(xs:List D)(i:Int):Option D:=(ix? xs.length i).bind fun k=>xs[k]?
def clip(n:Nat)(i:Int):Nat:=
 let j:=if i<0 then i+n else i
 if j<0 then 0 else if j>n then n else j.toNat
def cut(xs:List D)(lo hi:Option Int):List D:=
 let a:=match lo with|some i=>clip xs.length i|none=>0
 let b:=match hi with|some i=>clip xs.length i|none=>xs.length
 (xs.take b).drop a
mutual
def cH:D->D->Bool
 |.non,.non=>true
 |.bl a,.bl b=>a==b
 |.bl a,.int j=>b2i a==j
 |.int i,.bl b=>i==b2i b
 |.int i,.int j=>i==j
 |.str x,.str y=>decide (x=y)
 |.tup xs,.tup ys=>iZ xs ys
 |.lst xs,.lst ys=>iZ xs ys
 |_,_=>false
def iZ:List D->List D->Bool
 |[],[]=>true
 |x::xs,y::ys=>cH x y&&iZ xs ys
 |_,_=>false
end
mutual
def dep:D->Nat
 |.tup xs=>gY xs+1
 |.lst xs=>gY xs+1
 |_=>0
def gY:List D->Nat
 |[]=>0
 |x::xs=>max (dep x) (gY xs)
end
def sOk(x:Str):Bool:=x.cps.all fun c=>decide (c<128)
mutual
def nd:D->Bool
 |.str x=>sOk x
 |.tup xs=>jQ xs
 |.lst xs=>jQ xs
 |.cC _ _=>false
 |.iJ _ _=>false
 |_=>true
def jQ:List D->Bool
 |[]=>true
 |x::xs=>nd x&&jQ xs
end
def flat:D->Bool
 |.non=>true
 |.bl _=>true
 |.int _=>true
 |.str _=>true
 |_=>false
def m9(a b:D):Bool:=(flat a&&flat b)||(nd a&&decide (dep a<=50)&&nd b)
def fL(a:D)(xs:List D):Bool:=(flat a&&xs.all flat)||(nd a&&decide (dep a<=50)&&jQ xs)
def aW(x:D):List D->Bool
 |[]=>false
 |y::ys=>cH y x||aW x ys
def JS(x:D):List D->Nat
 |[]=>0
 |y::ys=>if cH y x then 0 else JS x ys+1
def eO(x:D):List D->Nat
 |[]=>0
 |y::ys=>(if cH y x then 1 else 0)+eO x ys
def iW:List Bool->List Bool->Bool
 |[],[]=>false
 |[],_::_=>true
 |_::_,[]=>false
 |x::xs,y::ys=>if x=y then iW xs ys else(!x&&y)
def bools:List D->Option (List Bool)
 |[]=>some []
 |.bl b::r=>(bools r).map (b:: ·)
 |_=>none
def lH:D->Bool
 |.tup [.tup bs,.int _]=>(bools bs).isSome
 |_=>false
def ltD:D->D->Option Bool
 |.int i,.int j=>some (decide (i<j))
 |.tup xs,.tup ys=>(bools xs).bind fun a=>(bools ys).map fun b=>iW a b
 |_,_=>none
def gC:D->Option Bool
 |.non=>some false
 |.bl b=>some b
 |.int i=>some (i !=0)
 |.tup xs=>some (!xs.isEmpty)
 |.lst xs=>some (!xs.isEmpty)
 |_=>none
def qg:Ty->D->Bool
 |.tup,.tup _=>true
 |.lst,.lst _=>true
 |.str,.str _=>true
 |.bool,.bl _=>true
 |.int,.int _=>true
 |.int,.bl _=>true
 |.cC,.cC _ _=>true
 |.cC,.iJ _ _=>true
 |_,_=>false
def cN(k:D):List D->List D->Option D
 |k'::ks,v::vs=>if cH k' k then some v else cN k ks vs
 |_,_=>none
def keyOk:D->Bool
 |.str _=>true
 |.int _=>true
 |_=>false
def signs(x:Str):List D:=x.cps.toList.map fun c=>D.str ⟨#[c]⟩
def items:D->Option (List D)
 |.tup xs=>some xs
 |.lst xs=>some xs
 |.str x=>if fits x.length then some (signs x)else none
 |_=>none
def binop:Ma->D->D->Option Rv
 |.add,.int i,.int j=>some (.val (.int (i+j)))
 |.sub,.int i,.int j=>some (.val (.int (i-j)))
 |.mul,.int i,.int j=>if small i||small j then some (.val (.int (i*j)))else none
 |.mod,.int i,.int j=>if 0<j then some (.val (.int (i%j)))else none
 |.fdiv,.int i,.int j=>if 0<j/\j<1073741824 then some (.val (.int (i/j)))else none
 |.pow,.int i,.int j=>if 0<=j/\j<=64/\small i=true then some (.val (.int (i ^j.toNat)))else none
 |.add,.tup xs,.tup ys=>if fits (xs.length+ys.length)then some (.val (.tup (xs++ys)))else none
 |.add,.lst xs,.lst ys=>if fits (xs.length+ys.length)then some (.new (.lst (xs++ys)))else none
 |_,_,_=>none
def nM:D->Bool
 |.non=>true
 |_=>false
def aL:Cm->D->D->Option Bool
 |.eq,a,b=>if m9 a b then some (cH a b)else none
 |.ne,a,b=>if m9 a b then some (!cH a b)else none
 |.lt,a,b=>ltD a b
 |.gt,.int i,.int j=>some (decide (j<i))
 |.le,.int i,.int j=>some (decide (i<=j))
 |.ge,.int i,.int j=>some (decide (j<=i))
 |.isin,a,.tup xs=>if fL a xs then some (aW a xs)else none
 |.isin,a,.lst xs=>if fL a xs then some (aW a xs)else none
 |.isin,a,.cC ks _=>if keyOk a then some (aW a ks)else none
 |.isin,a,.iJ ks _=>if lH a then some (aW a ks)else none
 |.isin,.str x,.str y=>if x.length=1 then some (aW (.str x) (signs y))else none
 |.notin,a,.tup xs=>if fL a xs then some (!aW a xs)else none
 |.notin,a,.lst xs=>if fL a xs then some (!aW a xs)else none
 |.notin,a,.cC ks _=>if keyOk a then some (!aW a ks)else none
 |.notin,a,.iJ ks _=>if lH a then some (!aW a ks)else none
 |.jf,a,.non=>some (nM a)
 |.notN,a,.non=>some (!nM a)
 |_,_,_=>none
def iK:List D->Option (List (List Bool))
 |[]=>some []
 |.tup ys::r=>match bools ys with
  |some (b::bs)=>(iK r).map ((b::bs):: ·)
  |_=>none
 |_=>none
def Hx{α:Type}(f:Nat->Nat->Option Bool):PySem.W.KasT α->Option α
 |.ret a=>some a
 |.ask i j k=>match f i j with
  |some b=>Hx f (k b)
  |none=>none
def Qp(rs:List (List Bool))(i j:Nat):Option Bool:=(rs[i]?).bind fun a=>(rs[j]?).map fun b=>iW a b
def qt(xs:List D):List Nat->Option (List D)
 |[]=>some []
 |i::is=>(xs[i]?).bind fun d=>(qt xs is).map (d:: ·)
def abm(xs:List D):Option (Nat->Nat->Option Bool):=match iK xs with
 |some rs=>some (Qp rs)
 |none=>none
def nG(xs:List D):Option (List D):=
 if xs.length<2 then some xs
 else if xs.length<64 then(abm xs).bind fun f=>(Hx f (PySem.W.kas_sort xs.length)).bind fun p=>if p.size=xs.length then qt xs p.toList else none
 else none
def sZ(k v:D):List D->List D->List D
 |k'::ks,v'::vs=>(if cH k' k then v else v')::sZ k v ks vs
 |_,_=>[]
def putD(k v:D)(ks vs:List D):List D×List D:=if aW k ks then(ks,sZ k v ks vs)else(ks++[k],vs++[v])
def dictOf:List D->List D->List D->Option (List D×List D)
 |ks,vs,[]=>some (ks,vs)
 |ks,vs,.tup [k,v]::r=>if keyOk k then let p:=putD k v ks vs;dictOf p.1 p.2 r else none
 |_,_,_=>none
def aO:List D->List D->List D
 |x::xs,y::ys=>.tup [x,y]::aO xs ys
 |_,_=>[]
def bI(lo:Int):Nat->List D
 |0=>[]
 |n+1=>.int lo::bI (lo+1) n
def LQ:Bi->List D->Option Rv
 |.all,xs=>(bools xs).map fun bs=>.val (.bl (bs.all id))
 |.any,xs=>(bools xs).map fun bs=>.val (.bl (bs.any id))
 |.tuple,xs=>some (.val (.tup xs))
 |.list,xs=>some (.new (.lst xs))
 |.sorted,xs=>(nG xs).map fun ys=>.new (.lst ys)
 |.dict,xs=>(dictOf [] [] xs).map fun p=>.new (.dct p.1 p.2)
 |.len,_=>none
 |.int,_=>none
 |.copy,_=>none
def E.aC:E->Option Nat
 |.var i=>some i
 |_=>none
def pM(i:Nat)(σ:Ev):Out Rv:=
 match σ[i]? with
 |some (.val d)=>.ok (.val d) σ
 |some (.own o)=>.ok (.val o.d) (σ.set i (.val o.d))
 |_=>.bad
def aZ(i:Nat)(σ:Ev):Option D:=
 match σ[i]? with
 |some (.val d)=>some d
 |some (.own o)=>some o.d
 |some (.bor o)=>some o.d
 |_=>none
def Fq:D->Option Nat
 |.tup xs=>some xs.length
 |.lst xs=>some xs.length
 |.str x=>if fits x.length then some x.length else none
 |.cC ks _=>some ks.length
 |_=>none
def getD(d:D)(i:D):Option D:=
 match d,i with
 |.tup xs,.int i=>at? xs i
 |.lst xs,.int i=>at? xs i
 |.cC ks vs,k=>if keyOk k then cN k ks vs else none
 |.iJ ks vs,k=>if lH k then cN k ks vs else none
 |_,_=>none
def fP(d:D)(lo hi:Option Int):Option Rv:=
 match d with
 |.tup xs=>some (.val (.tup (cut xs lo hi)))
 |.lst xs=>some (.new (.lst (cut xs lo hi)))
 |_=>none
def cI(jf:Bool)(d:D):Option (Option Int):=
 match jf,d with
 |true,_=>some none
 |false,.int i=>some (some i)
 |_,_=>none
def E.jf:E->Bool
 |.noneE=>true
 |_=>false
def cQ(i:Nat)(s:Sl)(σ:Ev):Option Ev:=
 match σ[i]? with
 |some (.bor _)=>none
 |some _=>some (σ.set i s)
 |none=>none
def gF:List Nat->List D->Ev->Option Ev
 |[],[],σ=>some σ
 |i::is,d::ds,σ=>(cQ i (.val d) σ).bind (gF is ds)
 |_,_,_=>none
def bT:Tg->D->Ev->Option Ev
 |.name i,d,σ=>cQ i (.val d) σ
 |.tup is,.tup ds,σ=>gF is ds σ
 |_,_,_=>none
def cg(i:Nat)(f:Ob->Option Ob)(σ:Ev):Option Ev:=
 match σ[i]? with
 |some (.own o)=>(f o).map fun q=>σ.set i (.own q)
 |some (.bor o)=>(f o).map fun q=>σ.set i (.bor q)
 |_=>none
def rG(f:List D->Option (List D)):Ob->Option Ob
 |.lst xs=>(f xs).map .lst
 |_=>none
def pP(i v:D):Ob->Option Ob
 |.lst xs=>match i with
  |.int i=>(ix? xs.length i).map fun j=>.lst (xs.set j v)
  |_=>none
 |.dct ks vs=>if keyOk i&&fits (ks.length+1)then let p:=putD i v ks vs;some (.dct p.1 p.2)else none
 |.sdt ks vs=>if lH i&&fits (ks.length+1)then let p:=putD i v ks vs;some (.sdt p.1 p.2)else none
inductive Res where
 |ok (r:Rv) (ps:List Sl)|exc (c:Nat) (ps:List Sl)|bad
structure Cf where
 fn:Nat->List Sl->Res
 gl:Nat->Option D
 turns:Nat
def iz(i:Nat):Rv->Bool
 |.ref j=>i==j
 |_=>false
def xU:Rv->Bool
 |.tmp _=>true
 |_=>false
def argv:Rv->Rv
 |.new o=>.val o.d
 |x=>x
def enter:List Rv->Ev->Option (List Sl)
 |[],_=>some []
 |.val d::as,σ=>(enter as σ).map (.val d:: ·)
 |.new _::_,_=>none
 |.tmp o::as,σ=>if as.any xU then none else(enter as σ).map (.bor o:: ·)
 |.ref i::as,σ=>
  if as.any (iz i)then none else
  match σ[i]? with
  |some (.own o)=>(enter as σ).map (.bor o:: ·)
  |some (.bor o)=>(enter as σ).map (.bor o:: ·)
  |_=>none
def giveBack:List Rv->List Sl->Ev->Option Ev
 |[],[],σ=>some σ
 |.ref i::as,.bor o::ps,σ=>(cg i (fun _=>some o) σ).bind (giveBack as ps)
 |.ref _::_,_::_,_=>none
 |_::as,_::ps,σ=>giveBack as ps σ
 |_,_,_=>none
def qN(c:Cf)(f:Nat)(as:List Rv)(σ:Ev):Out Rv:=
 match enter as σ with
 |none=>.bad
 |some ps=>
  match c.fn f ps with
  |.ok r qs=>match giveBack as qs σ with|some σ'=>.ok r σ'|none=>.bad
  |_=>.bad
def ph(c:Cf)(f:Nat)(hs:List (Nat×D))(as:List Rv)(σ:Ev):Out Rv:=
 match enter as σ with
 |none=>.bad
 |some ps=>
  match c.fn f ps with
  |.ok r qs=>match giveBack as qs σ with|some σ'=>.ok r σ'|none=>.bad
  |.exc k qs=>match hs.lookup k,giveBack as qs σ with|some w,some σ'=>.ok (.val w) σ'|_,_=>.bad
  |.bad=>.bad
def aR(tg:Tg)(cond elt:Ev->Out Rv):List D->List D->Ev->Out (List D)
 |[],acc,σ=>.ok acc σ
 |x::xs,acc,σ=>
  match bT tg x σ with
  |none=>.bad
  |some σ₁=>(cond σ₁).cu gC fun b σ₂=>
   if b then(elt σ₂).ao fun d σ₃=>aR tg cond elt xs (acc++[d]) σ₃
   else aR tg cond elt xs acc σ₂
def dg:Option D->Bool
 |some (.lst _)=>true
 |_=>false
def iM:D->Option (List D)
 |.lst xs=>some xs
 |_=>none
def pQ(k:Nat)(y:D)(σ:Ev):Out Rv:=
 match y,aZ k σ with
 |.int i,some (.lst xs)=>if !fits xs.length then .bad else match ix? xs.length i with
  |some j=>match xs[j]?,cg k (rG fun xs=>some (xs.eraseIdx j)) σ with
   |some d,some σ'=>.ok (.val d) σ'
   |_,_=>.bad
  |none=>.bad
 |_,_=>.bad
def vX(x y:D):Option Rv:=
 match x with
 |.tup xs=>if flat y&&xs.all flat then some (.val (.int (eO y xs)))else none
 |.lst xs=>if flat y&&xs.all flat then some (.val (.int (eO y xs)))else none
 |_=>none
def Pu(x y:D):Option Rv:=
 match x with
 |.lst xs=>if flat y&&xs.all flat&&aW y xs then some (.val (.int (JS y xs)))else none
 |_=>none
def uw(d k x:D):Option D:=
 match d with
 |.cC ks vs=>if keyOk k then some ((cN k ks vs).getD x)else none
 |_=>none
def pairUp:List D->Option (List D)
 |[]=>some []
 |k::v::r=>(pairUp r).map (.tup [k,v]:: ·)
 |_=>none
def Gf:List D->Option Rv
 |[k,v]=>if lH k then some (.new (.sdt [k] [v]))else none
 |_=>none
def vM(ds:List D):Option Rv:=if ds.length<=30&& !ds.isEmpty then match Gf ds with|some r=>some r|none=>(pairUp ds).bind fun ps=>(dictOf [] [] ps).map fun p=>.new (.dct p.1 p.2)else none
def jU:Option D->Bool
 |some (.cC _ _)=>true
 |_=>false
def zF:List D->List D->List D->List D->List D×List D
 |ks,vs,k::r,v::q=>zF (putD k v ks vs).1 (putD k v ks vs).2 r q
 |ks,vs,_,_=>(ks,vs)
def MF(x:D):Ob->Option Ob
 |.dct ks vs=>match x with
  |.cC r q=>if fits (ks.length+r.length)then some (.dct (zF ks vs r q).1 (zF ks vs r q).2)else none
  |_=>none
 |_=>none
def bw:D->Option (List D)
 |.tup xs=>some xs
 |.lst xs=>some xs
 |_=>none
def Hr:D->Option (List D)
 |.iJ ks _=>some ks
 |x=>bw x
def b1(b:Bi)(x:D):Option Rv:=
 match b with
 |.list=>(Hr x).bind (LQ .list)
 |.len=>(Fq x).map fun n=>.val (.int n)
 |.int=>match x with|.bl b=>some (.val (.int (b2i b)))|.int i=>some (.val (.int i))|_=>none
 |.sorted=>(iM x).bind (LQ .sorted)
 |.copy=>match x with|.cC ks vs=>some (.new (.dct ks vs))|_=>none
 |b=>(bw x).bind (LQ b)
mutual
def ev(c:Cf):E->Ev->Out Rv
 |.var i,σ=>pM i σ
 |.con d,σ=>.ok (.val d) σ
 |.glob k,σ=>match c.gl k with|some d=>.ok (.val d) σ|none=>.bad
 |.tup es,σ=>(evs c es σ).bind fun rs σ=>lift σ ((aY rs).bind fun ds=>if fits ds.length then some (.val (.tup ds))else none)
 |.lis es,σ=>(evs c es σ).bind fun rs σ=>lift σ ((aY rs).bind fun ds=>if fits ds.length then some (.new (.lst ds))else none)
 |.op o a b,σ=>(ev c a σ).ao fun x σ=>(ev c b σ).ao fun y σ=>lift σ (binop o x y)
 |.neg a,σ=>(ev c a σ).ao fun x σ=>lift σ (match x with|.int i=>some (.val (.int (-i)))|_=>none)
 |.cmp o a b,σ=>(ev c a σ).ao fun x σ=>match b.aC with
  |some k=>lift σ ((aZ k σ).bind fun d=>(aL o x d).map fun q=>.val (.bl q))
  |none=>(ev c b σ).ao fun y σ=>lift σ ((aL o x y).map fun q=>.val (.bl q))
 |.chain o₁ o₂ a b d,σ=>(ev c a σ).ao fun x σ=>(ev c b σ).ao fun y σ=>(lift σ (aL o₁ x y)).bind fun q σ=>
   if q then(ev c d σ).ao fun z σ=>lift σ ((aL o₂ y z).map fun q=>.val (.bl q))else .ok (.val (.bl false)) σ
 |.and es,σ=>eZ c es σ
 |.or es,σ=>jy c es σ
 |.not a,σ=>(ev c a σ).cu gC fun b σ=>.ok (.val (.bl (!b))) σ
 |.ite t a b,σ=>(ev c t σ).cu gC fun q σ=>if q then ev c a σ else ev c b σ
 |.idx a i,σ=>match a.aC with
  |some k=>if (aZ k σ).isNone then .bad else(ev c i σ).ao fun y σ=>lift σ ((aZ k σ).bind fun d=>(getD d y).map Rv.val)
  |none=>(ev c a σ).ao fun x σ=>(ev c i σ).ao fun y σ=>lift σ ((getD x y).map Rv.val)
 |.slc a lo hi,σ=>(ev c a σ).ao fun x σ=>(ev c lo σ).ao fun l σ=>match cI lo.jf l with
  |none=>.bad
  |some l=>(ev c hi σ).ao fun h σ=>lift σ ((cI hi.jf h).bind fun h=>fP x l h)
 |.noneE,σ=>.ok (.val .non) σ
 |.call f as,σ=>(evs c as σ).bind fun as σ=>qN c f as σ
 |.ref i,σ=>match σ[i]? with
  |some (.own _)=>.ok (.ref i) σ
  |some (.bor _)=>.ok (.ref i) σ
  |_=>.bad
 |.rd e,σ=>ev c e σ
 |.tmp e,σ=>(ev c e σ).bind fun x σ=>lift σ (match x with|.new o=>some (.tmp o)|_=>none)
 |.isi a t,σ=>(ev c a σ).ao fun x σ=>.ok (.val (.bl (qg t x))) σ
 |.bi b a,σ=>match a.aC with
  |some k=>lift σ ((aZ k σ).bind fun d=>b1 b d)
  |none=>(ev c a σ).ao fun x σ=>lift σ (b1 b x)
 |.range1 a,σ=>(ev c a σ).ao fun x σ=>lift σ (match x with|.int n=>if fits n.toNat&&tY n then some (.val (.lst (bI 0 n.toNat)))else none|_=>none)
 |.range2 a b,σ=>(ev c a σ).ao fun x σ=>(ev c b σ).ao fun y σ=>lift σ (match x,y with|.int m,.int n=>if fits (n-m).toNat&&tY m&&tY n then some (.val (.lst (bI m (n-m).toNat)))else none|_,_=>none)
 |.zip a b,σ=>(ev c a σ).ao fun x σ=>(ev c b σ).ao fun y σ=>lift σ ((bw x).bind fun xs=>(bw y).map fun ys=>.val (.lst (aO xs ys)))
 |.count a b,σ=>(ev c a σ).ao fun x σ=>if (bw x).isNone then .bad else(ev c b σ).ao fun y σ=>lift σ (vX x y)
 |.popAt k a,σ=>if !dg (aZ k σ)then .bad else(ev c a σ).ao fun y σ=>pQ k y σ
 |.index a b,σ=>(ev c a σ).ao fun x σ=>if (iM x).isNone then .bad else(ev c b σ).ao fun y σ=>lift σ (Pu x y)
 |.get2 d k x,σ=>(ev c d σ).ao fun y σ=>if !jU (some y)then .bad else(ev c k σ).ao fun k σ=>(ev c x σ).ao fun x σ=>lift σ ((uw y k x).map Rv.val)
 |.dsp es,σ=>(evs c es σ).bind fun rs σ=>lift σ ((aY rs).bind vM)
 |.tcall f as hs,σ=>(evs c as σ).bind fun as σ=>ph c f hs as σ
 |.comp nl tg it cond elt,σ=>(ev c it σ).ao fun x σ=>match items x with
  |some xs=>match aR tg (ev c cond) (ev c elt) xs [] (List.replicate nl .un++σ)with
   |.ok ys τ=>.ok (.new (.lst ys)) (τ.drop nl)
   |_=>.bad
  |none=>.bad
 |.nil,_=>.bad
 |.cons _ _,_=>.bad
def eZ(c:Cf):E->Ev->Out Rv
 |.cons h t,σ=>match t with
  |.nil=>ev c h σ
  |t=>(ev c h σ).ao fun x σ=>match x with|.bl true=>eZ c t σ|.bl false=>.ok (.val (.bl false)) σ|_=>.bad
 |_,_=>.bad
def jy(c:Cf):E->Ev->Out Rv
 |.cons h t,σ=>match t with
  |.nil=>ev c h σ
  |t=>(ev c h σ).ao fun x σ=>match x with|.bl true=>.ok (.val (.bl true)) σ|.bl false=>jy c t σ|_=>.bad
 |_,_=>.bad
def evs(c:Cf):E->Ev->Out (List Rv)
 |.nil,σ=>.ok [] σ
 |.cons h t,σ=>(ev c h σ).bind fun x σ=>(evs c t σ).bind fun xs σ=>.ok (argv x::xs) σ
 |_,_=>.bad
end
inductive Fl where
 |next (σ:Ev)|ret (r:Rv) (σ:Ev)|brk (σ:Ev)|cont (σ:Ev)|exc (k:Nat) (σ:Ev)|bad
def Out.fl{α:Type}:Out α->(α->Ev->Fl)->Fl
 |.ok a σ,f=>f a σ
 |.exc k σ,_=>.exc k σ
 |.bad,_=>.bad
def Out.jg:Out Rv->(D->Ev->Fl)->Fl
 |.ok (.val d) σ,f=>f d σ
 |.ok (.new o) σ,f=>f o.d σ
 |.ok _ _,_=>.bad
 |.exc k σ,_=>.exc k σ
 |.bad,_=>.bad
def Out.CK(r:Out Rv)(f:Bool->Ev->Fl):Fl:=r.jg fun d σ=>match gC d with|some b=>f b σ|none=>.bad
def mD:Rv->Ev->Fl
 |.val d,σ=>.ret (.val d) σ
 |.new o,σ=>.ret (.new o) σ
 |_,_=>.bad
def Fl.seq:Fl->(Ev->Fl)->Fl
 |.next σ,f=>f σ
 |r,_=>r
def Fl.turn:Fl->(Ev->Fl)->Fl
 |.next σ,f=>f σ
 |.cont σ,f=>f σ
 |.brk σ,_=>.next σ
 |r,_=>r
def bH(tg:Tg)(b:Ev->Fl):List D->Ev->Fl
 |[],σ=>.next σ
 |x::xs,σ=>match bT tg x σ with
  |none=>.bad
  |some σ₁=>(b σ₁).turn (bH tg b xs)
def bK(t:Ev->Out Rv)(b:Ev->Fl):Nat->Ev->Fl
 |0,_=>.bad
 |n+1,σ=>(t σ).CK fun q σ=>if q then(b σ).turn (bK t b n)else .next σ
def oH:Option Ev->Fl
 |some σ=>.next σ
 |none=>.bad
def ex(c:Cf):S->Ev->Fl
 |.nil,σ=>.next σ
 |.cons h t,σ=>(ex c h σ).seq (ex c t)
 |.pass,σ=>.next σ
 |.brk,σ=>.brk σ
 |.cont,σ=>.cont σ
 |.set i e,σ=>(ev c e σ).fl fun x σ=>oH (x.wM.bind fun s=>cQ i s σ)
 |.setT is e,σ=>(ev c e σ).jg fun x σ=>oH (bT (.tup is) x σ)
 |.setIx k ix e,σ=>(ev c e σ).jg fun x σ=>if (aZ k σ).isNone then .bad else(ev c ix σ).jg fun y σ=>oH (cg k (pP y x) σ)
 |.expr e,σ=>(ev c e σ).jg fun _ σ=>.next σ
 |.append k e,σ=>if !dg (aZ k σ)then .bad else(ev c e σ).jg fun x σ=>oH (cg k (rG fun xs=>if fits (xs.length+1)then some (xs++[x])else none) σ)
 |.extend k e,σ=>if !dg (aZ k σ)then .bad else(ev c e σ).jg fun x σ=>oH ((iM x).bind fun ys=>cg k (rG fun xs=>if fits (xs.length+ys.length)then some (xs++ys)else none) σ)
 |.update k e,σ=>if !jU (aZ k σ)then .bad else(ev c e σ).jg fun x σ=>oH (cg k (MF x) σ)
 |.ret e,σ=>match e.aC with
  |some i=>match σ[i]? with
   |some (.own o)=>.ret (.new o) (σ.set i .un)
   |_=>(ev c e σ).fl mD
  |none=>(ev c e σ).fl mD
 |.ite t a b,σ=>(ev c t σ).CK fun q σ=>if q then ex c a σ else ex c b σ
 |.for_ tg it b,σ=>(ev c it σ).jg fun x σ=>match items x with
  |some xs=>bH tg (ex c b) xs σ
  |none=>.bad
 |.while_ t b,σ=>bK (ev c t) (ex c b) c.turns σ
 |.raise k,σ=>.exc k σ
 |.try_ _ _ _ _,_=>.bad
structure Fn where
 pars:Nat
 names:Nat
 body:S
def gk(c:Cf)(f:Fn)(ps:List Sl):Res:=
 if ps.length=f.pars then
  match ex c f.body (ps++List.replicate (f.names-f.pars) .un)with
  |.next σ=>.ok (.val .non) (σ.take f.pars)
  |.ret r σ=>.ok r (σ.take f.pars)
  |.exc k σ=>.exc k (σ.take f.pars)
  |_=>.bad
 else .bad
structure Pg where
 fns:List Fn
 gl:Nat->Option D
 turns:Nat
def Pg.fn(p:Pg):Nat->Nat->List Sl->Res
 |0,_,_=>.bad
 |n+1,f,ps=>match p.fns[f]? with
  |some g=>gk ⟨p.fn n,p.gl,p.turns⟩ g ps
  |none=>.bad
def Pg.cf(p:Pg)(n:Nat):Cf:=⟨p.fn n,p.gl,p.turns⟩
end Mini
end
section
namespace Mini
open PySem
theorem v_0(c:Cf)(i σ):ev c (.var i) σ=pM i σ:=rfl
theorem v_1(c:Cf)(d σ):ev c (.con d) σ=.ok (.val d) σ:=rfl
theorem Yz(c:Cf)(k σ):ev c (.glob k) σ=match c.gl k with|some d=>.ok (.val d) σ|none=>.bad:=rfl
theorem v_3(c:Cf)(es σ):ev c (.tup es) σ=(evs c es σ).bind fun rs σ=>lift σ ((aY rs).bind fun ds=>if fits ds.length then some (.val (.tup ds))else none):=rfl
theorem v_4(c:Cf)(es σ):ev c (.lis es) σ=(evs c es σ).bind fun rs σ=>lift σ ((aY rs).bind fun ds=>if fits ds.length then some (.new (.lst ds))else none):=rfl
theorem Yy(c:Cf)(o a b σ):ev c (.op o a b) σ=(ev c a σ).ao fun x σ=>(ev c b σ).ao fun y σ=>lift σ (binop o x y):=rfl
theorem v_6(c:Cf)(a σ):ev c (.neg a) σ=(ev c a σ).ao fun x σ=>lift σ (match x with|.int i=>some (.val (.int (-i)))|_=>none):=rfl
theorem Xf(c:Cf)(o a b σ):ev c (.cmp o a b) σ=(ev c a σ).ao fun x σ=>match b.aC with
  |some k=>lift σ ((aZ k σ).bind fun d=>(aL o x d).map fun q=>.val (.bl q))
  |none=>(ev c b σ).ao fun y σ=>lift σ ((aL o x y).map fun q=>.val (.bl q)):=rfl
theorem Yx(c:Cf)(o₁ o₂ a b d σ):ev c (.chain o₁ o₂ a b d) σ=(ev c a σ).ao fun x σ=>(ev c b σ).ao fun y σ=>(lift σ (aL o₁ x y)).bind fun q σ=>
   if q then(ev c d σ).ao fun z σ=>lift σ ((aL o₂ y z).map fun q=>.val (.bl q))else .ok (.val (.bl false)) σ:=rfl
theorem Ms(c:Cf)(es σ):ev c (.and es) σ=eZ c es σ:=rfl
theorem uQ(c:Cf)(es σ):ev c (.or es) σ=jy c es σ:=rfl
theorem G5(c:Cf)(a σ):ev c (.not a) σ=(ev c a σ).cu gC fun b σ=>.ok (.val (.bl (!b))) σ:=rfl
theorem G4(c:Cf)(t a b σ):ev c (.ite t a b) σ=(ev c t σ).cu gC fun q σ=>if q then ev c a σ else ev c b σ:=rfl
theorem DG(c:Cf)(a i σ):ev c (.idx a i) σ=match a.aC with
  |some k=>if (aZ k σ).isNone then .bad else(ev c i σ).ao fun y σ=>lift σ ((aZ k σ).bind fun d=>(getD d y).map Rv.val)
  |none=>(ev c a σ).ao fun x σ=>(ev c i σ).ao fun y σ=>lift σ ((getD x y).map Rv.val):=rfl
theorem Mz(c:Cf)(a lo hi σ):ev c (.slc a lo hi) σ=(ev c a σ).ao fun x σ=>(ev c lo σ).ao fun l σ=>match cI lo.jf l with
  |none=>.bad
  |some l=>(ev c hi σ).ao fun h σ=>lift σ ((cI hi.jf h).bind fun h=>fP x l h):=rfl
theorem Tf(c:Cf)(σ):ev c .noneE σ=.ok (.val .non) σ:=rfl
theorem My(c:Cf)(f as σ):ev c (.call f as) σ=(evs c as σ).bind fun as σ=>qN c f as σ:=rfl
theorem G3(c:Cf)(i σ):ev c (.ref i) σ=match σ[i]? with
  |some (.own _)=>.ok (.ref i) σ
  |some (.bor _)=>.ok (.ref i) σ
  |_=>.bad:=rfl
theorem GZ(c:Cf)(e σ):ev c (.rd e) σ=ev c e σ:=rfl
theorem Mx(c:Cf)(e σ):ev c (.tmp e) σ=(ev c e σ).bind fun x σ=>lift σ (match x with|.new o=>some (.tmp o)|_=>none):=rfl
theorem Mw(c:Cf)(a t σ):ev c (.isi a t) σ=(ev c a σ).ao fun x σ=>.ok (.val (.bl (qg t x))) σ:=rfl
theorem mj(c:Cf)(b a σ):ev c (.bi b a) σ=match a.aC with
  |some k=>lift σ ((aZ k σ).bind fun d=>b1 b d)
  |none=>(ev c a σ).ao fun x σ=>lift σ (b1 b x):=rfl
theorem Mv(c:Cf)(a σ):ev c (.range1 a) σ=(ev c a σ).ao fun x σ=>lift σ (match x with|.int n=>if fits n.toNat&&tY n then some (.val (.lst (bI 0 n.toNat)))else none|_=>none):=rfl
theorem Te(c:Cf)(a b σ):ev c (.range2 a b) σ=(ev c a σ).ao fun x σ=>(ev c b σ).ao fun y σ=>lift σ (match x,y with|.int m,.int n=>if fits (n-m).toNat&&tY m&&tY n then some (.val (.lst (bI m (n-m).toNat)))else none|_,_=>none):=rfl
theorem GX(c:Cf)(a b σ):ev c (.zip a b) σ=(ev c a σ).ao fun x σ=>(ev c b σ).ao fun y σ=>lift σ ((bw x).bind fun xs=>(bw y).map fun ys=>.val (.lst (aO xs ys))):=rfl
theorem Mu(c:Cf)(a b σ):ev c (.count a b) σ=(ev c a σ).ao fun x σ=>if (bw x).isNone then .bad else(ev c b σ).ao fun y σ=>lift σ (vX x y):=rfl
theorem Mt(c:Cf)(k a σ):ev c (.popAt k a) σ=if !dg (aZ k σ)then .bad else(ev c a σ).ao fun y σ=>pQ k y σ:=rfl
theorem jZ(c:Cf)(nl tg it cond elt σ):ev c (.comp nl tg it cond elt) σ=(ev c it σ).ao fun x σ=>match items x with
  |some xs=>match aR tg (ev c cond) (ev c elt) xs [] (List.replicate nl .un++σ)with
   |.ok ys τ=>.ok (.new (.lst ys)) (τ.drop nl)
   |_=>.bad
  |none=>.bad:=rfl
theorem agI(c:Cf)(a b σ):ev c (.index a b) σ=(ev c a σ).ao fun x σ=>if (iM x).isNone then .bad else(ev c b σ).ao fun y σ=>lift σ (Pu x y):=rfl
theorem ac7(c:Cf)(d k x σ):ev c (.get2 d k x) σ=(ev c d σ).ao fun y σ=>if !jU (some y)then .bad else(ev c k σ).ao fun k σ=>(ev c x σ).ao fun x σ=>lift σ ((uw y k x).map Rv.val):=rfl
theorem ac6(c:Cf)(es σ):ev c (.dsp es) σ=(evs c es σ).bind fun rs σ=>lift σ ((aY rs).bind vM):=rfl
theorem agH(c:Cf)(f as hs σ):ev c (.tcall f as hs) σ=(evs c as σ).bind fun as σ=>ph c f hs as σ:=rfl
theorem x_0(c:Cf)(σ):ex c .nil σ=.next σ:=rfl
theorem x_1(c:Cf)(h t σ):ex c (.cons h t) σ=(ex c h σ).seq (ex c t):=rfl
theorem x_2(c:Cf)(σ):ex c .pass σ=.next σ:=rfl
theorem x_3(c:Cf)(σ):ex c .brk σ=.brk σ:=rfl
theorem x_4(c:Cf)(σ):ex c .cont σ=.cont σ:=rfl
theorem x_5(c:Cf)(i e σ):ex c (.set i e) σ=(ev c e σ).fl fun x σ=>oH (x.wM.bind fun s=>cQ i s σ):=rfl
theorem x_6(c:Cf)(is e σ):ex c (.setT is e) σ=(ev c e σ).jg fun x σ=>oH (bT (.tup is) x σ):=rfl
theorem x_7(c:Cf)(k ix e σ):ex c (.setIx k ix e) σ=(ev c e σ).jg fun x σ=>if (aZ k σ).isNone then .bad else(ev c ix σ).jg fun y σ=>oH (cg k (pP y x) σ):=rfl
theorem x_8(c:Cf)(e σ):ex c (.expr e) σ=(ev c e σ).jg fun _ σ=>.next σ:=rfl
theorem x_9(c:Cf)(k e σ):ex c (.append k e) σ=if !dg (aZ k σ)then .bad else(ev c e σ).jg fun x σ=>oH (cg k (rG fun xs=>if fits (xs.length+1)then some (xs++[x])else none) σ):=rfl
theorem agG(c:Cf)(k e σ):ex c (.extend k e) σ=if !dg (aZ k σ)then .bad else(ev c e σ).jg fun x σ=>oH ((iM x).bind fun ys=>cg k (rG fun xs=>if fits (xs.length+ys.length)then some (xs++ys)else none) σ):=rfl
theorem yI(c:Cf)(e σ):ex c (.ret e) σ=match e.aC with
  |some i=>match σ[i]? with
   |some (.own o)=>.ret (.new o) (σ.set i .un)
   |_=>(ev c e σ).fl mD
  |none=>(ev c e σ).fl mD:=rfl
theorem ac5(c:Cf)(t a b σ):ex c (.ite t a b) σ=(ev c t σ).CK fun q σ=>if q then ex c a σ else ex c b σ:=rfl
theorem ac4(c:Cf)(tg it b σ):ex c (.for_ tg it b) σ=(ev c it σ).jg fun x σ=>match items x with
  |some xs=>bH tg (ex c b) xs σ
  |none=>.bad:=rfl
theorem ac3(c:Cf)(t b σ):ex c (.while_ t b) σ=bK (ev c t) (ex c b) c.turns σ:=rfl
theorem ac2(c:Cf)(k σ):ex c (.raise k) σ=.exc k σ:=rfl
theorem agF(c:Cf)(k e σ):ex c (.update k e) σ=if !jU (aZ k σ)then .bad else(ev c e σ).jg fun x σ=>oH (cg k (MF x) σ):=rfl
theorem ahl(i j):cH (.int i) (.int j)=(i==j):=rfl
theorem ahk(x y):cH (.str x) (.str y)=decide (x=y):=rfl
theorem ahj(a b):cH (.bl a) (.bl b)=(a==b):=rfl
theorem ahi(a j):cH (.bl a) (.int j)=(b2i a==j):=rfl
theorem ahh(i b):cH (.int i) (.bl b)=(i==b2i b):=rfl
theorem ahg(xs ys):cH (.tup xs) (.tup ys)=iZ xs ys:=rfl
theorem ahf(xs ys):cH (.lst xs) (.lst ys)=iZ xs ys:=rfl
theorem ahe:cH .non .non=true:=rfl
theorem ahd(a):cH .non (.bl a)=false:=rfl
theorem ahc(i):cH .non (.int i)=false:=rfl
theorem afz(x):cH .non (.str x)=false:=rfl
theorem afy(a):cH (.bl a) .non=false:=rfl
theorem afx(a x):cH (.bl a) (.str x)=false:=rfl
theorem afw(i):cH (.int i) .non=false:=rfl
theorem afv(i x):cH (.int i) (.str x)=false:=rfl
theorem afu(x):cH (.str x) .non=false:=rfl
theorem aft(x a):cH (.str x) (.bl a)=false:=rfl
theorem afs(x i):cH (.str x) (.int i)=false:=rfl
theorem aiH(a b):aL .eq a b=if m9 a b then some (cH a b)else none:=rfl
theorem aiG(a b):aL .ne a b=if m9 a b then some (!cH a b)else none:=rfl
theorem aiF(a b):aL .lt a b=ltD a b:=rfl
end Mini
end
section
namespace Mini
open PySem L2
def Lw(K:QQq)(H:Hp)(a:Addr)(xs:List V):Prop:=
 (∃o,H a=some (.frz o (.lst xs)))\/
  ∃(o:Obj)(its:Array Value)(n:Nat),K.lookup a=some o/\o.cls=.type "list"/\o.dict=none/\o.data=.seq its n/\its.size<=sizeLine/\Vals xs its.toList
theorem Lw.sq{K:QQq}{H:Hp}{a:Addr}{xs:List V}(h:Lw K H a xs):iH K H a xs:=by
 rcases h with ⟨o,h⟩|h
 ·exact .inl (.inr ⟨o,h⟩)
 ·exact .inr h
def cL:Key->D
 |.inl i=>.int i
 |.inr x=>.str x
def dY(k:SK):D:=.tup [.tup (k.1.map .bl),.int k.2]
mutual
def bF(K:QQq)(H:Hp):D->V->Prop
 |.non,v=>v=.non
 |.bl b,v=>v=.bl b
 |.int i,v=>v=.int i
 |.str x,v=>v=.str x
 |.tup ds,v=>∃a vs,v=.ref a/\gQ K H a vs/\aq K H ds vs
 |.lst ds,v=>∃a vs,v=.ref a/\Lw K H a vs/\aq K H ds vs
 |.cC ks ds,v=>∃a o kvs,v=.ref a/\H a=some (.frz o (.dK kvs))/\ks=kvs.map (fun p=>cL p.1)/\aq K H ds (kvs.map (·.2))
 |.iJ ks ds,v=>∃a o xs,v=.ref a/\H a=some (.frz o (.dS xs))/\ks=xs.map (fun x=>dY x.1)/\(∀x∈xs,cA K H x.1 x.2.1)/\aq K H ds (xs.map (·.2.2))
def aq(K:QQq)(H:Hp):List D->List V->Prop
 |[],vs=>vs=[]
 |d::ds,vs=>∃v r,vs=v::r/\bF K H d v/\aq K H ds r
end
structure bQ(H H':Hp):Prop where
 tups:∀b xs,H b=some (.tup xs)->H' b=some (.tup xs)
 frzs:∀b o u,H b=some (.frz o u)->H' b=some (.frz o u)
theorem bQ.refl(H:Hp):bQ H H:=⟨fun _ _ h=>h,fun _ _ _ h=>h⟩
theorem bQ.trans{H H1 H2:Hp}(a:bQ H H1)(b:bQ H1 H2):bQ H H2:=⟨fun c xs h=>b.tups c xs (a.tups c xs h),fun c o u h=>b.frzs c o u (a.frzs c o u h)⟩
section
variable{K:QQq}{H H':Hp}{a:Addr}
theorem bQ.DX(p:bQ H H'){xs:List V}(h:gQ K H a xs):gQ K H' a xs:=by
 rcases h with (h|⟨o,h⟩)|h
 ·exact .inl (.inl (p.tups _ _ h))
 ·exact .inl (.inr ⟨o,p.frzs _ _ _ h⟩)
 ·exact .inr h
theorem bQ.Ws(p:bQ H H'){xs:List V}(h:Lw K H a xs):Lw K H' a xs:=by
 rcases h with ⟨o,h⟩|h
 ·exact .inl ⟨o,p.frzs _ _ _ h⟩
 ·exact .inr h
mutual
theorem bF.mono(p:bQ H H'):∀{d:D}{v:V},bF K H d v->bF K H' d v
 |.non,_,h=>h
 |.bl _,_,h=>h
 |.int _,_,h=>h
 |.str _,_,h=>h
 |.tup ds,v,h=>by
  unfold bF at h⊢
  obtain⟨a,vs,e,s,l⟩:=h
  exact⟨a,vs,e,p.DX s,aq.mono p l⟩
 |.lst ds,v,h=>by
  unfold bF at h⊢
  obtain⟨a,vs,e,s,l⟩:=h
  exact⟨a,vs,e,p.Ws s,aq.mono p l⟩
 |.cC ks ds,v,h=>by
  unfold bF at h⊢
  obtain⟨a,o,kvs,e,s,k,l⟩:=h
  exact⟨a,o,kvs,e,p.frzs _ _ _ s,k,aq.mono p l⟩
 |.iJ ks ds,v,h=>by
  unfold bF at h⊢
  obtain⟨a,o,xs,e,s,k,ka,l⟩:=h
  exact⟨a,o,xs,e,p.frzs _ _ _ s,k,fun x hx=>let ⟨b,q1,q2⟩:=ka x hx;⟨b,p.DX q1,p.DX q2⟩,aq.mono p l⟩
theorem aq.mono(p:bQ H H'):∀{ds:List D}{vs:List V},aq K H ds vs->aq K H' ds vs
 |[],_,h=>by unfold aq at h⊢;exact h
 |d::ds,vs,h=>by
  unfold aq at h⊢
  obtain⟨v,r,e,s,l⟩:=h
  exact⟨v,r,e,bF.mono p s,aq.mono p l⟩
end
theorem aq.bB{vs:List V}:aq K H [] vs↔vs=[]:=by unfold aq;exact Iff.rfl
theorem aq.aK{d:D}{ds:List D}{vs:List V}:aq K H (d::ds) vs↔ ∃v r,vs=v::r/\bF K H d v/\aq K H ds r:=by
 constructor
 ·intro h;unfold aq at h;exact h
 ·intro h;unfold aq;exact h
theorem aq.cZ{d:D}{ds:List D}{v:V}{vs:List V}(h:bF K H d v)(t:aq K H ds vs):aq K H (d::ds) (v::vs):=aq.aK.mpr ⟨v,vs,rfl,h,t⟩
theorem aq.eY:aq K H [] []:=aq.bB.mpr rfl
theorem aq.length:∀{ds:List D}{vs:List V},aq K H ds vs->ds.length=vs.length
 |[],_,h=>by rw[aq.bB.mp h];rfl
 |d::ds,vs,h=>by
  obtain⟨v,r,rfl,_,t⟩:=aq.aK.mp h
  simp[aq.length t]
theorem aq.get:∀{ds:List D}{vs:List V}{i:Nat}{d:D},aq K H ds vs->ds[i]? =some d->∃v,vs[i]? =some v/\bF K H d v
 |[],_,_,_,_,e=>by simp at e
 |d::ds,vs,i,d',h,e=>by
  obtain⟨v,r,rfl,hd,t⟩:=aq.aK.mp h
  cases i with
  |zero=>simp at e;subst e;exact⟨v,rfl,hd⟩
  |succ i=>obtain⟨w,q,z⟩:=aq.get (i:=i) t (by simpa using e);exact⟨w,by simpa using q,z⟩
theorem aq.append:∀{ds es:List D}{vs ws:List V},aq K H ds vs->aq K H es ws->aq K H (ds++es) (vs++ws)
 |[],_,_,_,h,t=>by rw[aq.bB.mp h];exact t
 |d::ds,es,vs,ws,h,t=>by
  obtain⟨v,r,rfl,hd,q⟩:=aq.aK.mp h
  exact aq.cZ hd (aq.append q t)
theorem aq.take:∀{ds:List D}{vs:List V}(n:Nat),aq K H ds vs->aq K H (ds.take n) (vs.take n)
 |_,_,0=>fun _=>aq.eY
 |[],_,_+1=>fun h=>by rw[aq.bB.mp h];exact aq.eY
 |d::ds,vs,n+1=>fun h=>by
  obtain⟨v,r,rfl,hd,q⟩:=aq.aK.mp h
  exact aq.cZ hd (aq.take n q)
theorem aq.drop:∀{ds:List D}{vs:List V}(n:Nat),aq K H ds vs->aq K H (ds.drop n) (vs.drop n)
 |_,_,0=>fun h=>h
 |[],_,_+1=>fun h=>by rw[aq.bB.mp h];exact aq.eY
 |d::ds,vs,n+1=>fun h=>by
  obtain⟨v,r,rfl,hd,q⟩:=aq.aK.mp h
  exact aq.drop n q
theorem aq.eraseIdx:∀{ds:List D}{vs:List V}(n:Nat),aq K H ds vs->aq K H (ds.eraseIdx n) (vs.eraseIdx n)
 |[],_,_=>fun h=>by rw[aq.bB.mp h];exact aq.eY
 |d::ds,vs,0=>fun h=>by
  obtain⟨v,r,rfl,hd,q⟩:=aq.aK.mp h
  exact q
 |d::ds,vs,n+1=>fun h=>by
  obtain⟨v,r,rfl,hd,q⟩:=aq.aK.mp h
  exact aq.cZ hd (aq.eraseIdx n q)
theorem aq.set{d:D}{v:V}(hd:bF K H d v):∀{ds:List D}{vs:List V}(n:Nat),aq K H ds vs->aq K H (ds.set n d) (vs.set n v)
 |[],_,_=>fun h=>by rw[aq.bB.mp h];exact aq.eY
 |e::ds,vs,0=>fun h=>by
  obtain⟨w,r,rfl,he,q⟩:=aq.aK.mp h
  exact aq.cZ hd q
 |e::ds,vs,n+1=>fun h=>by
  obtain⟨w,r,rfl,he,q⟩:=aq.aK.mp h
  exact aq.cZ he (aq.set hd n q)
end
def isOwn:Sl->Option Ob
 |.own o=>some o
 |.bor o=>some o
 |_=>none
def Gy(K:QQq)(H:Hp):Ob->HO->Prop
 |.lst xs,u=>∃vs,u=.lst vs/\aq K H xs vs
 |.dct ks ds,u=>∃kvs,u=.dK kvs/\ks=kvs.map (fun p=>cL p.1)/\aq K H ds (kvs.map (·.2))
 |.sdt ks ds,u=>∃xs,u=.dS xs/\ks=xs.map (fun x=>dY x.1)/\(∀x∈xs,cA K H x.1 x.2.1)/\aq K H ds (xs.map (·.2.2))
theorem Gy.mono{K:QQq}{H H':Hp}(p:bQ H H'):∀{o:Ob}{u:HO},Gy K H o u->Gy K H' o u
 |.lst _,_,⟨vs,e,l⟩=>⟨vs,e,l.mono p⟩
 |.dct _ _,_,⟨kvs,e,k,l⟩=>⟨kvs,e,k,l.mono p⟩
 |.sdt _ _,_,⟨xs,e,k,ka,l⟩=>⟨xs,e,k,fun x hx=>let ⟨b,q1,q2⟩:=ka x hx;⟨b,p.DX q1,p.DX q2⟩,l.mono p⟩
structure Mg(u:HO):Prop where
 tup:∀xs,u≠ .tup xs
 frz:∀q w,u≠ .frz q w
 tbl:∀ps,u≠ .tbl ps
 own:∀x,u≠ .own x
theorem Gy.tO{K:QQq}{H:Hp}:∀{o:Ob}{u:HO},Gy K H o u->Mg u
 |.lst _,_,⟨vs,e,_⟩=>by
  subst e
  constructor
  all_goals (intros;intro z;cases z)
 |.dct _ _,_,⟨kvs,e,_⟩=>by
  subst e
  constructor
  all_goals (intros;intro z;cases z)
 |.sdt _ _,_,⟨xs,e,_⟩=>by
  subst e
  constructor
  all_goals (intros;intro z;cases z)
def jd(K:QQq)(H:Hp)(o:Ob)(a:Addr):Prop:=∃u,H a=some u/\Gy K H o u
def Qy(K:QQq)(H:Hp):Sl->Option V->Prop
 |.un,_=>True
 |.val d,o=>∃v,o=some v/\bF K H d v
 |.own q,o=>∃a,o=some (.ref a)/\jd K H q a
 |.bor q,o=>∃a,o=some (.ref a)/\jd K H q a
def aN(env:Ev)(σ:St)(i:Nat)(a:Addr):Prop:=(∃s xs,env[i]? =some s/\isOwn s=some xs)/\σ[i]? =some (some (.ref a))
structure Sat(K:QQq)(env:Ev)(σ:St)(H:Hp):Prop where
 len:env.length=σ.length
 sl:∀(i:Nat)s,env[i]? =some s->Qy K H s (σ[i]?).join
 ne:∀(i j:Nat)a,aN env σ i a->aN env σ j a->i=j
structure Nx(K:QQq)(env:Ev)(σ:St)(H:Hp)(env':Ev)(H':Hp):Prop where
 eX:Sat K env' σ H'
 sub:∀(i:Nat)a,aN env' σ i a->aN env σ i a
 pers:bQ H H'
 keep:∀b u,H b=some u->(∀i,¬aN env σ i b)->H' b=some u
 dom:∀b,H' b=none->H b=none
 bors:∀(i:Nat)xs,env[i]? =some (.bor xs)->∃ys,env'[i]? =some (.bor ys)
section
variable{K:QQq}{env env1 env2:Ev}{σ:St}{H H1 H2:Hp}
theorem Nx.refl(h:Sat K env σ H):Nx K env σ H env H:=⟨h,fun _ _ z=>z,bQ.refl H,fun _ _ z _=>z,fun _ z=>z,fun _ xs e=>⟨xs,e⟩⟩
theorem Nx.trans(a:Nx K env σ H env1 H1)(b:Nx K env1 σ H1 env2 H2):Nx K env σ H env2 H2:=
 ⟨b.eX,fun i c z=>a.sub i c (b.sub i c z),a.pers.trans b.pers,fun c vs z n=>b.keep c vs (a.keep c vs z n) fun i w=>n i (a.sub i c w),fun c z=>a.dom c (b.dom c z),fun i xs e=>let ⟨ys,e1⟩:=a.bors i xs e;b.bors i ys e1⟩
theorem Sat.own(h:Sat K env σ H){i:Nat}{a:Addr}(o:aN env σ i a):∃q,jd K H q a:=by
 obtain⟨⟨s,xs,e1,e2⟩,e3⟩:=o
 have q:=h.sl i s e1
 rw[e3]at q
 cases s with
 |un=>simp[isOwn]at e2
 |val d=>simp[isOwn]at e2
 |own ys=>obtain⟨b,e,z⟩:=q;cases e;exact⟨ys,z⟩
 |bor ys=>obtain⟨b,e,z⟩:=q;cases e;exact⟨ys,z⟩
theorem Sat.j8(h:Sat K env σ H){a:Addr}(hn:H a=none)(i:Nat):¬aN env σ i a:=fun o=>by
 obtain⟨q,u,z,_⟩:=h.own o
 rw[hn]at z;cases z
end
def gf(K:QQq)(σ:St)(H₀ H:Hp):Rv->V->Prop
 |.val d,v=>bF K H d v
 |.new q,v=>∃a,v=.ref a/\jd K H q a/\H₀ a=none
 |.tmp q,v=>∃a,v=.ref a/\jd K H q a/\H₀ a=none
 |.ref i,v=>σ[i]? =some (some v)
abbrev Wi:=Nat->Ev->St->Hp->Prop
def tM(K:QQq)(W:Wi)(env:Ev)(r:Out Rv):TE:=fun σ H Q=>Sat K env σ H/\match r with
 |.ok x env'=>∀v H',Nx K env σ H env' H'->gf K σ H H' x v->Q v H'
 |.exc c env'=>∀H',Nx K env σ H env' H'->W c env' σ H'
 |.bad=>False
def tD(K:QQq)(W:Wi)(env:Ev)(r:Out Rv):TE:=fun σ H Q=>Sat K env σ H/\match r with
 |.ok (.val d) env'=>∀v H',Nx K env σ H env' H'->bF K H' d v->Q v H'
 |.ok (.new q) env'=>∀v H',Nx K env σ H env' H'->bF K H' q.d v->Q v H'
 |.ok _ _=>False
 |.exc c env'=>∀H',Nx K env σ H env' H'->W c env' σ H'
 |.bad=>False
def tT(K:QQq)(W:Wi)(env:Ev)(r:Out Rv):TT:=fun σ H Q=>Sat K env σ H/\match r with
 |.ok x env'=>∃d b,x.jb=some d/\gC d=some b/\∀H',Nx K env σ H env' H'->Q b H'
 |.exc c env'=>∀H',Nx K env σ H env' H'->W c env' σ H'
 |.bad=>False
theorem PE.imp{X:Cx}{e:Expr}{t t':TE}(h:PE X e t)(i:∀σ H Q,t' σ H Q->t σ H Q):PE X e t':=fun QLq s σ H Q I q=>h QLq s σ H Q I (i σ H Q q)
theorem PT.imp{X:Cx}{e:Expr}{t t':TT}(h:PT X e t)(i:∀σ H Q,t' σ H Q->t σ H Q):PT X e t':=fun QLq s σ H Q I q=>h QLq s σ H Q I (i σ H Q q)
theorem _root_.L2.bU.there{P:Program}{w:World}{H:Hp}{h:Heap}{a:Addr}{o:HO}(x:bU P w H h a o):∃u,h.get? a=some u:=by
 cases o with
 |lst xs=>obtain⟨_,_,_,_,e⟩:=x;exact⟨_,e⟩
 |tup xs=>obtain⟨_,_,_,p⟩:=x;obtain⟨o,e,_⟩:=p;exact⟨_,e⟩
 |dK kvs=>obtain⟨_,_,_,_,o,_,_,e,_⟩:=x;exact⟨_,e⟩
 |dT kvs=>obtain⟨_,_,_,_,o,_,_,e,_⟩:=x;exact⟨_,e⟩
 |dS xs=>obtain⟨_,_,_,_,o,_,_,_,e,_⟩:=x;exact⟨_,e⟩
 |set S n=>obtain⟨o,_,_,_,e,_⟩:=x;exact⟨_,e⟩
 |ins C dx fs=>obtain⟨_,_,_,e,_⟩:=x;exact⟨_,e⟩
 |own y=>obtain⟨_,e⟩:=x;exact⟨_,e⟩
 |xd fs=>obtain⟨_,⟨_,_,_,e,_⟩,_⟩:=x;exact⟨_,e⟩
 |rng lo hi=>obtain⟨_,_,_,e⟩:=x;exact⟨_,e⟩
 |frz ob u=>obtain⟨e,_⟩:=x;exact⟨_,e⟩
 |tbl ps=>exact⟨_,show h.get? a=some _ from x⟩
 |met f y=>exact⟨_,show h.get? a=some _ from x⟩
 |ext φ=>obtain⟨_,⟨_,e⟩,_⟩:=x;exact⟨_,e⟩
theorem Inv.freeze{X:Cx}{QLq:QQz}{σ:St}{H:Hp}{s:Shared}{a:Addr}{u:HO}(I:Inv X QLq σ H s)(h:H a=some u)(hu:Mg u):
  ∃o,Inv X QLq σ (upd H a (.frz o u)) s:=by
 obtain⟨o,ho⟩:=(I.hok a _ h).there
 refine⟨o,?_⟩
 have ne:∀b w,H b=some w->w≠u->b≠a:=fun b w q n z=>by subst z;rw[h]at q;cases q;exact n rfl
 have stay:∀b w,b≠a->H b=some w->upd H a (.frz o u) b=some w:=fun b w n q=>by rw[aG n];exact q
 have hok:kI X.prog X.w (upd H a (.frz o u)) s.heap:=fun b w q=>by
  have st:∀c v,bU X.prog X.w H s.heap c v->bU X.prog X.w (upd H a (.frz o u)) s.heap c v:=fun c v z=>
   z.stay (fun c v _ q=>q) (fun e q=>stay e _ (ne e _ q (hu.own c).symm) q) fun e xs q=>stay e _ (ne e _ q (hu.tup xs).symm) q
  by_cases hb:b=a
  ·subst hb
   rw[aU]at q
   cases q
   exact⟨ho,st _ _ (I.hok b _ h)⟩
  ·rw[aG hb]at q
   exact st _ _ (I.hok b w q)
 have J:=I.step (h':=s.heap) (H':=upd H a (.frz o u)) (g':=s.gens) (t':=s.toks) (d':=s.drawn) (ch:=[]) (fun _ z=>nomatch z)
  (fun b o _ _ _ q _=>q) (fun b o _ _ _ q _=>⟨o.slots,q⟩) (fun b o _ q n=>by
   have hb:b≠a:=fun z=>by subst z;rw[h]at n;cases n
   rw[aG hb];exact n) (fun b o _ q=>⟨o,q⟩)
  (fun b xs q=>stay b _ (ne b _ q (hu.tup xs).symm) q) (fun b o w q=>stay b _ (ne b _ q (hu.frz o w).symm) q) (fun b ps q=>⟨#[],by rw[stay b _ (ne b _ q (hu.tbl ps).symm) q];simp⟩) (fun m q=>q) hok I.bare
 exact J
section
variable{K:QQq}{env:Ev}{σ:St}{H H1:Hp}{a:Addr}{u:HO}{o:Obj}{q:Ob}
theorem gm(h:H a=some u)(hu:Mg u):bQ H (upd H a (.frz o u)):=by
 refine⟨fun b xs q=>?_,fun b o' w q=>?_⟩
 ·rw[aG (fun z=>by subst z;rw[h]at q;cases q;exact hu.tup xs rfl)];exact q
 ·rw[aG (fun z=>by subst z;rw[h]at q;cases q;exact hu.frz o' w rfl)];exact q
theorem Gy.den{H':Hp}(h:Gy K H' q u)(e:H' a=some (.frz o u)):bF K H' q.d (.ref a):=by
 cases q with
 |lst xs=>
  obtain⟨vs,rfl,l⟩:=h
  show bF K H' (.lst xs) (.ref a)
  unfold bF
  exact⟨a,vs,rfl,.inl ⟨o,e⟩,l⟩
 |dct ks ds=>
  obtain⟨kvs,rfl,k,l⟩:=h
  show bF K H' (.cC ks ds) (.ref a)
  unfold bF
  exact⟨a,o,kvs,rfl,e,k,l⟩
 |sdt ks ds=>
  obtain⟨xs,rfl,k,ka,l⟩:=h
  show bF K H' (.iJ ks ds) (.ref a)
  unfold bF
  exact⟨a,o,xs,rfl,e,k,ka,l⟩
theorem Qy.keep{H':Hp}{sl:Sl}{v:Option V}(p:bQ H H')(h:Qy K H sl v)(k:∀b u,isOwn sl≠none->v=some (.ref b)->H b=some u->H' b=some u):Qy K H' sl v:=by
 cases sl with
 |un=>trivial
 |val d=>obtain⟨v,e1,e2⟩:=h;exact⟨v,e1,e2.mono p⟩
 |own q=>
  obtain⟨b,e1,w,e2,e3⟩:=h
  exact⟨b,e1,w,k b w (by simp[isOwn]) e1 e2,e3.mono p⟩
 |bor q=>
  obtain⟨b,e1,w,e2,e3⟩:=h
  exact⟨b,e1,w,k b w (by simp[isOwn]) e1 e2,e3.mono p⟩
theorem vf{i:Nat}{sl:Sl}{b:Addr}(e:env[i]? =some sl)(ho:isOwn sl≠none)(ev:(σ[i]?).join=some (.ref b)):aN env σ i b:=by
 refine⟨?_,?_⟩
 ·cases q:isOwn sl with
  |none=>exact absurd q ho
  |some o=>exact⟨sl,o,e,q⟩
 ·cases w:σ[i]? with
  |none=>rw[w]at ev;cases ev
  |some y=>rw[w]at ev;simp at ev;rw[ev]
theorem Sat.keep{H':Hp}(S:Sat K env σ H)(p:bQ H H')(k:∀i b u,aN env σ i b->H b=some u->H' b=some u):Sat K env σ H':=
 ⟨S.len,fun i sl e=>(S.sl i sl e).keep p fun b u ho ev hb=>k i b u (vf e ho ev) hb,S.ne⟩
theorem Sat.freeze(S:Sat K env σ H)(h:H a=some u)(hu:Mg u)(no:∀i,¬aN env σ i a):Sat K env σ (upd H a (.frz o u)):=
 S.keep (gm h hu) fun i b w ow hb=>by
  have nb:b≠a:=fun z=>by subst z;exact no i ow
  rw[aG nb];exact hb
end
theorem Ip{X:Cx}{W:Wi}{e:Expr}{env:Ev}{r:Out Rv}(h:PE X e (tM X.K W env r)):PE X e (tD X.K W env r):=by
 intro QLq s σ H Q I q
 obtain⟨S,q⟩:=q
 cases r with
 |bad=>exact q.elim
 |exc c env'=>exact h QLq s σ H Q I ⟨S,q⟩
 |ok x env'=>
  cases x with
  |val d=>exact h QLq s σ H Q I ⟨S,q⟩
  |ref i=>exact False.elim q
  |tmp xs=>exact False.elim q
  |new xs=>
   refine b8 (h QLq s σ H (fun v H'=>Nx X.K env σ H env' H'/\gf X.K σ H H' (.new xs) v) I ⟨S,fun v H' n k=>⟨n,k⟩⟩) fun u s1⟨v,H1,I1,r1,N,k⟩=>?_
   obtain⟨a,rfl,⟨u,ha,hl⟩,h0⟩:=k
   have hu:=hl.tO
   obtain⟨o,I2⟩:=Inv.freeze I1 ha hu
   have no:∀i,¬aN env' σ i a:=fun i z=>S.j8 h0 i (N.sub i a z)
   have p:=gm (o:=o) ha hu
   refine⟨.ref a,_,I2,r1,q (.ref a) _ ⟨N.eX.freeze ha hu no,N.sub,N.pers.trans p,fun b ws z n=>?_,fun b z=>?_,N.bors⟩ ((hl.mono p).den aU)⟩
   ·rw[aG (fun w=>by subst w;rw[h0]at z;cases z)];exact N.keep b ws z n
   ·refine N.dom b ?_
    by_cases hb:b=a
    ·subst hb;rw[aU]at z;cases z
    ·rw[aG hb]at z;exact z
end Mini
end
section
namespace Mini
open PySem L2
theorem yo:∀{bs:List D}{cs:List Bool},bools bs=some cs->bs=cs.map .bl
 |[],_,e=>by cases e;rfl
 |d::bs,cs,e=>by
  cases d with
  |bl b=>
   simp only[bools,QJz]at e
   obtain⟨r,e1,rfl⟩:=e
   simp[yo e1]
  |_=>cases e
theorem Dd{K:QQq}{H:Hp}:∀{cs:List Bool}{vs:List V},aq K H (cs.map .bl) vs->vs=cs.map .bl
 |[],vs,h=>aq.bB.mp h
 |c::cs,vs,h=>by
  obtain⟨v,r,rfl,h1,h2⟩:=aq.aK.mp h
  cases h1
  rw[Dd h2]
  rfl
theorem jw{x:D}(h:lH x=true):∃k:SK,x=dY k:=by
 unfold lH at h
 split at h
 ·rename_i bs j
  obtain⟨cs,e⟩:=Option.isSome_iff_exists.mp h
  exact⟨(cs,j),by rw[yo e];rfl⟩
 ·cases h
theorem pC{K:QQq}{H:Hp}{k:SK}{v:V}(h:bF K H (dY k) v):∃a,v=.ref a/\cA K H k a:=by
 unfold dY bF at h
 obtain⟨a,vs,rfl,sq,l⟩:=h
 obtain⟨v1,r,rfl,h1,l⟩:=aq.aK.mp l
 obtain⟨v2,r2,rfl,h2,l⟩:=aq.aK.mp l
 cases aq.bB.mp l
 cases h2
 unfold bF at h1
 obtain⟨b,ws,rfl,sq2,l2⟩:=h1
 rw[Dd l2]at sq2
 exact⟨a,rfl,b,sq,sq2⟩
theorem CQ:∀a b:List Bool,iZ (a.map .bl) (b.map .bl)=decide (a=b)
 |[],[]=>rfl
 |[],_::_=>by simp[iZ]
 |_::_,[]=>by simp[iZ]
 |x::a,y::b=>by
  simp only[Qyz,iZ,cH,CQ a b]
  cases x<;>cases y<;>simp
theorem zZ(x y:SK):cH (dY x) (dY y)=decide (x=y):=by
 obtain⟨a,i⟩:=x
 obtain⟨b,j⟩:=y
 simp only[dY,cH,iZ,CQ]
 by_cases p:a=b<;>by_cases q:i=j<;>simp[p,q]
theorem Cu(k:SK):∀xs:List SV,aW (dY k) (xs.map fun x=>dY x.1)=(xJ k xs).isSome
 |[]=>rfl
 |x::xs=>by
  simp only[Qyz,aW,xJ,zZ,Cu k xs]
  by_cases c:x.1=k<;>simp[c]
theorem BL{K:QQq}{H:Hp}(k:SK):∀{xs:List SV}{ds:List D}{z:D},cN (dY k) (xs.map fun x=>dY x.1) ds=some z->aq K H ds (xs.map (·.2.2))->∃w,xJ k xs=some w/\bF K H z w
 |[],ds,z,e,_=>by cases ds<;>cases e
 |x::xs,[],z,e,_=>by cases e
 |x::xs,d::ds,z,e,l=>by
  obtain⟨v,r,e1,h1,h2⟩:=aq.aK.mp l
  cases e1
  simp only[Qyz,cN,zZ]at e
  simp only[xJ]
  by_cases c:x.1=k
  ·simp only[c,decide_true,if_true]at e
   cases e
   exact⟨_,if_pos c,h1⟩
  ·simp only[c,decide_false,Qxq,if_false]at e
   rw[if_neg c]
   exact BL k e h2
end Mini
end
section
namespace Mini
open PySem L2
theorem gf.weaken{K:QQq}{σ:St}{H0 H1 H:Hp}{x:Rv}{v:V}(h:gf K σ H1 H x v)(d:∀b,H1 b=none->H0 b=none):gf K σ H0 H x v:=by
 cases x with
 |val d=>exact h
 |ref i=>exact h
 |new xs=>obtain⟨a,e,p,z⟩:=h;exact⟨a,e,p,d a z⟩
 |tmp xs=>obtain⟨a,e,p,z⟩:=h;exact⟨a,e,p,d a z⟩
section
variable{K:QQq}{W:Wi}{env:Ev}{σ:St}{H:Hp}{Q:VK}
theorem Q4{env1:Ev}{H1:Hp}{r:Out Rv}(S:tM K W env r σ H Q)(N:Nx K env σ H env1 H1):tM K W env1 r σ H1 Q:=by
 obtain⟨_,h⟩:=S
 refine⟨N.eX,?_⟩
 cases r with
 |bad=>exact h
 |exc c env2=>exact fun H' N'=>h H' (N.trans N')
 |ok x env2=>exact fun v H' N' z=>h v H' (N.trans N') (z.weaken N.dom)
theorem aQ{r:Out Rv}{f:D->Ev->Out Rv}{R:VK}(h:tM K W env (r.ao f) σ H Q)
  (k:∀d env1 v H1,Nx K env σ H env1 H1->bF K H1 d v->tM K W env1 (f d env1) σ H1 Q->R v H1):tD K W env r σ H R:=by
 have step:∀d env1,r.ao f=f d env1->∀v H1,Nx K env σ H env1 H1->bF K H1 d v->R v H1:=fun d env1 e v H1 N D=>by
  rw[e]at h
  exact k d env1 v H1 N D (Q4 h N)
 obtain⟨S,h⟩:=h
 refine⟨S,?_⟩
 cases r with
 |bad=>exact h
 |exc c env1=>exact h
 |ok x env1=>
  cases x with
  |val d=>exact fun v H1 N D=>step d env1 rfl v H1 N D
  |new xs=>exact fun v H1 N D=>step xs.d env1 rfl v H1 N D
  |ref i=>exact h
  |tmp xs=>exact h
theorem wH{r:Out Rv}{f:Bool->Ev->Out Rv}{R:Bool->Hp->Prop}(h:tM K W env (r.cu gC f) σ H Q)
  (k:∀b env1 H1,Nx K env σ H env1 H1->tM K W env1 (f b env1) σ H1 Q->R b H1):tT K W env r σ H R:=by
 have step:∀d env1 x,x.jb=some d->r=.ok x env1->∃b,gC d=some b/\∀H1,Nx K env σ H env1 H1->R b H1:=fun d env1 x ex er=>by
  subst er
  cases q:gC d with
  |none=>
   cases x with
   |val d'=>cases ex;simp only[Out.cu,Out.ao,q]at h;exact h.2.elim
   |new xs=>cases ex;simp only[Out.cu,Out.ao,q]at h;exact h.2.elim
   |ref i=>cases ex
   |tmp xs=>cases ex
  |some b=>
   refine⟨b,rfl,fun H1 N=>k b env1 H1 N (Q4 ?_ N)⟩
   cases x with
   |val d'=>cases ex;simp only[Out.cu,Out.ao,q]at h;exact h
   |new xs=>cases ex;simp only[Out.cu,Out.ao,q]at h;exact h
   |ref i=>cases ex
   |tmp xs=>cases ex
 refine⟨h.1,?_⟩
 cases r with
 |bad=>exact h.2
 |exc c env1=>exact h.2
 |ok x env1=>
  cases x with
  |val d=>obtain⟨b,e,q⟩:=step d env1 _ rfl rfl;exact⟨d,b,rfl,e,q⟩
  |new xs=>obtain⟨b,e,q⟩:=step xs.d env1 _ rfl rfl;exact⟨xs.d,b,rfl,e,q⟩
  |ref i=>exact h.2.elim
  |tmp xs=>exact h.2.elim
theorem cD{o:Option Rv}(h:tM K W env (lift env o) σ H Q):∃z,o=some z/\Sat K env σ H/\∀v H',Nx K env σ H env H'->gf K σ H H' z v->Q v H':=by
 obtain⟨S,h⟩:=h
 cases o with
 |none=>exact h.elim
 |some z=>exact⟨z,rfl,S,h⟩
theorem dN{d:D}{v:V}(h:tM K W env (.ok (.val d) env) σ H Q)(e:bF K H d v):Q v H:=h.2 v H (Nx.refl h.1) e
theorem Nx.laid{p:Addr}{o:HO}(S:Sat K env σ H)(hp:H p=none):Nx K env σ H env (upd H p o):=by
 have ne:∀b u,H b=some u->b≠p:=fun b u q z=>by subst z;rw[hp]at q;cases q
 have pe:bQ H (upd H p o):=⟨fun b xs q=>by rw[aG (ne b _ q)];exact q,fun b o' u q=>by rw[aG (ne b _ q)];exact q⟩
 refine⟨S.keep pe fun i b u _ q=>by rw[aG (ne b _ q)];exact q,fun _ _ z=>z,pe,fun b vs q _=>by rw[aG (ne b _ q)];exact q,fun b q=>?_,fun _ xs e=>⟨xs,e⟩⟩
 ·by_cases hb:b=p
  ·subst hb;exact hp
  ·rw[aG hb]at q;exact q
end
def GE(X:Cx)(W:Wi)(c:Cf)(m:E)(e:Expr):Prop:=∀env,PE X e (tM X.K W env (ev c m env))
def aD(X:Cx)(W:Wi)(c:Cf)(m:E):TE:=fun σ H Q=>∃env,tD X.K W env (ev c m env) σ H Q
def aT(X:Cx)(W:Wi)(c:Cf)(m:E):TT:=fun σ H Q=>∃env,tT X.K W env (ev c m env) σ H Q
def GT(X:Cx)(W:Wi)(c:Cf)(m:E)(e:Expr):Prop:=PT X e (aT X W c m)
section
variable{X:Cx}{W:Wi}{c:Cf}{m m1 m2 m3:E}{e a b:Expr}{pos:Pos}
theorem GE.d(h:GE X W c m e):PE X e (aD X W c m):=fun QLq s σ H Q I⟨env,q⟩=>Ip (h env) QLq s σ H Q I q
theorem bF.gC{K:QQq}{H:Hp}{x:D}{v:V}{k:Bool}(h:bF K H x v)(e:gC x=some k):Lk K v H k:=by
 cases x with
 |non=>cases h;simp[Mini.gC]at e;subst e;rfl
 |bl b=>cases h;simp[Mini.gC]at e;subst e;rfl
 |int i=>cases h;simp[Mini.gC]at e;subst e;rfl
 |str y=>simp[Mini.gC]at e
 |tup xs=>
  unfold bF at h
  obtain⟨p,vs,rfl,hq,l⟩:=h
  have e':(!xs.isEmpty)=k:=QEq e
  refine .inr (.inl ⟨vs,hq,?_⟩)
  have:=l.length
  rw[<-e']
  cases xs<;>cases vs<;>simp_all
 |lst xs=>
  unfold bF at h
  obtain⟨p,vs,rfl,hq,l⟩:=h
  have e':(!xs.isEmpty)=k:=QEq e
  refine .inl ⟨vs,hq.sq,?_⟩
  have:=l.length
  rw[<-e']
  cases xs<;>cases vs<;>simp_all
 |cC ks vs=>simp[Mini.gC]at e
 |iJ ks vs=>simp[Mini.gC]at e
theorem wJ{K:QQq}{env:Ev}{r:Out Rv}{σ:St}{H:Hp}{Q:Bool->Hp->Prop}(h:tT K W env r σ H Q):tD K W env r σ H (fun v H'=>∃k,Lk K v H' k/\Q k H'):=by
 obtain⟨S,h⟩:=h
 refine⟨S,?_⟩
 cases r with
 |bad=>exact h
 |exc c env1=>exact h
 |ok x env1=>
  obtain⟨d,b,e1,e2,q⟩:=h
  cases x with
  |val d'=>cases e1;exact fun v H' N D=>⟨b,D.gC e2,q H' N⟩
  |new xs=>cases e1;exact fun v H' N D=>⟨b,D.gC e2,q H' N⟩
  |ref i=>cases e1
  |tmp xs=>cases e1
theorem GE.t(h:GE X W c m e)(he:∀whole,isTrue e X.env whole=(do let v<-whole;standAt e.pos;holding [v] (truthy v))):GT X W c m e:=
 PT.imp (Ib h.d he) fun σ H Q⟨env,q⟩=>⟨env,wJ q⟩
def Bu:D->Const->Bool
 |.non,.none=>true
 |.bl b,.bool b'=>b==b'
 |.int i,.int j=>i==j
 |.str x,.str y=>decide (x=y)
 |_,_=>false
theorem Wm{x:D}{k:Const}{i:Nat}(h:Bu x k=true):GE X W c (.con x) (.Constant k i pos):=by
 intro env
 cases x with
 |non=>cases k<;>first|exact PE.imp Uy (fun σ H Q q=>dN q rfl)|simp[Bu]at h
 |bl y=>cases k<;>first|(simp[Bu]at h;subst h;exact PE.imp Z4 (fun σ H Q q=>dN q rfl))|simp[Bu]at h
 |int y=>cases k<;>first|(simp[Bu]at h;subst h;exact PE.imp UG (fun σ H Q q=>dN q rfl))|simp[Bu]at h
 |str y=>cases k<;>first|(simp[Bu]at h;subst h;exact PE.imp Ux (fun σ H Q q=>dN q rfl))|simp[Bu]at h
 |tup _=>cases k<;>simp[Bu]at h
 |lst _=>cases k<;>simp[Bu]at h
 |cC _ _=>cases k<;>simp[Bu]at h
 |iJ _ _=>cases k<;>simp[Bu]at h
theorem bW{σ:St}{i:Nat}{v:V}(h:(σ[i]?).join=some v):σ[i]? =some (some v):=by
 cases w:σ[i]? with
 |none=>rw[w]at h;cases h
 |some y=>rw[w]at h;simp at h;rw[h]
theorem Nx.give{K:QQq}{env:Ev}{σ:St}{H:Hp}{i:Nat}{q:Ob}{a:Addr}{u:HO}{o:Obj}(S:Sat K env σ H)(e:env[i]? =some (.own q))(es:σ[i]? =some (some (.ref a)))
  (ha:H a=some u)(l:Gy K H q u):Nx K env σ H (env.set i (.val q.d)) (upd H a (.frz o u)):=by
 have hu:=l.tO
 have p:=gm (o:=o) ha hu
 have oa:aN env σ i a:=⟨⟨_,q,e,rfl⟩,es⟩
 have hi:i<env.length:=(QCz.mp e).1
 have sub:∀j b,aN (env.set i (.val q.d)) σ j b->aN env σ j b/\j≠i:=fun j b z=>by
  obtain⟨⟨s,ys,e1,e2⟩,e3⟩:=z
  by_cases hj:i=j
  ·subst hj;rw[Qwq hi]at e1;cases e1;simp[isOwn]at e2
  ·rw[Qxz hj]at e1;exact⟨⟨⟨s,ys,e1,e2⟩,e3⟩,fun z=>hj z.symm⟩
 have ne:∀j b,aN env σ j b->j≠i->b≠a:=fun j b z hj q=>hj (S.ne j i a (q▸z) oa)
 refine⟨⟨by simpa using S.len,fun j s ej=>?_,fun j k b z w=>S.ne j k b (sub j b z).1 (sub k b w).1⟩,fun j b z=>(sub j b z).1,p,fun b ws q n=>?_,fun b q=>?_,fun j ys ej=>?_⟩
 ·by_cases hj:i=j
  ·subst hj
   rw[Qwq hi]at ej
   cases ej
   exact⟨.ref a,by rw[es];rfl,(l.mono p).den aU⟩
  ·rw[Qxz hj]at ej
   refine(S.sl j s ej).keep p fun b w ho ev hb=>?_
   rw[aG (ne j b (vf ej ho ev) fun z=>hj z.symm)];exact hb
 ·rw[aG (fun z=>by subst z;exact n i oa)];exact q
 ·by_cases hb:b=a
  ·subst hb;rw[aU]at q;cases q
  ·rw[aG hb]at q;exact q
 ·by_cases hj:i=j
  ·subst hj;rw[e]at ej;cases ej
  ·exact⟨ys,by rw[Qxz hj];exact ej⟩
theorem V7{i:Nat}{x:Str}(hN:X.N[i]? =some x)(hv:Yq X.env.scope x)(hd:(x==("__debug__":Str))=false)(hcd:(x==("__classdict__":Str))=false):GE X W c (.var i) (.Name x pos):=by
 intro env QLq s σ H Q I q
 have B:=Io (X:=X) (pos:=pos) hN hv hd hcd
 simp only[v_0,pM]at q
 cases e:env[i]? with
 |none=>rw[e]at q;exact q.2.elim
 |some sl=>
  rw[e]at q
  cases sl with
  |un=>exact q.2.elim
  |bor xs=>exact q.2.elim
  |val d=>
   obtain⟨v,e1,e2⟩:=q.1.sl i _ e
   exact B QLq s σ H Q I ⟨v,bW e1,dN q e2⟩
  |own xs=>
   obtain⟨a,e1,w,e2,e3⟩:=q.1.sl i _ e
   refine b8 (B QLq s σ H (fun v H'=>v=.ref a/\H'=H) I ⟨.ref a,bW e1,rfl,rfl⟩) fun u s1⟨v,H1,I1,r1,k1,k2⟩=>?_
   subst k1 k2
   obtain⟨o,I2⟩:=Inv.freeze I1 e2 e3.tO
   exact⟨.ref a,_,I2,r1,q.2 _ _ (Nx.give q.1 e (bW e1) e2 e3) ((e3.mono (gm e2 e3.tO)).den aU)⟩
end
end Mini
end
section
namespace Mini
open PySem L2
section
variable{X:Cx}
end
end Mini
end
section
namespace Mini
open PySem L2
def gB(K:QQq)(σ:St)(H₀ H:Hp):List Rv->List V->Prop
 |[],vs=>vs=[]
 |x::xs,vs=>∃v r,vs=v::r/\gf K σ H₀ H x v/\gB K σ H₀ H xs r
def Q3(K:QQq)(W:Wi)(env:Ev)(r:Out (List Rv)):TA:=fun σ H Q=>Sat K env σ H/\match r with
 |.ok xs env'=>∀vs H',Nx K env σ H env' H'->gB K σ H H' xs vs->Q vs H'
 |.exc c env'=>∀H',Nx K env σ H env' H'->W c env' σ H'
 |.bad=>False
def tA(K:QQq)(W:Wi)(env:Ev)(r:Out Rv):TE:=fun σ H Q=>Sat K env σ H/\match r with
 |.ok x env'=>∀v H',Nx K env σ H env' H'->gf K σ H H' (argv x) v->Q v H'
 |.exc c env'=>∀H',Nx K env σ H env' H'->W c env' σ H'
 |.bad=>False
def GA(X:Cx)(W:Wi)(c:Cf)(m:E)(es:List Expr):Prop:=∀env,PA X es (Q3 X.K W env (evs c m env))
theorem gf.on{K:QQq}{env env1 env2:Ev}{σ:St}{H H1 H2:Hp}{x:Rv}{v:V}(S:Sat K env σ H)(N:Nx K env σ H env1 H1)(N2:Nx K env1 σ H1 env2 H2)(h:gf K σ H H1 x v):gf K σ H H2 x v:=by
 have no:∀a,H a=none->∀i,¬aN env1 σ i a:=fun a h0 i z=>S.j8 h0 i (N.sub i a z)
 cases x with
 |val d=>exact bF.mono N2.pers h
 |ref i=>exact h
 |new xs=>obtain⟨a,e,⟨u,p,l⟩,z⟩:=h;exact⟨a,e,⟨u,N2.keep a u p (no a z),l.mono N2.pers⟩,z⟩
 |tmp xs=>obtain⟨a,e,⟨u,p,l⟩,z⟩:=h;exact⟨a,e,⟨u,N2.keep a u p (no a z),l.mono N2.pers⟩,z⟩
theorem jF{K:QQq}{env:Ev}{σ:St}{H:Hp}{p:Addr}{xs:List D}{vs:List V}(S:Sat K env σ H)(l:aq K H xs vs)(hp:H p=none):gf K σ H (upd H p (.lst vs)) (.new (.lst xs)) (.ref p):=
 ⟨p,rfl,⟨_,aU,vs,rfl,l.mono (Nx.laid (o:=.lst vs) S hp).pers⟩,hp⟩
theorem gB.weaken{K:QQq}{σ:St}{H0 H1 H:Hp}:∀{xs:List Rv}{vs:List V},gB K σ H1 H xs vs->(∀b,H1 b=none->H0 b=none)->gB K σ H0 H xs vs
 |[],_,h,_=>h
 |x::xs,vs,h,d=>by
  obtain⟨v,r,e,h1,h2⟩:=h
  exact⟨v,r,e,h1.weaken d,gB.weaken h2 d⟩
section
variable{X:Cx}{W:Wi}{c:Cf}{m m1 m2 m3:E}{e a b:Expr}{es:List Expr}{pos:Pos}
theorem PA.imp{t t':TA}(h:PA X es t)(i:∀σ H Q,t' σ H Q->t σ H Q):PA X es t':=fun p QLq s σ H Q I q=>h p QLq s σ H Q I (i σ H Q q)
theorem GE.ag(h:GE X W c m e)(env:Ev):PE X e (tA X.K W env (ev c m env)):=by
 intro QLq s σ H Q I q
 obtain⟨S,q⟩:=q
 cases r:ev c m env with
 |bad=>rw[r]at q;exact q.elim
 |exc k env'=>rw[r]at q;exact h env QLq s σ H Q I ⟨S,by rw[r];exact q⟩
 |ok x env'=>
  rw[r]at q
  cases x with
  |new xs=>exact Ip (h env) QLq s σ H Q I ⟨S,by rw[r];exact q⟩
  |val d=>exact h env QLq s σ H Q I ⟨S,by rw[r];exact q⟩
  |ref i=>exact h env QLq s σ H Q I ⟨S,by rw[r];exact q⟩
  |tmp xs=>exact h env QLq s σ H Q I ⟨S,by rw[r];exact q⟩
theorem J8:GA X W c .nil []:=fun env=>PA.imp fD fun σ H Q q=>by
 obtain⟨S,q⟩:=q
 simp only[evs]at q
 exact q [] H (Nx.refl S) rfl
theorem CG(h:GE X W c m1 e)(t:GA X W c m2 es)(hs:starEach (e::es) X.env=(false,eval e X.env)::starEach es X.env):GA X W c (.cons m1 m2) (e::es):=by
 intro env
 have B:PA X (e::es) (Hj (fun σ H Q=>∃env,tA X.K W env (ev c m1 env) σ H Q) (fun σ H Q=>∃env,Q3 X.K W env (evs c m2 env) σ H Q)):=
  cJ (fun QLq s σ H Q I⟨env,q⟩=>h.ag env QLq s σ H Q I q) (fun p QLq s σ H Q I⟨env,q⟩=>t env p QLq s σ H Q I q) hs
 refine PA.imp B fun σ H Q q=>?_
 obtain⟨S,q⟩:=q
 refine⟨env,S,?_⟩
 simp only[evs]at q
 cases r:ev c m1 env with
 |bad=>rw[r]at q;exact q.elim
 |exc k env1=>rw[r]at q;exact q
 |ok x env1=>
  rw[r]at q
  intro v H1 N1 k1
  refine⟨env1,N1.eX,?_⟩
  simp only[Out.bind]at q
  cases r2:evs c m2 env1 with
  |bad=>rw[r2]at q;exact q.elim
  |exc k env2=>rw[r2]at q;exact fun H2 N2=>q H2 (N1.trans N2)
  |ok xs env2=>
   rw[r2]at q
   intro vs H2 N2 k2
   exact q (v::vs) H2 (N1.trans N2) ⟨v,vs,rfl,k1.on S N1 N2,k2.weaken N1.dom⟩
theorem gB.ds{K:QQq}{σ:St}{H₀ H:Hp}:∀{xs:List Rv}{vs:List V}{ds:List D},gB K σ H₀ H (xs.map argv) vs->aY xs=some ds->aq K H ds vs
 |[],vs,ds,h,e=>by
  simp[aY]at e
  subst e
  cases h
  exact aq.eY
 |x::xs,vs,ds,h,e=>by
  obtain⟨v,r,rfl,h1,h2⟩:=h
  cases x with
  |ref i=>simp[aY,Rv.jb]at e
  |tmp ys=>simp[aY,Rv.jb]at e
  |val d=>
   simp[aY,Rv.jb]at e
   obtain⟨ds',e1,e2⟩:=e
   subst e2
   exact aq.cZ h1 (gB.ds h2 e1)
  |new ys=>
   simp[aY,Rv.jb]at e
   obtain⟨ds',e1,e2⟩:=e
   subst e2
   exact aq.cZ h1 (gB.ds h2 e1)
theorem qz:∀(m:E)(env:Ev){xs:List Rv}{env':Ev},evs c m env=.ok xs env'->xs.map argv=xs:=by
 have aa:∀x:Rv,argv (argv x)=argv x:=fun x=>by cases x<;>rfl
 intro m
 induction m with
 |nil=>intro env xs env' h;simp only[evs]at h;cases h;rfl
 |cons h t _ ih=>
  intro env xs env' q
  simp only[evs]at q
  cases r:ev c h env with
  |bad=>rw[r]at q;cases q
  |exc k e1=>rw[r]at q;cases q
  |ok x e1=>
   rw[r]at q
   simp only[Out.bind]at q
   cases r2:evs c t e1 with
   |bad=>rw[r2]at q;cases q
   |exc k e2=>rw[r2]at q;cases q
   |ok ys e2=>
    rw[r2]at q
    cases q
    rw[Qyz,aa,ih e1 r2]
 |_=>intro env xs env' h;simp only[evs]at h;cases h
theorem dU{n:Nat}(h:fits n=true):n<=sizeLine:=by
 rw[sizeLine_eq]
 simpa[fits]using h
theorem wF{K:QQq}{env:Ev}{σ:St}{H:Hp}{Q:VK}{f:List D->Option Rv}{R:List V->Hp->Prop}
  (h:tM K W env ((evs c m env).bind fun rs σ=>lift σ ((aY rs).bind f)) σ H Q)
  (k:∀env1 H1 ds vs z,Nx K env σ H env1 H1->aq K H1 ds vs->f ds=some z->(∀v H',Nx K env1 σ H1 env1 H'->gf K σ H1 H' z v->Q v H')->R vs H1):Q3 K W env (evs c m env) σ H R:=by
 obtain⟨S,q⟩:=h
 refine⟨S,?_⟩
 cases r:evs c m env with
 |bad=>rw[r]at q;exact q.elim
 |exc k env1=>rw[r]at q;exact q
 |ok xs env1=>
  rw[r]at q
  simp only[Out.bind]at q
  intro vs H1 N1 k1
  cases e:aY xs with
  |none=>rw[e]at q;exact q.elim
  |some ds=>
   rw[e]at q
   simp only[Option.bind]at q
   cases e2:f ds with
   |none=>rw[e2]at q;exact q.elim
   |some z=>
    rw[e2]at q
    have k2:=k1
    rw[<-qz m env r]at k2
    exact k env1 H1 ds vs z N1 (gB.ds k2 e) e2 fun v H' N' w=>q v H' (N1.trans N') (w.weaken N1.dom)
theorem V8{k:Nat}(h:GA X W c m es):GE X W c (.tup m) (.Tuple es k pos):=by
 intro env
 refine PE.imp (Uw (h env)) fun σ H Q q=>?_
 simp only[v_3]at q
 refine wF q fun env1 H1 ds vs z N1 l e q=>?_
 split at e
 ·rename_i hf
  cases e
  have hl:=l.length
  refine⟨by rw[<-hl];exact dU hf,fun p hp=>q _ _ (Nx.laid N1.eX hp) ?_⟩
  show bF _ _ _ _
  unfold bF
  exact⟨p,vs,rfl,.inl (.inl aU),l.mono (Nx.laid (o:=.tup vs) N1.eX hp).pers⟩
 ·cases e
theorem Wf(h:GA X W c m es):GE X W c (.lis m) (.List es pos):=by
 intro env
 refine PE.imp (Uz (h env)) fun σ H Q q=>?_
 simp only[v_4]at q
 refine wF q fun env1 H1 ds vs z N1 l e q=>?_
 split at e
 ·rename_i hf
  cases e
  have hl:=l.length
  exact⟨by rw[<-hl];exact dU hf,fun p hp=>q _ _ (Nx.laid N1.eX hp) (jF N1.eX l hp)⟩
 ·cases e
def Sq(X:Cx)(r:R2)(f:D->D->Option Rv):Prop:=
 ∀(env:Ev)(σ:St)(H:Hp)(x y:D)(z:Rv)(v u:V)(Q:VK),Sat X.K env σ H->bF X.K H x v->bF X.K H y u->f x y=some z->(∀w H',Nx X.K env σ H env H'->gf X.K σ H H' z w->Q w H')->r v u H Q
theorem Sq.bin{r:R2}{f:D->D->Option Rv}(R:Sq X r f)(h:PE X e (Xk r (aD X W c m1) (aD X W c m2))):
  ∀env,PE X e (tM X.K W env ((ev c m1 env).ao fun x σ=>(ev c m2 σ).ao fun y σ=>lift σ (f x y))):=fun env=>
 PE.imp h fun σ H Q q=>⟨env,aQ q fun d env1 v H1 N1 D1 q1=>⟨env1,aQ q1 fun d2 env2 v2 H2 N2 D2 q2=>by
  obtain⟨z,ez,S,q3⟩:=cD q2
  exact R env2 σ H2 d d2 z v v2 Q S (D1.mono N2.pers) D2 ez q3⟩⟩
def aac:Ma->Operator
 |.add=>.Add
 |.sub=>.Sub
 |.mul=>.Mult
 |.mod=>.Mod
 |.fdiv=>.FloorDiv
 |.pow=>.Pow
def Rk(K:QQq):R2:=fun x y H Q=>∃a b xs ys,x=.ref a/\y=.ref b/\gQ K H a xs/\gQ K H b ys/\xs.length+ys.length<=sizeLine/\
 (xs=[]->Q (.ref b) H)/\(xs≠[]->ys=[]->Q (.ref a) H)/\(xs≠[]->ys≠[]->∀p,H p=none->Q (.ref p) (upd H p (.tup (xs++ys))))
theorem OJ:fH X (binaryOp .Add) (Rk X.K):=by
 intro QLq s σ H x y v u Q I rx ry h
 obtain⟨a,b,xs,ys,rfl,rfl,ha,hb,hz,q0,q1,q2⟩:=h
 by_cases hx:xs=[]
 ·cases rx
  cases ry
  obtain⟨its,r1,p1,_⟩:=I.tuple ha
  obtain⟨its2,r2,p2,_⟩:=I.tuple hb
  obtain⟨⟨cls,dd,data,sl⟩,ho,hc,n,hd⟩:=id p1
  obtain⟨⟨cls2,dd2,data2,sl2⟩,ho2,hc2,n2,hd2⟩:=id p2
  simp only at hc hd hc2 hd2
  subst hc hd hc2 hd2
  have e0:its.toArray.isEmpty=true:=by
   have:its=[]:=r1.bB.mpr hx
   rw[this];rfl
  exact concat_meets ⟨_,ho,rfl⟩ ⟨_,ho2,rfl⟩ noFill_tuple_add seq_tuple_add PySem.F.slot_tuple_add PySem.F.entry_tuple_add (PySem.F.args_tuple_add_2 _ _)
   (PyProof.Rows.tuple_addW0 a b its.toArray its2.toArray n n2 dd dd2 sl sl2 e0) ⟨ho,ho2,⟨.ref b,H,I,rfl,q0 hx⟩⟩
 ·exact Oz QLq s σ H _ _ v u Q I rx ry ⟨a,b,xs,ys,rfl,rfl,ha,hb,hx,hz,q1 hx,q2 hx⟩
def Rj(K:QQq):R2:=fun x y H Q=>∃l b xs zs,x=.ref l/\y=.ref b/\iH K H l xs/\iH K H b zs/\xs.length+zs.length<=sizeLine/\∀p,H p=none->Q (.ref p) (upd H p (.lst (xs++zs)))
theorem OD:fH X (binaryOp .Add) (Rj X.K):=by
 intro QLq s σ H x y v u Q I rx ry h
 obtain⟨l,b,xs,zs,rfl,rfl,hH,hB,hz,q⟩:=h
 cases rx
 cases ry
 obtain⟨its,r1,pl,_⟩:=I.list hH
 obtain⟨its2,r2,pl2,_⟩:=I.list hB
 obtain⟨⟨cls,dd,data,sl⟩,n,ho,hc,_,hd⟩:=id pl
 obtain⟨⟨cls2,dd2,data2,sl2⟩,n2,ho2,hc2,_,hd2⟩:=id pl2
 simp only at hc hd hc2 hd2
 subst hc hd hc2 hd2
 have hl:=r1.length
 have hl2:=r2.length
 have ea:its.toArray++its2.toArray=(its++its2).toArray:=by simp
 refine concat_meets ⟨_,ho,rfl⟩ ⟨_,ho2,rfl⟩ noFill_list_add seq_list_add F.slot_list_add F.entry_list_add (F.args_list_add_2 _ _) (PyProof.Rows.list_addW l b its.toArray its2.toArray n n2 dd dd2 sl sl2 (by rw[Qyq,Qyq];omega)) ⟨ho,ho2,?_⟩
 rw[ea]
 exact⟨.ref _,_,I.aeg (t':=s.toks) (r1.append r2) (by rw[QTq];omega),rfl,q _ I.fresh⟩
def Rm(K:QQq):R2:=fun x y H Q=>H8 (fun i j=>.int (i+j)) x y H Q\/Rk K x y H Q\/Rj K x y H Q
theorem O1:fH X (binaryOp .Add) (Rm X.K):=Va.or (OJ.or OD)
theorem cF{K:QQq}{H:Hp}{ds:List D}{v:V}(h:bF K H (.tup ds) v):∃a vs,v=.ref a/\gQ K H a vs/\aq K H ds vs:=by unfold bF at h;exact h
theorem dC{K:QQq}{H:Hp}{ds:List D}{v:V}(h:bF K H (.lst ds) v):∃a vs,v=.ref a/\Lw K H a vs/\aq K H ds vs:=by unfold bF at h;exact h
theorem dW{K:QQq}{H:Hp}{ds:List D}{a:Addr}{vs:List V}(h:gQ K H a vs)(l:aq K H ds vs):bF K H (.tup ds) (.ref a):=by unfold bF;exact⟨a,vs,rfl,h,l⟩
theorem pF{i:Int}(h:small i=true): -(2 ^64)<i/\i<2 ^64:=by
 simp only[small,QUz]at h
 exact⟨by omega,by omega⟩
theorem Nt:Sq X (Rm X.K) (binop .add):=by
 intro env σ H x y z v u Q S Dx Dy e q
 cases x with
 |int i=>
  cases y with
  |int j=>cases e;exact .inl ⟨i,j,Dx,Dy,q _ H (Nx.refl S) rfl⟩
  |_=>cases e
 |tup xs=>
  cases y with
  |tup ys=>
   unfold binop at e;dsimp only at e
   split at e
   ·rename_i hf
    cases e
    obtain⟨a,vs,rfl,ha,la⟩:=cF Dx
    obtain⟨b,ws,rfl,hb,lb⟩:=cF Dy
    refine .inr (.inl ⟨a,b,vs,ws,rfl,rfl,ha,hb,by rw[<-la.length,<-lb.length];exact dU hf,fun e0=>?_,fun _ e0=>?_,fun _ _ p hp=>?_⟩)
    ·subst e0
     have:xs=[]:=by have:=la.length;cases xs<;>simp_all
     subst this
     exact q _ H (Nx.refl S) (dW hb lb)
    ·subst e0
     have:ys=[]:=by have:=lb.length;cases ys<;>simp_all
     subst this
     exact q _ H (Nx.refl S) (by rw[List.append_nil];exact dW ha la)
    ·have N:=Nx.laid (o:=.tup (vs++ws)) S hp
     exact q _ _ N (dW (.inl (.inl aU)) ((la.append lb).mono N.pers))
   ·cases e
  |_=>cases e
 |lst xs=>
  cases y with
  |lst ys=>
   unfold binop at e;dsimp only at e
   split at e
   ·rename_i hf
    cases e
    obtain⟨a,vs,rfl,ha,la⟩:=dC Dx
    obtain⟨b,ws,rfl,hb,lb⟩:=dC Dy
    refine .inr (.inr ⟨a,b,vs,ws,rfl,rfl,ha.sq,hb.sq,by rw[<-la.length,<-lb.length];exact dU hf,fun p hp=>?_⟩)
    have N:=Nx.laid (o:=.lst (vs++ws)) S hp
    exact q _ _ N (jF S (la.append lb) hp)
   ·cases e
  |_=>cases e
 |_=>cases y<;>cases e
theorem lO{o:Ma}(ho:o≠ .add)(hm:o≠ .mul){x y:D}{z:Rv}(e:binop o x y=some z):(∃i,x=.int i)/\∃j,y=.int j:=by
 cases x with
 |int i=>exact⟨⟨i,rfl⟩,by cases y with
  |int j=>exact⟨j,rfl⟩
  |_=>cases o<;>cases e⟩
 |tup _=>cases o<;>first|exact absurd rfl ho|exact absurd rfl hm|cases e
 |lst _=>cases o<;>first|exact absurd rfl ho|cases e
 |_=>cases o<;>cases e
theorem Nh:Sq X (H8 fun i j=>.int (i-j)) (binop .sub):=by
 intro env σ H x y z v u Q S Dx Dy e q
 obtain⟨⟨i,rfl⟩,j,rfl⟩:=lO (by intro h;cases h) (by intro h;cases h) e
 cases e
 exact⟨_,_,Dx,Dy,q _ H (Nx.refl S) rfl⟩
def Rh(K:QQq):R2:=fun x y H Q=>rI QB (fun i j=>.int (i*j)) x y H Q
theorem Ow:fH X (binaryOp .Mult) (Rh X.K):=U3
theorem Nj:Sq X (Rh X.K) (binop .mul):=by
 intro env σ H x y z v u Q S Dx Dy e q
 cases x with
 |int i=>
  cases y with
  |int j=>
   unfold binop at e;dsimp only at e
   split at e
   ·rename_i hs
    cases e
    simp only[Bool.or_eq_true]at hs
    exact⟨i,j,Dx,Dy,hs.imp pF pF,q _ H (Nx.refl S) rfl⟩
   ·cases e
  |_=>cases e
 |_=>cases y<;>cases e
theorem Nk:Sq X (rI (fun _ j=>0<j) fun i j=>.int (i%j)) (binop .mod):=by
 intro env σ H x y z v u Q S Dx Dy e q
 obtain⟨⟨i,rfl⟩,j,rfl⟩:=lO (by intro h;cases h) (by intro h;cases h) e
 unfold binop at e;dsimp only at e
 split at e
 ·rename_i hs
  cases e
  exact⟨i,j,Dx,Dy,hs,q _ H (Nx.refl S) rfl⟩
 ·cases e
theorem Hz:Sq X (rI abE fun i j=>.int (i/j)) (binop .fdiv):=by
 intro env σ H x y z v u Q S Dx Dy e q
 obtain⟨⟨i,rfl⟩,j,rfl⟩:=lO (by intro h;cases h) (by intro h;cases h) e
 unfold binop at e;dsimp only at e
 split at e
 ·rename_i hs
  cases e
  exact⟨i,j,Dx,Dy,hs,q _ H (Nx.refl S) rfl⟩
 ·cases e
theorem Ni:Sq X (rI abD fun i j=>.int (i ^j.toNat)) (binop .pow):=by
 intro env σ H x y z v u Q S Dx Dy e q
 obtain⟨⟨i,rfl⟩,j,rfl⟩:=lO (by intro h;cases h) (by intro h;cases h) e
 unfold binop at e;dsimp only at e
 split at e
 ·rename_i hs
  cases e
  have h1:=pF hs.2.2
  exact⟨i,j,Dx,Dy,⟨hs.1,by omega,by omega⟩,q _ H (Nx.refl S) rfl⟩
 ·cases e
theorem aa2{o:Ma}(ha:GE X W c m1 a)(hb:GE X W c m2 b):GE X W c (.op o m1 m2) (.BinOp a (aac o) b pos):=by
 intro env
 simp only[Yy]
 cases o with
 |add=>exact Nt.bin (tL O1 ha.d hb.d) env
 |sub=>exact Nh.bin (tL UV ha.d hb.d) env
 |mul=>exact Nj.bin (tL Ow ha.d hb.d) env
 |mod=>exact Nk.bin (tL U4 ha.d hb.d) env
 |fdiv=>exact Hz.bin (tL Ox ha.d hb.d) env
 |pow=>exact Ni.bin (tL UW ha.d hb.d) env
theorem We(ha:GE X W c m1 a):GE X W c (.neg m1) (.UnaryOp .USub a pos):=by
 intro env
 refine PE.imp (Z1 Ti ha.d) fun σ H Q q=>?_
 simp only[v_6]at q
 refine⟨env,aQ q fun d env1 v H1 N1 D1 q1=>?_⟩
 obtain⟨z,ez,S,q3⟩:=cD q1
 cases d<;>first
  |(cases ez;done)
  |(cases ez;exact⟨_,D1,q3 _ H1 (Nx.refl S) rfl⟩)
end
end Mini
end
section
namespace Mini
open PySem L2
mutual
def py:D->PyData
 |.non=>.none
 |.bl b=>.bool b
 |.int i=>.int i
 |.str x=>.str x
 |.tup xs=>.tuple (xf xs)
 |.lst xs=>.list (xf xs)
 |.cC _ _=>.none
 |.iJ _ _=>.none
def xf:List D->List PyData
 |[]=>[]
 |x::xs=>py x::xf xs
end
mutual
theorem vK:∀a b:D,nd a=true->nd b=true->PyData.eqv (py a) (py b)=cH a b
 |.cC _ _,_=>fun h _=>by simp[nd]at h
 |.iJ _ _,_=>fun h _=>by simp[nd]at h
 |.non,.cC _ _=>fun _ h=>by simp[nd]at h
 |.non,.iJ _ _=>fun _ h=>by simp[nd]at h
 |.bl _,.cC _ _=>fun _ h=>by simp[nd]at h
 |.bl _,.iJ _ _=>fun _ h=>by simp[nd]at h
 |.int _,.cC _ _=>fun _ h=>by simp[nd]at h
 |.int _,.iJ _ _=>fun _ h=>by simp[nd]at h
 |.str _,.cC _ _=>fun _ h=>by simp[nd]at h
 |.str _,.iJ _ _=>fun _ h=>by simp[nd]at h
 |.tup _,.cC _ _=>fun _ h=>by simp[nd]at h
 |.tup _,.iJ _ _=>fun _ h=>by simp[nd]at h
 |.lst _,.cC _ _=>fun _ h=>by simp[nd]at h
 |.lst _,.iJ _ _=>fun _ h=>by simp[nd]at h
 |.tup xs,.tup ys=>fun h h'=>by simp only[py,PyData.eqv,cH];exact vJ xs ys (by simpa[nd]using h) (by simpa[nd]using h')
 |.lst xs,.lst ys=>fun h h'=>by simp only[py,PyData.eqv,cH];exact vJ xs ys (by simpa[nd]using h) (by simpa[nd]using h')
 |.non,.non=>fun _ _=>rfl
 |.non,.bl _=>fun _ _=>rfl
 |.non,.int _=>fun _ _=>rfl
 |.non,.str _=>fun _ _=>rfl
 |.non,.tup _=>fun _ _=>rfl
 |.non,.lst _=>fun _ _=>rfl
 |.bl _,.non=>fun _ _=>rfl
 |.bl _,.bl _=>fun _ _=>rfl
 |.bl a,.int j=>fun _ _=>rfl
 |.bl _,.str _=>fun _ _=>rfl
 |.bl _,.tup _=>fun _ _=>rfl
 |.bl _,.lst _=>fun _ _=>rfl
 |.int _,.non=>fun _ _=>rfl
 |.int i,.bl b=>fun _ _=>rfl
 |.int _,.int _=>fun _ _=>rfl
 |.int _,.str _=>fun _ _=>rfl
 |.int _,.tup _=>fun _ _=>rfl
 |.int _,.lst _=>fun _ _=>rfl
 |.str _,.non=>fun _ _=>rfl
 |.str _,.bl _=>fun _ _=>rfl
 |.str _,.int _=>fun _ _=>rfl
 |.str x,.str y=>fun _ _=>by simp only[py,PyData.eqv,cH];rw[Bool.beq_eq_decide_eq]
 |.str _,.tup _=>fun _ _=>rfl
 |.str _,.lst _=>fun _ _=>rfl
 |.tup _,.non=>fun _ _=>rfl
 |.tup _,.bl _=>fun _ _=>rfl
 |.tup _,.int _=>fun _ _=>rfl
 |.tup _,.str _=>fun _ _=>rfl
 |.tup _,.lst _=>fun _ _=>rfl
 |.lst _,.non=>fun _ _=>rfl
 |.lst _,.bl _=>fun _ _=>rfl
 |.lst _,.int _=>fun _ _=>rfl
 |.lst _,.str _=>fun _ _=>rfl
 |.lst _,.tup _=>fun _ _=>rfl
theorem vJ:∀xs ys:List D,jQ xs=true->jQ ys=true->PyData.eqvAll (xf xs) (xf ys)=iZ xs ys
 |[],[]=>fun _ _=>rfl
 |[],_::_=>fun _ _=>rfl
 |_::_,[]=>fun _ _=>rfl
 |x::xs,y::ys=>fun h h'=>by
  simp only[jQ,QUq]at h h'
  simp only[xf,PyData.eqvAll,iZ]
  rw[vK x y h.1 h'.1,vJ xs ys h.2 h'.2]
end
theorem Hk{x:Str}(h:sOk x=true):PyData.strOk x=true:=by
 unfold sOk at h
 unfold PyData.strOk
 rw[Array.all_eq_true]at h⊢
 intro i hi
 have:=h i hi
 simp only[QUz]at this⊢
 omega
mutual
theorem iG:∀a:D,nd a=true->(py a).canLay0=true
 |.non=>fun _=>rfl
 |.bl _=>fun _=>rfl
 |.int _=>fun _=>rfl
 |.str x=>fun h=>Hk h
 |.tup xs=>fun h=>by simp only[py,PyData.canLay0];exact iD xs (by simpa[nd]using h)
 |.lst xs=>fun h=>by simp only[py,PyData.canLay0];exact iD xs (by simpa[nd]using h)
 |.cC _ _=>fun h=>by simp[nd]at h
 |.iJ _ _=>fun h=>by simp[nd]at h
theorem iD:∀xs:List D,jQ xs=true->PyData.canLayAll0 (xf xs)=true
 |[]=>fun _=>rfl
 |x::xs=>fun h=>by
  simp only[jQ,QUq]at h
  simp only[xf,PyData.canLayAll0,QUq]
  exact⟨iG x h.1,iD xs h.2⟩
end
mutual
theorem vO:∀a:D,nd a=true->(py a).depth=dep a
 |.non=>fun _=>rfl
 |.bl _=>fun _=>rfl
 |.int _=>fun _=>rfl
 |.str _=>fun _=>rfl
 |.tup xs=>fun h=>by simp only[py,PyData.depth,dep];rw[vN xs (by simpa[nd]using h)]
 |.lst xs=>fun h=>by simp only[py,PyData.depth,dep];rw[vN xs (by simpa[nd]using h)]
 |.cC _ _=>fun h=>by simp[nd]at h
 |.iJ _ _=>fun h=>by simp[nd]at h
theorem vN:∀xs:List D,jQ xs=true->PyData.depthAll (xf xs)=gY xs
 |[]=>fun _=>rfl
 |x::xs=>fun h=>by
  simp only[jQ,QUq]at h
  simp only[xf,PyData.depthAll,gY]
  rw[vO x h.1,vN xs h.2]
end
def cW(K:QQq)(H:Hp)(d:D)(v:V):Prop:=bF K H d v\/∃q a,d=Ob.d q/\v=.ref a/\jd K H q a
section
variable{X:Cx}{QLq:QQz}{s:Shared}{σ:St}{H:Hp}
mutual
theorem bF.reads(I:Inv X QLq σ H s):∀{d:D}{v:V}{u:Value},nd d=true->bF X.K H d v->RelV v u->∃as,Reads s.heap u (py d) as
 |.non,v,u,_,h,r=>by cases h;cases r;exact⟨_,.none⟩
 |.bl b,v,u,_,h,r=>by cases h;cases r;exact⟨_,.bool b⟩
 |.int i,v,u,_,h,r=>by cases h;obtain⟨t,rfl⟩:=r;exact⟨_,.int i t⟩
 |.str x,v,u,_,h,r=>by cases h;obtain⟨t,rfl⟩:=r;exact⟨_,.str x t⟩
 |.tup ds,v,u,hn,h,r=>by
  obtain⟨a,vs,rfl,hq,l⟩:=cF h
  cases r
  obtain⟨its,rv,⟨o,e,c,n,dt⟩,_⟩:=I.tuple hq
  obtain⟨as,q⟩:=aq.reads I (by simpa[nd]using hn) l rv
  exact⟨as,by rw[py];exact .tuple e c dt (by simpa using q)⟩
 |.lst ds,v,u,hn,h,r=>by
  obtain⟨a,vs,rfl,hq,l⟩:=dC h
  cases r
  obtain⟨its,rv,⟨o,n,e,c,_,dt⟩,_⟩:=I.list hq.sq
  obtain⟨as,q⟩:=aq.reads I (by simpa[nd]using hn) l rv
  exact⟨a::as,by rw[py];exact .list e c dt (by simpa using q)⟩
 |.cC _ _,_,_,h,_,_=>by simp[nd]at h
theorem aq.reads(I:Inv X QLq σ H s):∀{ds:List D}{vs:List V}{us:List Value},jQ ds=true->aq X.K H ds vs->Vals vs us->∃as,ReadsAll s.heap us (xf ds) as
 |[],vs,us,_,h,r=>by rw[aq.bB.mp h]at r;cases r;exact⟨_,.nil⟩
 |d::ds,vs,us,hn,h,r=>by
  obtain⟨v,rs,rfl,h1,h2⟩:=aq.aK.mp h
  simp only[jQ,QUq]at hn
  cases r with
  |cons r1 r2=>
   obtain⟨as,q1⟩:=bF.reads I hn.1 h1 r1
   obtain⟨bs,q2⟩:=aq.reads I hn.2 h2 r2
   exact⟨as++bs,.cons q1 q2⟩
end
theorem cW.reads(I:Inv X QLq σ H s){d:D}{v:V}{u:Value}(hn:nd d=true)(h:cW X.K H d v)(r:RelV v u):∃as,Reads s.heap u (py d) as:=by
 rcases h with h|⟨q,a,rfl,rfl,u',ha,hq⟩
 ·exact bF.reads I hn h r
 ·cases r
  cases q with
  |dct ks ds=>simp[Ob.d,nd]at hn
  |sdt ks ds=>simp[Ob.d,nd]at hn
  |lst ds=>
  obtain⟨vs,rfl,l⟩:=hq
  obtain⟨its,rv,⟨o,n,e,c,_,dt⟩,_⟩:=I.list (.inl (.inl ha))
  obtain⟨as,q⟩:=aq.reads I (by simpa[Ob.d,nd]using hn) l rv
  exact⟨a::as,by rw[Ob.d,py];exact .list e c dt (by simpa using q)⟩
end
end Mini
end
section
namespace Mini
open PySem L2
section
variable{X:Cx}{W:Wi}{c:Cf}{m m1 m2 m3:E}{e a b:Expr}{pos:Pos}
theorem cW.flat{K:QQq}{H:Hp}{x:D}{v:V}(h:cW K H x v)(f:flat x=true):bF K H x v:=by
 rcases h with h|⟨q,a,rfl,_⟩
 ·exact h
 ·cases q<;>simp[Ob.d,Mini.flat]at f
theorem CJ{x:D}(f:flat x=true)(hs:∀y,x≠ .str y):nd x=true/\dep x=0:=by
 cases x<;>simp_all[flat,nd,dep]
def aea(K:QQq):R2:=fun x y H Q=>∃p q,cW K H p x/\cW K H q y/\m9 p q=true/\Q (.bl (cH p q)) H
def ad7(K:QQq):R2:=fun x y H Q=>∃p q,cW K H p x/\cW K H q y/\m9 p q=true/\Q (.bl (!cH p q)) H
theorem CP{K:QQq}{H:Hp}{p q:D}{x y:V}(Dp:bF K H p x)(Dq:bF K H q y)(fp:flat p=true)(fq:flat q=true)(hs:(∃z,p=.str z)\/∃z,q=.str z):Nf x y=true/\decide (x=y)=cH p q:=by
 cases p<;>cases q<;>simp_all[flat]<;>(cases Dp;cases Dq;unfold Nf cH;simp)
theorem CN{u:Nat}{p q:D}(hu:u+60<cLine)(hp:nd p=true)(hq:nd q=true)(hd:dep p<=50):u+min (py p).depth (py q).depth<cLine:=by
 rw[vO p hp,vO q hq]
 have:min (dep p) (dep q)<=dep p:=Nat.min_le_left _ _
 omega
theorem qD{p q:D}(h:m9 p q=true):(nd p=true/\nd q=true/\dep p<=50)\/(flat p=true/\flat q=true/\((∃z,p=.str z)\/∃z,q=.str z)):=by
 simp only[m9,Bool.or_eq_true,QUq,QUz]at h
 rcases h with ⟨h1,h2⟩|⟨⟨h1,h2⟩,h3⟩
 ·by_cases hs:(∃z,p=.str z)\/∃z,q=.str z
  ·exact .inr ⟨h1,h2,hs⟩
  ·have n1:∀y,p≠ .str y:=fun y e=>hs (.inl ⟨y,e⟩)
   have n2:∀y,q≠ .str y:=fun y e=>hs (.inr ⟨y,e⟩)
   have k1:=CJ h1 n1
   have k2:=CJ h2 n2
   exact .inl ⟨k1.1,k2.1,by omega⟩
 ·exact .inl ⟨h1,h3,h2⟩
theorem U9(hu:X.A.units+60<cLine):fH X (compareOp .Eq) (aea X.K):=by
 intro QLq s σ H x y v u Q I rx ry h
 obtain⟨p,q,Dp,Dq,ok,k⟩:=h
 rcases qD ok with ⟨h1,h2,h3⟩|⟨h1,h2,h3⟩
 ·obtain⟨as,ra⟩:=Dp.reads I h1 rx
  obtain⟨bs,rb⟩:=Dq.reads I h2 ry
  exact SeqAt.compareEq_reads ra rb (iG p h1) (iG q h2) (CN hu h1 h2 h3) (by rw[vK p q h1 h2];exact⟨.bl _,H,I,rfl,k⟩)
 ·obtain⟨e1,e2⟩:=CP (Dp.flat h1) (Dq.flat h2) h1 h2 h3
  exact aab QLq s σ H x y v u Q I rx ry ⟨e1,by rw[e2];exact k⟩
theorem U0(hu:X.A.units+60<cLine):fH X (compareOp .NotEq) (ad7 X.K):=by
 intro QLq s σ H x y v u Q I rx ry h
 obtain⟨p,q,Dp,Dq,ok,k⟩:=h
 rcases qD ok with ⟨h1,h2,h3⟩|⟨h1,h2,h3⟩
 ·obtain⟨as,ra⟩:=Dp.reads I h1 rx
  obtain⟨bs,rb⟩:=Dq.reads I h2 ry
  exact SeqAt.compareNe_reads ra rb (iG p h1) (iG q h2) (CN hu h1 h2 h3) (by rw[vK p q h1 h2];exact⟨.bl _,H,I,rfl,k⟩)
 ·obtain⟨e1,e2⟩:=CP (Dp.flat h1) (Dq.flat h2) h1 h2 h3
  exact Z6 QLq s σ H x y v u Q I rx ry ⟨e1,by rw[e2];exact k⟩
theorem vB{K:QQq}{H:Hp}{p:D}{x:V}(Dp:bF K H p x)(fp:flat p=true):∀{ds:List D}{vs:List V},aq K H ds vs->ds.all flat=true->vs.all gA=true/\inV x vs=aW p ds
 |[],vs,h,_=>by rw[aq.bB.mp h];exact⟨rfl,rfl⟩
 |d::ds,vs,h,f=>by
  obtain⟨v,r,rfl,h1,h2⟩:=aq.aK.mp h
  rw[List.all_cons,QUq]at f
  obtain⟨k1,k2⟩:=vB Dp fp h2 f.2
  have fv:gA v=true/\Km v x=cH d p:=by
   obtain⟨f1,_⟩:=f
   cases d<;>cases p<;>simp_all[flat]<;>(cases h1;cases Dp;first|exact⟨rfl,rfl⟩|(refine⟨rfl,?_⟩;simp[Km,cH];try (rw[Bool.beq_eq_decide_eq])))
  refine⟨by rw[List.all_cons,fv.1,k1];rfl,?_⟩
  unfold inV at k2⊢
  rw[List.any_cons,fv.2,k2]
  rfl
theorem rB{p:D}(hp:nd p=true):∀{ds:List D},jQ ds=true->((xf ds).any fun y=>PyData.eqv y (py p))=aW p ds
 |[]=>fun _=>rfl
 |d::ds=>fun h=>by
  simp only[jQ,QUq]at h
  rw[xf,List.any_cons,vK d p h.1 hp,rB hp h.2]
  rfl
def Lp(K:QQq)(H:Hp)(xs:List D)(y:V):Prop:=∃a vs,y=.ref a/\(iH K H a vs\/gQ K H a vs)/\aq K H xs vs
def ZV(K:QQq)(neg:Bool):R2:=fun x y H Q=>∃p xs,bF K H p x/\Lp K H xs y/\fL p xs=true/\Q (.bl (if neg then !aW p xs else aW p xs)) H
theorem oW{u:Nat}{p:D}{xs:List D}(hu:u+60<cLine)(hp:nd p=true)(hd:dep p<=50):u+1+min (PyData.depthAll (xf xs)) (py p).depth<cLine:=by
 rw[vO p hp]
 have:min (PyData.depthAll (xf xs)) (dep p)<=dep p:=Nat.min_le_right _ _
 omega
theorem Lp.reads{QLq:QQz}{s:Shared}{σ:St}{H:Hp}{xs:List D}{y:V}{u:Value}(I:Inv X QLq σ H s)(h:Lp X.K H xs y)(hn:jQ xs=true)(r:RelV y u):
  ∃as,Reads s.heap u (.list (xf xs)) as\/Reads s.heap u (.tuple (xf xs)) as:=by
 obtain⟨a,vs,rfl,hq,l⟩:=h
 cases r
 rcases hq with hq|hq
 ·obtain⟨its,rv,⟨o,n,e,c,_,dt⟩,_⟩:=I.list hq
  obtain⟨as,q⟩:=aq.reads I hn l rv
  exact⟨a::as,.inl (.list e c dt (by simpa using q))⟩
 ·obtain⟨its,rv,⟨o,e,c,n,dt⟩,_⟩:=I.tuple hq
  obtain⟨as,q⟩:=aq.reads I hn l rv
  exact⟨as,.inr (.tuple e c dt (by simpa using q))⟩
theorem U8(hu:X.A.units+60<cLine):fH X (compareOp .In) (ZV X.K false):=by
 intro QLq s σ H x y v u Q I rx ry h
 obtain⟨p,xs,Dp,hS,ok,k⟩:=h
 simp only[fL,Bool.or_eq_true,QUq,QUz]at ok
 rcases ok with ⟨h1,h2⟩|⟨⟨h1,h2⟩,h3⟩
 ·obtain⟨a,vs,rfl,hq,l⟩:=hS
  obtain⟨k1,k2⟩:=vB Dp h1 l h2
  have fx:gA x=true:=by cases p<;>simp_all[flat]<;>(cases Dp;rfl)
  exact Fd QLq s σ H x _ v u Q I rx ry ⟨a,vs,rfl,hq,fx,k1,by simpa[k2]using k⟩
 ·obtain⟨bs,rb⟩:=bF.reads I h1 Dp rx
  obtain⟨as,ra|ra⟩:=hS.reads I h3 ry
  ·exact SeqAt.in_list_reads ra rb (iD xs h3) (iG p h1) (oW hu h1 h2) (by rw[rB h1 h3];exact⟨.bl _,H,I,rfl,k⟩)
  ·exact SeqAt.in_tuple_reads ra rb (iD xs h3) (iG p h1) (oW hu h1 h2) (by rw[rB h1 h3];exact⟨.bl _,H,I,rfl,k⟩)
theorem EY(hu:X.A.units+60<cLine):fH X (compareOp .NotIn) (ZV X.K true):=by
 intro QLq s σ H x y v u Q I rx ry h
 obtain⟨p,xs,Dp,hS,ok,k⟩:=h
 simp only[fL,Bool.or_eq_true,QUq,QUz]at ok
 rcases ok with ⟨h1,h2⟩|⟨⟨h1,h2⟩,h3⟩
 ·obtain⟨a,vs,rfl,hq,l⟩:=hS
  obtain⟨k1,k2⟩:=vB Dp h1 l h2
  have fx:gA x=true:=by cases p<;>simp_all[flat]<;>(cases Dp;rfl)
  exact vg QLq s σ H x _ v u Q I rx ry ⟨a,vs,rfl,hq,fx,k1,by simpa[k2]using k⟩
 ·obtain⟨bs,rb⟩:=bF.reads I h1 Dp rx
  obtain⟨as,ra|ra⟩:=hS.reads I h3 ry
  ·exact SeqAt.notIn_list_reads ra rb (iD xs h3) (iG p h1) (oW hu h1 h2) (by rw[rB h1 h3];exact⟨.bl _,H,I,rfl,k⟩)
  ·exact SeqAt.notIn_tuple_reads ra rb (iD xs h3) (iG p h1) (oW hu h1 h2) (by rw[rB h1 h3];exact⟨.bl _,H,I,rfl,k⟩)
end
end Mini
end
section
namespace Mini
open PySem L2
structure Gives(K:QQq)(J:It)(xs:List D)(H:Hp):Prop where
 go:∀H1,bQ H H1->∀(i:Nat)d,xs[i]? =some d->J.go i H1
 yld:∀H1,bQ H H1->∀(i:Nat)d,xs[i]? =some d->∀x H2,J.yld i H1 x H2->bF K H2 d x/\(H2=H1\/∃p vs,H1 p=none/\H2=upd H1 p (.tup vs))
 stop:∀H1,bQ H H1->∀(i:Nat),xs.length<=i->J.stop i H1
 len:xs.length<=sizeLine
def tI(K:QQq)(W:Wi)(env:Ev)(r:Out Rv):TI:=fun σ H R=>Sat K env σ H/\match r with
 |.ok x env'=>∃d xs,x.jb=some d/\items d=some xs/\∀J H',Nx K env σ H env' H'->Gives K J xs H'->R J H'
 |.exc c env'=>∀H',Nx K env σ H env' H'->W c env' σ H'
 |.bad=>False
def GI(X:Cx)(W:Wi)(c:Cf)(m:E)(tg e:Expr):Prop:=∀env,PI X tg e (tI X.K W env (ev c m env))
section
variable{prog:Program}{w:World}{A:Around}{R:Result->Shared->Prop}{s:Shared}
theorem vU{elt target iter:Expr}{ifs:List Expr}{scope:Scope}{pos:Pos}{it acc:Value}{env:Env}(I:Nat->Shared->Prop)
  (turn:∀n s,I n s->wpAny (model prog w) A (pyNext it) (fun r s₁=>match r with
   |none=>R (.ok .next) s₁
   |some v=>wpAny (model prog w) A (letOwnedTupleGo target it v) (fun _ s₁'=>wpAny (model prog w) A (assign target env v) (fun _ s₂=>
     wpAny (model prog w) A (forIn ifs true fun c r=>if r=true then do let ok<-isTrue c env (eval c env);pure (ForInStep.yield ok)else pure (ForInStep.yield r)) (fun ok s₃=>
      if ok=true then wpAny (model prog w) A (eval elt env) (fun x s₄=>
       wpAny (model prog w) A (call (.builtin "list.append") [acc,x]) (fun _ s₅=>∃m,m<n/\I m s₅) (fun _ _=>False) s₄) (fun _ _=>False) s₃
      else∃m,m<n/\I m s₃) (fun _ _=>False) s₂) (fun _ _=>False) s₁') (fun _ _=>False) s₁) (fun _ _=>False) s)
  (n:Nat)(h:I n s):
  codeAny (model prog w) A (.compLoop (.ListComp elt [⟨target,iter,ifs,0⟩] scope pos) 0 it acc env) R s:=by
 refine codeAny_loop rfl I (fun n s hI=>?_) n h
 show wpAny _ A ((compTurn (.ListComp elt [⟨target,iter,ifs,0⟩] scope pos) 0 it acc env).onRaise (fun x=>do noteFrame x env;theTreesLotGoes x)) _ _ s
 refine wpAny_noted ?_
 rw[compTurn_list]
 refine QKq (wpAny_standAt (QKq (QGq (turn n s hI) (fun r s₁ h₁=>?_) fun _ _ h'=>h'.elim)))
 cases r with
 |none=>exact QKz h₁
 |some v=>
  refine QKq (QGq h₁ (fun _ s₁' h₁'=>?_) fun _ _ h'=>h'.elim)
  refine QKq (QGq h₁' (fun _ s₂ h₂=>QKq (QGq h₂ (fun ok s₃ h₃=>?_) fun _ _ h'=>h'.elim)) fun _ _ h'=>h'.elim)
  cases ok with
  |false=>exact QKz ⟨rfl,h₃⟩
  |true=>
   exact QKq (QKq (QGq h₃ (fun x s₄ h₄=>QKq (QGq h₄ (fun _ s₅ h₅=>QKz (QKz ⟨rfl,h₅⟩)) fun _ _ h'=>h'.elim)) fun _ _ h'=>h'.elim))
end
def blk(X:Cx)(scope:Scope)(cl:List (Str×Addr))(N:List Str)(fp:List Addr)(s₀:Shared)(H₀:Hp):Cx where
 prog:=X.prog
 w:=X.w
 K:=X.K
 mg:=X.mg
 base:=X.base
 A:=X.A
 N:=N
 s₀:=s₀
 H₀:=H₀
 env:=compEnvC scope cl s₀.heap.objs.size X.env
 outer:=X.stack
 stack:=X.stack
 ex:=fp
 fn:=fun _=>false
 calm:=X.calm
 pn:=[]
 xe:=fun _ _=>False
def bJ(tgs N:List Str):List Str:=tgs++N.map fun x=>if tgs.contains x then(".":Str)++x else x
structure Gw(sc inner:Scope)(tgs N:List Str):Prop where
 kind:inner.kind=.function
 nd:(bJ tgs N).Nodup
 loc:∀x,inner.names.lookup x=some .local->x∈tgs\/x=(".0":Str)
 locs:∀x∈inner.names,x.2=.local->inner.names.lookup x.1=some .local
 tg:∀x∈tgs,inner.names.lookup x=some .local
 nocell:∀x∈inner.names,x.2≠ .cell
 fre:∀x∈inner.names,x.2=.free->sc.names.lookup x.1=some .cell\/sc.names.lookup x.1=some .free
 dot:∀x∈N,tgs.contains x=true->inner.names.lookup ((".":Str)++x)=none
 dot0:(".0":Str)∉N
structure Ly(scope:Scope)(env:Env)(cl:List (Str×Addr)):Prop where
 eq:closureFor scope env=pure cl
 to:∀x c,cl.lookup x=some c->env.cells.lookup x=some c
 has:∀x,scope.names.lookup x=some .free->∃c,cl.lookup x=some c
theorem bL{env:Env}:∀{names:List (Str×NameKind)}{x:Str}{k:NameKind},
  (names.map fun(n,k)=>if (k==NameKind.free&&env.scope.kind== .function&&env.kindOf n==some .cell)then(n,NameKind.cell)else(n,k)).lookup x=some k->
   names.lookup x=some k\/(k=.cell/\names.lookup x=some .free)
 |[],_,_,h=>by simp at h
 |(n,k')::r,x,k,h=>by
  have ih:=@bL env r x k
  rw[Qyz]at h
  cases hx:x==n with
  |true=>
   by_cases hc:(k'==NameKind.free&&env.scope.kind== .function&&env.kindOf n==some .cell)=true
   ·simp only[hc,if_true,QHz,hx]at h
    cases h
    simp only[QUq,beq_iff_eq]at hc
    exact .inr ⟨rfl,by simp[QHz,hx,hc.1.1]⟩
   ·simp only[eq_false_of_ne_true hc,Qxq,if_false,QHz,hx]at h
    exact .inl (by simpa[QHz,hx]using h)
  |false=>
   have h':(r.map fun(n,k)=>if (k==NameKind.free&&env.scope.kind== .function&&env.kindOf n==some .cell)then(n,NameKind.cell)else(n,k)).lookup x=some k:=by
    by_cases hc:(k'==NameKind.free&&env.scope.kind== .function&&env.kindOf n==some .cell)=true
    ·simpa only[hc,if_true,QHz,hx]using h
    ·simpa only[eq_false_of_ne_true hc,Qxq,if_false,QHz,hx]using h
   rcases ih h' with q|⟨q1,q2⟩
   ·exact .inl (by simpa[QHz,hx]using q)
   ·exact .inr ⟨q1,by simpa[QHz,hx]using q2⟩
theorem KY{X:Cx}{scope:Scope}{cl:List (Str×Addr)}{tgs:List Str}{fp:List Addr}{QLq:QQz}{σ:St}{H:Hp}{s:Shared}
  (I:Inv X QLq σ H s)(sc:Gw X.env.scope scope tgs X.N)(co:Ly scope X.env cl)(hf:∀b∈fp,gh X QLq H b)(hlt:∀b∈fp,b<s.heap.objs.size):
  (blk X scope cl (bJ tgs X.N) fp s H).Ok where
 mod:=I.ok.mod
 kind:=sc.kind
 glob:=I.ok.glob
 blt:=I.ok.blt
 above:=QVz _
 inj:=fun x y c h1 h2=>I.ok.inj x y c (co.to x c h1) (co.to y c h2)
 has:=fun x h=>by
  have z:scope.names.lookup x=some .free:=by
   rcases h with h|h
   ·rcases bL (env:=X.env) h with q|⟨_,q⟩
    ·exact absurd rfl (sc.nocell (x,.cell) (PySem.mem_of_lookup q))
    ·exact q
   ·rcases bL (env:=X.env) h with q|⟨q,_⟩
    ·exact q
    ·cases q
  exact co.has x z
 cab:=fun x c h=>by cases h
 hd:=I.ok.hd
 frames:=I.ok.frames
 stk:=.inl rfl
 exf:=fun b hb=>⟨Qvz (hlt b hb),fun x c h=>(hf b hb).2.2.2.2.1 x c (co.to x c h)⟩
 bs:=I.bs
 bsz:=Nat.le_trans I.ok.bsz I.sz
 noex:=fun b o e hb=>by
  have e':X.base.get? b=some o:=e
  rcases (hf b hb).2.2.2.1 with z|z
  ·exact I.ok.noex b o e z
  ·have h2:=Qqz e'
   exact absurd (Qvq h2 (Nat.le_trans I.ok.bsz z)) (Nat.lt_irrefl _)
 exfs:=fun b hb hs=>by
  obtain⟨_,h1,h2,_⟩:=hf b hb
  rcases QCq.mp (I.yQ b hs)with z|z
  ·exact h1 z
  ·exact h2 z
 kj:=I.stack
 frf:=I.Bg
theorem Qm{X:Cx}{scope:Scope}{cl:List (Str×Addr)}{tgs:List Str}{fp:List Addr}{QLq:QQz}{σ:St}{H:Hp}{s:Shared}{h':Heap}{t:Nat}
  (I:Inv X QLq σ H s)(sc:Gw X.env.scope scope tgs X.N)(co:Ly scope X.env cl)(hf:∀b∈fp,gh X QLq H b)(hlt:∀b∈fp,b<s.heap.objs.size)
  (hn:h'.Ns s.heap.objs.size fun _=>none)(hk:∀b o,s.heap.get? b=some o->h'.get? b=some o):
  Inv (blk X scope cl (bJ tgs X.N) fp s H) [] (List.replicate tgs.length none++σ) H {s with heap:=h',toks:=t}:=by
 have cellK:∀c v,s.heap.IsCell c v->h'.IsCell c v:=fun c v⟨o,e,d⟩=>⟨o,hk c o e,d⟩
 refine⟨KY I sc co hf hlt,rfl,I.bare,Un.kept hk,⟨_,hn,fun i x v e1 e2 e3=>?_⟩,fun x c e=>?_,I.hok.fresh (QVz _),fun x c e=>I.freeC x c (co.to x c e),fun p hp=>absurd (show p∈([]:QQz)from hp) (by simp),I.hok.kept hk,?_⟩
 ·--an outer name that is seen within
  have hi:tgs.length<=i:=by
   refine Nat.le_of_not_lt fun q=>?_
   rw[Qwz (by simpa using q),List.getElem?_replicate]at e2
   split at e2<;>cases e2
  rw[QIz (by simpa using hi)]at e2
  simp only[List.length_replicate]at e2
  have e1':(bJ tgs X.N)[i]? =some x:=e1
  unfold bJ at e1'
  rw[QIz hi,QFz]at e1'
  cases ey:X.N[i-tgs.length]? with
  |none=>rw[ey]at e1';cases e1'
  |some y=>
   rw[ey]at e1'
   have e1'':(if tgs.contains y=true then(".":Str)++y else y)=x:=QEq e1'
   have e3':(relabel scope X.env).names.lookup x=some .local\/(relabel scope X.env).names.lookup x=some .cell\/(relabel scope X.env).names.lookup x=some .free:=e3
   by_cases hy:tgs.contains y=true
   ·rw[if_pos hy]at e1''
    subst e1''
    have no:=sc.dot y (QBz ey) hy
    rcases e3' with q|q|q
    ·rcases bL (env:=X.env) q with z|⟨z,_⟩
     ·rw[no]at z;cases z
     ·cases z
    ·rcases bL (env:=X.env) q with z|⟨_,z⟩
     ·rw[no]at z;cases z
     ·rw[no]at z;cases z
    ·rcases bL (env:=X.env) q with z|⟨z,_⟩
     ·rw[no]at z;cases z
     ·cases z
   ·rw[if_neg hy]at e1''
    subst e1''
    have fr:scope.names.lookup y=some .free:=by
     rcases e3' with q|q|q
     ·rcases bL (env:=X.env) q with z|⟨z,_⟩
      ·rcases sc.loc y z with w|w
       ·exact absurd (by simpa using w) hy
       ·exact absurd (w▸QBz ey) sc.dot0
      ·cases z
     ·rcases bL (env:=X.env) q with z|⟨_,z⟩
      ·exact absurd rfl (sc.nocell (y,.cell) (PySem.mem_of_lookup z))
      ·exact z
     ·rcases bL (env:=X.env) q with z|⟨z,_⟩
      ·exact z
      ·cases z
    have ou:=sc.fre (y,.free) (PySem.mem_of_lookup fr) rfl
    obtain⟨m,hm,hl⟩:=I.loc
    obtain⟨u,r,l⟩:=hl _ y v ey e2 (.inr ou)
    obtain⟨c,hc⟩:=co.has y fr
    refine⟨u,r,.inr ⟨?_,c,hc,?_⟩⟩
    ·have z:(relabel scope X.env).names.lookup y=some .local\/(relabel scope X.env).names.lookup y=some .cell\/(relabel scope X.env).names.lookup y=some .free:=e3'
     rcases z with z|z|z
     ·rcases bL (env:=X.env) z with w|⟨w,_⟩
      ·rw[fr]at w;cases w
      ·cases w
     ·exact .inl z
     ·exact .inr z
    ·rcases l with ⟨k,_⟩|⟨_,c',hc',z⟩
     ·have k':X.env.scope.names.lookup y=some .local:=k
      rcases ou with w|w
      ·rw[k']at w;cases w
      ·rw[k']at w;cases w
     ·rw[co.to y c hc]at hc'
      cases hc'
      exact cellK c _ z
 ·obtain⟨v,z⟩:=I.cell x c (co.to x c e)
  exact⟨v,cellK c v z⟩
 ·show(List.replicate tgs.length none++σ).length=(bJ tgs X.N).length
  unfold bJ
  simp only[QTq,List.length_replicate,QAq,I.len]
def slots:Tg->List Nat
 |.name i=>[i]
 |.tup is=>is
structure iV(K:QQq)(tg:Tg)(env:Ev)(σ:St)(env':Ev)(σ':St)(H:Hp):Prop where
 eX:Sat K env' σ' H
 same:∀(i:Nat),i∉slots tg->env'[i]? =env[i]? /\σ'[i]? =σ[i]?
 vals:∀(i:Nat),i∈slots tg->∃d,env'[i]? =some (.val d)
 bors:∀(i:Nat)xs,env[i]? =some (.bor xs)->i∉slots tg
 len:σ'.length=σ.length
def tG(K:QQq)(tg:Tg):TG:=fun v σ H Q=>∃env d env',Sat K env σ H/\bF K H d v/\bT tg d env=some env'/\∀σ',iV K tg env σ env' σ' H->Q σ' H
def GG(X:Cx)(tg:Tg)(e:Expr):Prop:=PG X e (tG X.K tg)
section
variable{K:QQq}{tg:Tg}{env env':Ev}{σ σ':St}{H:Hp}
theorem iV.sub(h:iV K tg env σ env' σ' H){i:Nat}{a:Addr}(o:aN env' σ' i a):aN env σ i a:=by
 obtain⟨⟨s,xs,e1,e2⟩,e3⟩:=o
 by_cases hi:i∈slots tg
 ·obtain⟨d,e⟩:=h.vals i hi
  rw[e]at e1;cases e1;cases e2
 ·obtain⟨q1,q2⟩:=h.same i hi
  exact⟨⟨s,xs,by rw[<-q1];exact e1,e2⟩,by rw[<-q2];exact e3⟩
theorem pJ{i:Nat}{s:Sl}(h:cQ i s env=some env'):env'=env.set i s/\i<env.length/\∀xs,env[i]? ≠some (.bor xs):=by
 unfold cQ at h
 cases e:env[i]? with
 |none=>rw[e]at h;cases h
 |some t=>
  rw[e]at h
  have hi:=(QCz.mp e).1
  cases t with
  |bor xs=>cases h
  |un=>cases h;exact⟨rfl,hi,fun xs q=>by cases q⟩
  |val d=>cases h;exact⟨rfl,hi,fun xs q=>by cases q⟩
  |own ys=>cases h;exact⟨rfl,hi,fun xs q=>by cases q⟩
theorem Sat.put{i:Nat}{d:D}{v:V}(S:Sat K env σ H)(hi:i<env.length)(hd:bF K H d v):Sat K (env.set i (.val d)) (σ.set i (some v)) H:=by
 have hi':i<σ.length:=by rw[<-S.len];exact hi
 have own:∀j a,aN (env.set i (.val d)) (σ.set i (some v)) j a->aN env σ j a:=fun j a⟨⟨s,xs,e1,e2⟩,e3⟩=>by
  by_cases hj:i=j
  ·subst hj;rw[Qwq hi]at e1;cases e1;cases e2
  ·rw[Qxz hj]at e1 e3;exact⟨⟨s,xs,e1,e2⟩,e3⟩
 refine⟨by simpa using S.len,fun j s e=>?_,fun j k a h1 h2=>S.ne j k a (own j a h1) (own k a h2)⟩
 by_cases hj:i=j
 ·subst hj
  rw[Qwq hi]at e
  cases e
  rw[Qwq hi']
  exact⟨v,rfl,hd⟩
 ·rw[Qxz hj]at e⊢
  exact S.sl j s e
theorem M6{i:Nat}{d:D}{v:V}(S:Sat K env σ H)(hd:bF K H d v)(h:cQ i (.val d) env=some env'):iV K (.name i) env σ env' (σ.set i (some v)) H:=by
 obtain⟨rfl,hi,hb⟩:=pJ h
 refine⟨S.put hi hd,fun j hj=>?_,fun j hj=>?_,fun j xs e hj=>?_,by simp⟩
 ·have:i≠j:=fun z=>hj (by simp[slots,z])
  exact⟨Qxz this,Qxz this⟩
 ·have e:j=i:=by simpa[slots]using hj
  subst e
  exact⟨d,Qwq hi⟩
 ·have e':j=i:=by simpa[slots]using hj
  subst e'
  exact hb xs e
end
section
variable{X:Cx}{pos:Pos}
theorem vG{i:Nat}{x:Str}(hN:X.N.Nodup)(hi:X.N[i]? =some x)(hx:Loc X.env.scope x)(hf:X.fn x=true\/X.env.scope.names.lookup x=some .local):GG X (.name i) (.Name x pos):=by
 intro QLq s σ H v u Q I r q
 obtain⟨env,d,env',S,hd,e,k⟩:=q
 exact Oh hN hi hx hf QLq s σ H v u Q I r (k _ (M6 S hd e))
def gn(sc:Scope)(N:List Str):List Nat->List Expr->Bool
 |[],[]=>true
 |i::is,.Name x _::es=>(N[i]? ==some x)&&(sc.names.lookup x==some .local)&&gn sc N is es
 |_,_=>false
inductive rD(X:Cx):List Nat->List Expr->Prop
 |nil:rD X [] []
 |cons {i:Nat} {is:List Nat} {x:Str} {p:Pos} {es:List Expr}:X.N[i]? =some x->Loc X.env.scope x->(X.fn x=true\/X.env.scope.names.lookup x=some .local)->rD X is es->rD X (i::is) (.Name x p::es)
theorem Jb:∀{is:List Nat}{es:List Expr},gn X.env.scope X.N is es=true->rD X is es
 |[],[]=>fun _=>.nil
 |[],_::_=>fun h=>by simp[gn]at h
 |_::_,[]=>fun h=>by simp[gn]at h
 |i::is,e::es=>fun h=>by
  cases e with
  |Name x p=>
   simp only[gn,QUq,beq_iff_eq]at h
   exact .cons h.1.1 (.inl h.1.2) (.inr h.1.2) (Jb h.2)
  |_=>simp[gn]at h
theorem xY(hN:X.N.Nodup):∀(is:List Nat)(es:List Expr),rD X is es->
  PGs X es (fun vs σ H Q=>∃env ds env',Sat X.K env σ H/\aq X.K H ds vs/\gF is ds env=some env'/\∀σ',iV X.K (.tup is) env σ env' σ' H->Q σ' H)
 |[],[],_=>fun QLq s σ H vs us Q I r⟨env,ds,env',S,l,e,k⟩=>by
  cases ds with
  |nil=>
   cases e
   refine Og QLq s σ H vs us Q I r ⟨aq.bB.mp l,k σ ⟨S,fun i _=>⟨rfl,rfl⟩,fun i hi=>?_,fun i xs _=>?_,rfl⟩⟩
   ·simp[slots]at hi
   ·simp[slots]
  |cons d ds=>cases e
 |i::is,_,.cons (x:=x) (p:=p) (es:=es) h1 h2 h3 h4=>by
   have ih:=xY hN is es h4
   have one:GG X (.name i) (.Name x p):=vG hN h1 h2 h3
   intro QLq s σ H vs us Q I r q
   refine Im (X:=X) one ih (by rfl) QLq s σ H vs us Q I r ?_
   obtain⟨env,ds,env',S,l,e,k⟩:=q
   cases ds with
   |nil=>cases e
   |cons d ds=>
    obtain⟨v,vr,rfl,hd,l'⟩:=aq.aK.mp l
    have e':(cQ i (.val d) env).bind (gF is ds)=some env':=e
    cases e1:cQ i (.val d) env with
    |none=>rw[e1]at e';cases e'
    |some env1=>
     rw[e1]at e'
     refine⟨v,vr,rfl,env,d,env1,S,hd,e1,fun σ1 s1=>⟨env1,ds,env',s1.eX,l',e',fun σ2 s2=>k σ2 ⟨s2.eX,fun j hj=>?_,fun j hj=>?_,fun j xs q hj=>?_,s2.len.trans s1.len⟩⟩⟩
     ·have h1:j∉slots (.name i):=fun z=>hj (by simp[slots]at z⊢;exact .inl z)
      have h2:j∉slots (.tup is):=fun z=>hj (by simp[slots]at z⊢;exact .inr z)
      exact⟨(s2.same j h2).1.trans (s1.same j h1).1,(s2.same j h2).2.trans (s1.same j h1).2⟩
     ·by_cases h2:j∈slots (.tup is)
      ·exact s2.vals j h2
      ·have h1:j∈slots (.name i):=by simp[slots]at hj h2⊢;exact hj.resolve_right h2
       obtain⟨d',q⟩:=s1.vals j h1
       exact⟨d',(s2.same j h2).1.trans q⟩
     ·by_cases h1:j∈slots (.name i)
      ·exact s1.bors j xs q h1
      ·have h2:j∈slots (.tup is):=by simp[slots]at hj h1⊢;exact hj.resolve_left h1
       exact s2.bors j xs ((s1.same j h1).1.trans q) h2
theorem zT{is:List Nat}{es:List Expr}{k:Nat}(hN:X.N.Nodup)(hc:X.calm=true)(h:rD X is es)(hl:(assignEach es X.env).length=is.length)(hst:(assignEach es X.env).findIdx? (·.1)=none):GG X (.tup is) (.Tuple es k pos):=by
 intro QLq s σ H v u Q I r q
 obtain⟨env,d,env',S,hd,e,k⟩:=q
 cases d with
 |tup ds=>
  obtain⟨a,vs,rfl,hq,l⟩:=cF hd
  refine Uu (n:=is.length) hc (xY hN is es h) hl hst QLq s σ H _ u Q I r ⟨a,vs,rfl,hq,?_,env,ds,env',S,l,e,k⟩
  have lens:∀(is:List Nat)(ds:List D)(env env':Ev),gF is ds env=some env'->ds.length=is.length:=by
   intro is
   induction is with
   |nil=>intro ds env env' e;cases ds with|nil=>rfl|cons _ _=>cases e
   |cons i is ih=>
    intro ds env env' e
    cases ds with
    |nil=>cases e
    |cons d ds=>
     have e':(cQ i (.val d) env).bind (gF is ds)=some env':=e
     cases e1:cQ i (.val d) env with
     |none=>rw[e1]at e';cases e'
     |some env1=>rw[e1]at e';simp[ih ds env1 env' e']
  rw[<-l.length]
  exact lens is ds env env' e
 |_=>cases e
end
end Mini
end
section
namespace Mini
open PySem L2
def W0:Wi:=fun _ _ _ _=>False
theorem Sat.lay{K:QQq}{env:Ev}{σ:St}{H H2:Hp}(S:Sat K env σ H)(h:H2=H\/∃p vs,H p=none/\H2=upd H p (.tup vs)):Nx K env σ H env H2:=by
 rcases h with rfl|⟨p,vs,hp,rfl⟩
 ·exact Nx.refl S
 ·exact Nx.laid S hp
theorem pU{env:Ev}{σ:St}{nl i:Nat}{a:Addr}:aN (env.drop nl) (σ.drop nl) i a↔aN env σ (nl+i) a:=by
 unfold aN
 rw[List.getElem?_drop,List.getElem?_drop]
theorem Sat.drop{K:QQq}{env:Ev}{σ:St}{H:Hp}{nl:Nat}(S:Sat K env σ H):Sat K (env.drop nl) (σ.drop nl) H:=by
 refine⟨by rw[List.length_drop,List.length_drop,S.len],fun i s e=>?_,fun i j a h1 h2=>?_⟩
 ·rw[List.getElem?_drop]at e⊢
  exact S.sl _ s e
 ·have:=S.ne _ _ a (pU.mp h1) (pU.mp h2)
  omega
theorem gW{env:Ev}{σ:St}{nl:Nat}{i:Nat}{a:Addr}(h:aN (List.replicate nl .un++env) (List.replicate nl none++σ) i a):∃j,i=nl+j/\aN env σ j a:=by
 obtain⟨⟨s,xs,e1,e2⟩,e3⟩:=h
 by_cases hi:i<nl
 ·rw[Qwz (by simpa using hi),List.getElem?_replicate,if_pos hi]at e1
  cases e1;cases e2
 ·refine⟨i-nl,by omega,?_⟩
  rw[QIz (by simp;omega)]at e1 e3
  simp only[List.length_replicate]at e1 e3
  exact⟨⟨s,xs,e1,e2⟩,e3⟩
theorem Sat.front{K:QQq}{env:Ev}{σ:St}{H:Hp}(S:Sat K env σ H)(nl:Nat):Sat K (List.replicate nl .un++env) (List.replicate nl none++σ) H:=by
 refine⟨by simp[S.len],fun i s e=>?_,fun i j a h1 h2=>?_⟩
 ·by_cases hi:i<nl
  ·rw[Qwz (by simpa using hi),List.getElem?_replicate,if_pos hi]at e
   cases e;trivial
  ·rw[QIz (by simp;omega)]at e⊢
   simp only[List.length_replicate]at e⊢
   exact S.sl _ s e
 ·obtain⟨i',rfl,o1⟩:=gW h1
  obtain⟨j',rfl,o2⟩:=gW h2
  rw[S.ne i' j' a o1 o2]
structure yD(X:Cx)(c:Cf)(scope:Scope)(tgs:List Str)(tg:Tg)(cond elt:E)(tgE eltE:Expr)(ifs:List Expr):Prop where
 sc:Gw X.env.scope scope tgs X.N
 small:∀i∈slots tg,i<tgs.length
 tgt:∀cl fp s₀ H₀,(blk X scope cl (bJ tgs X.N) fp s₀ H₀).Ok->GG (blk X scope cl (bJ tgs X.N) fp s₀ H₀) tg tgE
 tests:(ifs=[]/\cond=.con (.bl true))\/∃ce,ifs=[ce]/\∀cl fp s₀ H₀,(blk X scope cl (bJ tgs X.N) fp s₀ H₀).Ok->GT (blk X scope cl (bJ tgs X.N) fp s₀ H₀) W0 c cond ce
 elts:∀cl fp s₀ H₀,(blk X scope cl (bJ tgs X.N) fp s₀ H₀).Ok->GE (blk X scope cl (bJ tgs X.N) fp s₀ H₀) W0 c elt eltE
structure LI(X:Cx)(c:Cf)(tg:Tg)(cond elt:E)(xs ys:List D)(τ env0:Ev)(σ σ0:St)(H3:Hp)(D:Addr)(nl i:Nat)(acc:List Mini.D)(vs:List V)(τ1:Ev)(σ1:St)(H1:Hp):Prop where
 le:i<=xs.length
 go:aR tg (ev c cond) (ev c elt) (xs.drop i) acc τ1=.ok ys τ
 eX:Sat X.K τ1 σ1 H1
 out:σ1.drop nl=σ
 acl:acc.length<=i
 cur:H1 D=some (.lst vs)
 den:aq X.K H1 acc vs
 sub:∀k a,aN τ1 σ1 k a->aN env0 σ0 k a
 pers:bQ H3 H1
 keep:∀b u,H3 b=some u->b≠D->(∀k,¬aN env0 σ0 k b)->H1 b=some u
 dom:∀b,H1 b=none->H3 b=none
 bors:∀(k:Nat)ws,env0[k]? =some (.bor ws)->∃ws',τ1[k]? =some (.bor ws')
section
variable{X:Cx}{c:Cf}{tg:Tg}{cond elt:E}{xs ys:List D}{τ env0:Ev}{σ σ0:St}{H3:Hp}{D:Addr}{nl i:Nat}{acc:List Mini.D}{vs:List V}{τ1 τ2:Ev}{σ1 σ2:St}{H1 H2:Hp}
theorem LI.no(L:LI X c tg cond elt xs ys τ env0 σ σ0 H3 D nl i acc vs τ1 σ1 H1)(hD:∀k,¬aN env0 σ0 k D):∀k,¬aN τ1 σ1 k D:=fun k z=>hD k (L.sub k D z)
end
structure Ch(K:QQq)(env:Ev)(σ:St)(H:Hp)(env':Ev)(σ':St)(H':Hp):Prop where
 eX:Sat K env' σ' H'
 sub:∀(i:Nat)a,aN env' σ' i a->aN env σ i a
 pers:bQ H H'
 keep:∀b u,H b=some u->(∀i,¬aN env σ i b)->H' b=some u
 dom:∀b,H' b=none->H b=none
 bors:∀(i:Nat)xs,env[i]? =some (.bor xs)->∃ys,env'[i]? =some (.bor ys)
section
variable{K:QQq}{env env1 env2:Ev}{σ σ1 σ2:St}{H H1 H2:Hp}
theorem Nx.ch(N:Nx K env σ H env1 H1):Ch K env σ H env1 σ H1:=⟨N.eX,N.sub,N.pers,N.keep,N.dom,N.bors⟩
theorem iV.ch{tg:Tg}(h:iV K tg env σ env1 σ1 H):Ch K env σ H env1 σ1 H:=⟨h.eX,fun _ _ z=>h.sub z,bQ.refl H,fun _ _ z _=>z,fun _ z=>z,fun i xs e=>⟨xs,(h.same i (h.bors i xs e)).1.trans e⟩⟩
theorem Ch.trans(a:Ch K env σ H env1 σ1 H1)(b:Ch K env1 σ1 H1 env2 σ2 H2):Ch K env σ H env2 σ2 H2:=
 ⟨b.eX,fun i c z=>a.sub i c (b.sub i c z),a.pers.trans b.pers,fun c vs z n=>b.keep c vs (a.keep c vs z n) fun i w=>n i (a.sub i c w),fun c z=>a.dom c (b.dom c z),fun i xs e=>let ⟨ys,e1⟩:=a.bors i xs e;b.bors i ys e1⟩
end
theorem iV.out{K:QQq}{tg:Tg}{env env1:Ev}{σ σ1:St}{H:Hp}{nl:Nat}(h:iV K tg env σ env1 σ1 H)(hs:∀i∈slots tg,i<nl):σ1.drop nl=σ.drop nl:=by
 apply List.ext_getElem?
 intro i
 rw[List.getElem?_drop,List.getElem?_drop]
 exact(h.same (nl+i) fun z=>by have:=hs _ z;omega).2
section
variable{X:Cx}{c:Cf}{tg:Tg}{cond elt:E}{xs ys:List D}{τ env0:Ev}{σ σ0:St}{H3:Hp}{D:Addr}{nl i:Nat}{acc acc':List Mini.D}{vs:List V}{τ1 τ2:Ev}{σ1 σ2:St}{H1 H2:Hp}
theorem LI.skip(L:LI X c tg cond elt xs ys τ env0 σ σ0 H3 D nl i acc vs τ1 σ1 H1)(hD:∀k,¬aN env0 σ0 k D)(C:Ch X.K τ1 σ1 H1 τ2 σ2 H2)(hi:i<xs.length)(ho:σ2.drop nl=σ)
  (go:aR tg (ev c cond) (ev c elt) (xs.drop (i+1)) acc τ2=.ok ys τ):LI X c tg cond elt xs ys τ env0 σ σ0 H3 D nl (i+1) acc vs τ2 σ2 H2 where
 le:=hi
 go:=go
 eX:=C.eX
 out:=ho
 acl:=Nat.le_succ_of_le L.acl
 cur:=C.keep D _ L.cur (L.no hD)
 den:=L.den.mono C.pers
 sub:=fun k a z=>L.sub k a (C.sub k a z)
 pers:=L.pers.trans C.pers
 keep:=fun b ws z n1 n2=>C.keep b ws (L.keep b ws z n1 n2) fun k o=>n2 k (L.sub k b o)
 dom:=fun b z=>L.dom b (C.dom b z)
 bors:=fun k ws e=>let ⟨w1,e1⟩:=L.bors k ws e;C.bors k w1 e1
theorem LI.push{d:Mini.D}{v:V}(L:LI X c tg cond elt xs ys τ env0 σ σ0 H3 D nl i acc vs τ1 σ1 H1)(hD:∀k,¬aN env0 σ0 k D)(C:Ch X.K τ1 σ1 H1 τ2 σ2 H2)(hi:i<xs.length)(ho:σ2.drop nl=σ)
  (go:aR tg (ev c cond) (ev c elt) (xs.drop (i+1)) (acc++[d]) τ2=.ok ys τ)(hd:bF X.K H2 d v):LI X c tg cond elt xs ys τ env0 σ σ0 H3 D nl (i+1) (acc++[d]) (vs++[v]) τ2 σ2 (upd H2 D (.lst (vs++[v]))):=by
 have cur:=C.keep D _ L.cur (L.no hD)
 have ne:∀b u,H2 b=some u->(∀ws,u≠ .lst ws)->b≠D:=fun b u q n z=>by subst z;rw[cur]at q;cases q;exact n vs rfl
 have p:bQ H2 (upd H2 D (.lst (vs++[v]))):=⟨fun b ws q=>by rw[aG (ne b _ q (by intro ws z;cases z))];exact q,fun b o u q=>by rw[aG (ne b _ q (by intro ws z;cases z))];exact q⟩
 have no2:∀k,¬aN τ2 σ2 k D:=fun k z=>L.no hD k (C.sub k D z)
 refine⟨hi,go,C.eX.keep p fun k b u ow hb=>?_,ho,by rw[QTq];exact Nat.succ_le_succ L.acl,aU,((L.den.mono C.pers).append (aq.cZ hd aq.eY)).mono p,fun k a z=>L.sub k a (C.sub k a z),
  (L.pers.trans C.pers).trans p,fun b ws z n1 n2=>?_,fun b z=>L.dom b (C.dom b ?_),fun k ws e=>let ⟨w1,e1⟩:=L.bors k ws e;C.bors k w1 e1⟩
 ·have nb:b≠D:=fun z=>by subst z;exact no2 k ow
  rw[aG nb];exact hb
 ·rw[aG n1]
  exact C.keep b ws (L.keep b ws z n1 n2) fun k o=>n2 k (L.sub k b o)
 ·by_cases hb:b=D
  ·subst hb;rw[aU]at z;cases z
  ·rw[aG hb]at z;exact z
end
theorem ux{α:Type}{xs:List α}{i:Nat}{d:α}(h:xs[i]? =some d):xs.drop i=d::xs.drop (i+1):=by
 obtain⟨hi,e⟩:=QCz.mp h
 rw[List.drop_eq_getElem_cons hi,e]
theorem uy{X:Cx}{c:Cf}{scope:Scope}{tgs:List Str}{tg:Tg}{cond elt:E}{tgE iterE eltE:Expr}{ifs:List Expr}{pos:Pos}{cl:List (Str×Addr)}
  {QLq:QQz}{σ:St}{H:Hp}{s:Shared}{env τ:Ev}{J:It}{fp:List Addr}{it:Addr}{tn:Nat->Heap->Prop}{xs ys:List D}{RR:Value->Addr->Result->Shared->Prop}{E:QZq}
  (B:yD X c scope tgs tg cond elt tgE eltE ifs)(hc:X.calm=true)(co:Ly scope X.env cl)
  (I:Inv X QLq σ H s)(S:Sat X.K env σ H)(T:Turn X.prog X.w X.K tgE J fp it tn)(t0:tn 0 s.heap)(hf:∀b∈fp,gh X QLq H b)(G:Gives X.K J xs H)
  (hgo:aR tg (ev c cond) (ev c elt) xs [] (List.replicate tgs.length .un++env)=.ok ys τ)
  (hRR:∀(D C:Addr)(s':Shared)(H':Hp)(vs:List V)(m:QZz),Inv X QLq σ H' s'->Nx X.K env σ H (τ.drop tgs.length) H'->H' D=some (.lst vs)->aq X.K H' ys vs->H D=none->
   s'.heap.Ns C m->gh X QLq H' C->RR (.ref D) C (.ok .next) s'):
  wpAny (model X.prog X.w) X.A (newList []) (fun acc s₃=>wpAny (model X.prog X.w) X.A (newFunctionEnv scope X.env.globals cl [] X.env.qual none .none (some X.env)) (fun cenv s₄=>
   codeAny (model X.prog X.w) X.A (.compStart (.ListComp eltE [⟨tgE,iterE,ifs,0⟩] scope pos) 0 (.ref it) acc {cenv with scope:=relabel scope X.env}) (RR acc cenv.locals) s₄) E s₃) E s:=by
 have hlt:∀b∈fp,b<s.heap.objs.size:=fun b hb=>by
  obtain⟨o,e,_⟩:=T.obj 0 _ t0 b hb
  exact Qqz e
 refine Qjq (wpAny_newFunctionEnv B.sc.nocell (by intro y hy;simp at hy) (fun h₁ hns₁ hsb₁=>?_) B.sc.kind)
 dsimp only at hns₁ hsb₁⊢
 generalize hDd:s.heap.objs.size=D at*
 have hDn:H D=none:=by rw[<-hDd];exact I.hok.fresh (QVz _)
 have I3:Inv X QLq σ (upd H D (.lst [])) {s with heap:=s.heap.push {cls:=.type "list",dict:=none,data:=.seq ([]:List Value).toArray}}:=by
  have:=I.laid (a:=s.heap.objs.size) (o:=.lst []) (t':=s.toks) (h':=s.heap.push {cls:=.type "list",dict:=none,data:=.seq ([]:List Value).toArray}) (fun b o e=>QWq _ e) (QVz _) ⟨QIq _,[],0,.nil,Qzq _ rfl⟩
  rw[hDd]at this
  exact this
 obtain⟨s3,hs3⟩:∃s3:Shared,s3={s with heap:=s.heap.push {cls:=.type "list",dict:=none,data:=.seq ([]:List Value).toArray}}:=⟨_,rfl⟩
 rw[<-hs3]at I3
 have hs3h:s.heap.push {cls:=.type "list",dict:=none,data:=.seq ([]:List Value).toArray}=s3.heap:=by rw[hs3]
 rw[hs3h]at hns₁ hsb₁⊢
 have hsz:s3.heap.objs.size=D+1:=by rw[<-hs3h,Heap.size_push,hDd]
 have hk3:∀b o,s3.heap.get? b=some o->h₁.get? b=some o:=fun b o e=>hsb₁.extBut b o (Qvz (Qqz e)) (QWq _ e)
 have hk:∀b o,s.heap.get? b=some o->s3.heap.get? b=some o:=fun b o e=>by rw[<-hs3h];exact QWq _ e
 have hf3:∀b∈fp,gh X QLq (upd H D (.lst [])) b:=fun b hb=>⟨by
  rw[aG (Qvz (hlt b hb))];exact(hf b hb).1,(hf b hb).2⟩
 have hlt3:∀b∈fp,b<s3.heap.objs.size:=fun b hb=>Qvq (hlt b hb) (by rw[hsz];exact Nat.le_succ _)
 have N3:Nx X.K env σ H env (upd H D (.lst [])):=Nx.laid S hDn
 generalize hH3:upd H D (.lst [])=H3 at I3 hf3 N3
 have hD3:H3 D=some (.lst []):=by rw[<-hH3];exact aU
 have noD:∀k,¬aN (List.replicate tgs.length .un++env) (List.replicate tgs.length none++σ) k D:=fun k z=>by
  obtain⟨j,_,o⟩:=gW z
  obtain⟨_,_,q,_⟩:=S.own o
  rw[hDn]at q;cases q
 have ok':(blk X scope cl (bJ tgs X.N) fp s3 H3).Ok:=KY I3 B.sc co hf3 hlt3
 have hns':h₁.Ns s3.heap.objs.size fun _=>none:=by simpa using hns₁
 have fpk:∀{H1:Hp},(∀b∈fp,H1 b=none)->∀b∈fp,gh (blk X scope cl (bJ tgs X.N) fp s3 H3) [] H1 b:=fun{H1}hn b hb=>
  ⟨hn b hb,(ok'.exf b hb).1,ok'.exfs b hb,.inl hb,fun x q e=>(ok'.exf b hb).2 x q e,fun p hp=>absurd (show p∈([]:QQz)from hp) (by simp)⟩
 have loop:∀s4:Shared,s4={s with heap:=h₁,toks:=s.toks+([]:List (Str×Value)).length}->
   codeAny (model X.prog X.w) X.A (.compLoop (.ListComp eltE [⟨tgE,iterE,ifs,0⟩] scope pos) 0 (.ref it) (.ref D) (compEnvC scope cl s3.heap.objs.size X.env)) (RR (.ref D) s3.heap.objs.size) s4:=by
  rintro s4 rfl
  have I4:Inv (blk X scope cl (bJ tgs X.N) fp s3 H3) [] (List.replicate tgs.length none++σ) H3 {s with heap:=h₁,toks:=s.toks+([]:List (Str×Value)).length}:=by
   have:=Qm (t:=s.toks+([]:List (Str×Value)).length) I3 B.sc co hf3 hlt3 hns' hk3
   rw[hs3]at this⊢
   exact this
  refine vU (fun n s'=>∃i acc vs τ1 σ1 H1,n=xs.length-i/\Inv (blk X scope cl (bJ tgs X.N) fp s3 H3) [] σ1 H1 s'/\tn i s'.heap/\(∀b∈fp,H1 b=none)/\
   LI X c tg cond elt xs ys τ (List.replicate tgs.length .un++env) σ (List.replicate tgs.length none++σ) H3 D tgs.length i acc vs τ1 σ1 H1) ?_ xs.length ?_
  ·rintro n s1 ⟨i,acc,vs,τ1,σ1,H1,rfl,I1,t1,f1,L⟩
   by_cases hi:i<xs.length
   ·--one more turn
    obtain⟨d,hd⟩:∃d,xs[i]? =some d:=⟨xs[i],by simp[hi]⟩
    have q0:=L.go
    rw[ux hd,aR]at q0
    cases hset:bT tg d τ1 with
    |none=>rw[hset]at q0;cases q0
    |some τ2=>
     rw[hset]at q0
     simp only at q0
     have p1:bQ H H1:=N3.pers.trans L.pers
     refine b8 (T.item (blk X scope cl (bJ tgs X.N) fp s3 H3) rfl rfl rfl hc i [] s1 σ1 H1 _ I1 (fpk f1) t1 (G.go H1 p1 i d hd)) fun r s2⟨u,hr,h2⟩=>?_
     subst hr
     refine b8 h2 fun _ s3'⟨x,H2,I2,r2,y2,t2,f2⟩=>?_
     obtain⟨Dx,lay⟩:=G.yld H1 p1 i d hd x H2 y2
     have N2:=L.eX.lay lay
     have D2:H2 D=some (.lst vs):=N2.keep D _ L.cur (L.no noD)
     have I2':=I2.pinned (fpk f2) (T.obj _ _ t2)
     refine b8 (B.tgt cl fp s3 H3 ok' _ s3' σ1 H2 x u (fun σ2 H'=>H'=H2/\iV X.K tg τ1 σ1 τ2 σ2 H2) I2' r2 ⟨τ1,d,τ2,N2.eX,Dx,hset,fun σ2 st=>⟨rfl,st⟩⟩) fun _ s4'⟨σ2,H2',I3',hH,st⟩=>?_
     subst hH
     have ho:σ2.drop tgs.length=σ:=(st.out B.small).trans L.out
     have C2:Ch X.K τ1 σ1 H1 τ2 σ2 H2':=N2.ch.trans st.ch
     have again:∀{s7:Shared}{H7:Hp}{acc':List Mini.D}{vs':List V}{τ7:Ev},Inv (blk X scope cl (bJ tgs X.N) fp s3 H3) ([]++mJ fp s3'.heap) σ2 H7 s7->
       LI X c tg cond elt xs ys τ (List.replicate tgs.length .un++env) σ (List.replicate tgs.length none++σ) H3 D tgs.length (i+1) acc' vs' τ7 σ2 H7->
       ∃k,k<xs.length-i/\∃i acc vs τ1 σ1 H1,k=xs.length-i/\Inv (blk X scope cl (bJ tgs X.N) fp s3 H3) [] σ1 H1 s7/\tn i s7.heap/\(∀b∈fp,H1 b=none)/\
        LI X c tg cond elt xs ys τ (List.replicate tgs.length .un++env) σ (List.replicate tgs.length none++σ) H3 D tgs.length i acc vs τ1 σ1 H1:=fun{s7 H7 acc' vs' τ7}I7 L7=>by
      refine⟨xs.length- (i+1),by omega,i+1,acc',vs',τ7,σ2,H7,rfl,I7.kO,T.keep _ _ _ t2 fun b hb o e=>(I7.pin (b,o) (QVq _ (QVq _ (iu hb e)))).1,fun b hb=>?_,L7⟩
      obtain⟨o,e,_⟩:=T.obj _ _ t2 b hb
      exact(I7.pin (b,o) (QVq _ (QVq _ (iu hb e)))).2.1
     obtain⟨xc,dc,bc,τ3,e1,e2,e3,q1⟩:∃xc dc bc τ3,ev c cond τ2=.ok xc τ3/\xc.jb=some dc/\gC dc=some bc/\
       (if bc then(ev c elt τ3).ao fun d σ₃=>aR tg (ev c cond) (ev c elt) (xs.drop (i+1)) (acc++[d]) σ₃ else aR tg (ev c cond) (ev c elt) (xs.drop (i+1)) acc τ3)=.ok ys τ:=by
      cases r:ev c cond τ2 with
      |bad=>rw[r]at q0;cases q0
      |exc k τ3=>rw[r]at q0;cases q0
      |ok xc τ3=>
       rw[r]at q0
       cases xc with
       |ref k=>cases q0
       |tmp zs=>cases q0
       |val dc=>
        simp only[Out.cu,Out.ao]at q0
        cases q:gC dc with
        |none=>rw[q]at q0;cases q0
        |some bc=>rw[q]at q0;exact⟨_,dc,bc,τ3,rfl,rfl,q,q0⟩
       |new zs=>
        simp only[Out.cu,Out.ao]at q0
        cases q:gC zs.d with
        |none=>rw[q]at q0;cases q0
        |some bc=>rw[q]at q0;exact⟨_,zs.d,bc,τ3,rfl,rfl,q,q0⟩
     have after:∀(s5:Shared)(H5:Hp),Inv (blk X scope cl (bJ tgs X.N) fp s3 H3) ([]++mJ fp s3'.heap) σ2 H5 s5->Nx X.K τ2 σ2 H2' τ3 H5->
       (if bc=true then wpAny (model X.prog X.w) X.A (eval eltE (compEnvC scope cl s3.heap.objs.size X.env)) (fun x s₄=>
        wpAny (model X.prog X.w) X.A (call (.builtin "list.append") [.ref D,x]) (fun _ s₅=>∃m,m<xs.length-i/\∃i acc vs τ1 σ1 H1,m=xs.length-i/\Inv (blk X scope cl (bJ tgs X.N) fp s3 H3) [] σ1 H1 s₅/\tn i s₅.heap/\(∀b∈fp,H1 b=none)/\
        LI X c tg cond elt xs ys τ (List.replicate tgs.length .un++env) σ (List.replicate tgs.length none++σ) H3 D tgs.length i acc vs τ1 σ1 H1) (fun _ _=>False) s₄) (fun _ _=>False) s5
       else∃m,m<xs.length-i/\∃i acc vs τ1 σ1 H1,m=xs.length-i/\Inv (blk X scope cl (bJ tgs X.N) fp s3 H3) [] σ1 H1 s5/\tn i s5.heap/\(∀b∈fp,H1 b=none)/\
        LI X c tg cond elt xs ys τ (List.replicate tgs.length .un++env) σ (List.replicate tgs.length none++σ) H3 D tgs.length i acc vs τ1 σ1 H1):=fun s5 H5 I5 N5=>by
      have C5:=C2.trans N5.ch
      cases bc with
      |false=>
       rw[if_neg Qjz]at q1⊢
       exact again I5 (L.skip noD C5 hi ho q1)
      |true=>
       rw[if_pos rfl]at q1⊢
       obtain⟨xe,de,τ4,e4,e5,q2⟩:∃xe de τ4,ev c elt τ3=.ok xe τ4/\xe.jb=some de/\aR tg (ev c cond) (ev c elt) (xs.drop (i+1)) (acc++[de]) τ4=.ok ys τ:=by
        cases r:ev c elt τ3 with
        |bad=>rw[r]at q1;cases q1
        |exc k τ3=>rw[r]at q1;cases q1
        |ok xe τ4=>
         rw[r]at q1
         cases xe with
         |ref k=>cases q1
         |tmp zs=>cases q1
         |val de=>exact⟨_,de,τ4,rfl,rfl,q1⟩
         |new zs=>exact⟨_,zs.d,τ4,rfl,rfl,q1⟩
       refine b8 ((B.elts cl fp s3 H3 ok').d _ s5 σ2 H5 (fun v H6=>Nx X.K τ3 σ2 H5 τ4 H6/\bF X.K H6 de v) I5 ⟨τ3,N5.eX,?_⟩) fun u s6⟨v,H6,I6,r6,N6,D6⟩=>?_
       ·rw[e4]
        cases xe with
        |ref k=>cases e5
        |tmp zs=>cases e5
        |val d'=>cases e5;exact fun v H' N Dv=>⟨N,Dv⟩
        |new zs=>cases e5;exact fun v H' N Dv=>⟨N,Dv⟩
       ·have C6:=C5.trans N6.ch
        have cur:=C6.keep D _ L.cur (L.no noD)
        have lenv:vs.length<sizeLine:=by
         have h1:=L.den.length
         have h2:=L.acl
         have h3:=G.len
         omega
        refine b8 (tV (X:=blk X scope cl (bJ tgs X.N) fp s3 H3) _ s6 σ2 H6 (.ref D) [v] (.ref D) [u] (fun _ H7=>H7=upd H6 D (.lst (vs++[v]))) I6 rfl (.cons r6 .nil) ⟨D,vs,v,rfl,rfl,cur,lenv,rfl⟩) fun _ s7⟨_,H7,I7,_,e7⟩=>?_
        subst e7
        exact again I7 (L.push noD C6 hi ho q2 D6)
     rcases B.tests with ⟨ei,ec⟩|⟨ce,ei,hC⟩
     ·subst ei ec
      simp only[v_0,v_1,Yz,v_3,v_4,Yy,v_6,Xf,Yx,Ms,uQ,G5,G4,DG,Mz,Tf,My,G3,GZ,Mx,Mw,mj,Mv,Te,GX,Mu,Mt,jZ]at e1
      cases e1
      cases e2
      cases e3
      exact QKz (after s4' H2' I3' (Nx.refl st.eX))
     ·subst ei
      refine wpAny_tests_one (b8 (hC cl fp s3 H3 ok' _ s4' σ2 H2' (fun k H'=>k=bc/\Nx X.K τ2 σ2 H2' τ3 H') I3' ⟨τ2,st.eX,by rw[e1];exact⟨dc,bc,e2,e3,fun H' N=>⟨rfl,N⟩⟩⟩) fun k s5⟨H5,I5,hk',N5⟩=>?_)
      subst hk'
      exact after s5 H5 I5 N5
   ·--the end
    have e:i=xs.length:=Nat.le_antisymm L.le (Nat.le_of_not_lt hi)
    have q0:=L.go
    rw[e,List.drop_length,aR]at q0
    cases q0
    refine b8 (T.done (blk X scope cl (bJ tgs X.N) fp s3 H3) rfl rfl rfl hc i [] s1 σ1 H1 _ I1 (fpk f1) t1 (G.stop H1 (N3.pers.trans L.pers) i (by omega))) fun r s2⟨hr,I2⟩=>?_
    subst hr
    obtain⟨m,hm,_⟩:=I2.loc
    have IX:Inv X QLq σ H1 s2:=Inv.call' I3 I2.os I2.base I2.hok I2.bare fun b hb=>⟨(hf3 b hb).2.2.2.1,(hf3 b hb).2.1,(hf3 b hb).2.2.2.2.1,(hf3 b hb).2.2.2.2.2⟩
    refine hRR D s3.heap.objs.size s2 H1 vs m IX ⟨?_,fun k a z=>?_,N3.pers.trans L.pers,fun b ws z w=>?_,fun b z=>N3.dom b (L.dom b z),fun k ws z=>?_⟩ L.cur L.den hDn hm (I3.zX (QVz _) I2.free)
    ·have:=L.eX.drop (nl:=tgs.length)
     rw[L.out]at this
     exact this
    ·have z':aN (τ.drop tgs.length) (σ1.drop tgs.length) k a:=by rw[L.out];exact z
     obtain⟨j,ej,o⟩:=gW (L.sub _ a (pU.mp z'))
     have:k=j:=by omega
     subst this
     exact o
    ·refine L.keep b ws (N3.keep b ws z w) (fun q=>?_) fun k o=>?_
     ·subst q;rw[hDn]at z;cases z
     ·obtain⟨j,_,o'⟩:=gW o
      exact w j o'
    ·obtain⟨ws',q⟩:=L.bors (tgs.length+k) ws (by rw[QIz (by simp)];simpa using z)
     exact⟨ws',by rw[List.getElem?_drop];exact q⟩
  ·refine⟨0,[],[],_,_,H3,rfl,I4,T.keep _ _ _ t0 fun b _ o e=>hk3 b o (hk b o e),fun b hb=>(hf3 b hb).1,⟨QIq _,hgo,N3.eX.front _,by simp,QVz _,hD3,aq.eY,fun _ _ z=>z,bQ.refl _,fun _ _ z _ _=>z,fun _ z=>z,fun _ ws z=>⟨ws,z⟩⟩⟩
 exact codeAny_compStart_list (loop _ rfl) (T.self _ 0 _ _ _ (T.keep _ _ _ t0 fun b _ o e=>hk3 b o (hk b o e)) (loop _ rfl))
end Mini
end
section
namespace Mini
open PySem L2
section
variable{X:Cx}{W:Wi}{c:Cf}{m m1 m2 m3:E}{e a b:Expr}{es:List Expr}{pos:Pos}
def dX:Cm->CmpOp
 |.eq=>.Eq
 |.ne=>.NotEq
 |.lt=>.Lt
 |.le=>.LtE
 |.gt=>.Gt
 |.ge=>.GtE
 |.isin=>.In
 |.notin=>.NotIn
 |.jf=>.Is
 |.notN=>.IsNot
def gP(X:Cx)(op:CmpOp)(f:D->D->Option Bool):Prop:=
 ∃r,fH X (compareOp op) r/\∀(H:Hp)(x y:D)(k:Bool)(v u:V)(Q:VK),bF X.K H x v->cW X.K H y u->f x y=some k->Q (.bl k) H->r v u H Q
theorem cW.int{K:QQq}{H:Hp}{i:Int}{v:V}(h:cW K H (.int i) v):v=.int i:=by
 rcases h with h|⟨o,a,q,_⟩
 ·exact h
 ·cases o<;>cases q
theorem za{op:CmpOp}{g:Int->Int->Bool}{f:D->D->Option Bool}(ho:fH X (compareOp op) (H8 fun i j=>.bl (g i j)))(hf:∀x y k,f x y=some k->∃i j,x=.int i/\y=.int j/\k=g i j):gP X op f:=
 ⟨_,ho,fun H x y k v u Q Dx Dy e q=>by
  obtain⟨i,j,rfl,rfl,rfl⟩:=hf x y k e
  exact⟨i,j,Dx,Dy.int,q⟩⟩
theorem ZG(hu:X.A.units+60<cLine):gP X .Eq (aL .eq):=⟨_,U9 hu,fun H x y k v u Q Dx Dy e q=>by
 unfold aL at e;dsimp only at e
 split at e
 ·rename_i h;cases e;exact⟨x,y,.inl Dx,Dy,h,q⟩
 ·cases e⟩
theorem Zx(hu:X.A.units+60<cLine):gP X .NotEq (aL .ne):=⟨_,U0 hu,fun H x y k v u Q Dx Dy e q=>by
 unfold aL at e;dsimp only at e
 split at e
 ·rename_i h;cases e;exact⟨x,y,.inl Dx,Dy,h,q⟩
 ·cases e⟩
theorem Zz:gP X .LtE (aL .le):=za Z8 fun x y k e=>by
 cases x<;>cases y<;>(unfold aL at e;simp at e)
 exact⟨_,_,rfl,rfl,e.symm⟩
theorem ZF:gP X .GtE (aL .ge):=za aaa fun x y k e=>by
 cases x<;>cases y<;>(unfold aL at e;simp at e)
 exact⟨_,_,rfl,rfl,e.symm⟩
theorem cW.M9{K:QQq}{H:Hp}{xs:List D}{v:V}(h:cW K H (.tup xs) v):Lp K H xs v:=by
 rcases h with h|⟨o,a,q,_⟩
 ·obtain⟨a,vs,rfl,hq,l⟩:=cF h
  exact⟨a,vs,rfl,.inr hq,l⟩
 ·cases o<;>cases q
theorem cW.Hs{K:QQq}{H:Hp}{xs:List D}{v:V}(h:cW K H (.lst xs) v):Lp K H xs v:=by
 rcases h with h|⟨o,a,q,rfl,u,ha,hq⟩
 ·obtain⟨a,vs,rfl,hq,l⟩:=dC h
  exact⟨a,vs,rfl,.inl hq.sq,l⟩
 ·cases o<;>cases q
  obtain⟨vs,rfl,l⟩:=hq
  exact⟨a,vs,rfl,.inl (.inl (.inl ha)),l⟩
theorem cW.str{K:QQq}{H:Hp}{x:Str}{v:V}(h:cW K H (.str x) v):v=.str x:=by
 rcases h with h|⟨o,a,q,_⟩
 ·exact h
 ·cases o<;>cases q
theorem JT(x y:Str)(h:x.length=1):(!(Builtin.Str.occurrences y x 0 y.length 1).isEmpty)=aW (.str x) (signs y):=by
 obtain⟨cps⟩:=x
 obtain⟨l⟩:=cps
 have hl:l.length=1:=h
 match l,hl with
 |[k],_=>
  have:=PySem.StrLaws.found_one y k
  rw[this]
  unfold signs
  generalize y.cps.toList=cs
  induction cs with
  |nil=>rfl
  |cons z zs ih=>
   rw[Qyz]
   show decide (k∈z::zs)=(cH (.str ⟨#[z]⟩) (.str ⟨#[k]⟩)||aW (.str ⟨#[k]⟩) (zs.map fun c=>.str ⟨#[c]⟩))
   rw[<-ih]
   have e:cH (.str ⟨#[z]⟩) (.str ⟨#[k]⟩)=decide (k=z):=by
    simp only[cH]
    by_cases q:k=z
    ·subst q;simp
    ·have q':¬z=k:=fun e=>q e.symm
     simp[q,q']
   rw[e]
   by_cases q:k=z
   ·simp[q]
   ·simp[q]
theorem jC{kvs:List (Key×V)}(k:Key):(gR kvs k).isSome=aW (cL k) (kvs.map fun p=>cL p.1):=by
 induction kvs with
 |nil=>rfl
 |cons p r ih=>
  obtain⟨k',v⟩:=p
  show _=(cH (cL k') (cL k)||aW (cL k) (r.map fun p=>cL p.1))
  rw[<-ih]
  have e:cH (cL k') (cL k)=decide (k'=k):=by
   cases k'<;>cases k<;>simp[cL,cH,Bool.beq_eq_decide_eq]
  rw[e]
  by_cases q:k'=k
  ·subst q;simp[ji]
  ·simp[q,jj]
theorem eN{x:D}(h:keyOk x=true):∃k:Key,x=cL k:=by
 cases x<;>simp[keyOk]at h
 ·exact⟨.inl _,rfl⟩
 ·exact⟨.inr _,rfl⟩
theorem iC{K:QQq}{H:Hp}{k:Key}{v:V}(h:bF K H (cL k) v):v=kV k:=by
 cases k<;>exact h
def HY(neg:Bool):R2:=fun x y H Q=>∃a k kvs,y=.ref a/\x=kV k/\Rd H a (.dK kvs)/\Q (.bl (if neg then !(gR kvs k).isSome else(gR kvs k).isSome)) H
theorem IK(hu:X.A.units+1<cLine):fH X (compareOp .In) (HY false):=by
 intro QLq s σ H x y v u Q I rx ry h
 obtain⟨a,k,kvs,rfl,rfl,hd,q⟩:=h
 cases ry
 exact ae2 hu I (.inl ⟨kvs,k,hd,rfl,rfl⟩) rx fun s3 I3=>⟨.bl _,H,I3,rfl,q⟩
theorem xm(hu:X.A.units+1<cLine):fH X (compareOp .NotIn) (HY true):=by
 intro QLq s σ H x y v u Q I rx ry h
 obtain⟨a,k,kvs,rfl,rfl,hd,q⟩:=h
 cases ry
 exact Qg hu I (.inl ⟨kvs,k,hd,rfl,rfl⟩) rx fun s3 I3=>⟨.bl _,H,I3,rfl,q⟩
theorem vQ{K:QQq}{H:Hp}{ks ds:List D}{v:V}(h:cW K H (.cC ks ds) v):∃a kvs,v=.ref a/\Rd H a (.dK kvs)/\ks=kvs.map (fun p=>cL p.1)/\aq K H ds (kvs.map (·.2)):=by
 rcases h with h|⟨o,a,q,rfl,u,ha,hq⟩
 ·unfold bF at h;obtain⟨a,o,kvs,e,r,k⟩:=h;exact⟨a,kvs,e,.inr ⟨o,r⟩,k⟩
 ·cases o<;>cases q
  obtain⟨kvs,rfl,k,l⟩:=hq
  exact⟨a,kvs,rfl,.inl ha,k,l⟩
def ZS(K:QQq)(neg:Bool):R2:=fun x y H Q=>∃a d k xs,x=.ref a/\y=.ref d/\Rd H d (.dS xs)/\(∀x∈xs,cA K H x.1 x.2.1)/\cA K H k a/\Q (.bl (if neg then !(xJ k xs).isSome else(xJ k xs).isSome)) H
theorem U7(hu:X.A.units+2<cLine):fH X (compareOp .In) (ZS X.K false):=by
 intro QLq s σ H x y v u Q I rx ry h
 obtain⟨a,d,k,xs,rfl,rfl,hd,hk,ha,q⟩:=h
 cases rx
 cases ry
 exact adt hu I hd hk ha fun s3 I3=>⟨.bl _,H,I3,rfl,q⟩
theorem Ez(hu:X.A.units+2<cLine):fH X (compareOp .NotIn) (ZS X.K true):=by
 intro QLq s σ H x y v u Q I rx ry h
 obtain⟨a,d,k,xs,rfl,rfl,hd,hk,ha,q⟩:=h
 cases rx
 cases ry
 exact Ng hu I hd hk ha fun s3 I3=>⟨.bl _,H,I3,rfl,q⟩
theorem vP{K:QQq}{H:Hp}{ks ds:List D}{v:V}(h:cW K H (.iJ ks ds) v):∃a xs,v=.ref a/\Rd H a (.dS xs)/\ks=xs.map (fun x=>dY x.1)/\(∀x∈xs,cA K H x.1 x.2.1)/\aq K H ds (xs.map (·.2.2)):=by
 rcases h with h|⟨o,a,q,rfl,u,ha,hq⟩
 ·unfold bF at h;obtain⟨a,o,xs,e,r,k⟩:=h;exact⟨a,xs,e,.inr ⟨o,r⟩,k⟩
 ·cases o<;>cases q
  obtain⟨xs,rfl,k⟩:=hq
  exact⟨a,xs,rfl,.inl ha,k⟩
theorem ZC(hu:X.A.units+60<cLine):gP X .In (aL .isin):=
 ⟨_,(U8 hu).or ((IK (by omega)).or (Fb.or (U7 (by omega)))),fun H x y k v u Q Dx Dy e q=>by
  cases y with
  |tup xs=>
   unfold aL at e;dsimp only at e
   split at e
   ·rename_i h;cases e;exact .inl ⟨x,xs,Dx,Dy.M9,h,q⟩
   ·cases e
  |lst xs=>
   unfold aL at e;dsimp only at e
   split at e
   ·rename_i h;cases e;exact .inl ⟨x,xs,Dx,Dy.Hs,h,q⟩
   ·cases e
  |cC ks vs=>
   unfold aL at e;dsimp only at e
   split at e
   ·rename_i h
    cases e
    obtain⟨k,rfl⟩:=eN h
    obtain⟨a,kvs,rfl,ha,rfl,l⟩:=vQ Dy
    exact .inr (.inl ⟨a,k,kvs,rfl,iC Dx,ha,by simpa[jC]using q⟩)
   ·cases e
  |iJ ks vs=>
   unfold aL at e;dsimp only at e
   split at e
   ·rename_i h
    cases e
    obtain⟨k,rfl⟩:=jw h
    obtain⟨a,rfl,ka⟩:=pC Dx
    obtain⟨d,xs,rfl,hd,rfl,hk,l⟩:=vP Dy
    exact .inr (.inr (.inr ⟨a,d,k,xs,rfl,rfl,hd,hk,ka,by rw[Cu]at q;simpa using q⟩))
   ·cases e
  |str y=>
   cases x with
   |str x=>
    unfold aL at e;dsimp only at e
    split at e
    ·rename_i h;cases e;exact .inr (.inr (.inl ⟨x,y,Dx,Dy.str,by rw[JT x y h];exact q⟩))
    ·cases e
   |_=>unfold aL at e;simp at e
  |_=>unfold aL at e;simp at e⟩
theorem HH(hu:X.A.units+60<cLine):gP X .NotIn (aL .notin):=
 ⟨_,(EY hu).or ((xm (by omega)).or (Ez (by omega))),fun H x y k v u Q Dx Dy e q=>by
  cases y with
  |tup xs=>
   unfold aL at e;dsimp only at e
   split at e
   ·rename_i h;cases e;exact .inl ⟨x,xs,Dx,Dy.M9,h,q⟩
   ·cases e
  |lst xs=>
   unfold aL at e;dsimp only at e
   split at e
   ·rename_i h;cases e;exact .inl ⟨x,xs,Dx,Dy.Hs,h,q⟩
   ·cases e
  |cC ks vs=>
   unfold aL at e;dsimp only at e
   split at e
   ·rename_i h
    cases e
    obtain⟨k,rfl⟩:=eN h
    obtain⟨a,kvs,rfl,ha,rfl,l⟩:=vQ Dy
    exact .inr (.inl ⟨a,k,kvs,rfl,iC Dx,ha,by simpa[jC]using q⟩)
   ·cases e
  |iJ ks vs=>
   unfold aL at e;dsimp only at e
   split at e
   ·rename_i h
    cases e
    obtain⟨k,rfl⟩:=jw h
    obtain⟨a,rfl,ka⟩:=pC Dx
    obtain⟨d,xs,rfl,hd,rfl,hk,l⟩:=vP Dy
    exact .inr (.inr ⟨a,d,k,xs,rfl,rfl,hd,hk,ka,by rw[Cu]at q;simpa using q⟩)
   ·cases e
  |_=>unfold aL at e;simp at e⟩
end
section
open PySem.SeqAt
open PySem.AutoSeq1 (wpAny_loadPart')
open PySem.MeetsSeq PySem.MeetsSeq2 PySem.MeetsSeq3
inductive BoolsAre:List Value->List Bool->Prop
 |nil:BoolsAre [] []
 |cons (b:Bool) {vs:List Value} {bs:List Bool}:BoolsAre vs bs->BoolsAre (.bool b::vs) (b::bs)
theorem BoolsAre.length{vs:List Value}{bs:List Bool}(h:BoolsAre vs bs):vs.length=bs.length:=by
 induction h with
 |nil=>rfl
 |cons b _ ih=>simp[ih]
theorem uc(x y:Bool)(xs ys:List Bool):iW (x::xs) (y::ys)=if x=y then iW xs ys else(!x&&y):=rfl
theorem BZ:iW [] []=false:=rfl
theorem Ca(y:Bool)(ys:List Bool):iW [] (y::ys)=true:=rfl
theorem Cd(x:Bool)(xs:List Bool):iW (x::xs) []=false:=rfl
theorem tu(A:Around)(s:Shared)(a c:Bool)(prog:Program)(w:World)(E:QZq)(Q:QZq)(h:Q (.bool (!a&&c)) s):
  wpAny (model prog w) A (richCompare .Lt (.bool a) (.bool c)) Q E s:=
 (PyProof.Rows.lt_bool (by cases a<;>cases c<;>exact h):wpAny (model prog w) A (compareOp .Lt (.bool a) (.bool c)) Q E s)
theorem o8(l b:Addr)(items items2:Array Value)(n n2:Nat)(dd dd2:Option Addr)(sl sl2:Array (Option Value))(ns ms:List Bool)(hi:BoolsAre items.toList ns)(hj:BoolsAre items2.toList ms):
  Meets (Builtin.«tuple.__lt__» ⟨[.ref l,.ref b],[]⟩)
   (fun _ R s=>s.heap.get? l=some {cls:=.type "tuple",dict:=dd,data:=.seq items n,slots:=sl}/\s.heap.get? b=some {cls:=.type "tuple",dict:=dd2,data:=.seq items2 n2,slots:=sl2}/\
    R (.ok (.ret (.bool (iW ns ms)))) s):=
 .of_wp fun prog w A R s h=>by
  obtain⟨hp,g,d,tk,os⟩:=s;obtain⟨hl,hb,h⟩:=h
  have f2:=AutoSeq1.sub_tuple_tuple
  have z1:items.size=ns.length:=by rw[<-hi.length];simp
  have z2:items2.size=ms.length:=by rw[<-hj.length];simp
  wp_walk using wpAny_loadPart' hl,wpAny_loadPart' hb,wpAny_forIn_list _ (fun rest b s'=>b.1=none/\s'=⟨hp,g,d,tk,os⟩/\∃(vs ws:List Value)(ns' ms':List Bool),rest=vs.zip ws/\
   BoolsAre vs ns'/\BoolsAre ws ms'/\ns'.length+items2.size=ms'.length+items.size/\R (.ok (.ret (.bool (iW ns' ms')))) ⟨hp,g,d,tk,os⟩) _
  case turn=>
   rintro ⟨y,x⟩ rest b s' ⟨hb',rfl,vs,ws,ns',ms',hz,hvi,hwi,hlen,hR⟩
   cases hvi with
   |nil=>rw[List.zip_nil_left]at hz;cases hz
   |cons a hvi'=>
    cases hwi with
    |nil=>rw[List.zip_nil_right]at hz;cases hz
    |cons c hwi'=>
     rw[List.zip_cons_cons]at hz
     injection hz with hyx hrest
     injection hyx with hy hx
     subst hy hx
     rw[uc]at hR
     simp only[QBq]at hlen
     have he:=SeqAt.EqAt.bool_bool (A:=A.in1) (s:=⟨hp,g,d,tk,os⟩) a c
     refine QKq (he prog w _ _ ?_)
     by_cases hac:a=c
     ·subst hac
      rw[if_pos rfl]at hR
      rw[beq_self_eq_true]
      wp_walk
      exact⟨rfl,rfl,_,_,_,_,hrest,hvi',hwi',by omega,hR⟩
     ·rw[if_neg hac]at hR
      rw[beq_eq_false_iff_ne.mpr hac]
      have hri:=tu A.in1 ⟨hp,g,d,tk,os⟩ a c prog w
      wp_walk using hri
      exact⟨_,rfl,by simpa using hR⟩
  case fin=>
   rintro ⟨b1,b2⟩ s' ⟨hb',rfl,vs,ws,ns',ms',hz,hvi,hwi,hlen,hR⟩
   simp only at hb'
   subst hb'
   have hv:iW ns' ms'=decide (items.size<items2.size):=by
    cases hvi with
    |nil=>
     cases hwi with
     |nil=>
      simp only[List.length_nil]at hlen
      rw[BZ]
      exact(QEz (by omega)).symm
     |cons c hw=>
      simp only[List.length_nil,QBq]at hlen
      rw[Ca]
      exact(QFq (by omega)).symm
    |cons a hv=>
     cases hwi with
     |nil=>
      simp only[List.length_nil,QBq]at hlen
      rw[Cd]
      exact(QEz (by omega)).symm
     |cons c hw=>
      rw[List.zip_cons_cons]at hz
      cases hz
   rw[hv]at hR
   wp_walk
   exact⟨_,rfl,by simpa[Builtin.Tuple.tupleCompareSizes]using hR⟩
  case h=>
   exact⟨rfl,rfl,items.toList,items2.toList,ns,ms,rfl,hi,hj,by omega,h⟩
end
end Mini
end
section
namespace Mini
open PySem L2
theorem fM{K:QQq}{H:Hp}:∀{ds:List D}{vs:List V}{us:List Value}{bs:List Bool},bools ds=some bs->aq K H ds vs->Vals vs us->BoolsAre us bs
 |[],vs,us,bs,e,l,r=>by
  cases e
  rw[aq.bB.mp l]at r
  cases r
  exact .nil
 |d::ds,vs,us,bs,e,l,r=>by
  obtain⟨v,w,rfl,h1,h2⟩:=aq.aK.mp l
  cases d with
  |bl b=>
   simp only[bools,QJz]at e
   obtain⟨bs',e1,rfl⟩:=e
   cases h1
   cases r with
   |cons r1 r2=>cases r1;exact .cons b (fM e1 h2 r2)
  |_=>cases e
section
variable{X:Cx}{W:Wi}{c:Cf}{m m1 m2 m3:E}{e a b:Expr}{es:List Expr}{pos:Pos}
def ad8(K:QQq):R2:=fun x y H Q=>∃xs ys bs cs,bF K H (.tup xs) x/\bF K H (.tup ys) y/\bools xs=some bs/\bools ys=some cs/\Q (.bl (iW bs cs)) H
theorem U5(hu:X.A.units<cLine):fH X (compareOp .Lt) (ad8 X.K):=by
 intro QLq s σ H x y v u Q I rx ry h
 obtain⟨xs,ys,bs,cs,Dx,Dy,e1,e2,q⟩:=h
 obtain⟨a,vs,rfl,ha,la⟩:=cF Dx
 obtain⟨b,ws,rfl,hb,lb⟩:=cF Dy
 cases rx
 cases ry
 obtain⟨its,r1,p1,_⟩:=I.tuple ha
 obtain⟨its2,r2,p2,_⟩:=I.tuple hb
 obtain⟨⟨cls,dd,data,sl⟩,ho,hc,n,hd⟩:=id p1
 obtain⟨⟨cls2,dd2,data2,sl2⟩,ho2,hc2,n2,hd2⟩:=id p2
 simp only at hc hd hc2 hd2
 subst hc hd hc2 hd2
 exact richCompare_meets_room (op:=.Lt) ⟨_,ho,rfl⟩ ⟨_,ho2,rfl⟩ PySem.F.slot_tuple_lt PySem.F.entry_tuple_lt (PySem.F.args_tuple_lt_2 _ _)
  (o8 a b its.toArray its2.toArray n n2 dd dd2 sl sl2 bs cs (by simpa using fM e1 la r1) (by simpa using fM e2 lb r2))
  ⟨ho,ho2,show Value.bool (iW bs cs)≠Value.notImplemented/\EP X QLq σ Q (.bool (iW bs cs)) s from⟨(fun x=>nomatch x),⟨.bl _,H,I,rfl,q⟩⟩⟩ hu
theorem cW.tup{K:QQq}{H:Hp}{xs:List D}{v:V}(h:cW K H (.tup xs) v):bF K H (.tup xs) v:=by
 rcases h with h|⟨o,a,q,_⟩
 ·exact h
 ·cases o<;>cases q
theorem Zy(hu:X.A.units+60<cLine):gP X .Lt (aL .lt):=
 ⟨_,Z7.or (U5 (by omega)),fun H x y k v u Q Dx Dy e q=>by
  cases x with
  |int i=>
   cases y with
   |int j=>cases e;exact .inl ⟨i,j,Dx,Dy.int,q⟩
   |_=>cases e
  |tup xs=>
   cases y with
   |tup ys=>
    unfold aL at e;dsimp only[ltD]at e
    cases e1:bools xs with
    |none=>rw[e1]at e;cases e
    |some bs=>
     cases e2:bools ys with
     |none=>rw[e1,e2]at e;cases e
     |some cs=>
      rw[e1,e2]at e
      cases e
      exact .inr ⟨xs,ys,bs,cs,Dx,Dy.tup,e1,e2,q⟩
   |_=>cases e
  |_=>cases y<;>cases e⟩
theorem ZD:gP X .Gt (aL .gt):=za Z9 fun x y k e=>by
 cases x<;>cases y<;>(unfold aL at e;simp at e)
 exact⟨_,_,rfl,rfl,e.symm⟩
theorem Dc{K:QQq}{H:Hp}{d:D}{v:V}(h:bF K H d v):decide (v=.non)=nM d:=by
 cases d<;>unfold bF at h<;>first
  |(obtain⟨a,_,rfl,_⟩:=h;rfl)
  |(obtain⟨a,_,_,rfl,_⟩:=h;rfl)
  |(subst h;rfl)
theorem Ug:gP X .Is (aL .jf):=⟨_,U6,fun H x y k v u Q Dx Dy e q=>by
 cases y<;>(unfold aL at e;dsimp only at e;cases e)
 rcases Dy with h|⟨o,a,z,_⟩
 ·exact⟨h,by rw[Dc Dx];exact q⟩
 ·cases o<;>cases z⟩
theorem Ny:gP X .IsNot (aL .notN):=⟨_,Ov,fun H x y k v u Q Dx Dy e q=>by
 cases y<;>(unfold aL at e;dsimp only at e;cases e)
 rcases Dy with h|⟨o,a,z,_⟩
 ·exact⟨h,by rw[Dc Dx];exact q⟩
 ·cases o<;>cases z⟩
theorem mF(hu:X.A.units+60<cLine)(o:Cm):gP X (dX o) (aL o):=by
 cases o with
 |eq=>exact ZG hu
 |ne=>exact Zx hu
 |lt=>exact Zy hu
 |le=>exact Zz
 |gt=>exact ZD
 |ge=>exact ZF
 |isin=>exact ZC hu
 |notin=>exact HH hu
 |jf=>exact Ug
 |notN=>exact Ny
theorem fW{K:QQq}{env:Ev}{σ:St}{H:Hp}{k:Nat}{d:D}(S:Sat K env σ H)(h:aZ k env=some d):∃v,σ[k]? =some (some v)/\cW K H d v:=by
 unfold aZ at h
 cases e:env[k]? with
 |none=>rw[e]at h;cases h
 |some s=>
  rw[e]at h
  have q:=S.sl k s e
  cases s with
  |un=>cases h
  |val d'=>cases h;obtain⟨v,e1,e2⟩:=q;exact⟨v,bW e1,.inl e2⟩
  |own xs=>cases h;obtain⟨a,e1,e2⟩:=q;exact⟨.ref a,bW e1,.inr ⟨xs,a,rfl,rfl,e2⟩⟩
  |bor xs=>cases h;obtain⟨a,e1,e2⟩:=q;exact⟨.ref a,bW e1,.inr ⟨xs,a,rfl,rfl,e2⟩⟩
structure je(X:Cx)(i:Nat)(x:Str):Prop where
 at_:X.N[i]? =some x
 vis:Yq X.env.scope x
 nd:(x==("__debug__":Str))=false
 nc:(x==("__classdict__":Str))=false
theorem je.pe{i:Nat}{x:Str}(h:je X i x):PE X (.Name x pos) (Hg i):=Io h.at_ h.vis h.nd h.nc
theorem je.ge{i:Nat}{x:Str}(h:je X i x):GE X W c (.var i) (.Name x pos):=V7 h.at_ h.vis h.nd h.nc
theorem Dj{o:Cm}(R:gP X (dX o) (aL o))(hb:GE X W c m2 b)(hv:∀k,m2.aC=some k->∃x p,b=.Name x p/\je X k x):
  ∃r tb,fH X (compareOp (dX o)) r/\PE X b tb/\∀env σ H Q,tM X.K W env (ev c (.cmp o m1 m2) env) σ H Q->Xk r (aD X W c m1) tb σ H Q:=by
 obtain⟨r,ho,rule⟩:=R
 cases q:m2.aC with
 |some k=>
  obtain⟨x,p,rfl,nm⟩:=hv k q
  refine⟨r,Hg k,ho,nm.pe,fun env σ H Q h=>?_⟩
  simp only[Xf,q]at h
  refine⟨env,aQ h fun d env1 v H1 N1 D1 h1=>?_⟩
  obtain⟨z,ez,S,q3⟩:=cD h1
  cases e1:aZ k env1 with
  |none=>rw[e1]at ez;cases ez
  |some d2=>
   rw[e1]at ez
   simp only[Option.bind]at ez
   obtain⟨u,eu,D2⟩:=fW S e1
   cases e2:aL o d d2 with
   |none=>rw[e2]at ez;cases ez
   |some k2=>
    rw[e2]at ez
    cases ez
    exact⟨u,eu,rule H1 d d2 k2 v u Q D1 D2 e2 (q3 _ H1 (Nx.refl S) rfl)⟩
 |none=>
  refine⟨r,aD X W c m2,ho,hb.d,fun env σ H Q h=>?_⟩
  simp only[Xf,q]at h
  refine⟨env,aQ h fun d env1 v H1 N1 D1 h1=>⟨env1,aQ h1 fun d2 env2 u H2 N2 D2 h2=>?_⟩⟩
  obtain⟨z,ez,S,q3⟩:=cD h2
  cases e2:aL o d d2 with
  |none=>rw[e2]at ez;cases ez
  |some k2=>
   rw[e2]at ez
   cases ez
   exact rule H2 d d2 k2 v u Q (D1.mono N2.pers) (.inl D2) e2 (q3 _ H2 (Nx.refl S) rfl)
theorem Wn{o:Cm}(R:gP X (dX o) (aL o))(ha:GE X W c m1 a)(hb:GE X W c m2 b)(hv:∀k,m2.aC=some k->∃x p,b=.Name x p/\je X k x)
  (hm:behindInMarks (dX o) b=false):GE X W c (.cmp o m1 m2) (.Compare a [dX o] [b] pos):=by
 intro env
 obtain⟨r,tb,ho,pb,imp⟩:=Dj (m1:=m1) R hb hv
 exact PE.imp (Om ho ha.d pb hm) fun σ H Q h=>imp env σ H Q h
theorem wC{K:QQq}{env:Ev}{r:Out Rv}{σ:St}{H:Hp}{Q:Bool->Hp->Prop}(h:tT K W env r σ H Q)(hb:∀x env',r=.ok x env'->∃b,x=.val (.bl b)):
  tM K W env r σ H (fun v H'=>∃k,v=.bl k/\Q k H'):=by
 obtain⟨S,h⟩:=h
 refine⟨S,?_⟩
 cases r with
 |bad=>exact h
 |exc c env1=>exact h
 |ok x env1=>
  obtain⟨b,rfl⟩:=hb x env1 rfl
  obtain⟨d,k,e1,e2,q⟩:=h
  cases e1
  cases e2
  exact fun v H' N z=>⟨b,z,q H' N⟩
theorem jH{env env':Ev}{o:Option Bool}{x:Rv}(h:lift env (o.map fun q=>Rv.val (.bl q))=.ok x env'):∃b,x=.val (.bl b):=by
 cases o with
 |none=>cases h
 |some b=>cases h;exact⟨b,rfl⟩
theorem yd{o:Cm}{env env':Ev}{x:Rv}(h:ev c (.cmp o m1 m2) env=.ok x env'):∃b,x=.val (.bl b):=by
 simp only[Xf]at h
 cases r:ev c m1 env with
 |bad=>rw[r]at h;cases h
 |exc k env1=>rw[r]at h;cases h
 |ok x1 env1=>
  rw[r]at h
  have go:∀d,(match m2.aC with
    |some k=>lift env1 ((aZ k env1).bind fun d'=>(aL o d d').map fun q=>Rv.val (.bl q))
    |none=>(ev c m2 env1).ao fun y σ=>lift σ ((aL o d y).map fun q=>Rv.val (.bl q)))=.ok x env'->∃b,x=.val (.bl b):=fun d h=>by
   cases q:m2.aC with
   |some k=>
    simp only[q]at h
    cases e:aZ k env1 with
    |none=>simp only[e,Option.bind]at h;cases h
    |some d'=>simp only[e,Option.bind]at h;exact jH h
   |none=>
    simp only[q]at h
    cases r2:ev c m2 env1 with
    |bad=>rw[r2]at h;cases h
    |exc k env2=>rw[r2]at h;cases h
    |ok x2 env2=>
     rw[r2]at h
     cases x2 with
     |val d2=>exact jH h
     |new xs=>exact jH h
     |ref i=>cases h
     |tmp xs=>cases h
  cases x1 with
  |val d=>exact go d h
  |new xs=>exact go xs.d h
  |ref i=>cases h
  |tmp xs=>cases h
theorem VR{o:Cm}(R:gP X (dX o) (aL o))(ha:GE X W c m1 a)(hb:GE X W c m2 b)(hv:∀k,m2.aC=some k->∃x p,b=.Name x p/\je X k x)
  (hm:behindInMarks (dX o) b=false):GT X W c (.cmp o m1 m2) (.Compare a [dX o] [b] pos):=by
 obtain⟨r,tb,ho,pb,imp⟩:=Dj (m1:=m1) R hb hv
 exact PT.imp (N7 ho ha.d pb hm) fun σ H Q⟨env,h⟩=>imp env σ H _ (wC h fun x env' e=>yd e)
theorem uA{o₁ o₂:Cm}(R1:gP X (dX o₁) (aL o₁))(R2:gP X (dX o₂) (aL o₂)):
  ∃r r',fH X (compareOp (dX o₁)) r/\fH X (compareOp (dX o₂)) r'/\∀env σ H Q,tM X.K W env (ev c (.chain o₁ o₂ m1 m2 m3) env) σ H Q->yO r r' (aD X W c m1) (aD X W c m2) (aD X W c m3) σ H Q:=by
 obtain⟨r,ho,rule⟩:=R1
 obtain⟨r',ho',rule'⟩:=R2
 refine⟨r,r',ho,ho',fun env σ H Q h=>?_⟩
 simp only[Yx]at h
 refine⟨env,aQ h fun d env1 v H1 N1 D1 h1=>⟨env1,aQ h1 fun d2 env2 u H2 N2 D2 h2=>?_⟩⟩
 cases e2:aL o₁ d d2 with
 |none=>rw[e2]at h2;exact h2.2.elim
 |some k=>
  rw[e2]at h2
  simp only[lift,Out.bind]at h2
  refine rule H2 d d2 k v u _ (D1.mono N2.pers) (.inl D2) e2 ⟨k,rfl,?_⟩
  cases k with
  |false=>
   rw[if_neg Qjz]at h2⊢
   exact dN h2 rfl
  |true=>
   rw[if_pos rfl]at h2⊢
   refine⟨env2,aQ h2 fun d3 env3 w H3 N3 D3 h3=>?_⟩
   obtain⟨z,ez,S,q3⟩:=cD h3
   cases e3:aL o₂ d2 d3 with
   |none=>rw[e3]at ez;cases ez
   |some k2=>
    rw[e3]at ez
    cases ez
    exact rule' H3 d2 d3 k2 u w Q (D2.mono N3.pers) (.inl D3) e3 (q3 _ H3 (Nx.refl S) rfl)
theorem rW{o₁ o₂:Cm}{env env':Ev}{x:Rv}(h:ev c (.chain o₁ o₂ m1 m2 m3) env=.ok x env'):∃b,x=.val (.bl b):=by
 have val:∀{r:Out Rv}{f:D->Ev->Out Rv},r.ao f=.ok x env'->∃d σ,f d σ=.ok x env':=fun{r f}q=>by
  cases r with
  |bad=>cases q
  |exc k e1=>cases q
  |ok y e1=>
   cases y with
   |val d=>exact⟨d,e1,q⟩
   |new xs=>exact⟨_,e1,q⟩
   |ref i=>cases q
   |tmp xs=>cases q
 simp only[Yx]at h
 obtain⟨d1,σ1,h⟩:=val h
 obtain⟨d2,σ2,h⟩:=val h
 cases e:aL o₁ d1 d2 with
 |none=>rw[e]at h;cases h
 |some k=>
  rw[e]at h
  simp only[lift,Out.bind]at h
  cases k with
  |false=>cases h;exact⟨false,rfl⟩
  |true=>
   rw[if_pos rfl]at h
   obtain⟨d3,σ3,h⟩:=val h
   exact jH h
theorem J7{o₁ o₂:Cm}{d:Expr}(R1:gP X (dX o₁) (aL o₁))(R2:gP X (dX o₂) (aL o₂))(ha:GE X W c m1 a)(hb:GE X W c m2 b)(hd:GE X W c m3 d)(hm:lastMarks [dX o₁,dX o₂] [b,d]=false):
  GE X W c (.chain o₁ o₂ m1 m2 m3) (.Compare a [dX o₁,dX o₂] [b,d] pos):=by
 obtain⟨r,r',ho,ho',imp⟩:=uA (W:=W) (c:=c) (m1:=m1) (m2:=m2) (m3:=m3) R1 R2
 exact fun env=>PE.imp (Iz ho ho' ha.d hb.d hd.d hm) fun σ H Q h=>imp env σ H Q h
theorem JZ{o₁ o₂:Cm}{d:Expr}(R1:gP X (dX o₁) (aL o₁))(R2:gP X (dX o₂) (aL o₂))(ha:GE X W c m1 a)(hb:GE X W c m2 b)(hd:GE X W c m3 d)(hm:lastMarks [dX o₁,dX o₂] [b,d]=false):
  GT X W c (.chain o₁ o₂ m1 m2 m3) (.Compare a [dX o₁,dX o₂] [b,d] pos):=by
 obtain⟨r,r',ho,ho',imp⟩:=uA (W:=W) (c:=c) (m1:=m1) (m2:=m2) (m3:=m3) R1 R2
 exact PT.imp (Ie ho ho' ha.d hb.d hd.d hm) fun σ H Q⟨env,h⟩=>imp env σ H _ (wC h fun x env' e=>rW e)
def YX(K:QQq)(ta:TE):TE:=fun σ H Q=>ta σ H fun x H1=>∃k,Lk K x H1 k/\Q (.bl (!k)) H1
theorem Oi{ta:TE}(ha:PE X a ta):PE X (.UnaryOp .Not a pos) (YX X.K ta):=by
 intro QLq s σ H Q I h
 refine PyProof.Rows.UnaryOp_ (b8 (ha QLq s σ H _ I h) fun v s1⟨x,H1,I1,r1,k,t,q1⟩=>?_)
 exact PyProof.Rows.not_of (b8 (Ha QLq s1 σ H1 x v (fun b H'=>Q (.bl (!b)) H') I1 r1 ⟨k,t,q1⟩) fun b s2⟨H2,I2,q2⟩=>⟨.bl (!b),H2,I2,rfl,q2⟩)
theorem Wd(ha:GE X W c m1 a):GE X W c (.not m1) (.UnaryOp .Not a pos):=fun env=>
 PE.imp (Oi ha.d) fun σ H Q q=>⟨env,wJ (wH (f:=fun b σ=>.ok (.val (.bl (!b))) σ) (R:=fun k H1=>Q (.bl (!k)) H1) (by simpa only[G5]using q) fun k env1 H1 N q1=>dN (d:=.bl (!k)) q1 rfl)⟩
theorem VN(ha:GT X W c m1 a):GT X W c (.not m1) (.UnaryOp .Not a pos):=by
 refine PT.imp (Ur ha) fun σ H Q⟨env,q⟩=>⟨env,q.1,?_⟩
 have q2:=q.2
 simp only[G5]at q2
 cases r:ev c m1 env with
 |bad=>rw[r]at q2;exact q2
 |exc k env1=>rw[r]at q2;exact q2
 |ok x env1=>
  rw[r]at q2
  have go:∀d,x.jb=some d->(match (match gC d with|some b=>Out.ok (Rv.val (.bl (!b))) env1|none=>.bad)with
    |.ok x env'=>∃d b,x.jb=some d/\gC d=some b/\∀H',Nx X.K env σ H env' H'->Q b H'
    |.exc c env'=>∀H',Nx X.K env σ H env' H'->W c env' σ H'
    |.bad=>False)->∃d b,x.jb=some d/\gC d=some b/\∀H',Nx X.K env σ H env1 H'->Q (!b) H':=fun d ed z=>by
   cases t:gC d with
   |none=>rw[t]at z;exact z.elim
   |some b=>
    rw[t]at z
    obtain⟨d',b',e1,e2,z⟩:=z
    cases e1
    cases e2
    exact⟨d,b,ed,t,z⟩
  cases x with
  |val d=>exact go d rfl q2
  |new o=>exact go o.d rfl q2
  |ref i=>exact q2.elim
  |tmp xs=>exact q2.elim
theorem Qc(ha:GE X W c m1 a):GE X W c (.and (.cons m1 .nil)) (.BoolOp .And [a] pos):=fun env=>by
 have:=Iu (X:=X) (op:=.And) (pos:=pos) (ha env)
 simpa only[Ms,eZ]using this
theorem Wc(ha:GE X W c m1 a):GE X W c (.or (.cons m1 .nil)) (.BoolOp .Or [a] pos):=fun env=>by
 have:=Iu (X:=X) (op:=.Or) (pos:=pos) (ha env)
 simpa only[uQ,jy]using this
end
end Mini
end
section
namespace Mini
open PySem L2
def aM(X:Cx)(W:Wi)(c:Cf)(m:E):TE:=fun σ H Q=>∃env,tM X.K W env (ev c m env) σ H Q
theorem QZ{K:QQq}{W:Wi}{env env1:Ev}{σ:St}{H H1:Hp}{r:Out Rv}{Q:Bool->Hp->Prop}(h:tT K W env r σ H Q)(N:Nx K env σ H env1 H1):tT K W env1 r σ H1 Q:=by
 obtain⟨_,h⟩:=h
 refine⟨N.eX,?_⟩
 cases r with
 |bad=>exact h
 |exc c env2=>exact fun H' N'=>h H' (N.trans N')
 |ok x env2=>
  obtain⟨d,b,e1,e2,q⟩:=h
  exact⟨d,b,e1,e2,fun H' N'=>q H' (N.trans N')⟩
section
variable{X:Cx}{W:Wi}{c:Cf}{m m1 m2 m3:E}{e a b:Expr}{es rest:List Expr}{pos:Pos}
theorem GE.am(h:GE X W c m e):PE X e (aM X W c m):=fun QLq s σ H Q I⟨env,q⟩=>h env QLq s σ H Q I q
theorem Wo(ha:GE X W c m1 a)(hb:GE X W c (.and (.cons m2 m3)) (.BoolOp .And (b::rest) pos)):GE X W c (.and (.cons m1 (.cons m2 m3))) (.BoolOp .And (a::b::rest) pos):=by
 intro env
 refine PE.imp (UL ha.d hb.am) fun σ H Q q=>?_
 simp only[Ms,eZ]at q
 refine⟨env,aQ q fun d env1 v H1 N1 D1 q1=>?_⟩
 cases d with
 |bl k=>
  refine⟨k,D1,?_⟩
  cases k with
  |true=>rw[if_pos rfl];exact⟨env1,by simpa only[Ms,eZ]using q1⟩
  |false=>rw[if_neg Qjz];exact dN q1 rfl
 |_=>exact q1.2.elim
theorem aa1(ha:GE X W c m1 a)(hb:GE X W c (.or (.cons m2 m3)) (.BoolOp .Or (b::rest) pos)):GE X W c (.or (.cons m1 (.cons m2 m3))) (.BoolOp .Or (a::b::rest) pos):=by
 intro env
 refine PE.imp (Z2 ha.d hb.am) fun σ H Q q=>?_
 simp only[uQ,jy]at q
 refine⟨env,aQ q fun d env1 v H1 N1 D1 q1=>?_⟩
 cases d with
 |bl k=>
  refine⟨k,D1,?_⟩
  cases k with
  |true=>rw[if_pos rfl];exact dN q1 rfl
  |false=>rw[if_neg Qjz];exact⟨env1,by simpa only[uQ,jy]using q1⟩
 |_=>exact q1.2.elim
def GW(X:Cx)(W:Wi)(c:Cf)(m:E)(e:Expr):Prop:=PW X e (aT X W c m)
theorem PW.imp{t t':TT}(h:PW X e t)(i:∀σ H Q,t' σ H Q->t σ H Q):PW X e t':=fun wh QLq s σ H Q I q=>h wh QLq s σ H Q I (i σ H Q q)
theorem GW.t(h:GW X W c m e):GT X W c m e:=PW.pt h
theorem wD{K:QQq}{env:Ev}{r:Out Rv}{σ:St}{H:Hp}{Q R:Bool->Hp->Prop}{f:D->Ev->Out Rv}(h:tT K W env (r.ao f) σ H Q)
  (hf:∀d env1,(∀k,d≠ .bl k)->f d env1=.bad)
  (k:∀b env1 H1,Nx K env σ H env1 H1->tT K W env1 (f (.bl b) env1) σ H1 Q->R b H1):tT K W env r σ H R:=by
 have step:∀d env1 x,x.jb=some d->r=.ok x env1->∃b,gC d=some b/\∀H1,Nx K env σ H env1 H1->R b H1:=fun d env1 x ex er=>by
  subst er
  have h':tT K W env (f d env1) σ H Q:=by
   cases x with
   |val d'=>cases ex;exact h
   |new xs=>cases ex;exact h
   |ref i=>cases ex
   |tmp xs=>cases ex
  by_cases hb:∃b,d=.bl b
  ·obtain⟨b,rfl⟩:=hb
   exact⟨b,rfl,fun H1 N=>k b env1 H1 N (QZ h' N)⟩
  ·rw[hf d env1 fun b e=>hb ⟨b,e⟩]at h'
   exact h'.2.elim
 refine⟨h.1,?_⟩
 cases r with
 |bad=>exact h.2
 |exc c env1=>exact h.2
 |ok x env1=>
  cases x with
  |val d=>obtain⟨b,e,q⟩:=step d env1 _ rfl rfl;exact⟨d,b,rfl,e,q⟩
  |new xs=>obtain⟨b,e,q⟩:=step (xs.d) env1 _ rfl rfl;exact⟨xs.d,b,rfl,e,q⟩
  |ref i=>exact h.2.elim
  |tmp xs=>exact h.2.elim
theorem Pz(ha:GT X W c m1 a):GW X W c (.and (.cons m1 .nil)) (.BoolOp .And [a] pos):=PW.imp (NT ha) fun σ H Q⟨env,q⟩=>⟨env,by simpa only[Ms,eZ]using q⟩
theorem VM(ha:GT X W c m1 a):GW X W c (.or (.cons m1 .nil)) (.BoolOp .Or [a] pos):=PW.imp (Uo ha) fun σ H Q⟨env,q⟩=>⟨env,by simpa only[uQ,jy]using q⟩
theorem V0(ha:GT X W c m1 a)(hb:GW X W c (.and (.cons m2 m3)) (.BoolOp .And (b::rest) pos)):GW X W c (.and (.cons m1 (.cons m2 m3))) (.BoolOp .And (a::b::rest) pos):=by
 refine PW.imp (Up ha hb) fun σ H Q⟨env,q⟩=>⟨env,?_⟩
 simp only[Ms,eZ]at q
 refine wD q (fun d env1 hd=>?_) fun k env1 H1 N q1=>?_
 ·cases d with
  |bl k=>exact absurd rfl (hd k)
  |_=>rfl
 ·cases k with
  |true=>rw[if_pos rfl];exact⟨env1,by simpa only[Ms,eZ]using q1⟩
  |false=>
   rw[if_neg Qjz]
   obtain⟨d,k',e1,e2,q3⟩:=q1.2
   cases e1
   cases e2
   exact q3 H1 (Nx.refl q1.1)
theorem aaW(ha:GT X W c m1 a)(hb:GW X W c (.or (.cons m2 m3)) (.BoolOp .Or (b::rest) pos)):GW X W c (.or (.cons m1 (.cons m2 m3))) (.BoolOp .Or (a::b::rest) pos):=by
 refine PW.imp (ZX ha hb) fun σ H Q⟨env,q⟩=>⟨env,?_⟩
 simp only[uQ,jy]at q
 refine wD q (fun d env1 hd=>?_) fun k env1 H1 N q1=>?_
 ·cases d with
  |bl k=>exact absurd rfl (hd k)
  |_=>rfl
 ·cases k with
  |false=>rw[if_neg Qjz];exact⟨env1,by simpa only[uQ,jy]using q1⟩
  |true=>
   rw[if_pos rfl]
   obtain⟨d,k',e1,e2,q3⟩:=q1.2
   cases e1
   cases e2
   exact q3 H1 (Nx.refl q1.1)
theorem Wg{t:Expr}(ht:GT X W c m1 t)(ha:GE X W c m2 a)(hb:GE X W c m3 b):GE X W c (.ite m1 m2 m3) (.IfExp t a b pos):=by
 intro env
 refine PE.imp (Iv ht ha.am hb.am) fun σ H Q q=>?_
 simp only[G4]at q
 refine⟨env,wH q fun k env1 H1 N q1=>?_⟩
 cases k with
 |true=>rw[if_pos rfl]at q1⊢;exact⟨env1,q1⟩
 |false=>rw[if_neg Qjz]at q1⊢;exact⟨env1,q1⟩
theorem An{xs:List D}{i:Int}{d:D}{K:QQq}{H:Hp}{vs:List V}(h:at? xs i=some d)(l:aq K H xs vs):∃v,WP vs i=some v/\bF K H d v:=by
 unfold at? at h
 cases e:ix? xs.length i with
 |none=>rw[e]at h;cases h
 |some j=>
  rw[e]at h
  obtain⟨v,q1,q2⟩:=l.get (show xs[j]? =some d from h)
  refine⟨v,?_,q2⟩
  have hl:=l.length
  unfold WP
  have:Pr vs.length i=some j:=by
   unfold ix? at e
   unfold Pr
   rw[<-hl]
   by_cases h0:i<0
   ·simp only[h0,if_true]at e
    split at e
    ·rename_i hc
     cases e
     rw[if_neg (by omega),if_pos (by omega)]
    ·cases e
   ·simp only[h0,if_false]at e
    split at e
    ·rename_i hc
     cases e
     rw[if_pos (by omega),if_pos (by omega)]
    ·cases e
  rw[this]
  exact q1
theorem mR{K:QQq}{H:Hp}(k:Key):∀{kvs:List (Key×V)}{ds:List D}{d:D},cN (cL k) (kvs.map fun p=>cL p.1) ds=some d->aq K H ds (kvs.map (·.2))->∃v,gR kvs k=some v/\bF K H d v
 |[],ds,d,h,_=>by cases h
 |(k',v)::r,ds,d,h,l=>by
  rw[Qyz]at h l
  cases ds with
  |nil=>obtain⟨⟩:=aq.bB.mp l
  |cons d' ds=>
   obtain⟨w,ws,e,h1,h2⟩:=aq.aK.mp l
   cases e
   have e:cH (cL k') (cL k)=decide (k'=k):=by
    cases k'<;>cases k<;>simp[cL,cH,Bool.beq_eq_decide_eq]
   simp only[cN,e]at h
   by_cases q:k'=k
   ·simp only[q,decide_true,if_true]at h
    cases h
    exact⟨v,ji q,h1⟩
   ·simp only[q,decide_false,Qxq,if_false]at h
    obtain⟨u,q1,q2⟩:=mR k h h2
    exact⟨u,by rw[jj q];exact q1,q2⟩
def ZQ:R2:=fun x y H Q=>∃a k kvs v,x=.ref a/\y=kV k/\Rd H a (.dK kvs)/\gR kvs k=some v/\Q v H
theorem Vz(hu:X.A.units+1<cLine):Gz X ZQ:=by
 intro value slice QLq s σ H x y v u Q I rx ry h hs
 obtain⟨a,k,kvs,w,rfl,rfl,hd,hv,q⟩:=h
 cases rx
 have g:rF H a (kV k) (some w):=.inl ⟨kvs,k,hd,rfl,hv.symm⟩
 exact PyProof.Rows.tail_any (yg I g) PySem.F.slot_dict_getitem.lookup (Gj hu I g ry fun w' s3 I3 rw'=>⟨w,H,I3,rw',q⟩) hs
def HX(K:QQq):R2:=fun x y H Q=>∃d a k xs v,x=.ref d/\y=.ref a/\Rd H d (.dS xs)/\(∀x∈xs,cA K H x.1 x.2.1)/\cA K H k a/\xJ k xs=some v/\Q v H
theorem aaT(hu:X.A.units+2<cLine):Gz X (HX X.K):=by
 intro value slice QLq s σ H x y v u Q I rx ry h hs
 obtain⟨d,a,k,xs,w,rfl,rfl,hd,hk,ka,hv,q⟩:=h
 cases rx
 cases ry
 obtain⟨ys,_,dd,_⟩:=lL I hd hk
 exact PyProof.Rows.tail_any dd.typeIs PySem.F.slot_dict_getitem.lookup (Eg hu I hd hk ka hv fun u s3 I3 ru=>⟨w,H,I3,ru,q⟩) hs
def ZR(K:QQq):R2:=fun x y H Q=>Ul K x y H Q\/Uk K x y H Q\/ZQ x y H Q\/HX K x y H Q
theorem JK(hu:X.A.units+2<cLine):Gz X (ZR X.K):=Cq.or (JG.or ((Vz (by omega)).or (aaT hu)))
theorem ut{K:QQq}{H:Hp}{d y z:D}{v u:V}{Q:VK}(D1:cW K H d v)(D2:bF K H y u)(e:getD d y=some z)(q:∀w,bF K H z w->Q w H):ZR K v u H Q:=by
 cases d with
 |tup xs=>
  cases y with
  |int i=>
   obtain⟨a,vs,rfl,hq,l⟩:=cF D1.tup
   obtain⟨w,e1,e2⟩:=An e l
   exact .inr (.inl ⟨a,vs,i,w,rfl,D2,hq,e1,q w e2⟩)
  |_=>cases e
 |lst xs=>
  cases y with
  |int i=>
   obtain⟨a,vs,rfl,hq,l⟩:=D1.Hs
   rcases hq with hq|hq
   ·obtain⟨w,e1,e2⟩:=An e l
    exact .inl ⟨a,vs,i,w,rfl,D2,hq,e1,q w e2⟩
   ·obtain⟨w,e1,e2⟩:=An e l
    exact .inr (.inl ⟨a,vs,i,w,rfl,D2,hq,e1,q w e2⟩)
  |_=>cases e
 |cC ks ds=>
  have e':(if keyOk y=true then cN y ks ds else none)=some z:=by cases y<;>exact e
  split at e'
  ·rename_i hk
   obtain⟨k,rfl⟩:=eN hk
   obtain⟨a,kvs,rfl,ha,rfl,l⟩:=vQ D1
   obtain⟨w,e1,e2⟩:=mR k e' l
   exact .inr (.inr (.inl ⟨a,k,kvs,w,rfl,iC D2,ha,e1,q w e2⟩))
  ·cases e'
 |iJ ks ds=>
  have e':(if lH y=true then cN y ks ds else none)=some z:=by cases y<;>exact e
  split at e'
  ·rename_i hk
   obtain⟨k,rfl⟩:=jw hk
   obtain⟨a,rfl,ka⟩:=pC D2
   obtain⟨d,xs,rfl,hd,rfl,hks,l⟩:=vP D1
   obtain⟨w,e1,e2⟩:=BL k e' l
   exact .inr (.inr (.inr ⟨d,a,k,xs,w,rfl,rfl,hd,hks,ka,e1,q w e2⟩))
  ·cases e'
 |_=>cases y<;>cases e
theorem Wj(hu:X.A.units+2<cLine)(ha:GE X W c m1 a)(hb:GE X W c m2 b)(hv:∀k,m1.aC=some k->∃x p,a=.Name x p/\je X k x)(hs:v8 b):GE X W c (.idx m1 m2) (.Subscript a b pos):=by
 intro env
 cases q:m1.aC with
 |some k=>
  obtain⟨x,p,rfl,nm⟩:=hv k q
  refine PE.imp (Rp (JK hu) nm.pe hb.d hs) fun σ H Q h=>?_
  simp only[DG,q]at h
  cases e0:aZ k env with
  |none=>rw[e0]at h;exact h.2.elim
  |some d0=>
   rw[e0]at h
   simp only[Option.isNone_some,Qxq,if_false]at h
   obtain⟨u,eu,_⟩:=fW h.1 e0
   refine⟨u,eu,env,aQ h fun d env1 v H1 N1 D1 h1=>?_⟩
   obtain⟨z,ez,S,q3⟩:=cD h1
   cases e1:aZ k env1 with
   |none=>rw[e1]at ez;cases ez
   |some d2=>
    rw[e1]at ez
    simp only[Option.bind]at ez
    obtain⟨u',eu',D2⟩:=fW S e1
    rw[eu]at eu'
    cases eu'
    cases e2:getD d2 d with
    |none=>rw[e2]at ez;cases ez
    |some w=>
     rw[e2]at ez
     cases ez
     exact ut D2 D1 e2 fun w' hw=>q3 w' H1 (Nx.refl S) hw
 |none=>
  refine PE.imp (Rp (JK hu) ha.d hb.d hs) fun σ H Q h=>?_
  simp only[DG,q]at h
  refine⟨env,aQ h fun d env1 v H1 N1 D1 h1=>⟨env1,aQ h1 fun d2 env2 u H2 N2 D2 h2=>?_⟩⟩
  obtain⟨z,ez,S,q3⟩:=cD h2
  cases e2:getD d d2 with
  |none=>rw[e2]at ez;cases ez
  |some w=>
   rw[e2]at ez
   cases ez
   exact ut (.inl (D1.mono N2.pers)) D2 e2 fun w' hw=>q3 w' H2 (Nx.refl S) hw
end
end Mini
end
section
namespace Mini
open PySem L2
structure Nz(K:QQq)(env:Ev)(σ:St)(H:Hp)(env':Ev)(σ':St)(H':Hp):Prop where
 eX:Sat K env' σ' H'
 sub:∀(i:Nat)a,aN env' σ' i a->aN env σ i a\/H a=none
 pers:bQ H H'
 keep:∀b u,H b=some u->(∀i,¬aN env σ i b)->H' b=some u
 dom:∀b,H' b=none->H b=none
 bors:∀(i:Nat)xs,env[i]? =some (.bor xs)->(∃ys,env'[i]? =some (.bor ys))/\σ'[i]? =σ[i]?
section
variable{K:QQq}{env env1 env2:Ev}{σ σ1 σ2:St}{H H1 H2:Hp}
theorem Nx.z(N:Nx K env σ H env1 H1):Nz K env σ H env1 σ H1:=⟨N.eX,fun i a z=>.inl (N.sub i a z),N.pers,N.keep,N.dom,fun i xs e=>⟨N.bors i xs e,rfl⟩⟩
theorem Nz.refl(S:Sat K env σ H):Nz K env σ H env σ H:=(Nx.refl S).z
theorem Nz.trans(a:Nz K env σ H env1 σ1 H1)(b:Nz K env1 σ1 H1 env2 σ2 H2):Nz K env σ H env2 σ2 H2 where
 eX:=b.eX
 sub:=fun i c z=>by
  rcases b.sub i c z with q|q
  ·exact a.sub i c q
  ·exact .inr (a.dom c q)
 pers:=a.pers.trans b.pers
 keep:=fun c vs z n=>b.keep c vs (a.keep c vs z n) fun i w=>by
  rcases a.sub i c w with q|q
  ·exact n i q
  ·rw[q]at z;cases z
 dom:=fun c z=>a.dom c (b.dom c z)
 bors:=fun i xs e=>by
  obtain⟨⟨ys,e1⟩,s1⟩:=a.bors i xs e
  obtain⟨q,s2⟩:=b.bors i ys e1
  exact⟨q,s2.trans s1⟩
def Lq(K:QQq)(env:Ev)(σ:St)(H H':Hp):Rv->V->Prop
 |.val d,v=>bF K H' d v
 |.new q,v=>∃a,v=.ref a/\jd K H' q a/\(H a=none\/∃(i:Nat)(ys:Ob),env[i]? =some (.own ys)/\σ[i]? =some (some (.ref a)))
 |_,_=>False
theorem Lq.back{r:Rv}{v:V}(N:Nz K env σ H env1 σ1 H1)(h:Lq K env1 σ1 H1 H2 r v):Lq K env σ H H2 r v:=by
 cases r with
 |val d=>exact h
 |new xs=>
  obtain⟨a,e,p,z⟩:=h
  refine⟨a,e,p,?_⟩
  rcases z with z|⟨i,ys,z1,z2⟩
  ·exact .inl (N.dom a z)
  ·rcases N.sub i a ⟨⟨_,ys,z1,rfl⟩,z2⟩with ⟨⟨s,xs',q1,q2⟩,q3⟩|q
   ·cases s with
    |own w=>exact .inr ⟨i,w,q1,q3⟩
    |bor w=>
     obtain⟨⟨w',q⟩,_⟩:=N.bors i w q1
     rw[z1]at q;cases q
    |un=>cases q2
    |val d=>cases q2
   ·exact .inl q
 |ref i=>exact h.elim
 |tmp xs=>exact h.elim
end
def tS(K:QQq)(W:Wi)(env:Ev)(f:Fl):TS:=fun D σ H=>Sat K env σ H/\match f with
 |.next env'=>∀σ' H',Nz K env σ H env' σ' H'->D.nx σ' H'
 |.ret r env'=>∀v σ' H',Nz K env σ H env' σ' H'->Lq K env σ H H' r v->D.rt v H'
 |.brk env'=>∀σ' H',Nz K env σ H env' σ' H'->D.bk σ' H'
 |.cont env'=>∀σ' H',Nz K env σ H env' σ' H'->D.ct σ' H'
 |.exc c env'=>∀σ' H',Nz K env σ H env' σ' H'->W c env' σ' H'
 |.bad=>False
def GS(X:Cx)(W:Wi)(c:Cf)(m:S)(st:Stmt):Prop:=∀env,PS X st (tS X.K W env (ex c m env))
def Mf(X:Cx)(W:Wi)(c:Cf)(m:S)(st:List Stmt):Prop:=∀env,v9 X st (tS X.K W env (ex c m env))
section
variable{X:Cx}{W:Wi}{c:Cf}{m m1 m2:S}{st:Stmt}{sts:List Stmt}{e:Expr}{pos:Pos}
theorem PS.imp{t t':TS}(h:PS X st t)(i:∀D σ H,t' D σ H->t D σ H):PS X st t':=fun QLq s σ H D I q=>h QLq s σ H D I (i D σ H q)
theorem v9.imp{t t':TS}(h:v9 X sts t)(i:∀D σ H,t' D σ H->t D σ H):v9 X sts t':=fun QLq s σ H D I q=>h QLq s σ H D I (i D σ H q)
theorem pq{K:QQq}{env env1:Ev}{σ σ1:St}{H H1:Hp}{f:Fl}{D:Ends}(h:tS K W env f D σ H)(N:Nz K env σ H env1 σ1 H1):tS K W env1 f D σ1 H1:=by
 obtain⟨_,h⟩:=h
 refine⟨N.eX,?_⟩
 cases f with
 |next env2=>exact fun σ' H' N'=>h σ' H' (N.trans N')
 |ret r env2=>exact fun v σ' H' N' k=>h v σ' H' (N.trans N') (k.back N)
 |brk env2=>exact fun σ' H' N'=>h σ' H' (N.trans N')
 |cont env2=>exact fun σ' H' N'=>h σ' H' (N.trans N')
 |exc k env2=>exact fun σ' H' N'=>h σ' H' (N.trans N')
 |bad=>exact h
theorem PB:Mf X W c .nil []:=fun env=>v9.imp N8 fun D σ H q=>by
 simp only[x_0]at q
 exact q.2 σ H (Nz.refl q.1)
theorem J0(h:GS X W c m1 st)(t:Mf X W c m2 sts):Mf X W c (.cons m1 m2) (st::sts):=by
 intro env
 have B:v9 X (st::sts) (YQ (fun D σ H=>∃env,tS X.K W env (ex c m1 env) D σ H) (fun D σ H=>∃env,tS X.K W env (ex c m2 env) D σ H)):=
  Ig (fun QLq s σ H D I⟨env,q⟩=>h env QLq s σ H D I q) (fun QLq s σ H D I⟨env,q⟩=>t env QLq s σ H D I q)
 refine v9.imp B fun D σ H q=>?_
 simp only[x_1]at q
 refine⟨env,q.1,?_⟩
 cases r:ex c m1 env with
 |next env1=>
  rw[r]at q
  exact fun σ1 H1 N1=>⟨env1,pq q N1⟩
 |_=>rw[r]at q;exact q.2
theorem pA{K:QQq}{env:Ev}{σ:St}{H:Hp}{D:Ends}{r:Out Rv}{f:Mini.D->Ev->Fl}{R:VK}(h:tS K W env (r.jg f) D σ H)
  (k:∀d env1 v H1,Nx K env σ H env1 H1->bF K H1 d v->tS K W env1 (f d env1) D σ H1->R v H1):tD K W env r σ H R:=by
 have step:∀d env1,r.jg f=f d env1->∀v H1,Nx K env σ H env1 H1->bF K H1 d v->R v H1:=fun d env1 e v H1 N Dv=>by
  rw[e]at h
  exact k d env1 v H1 N Dv (pq h N.z)
 obtain⟨S,h⟩:=h
 refine⟨S,?_⟩
 cases r with
 |bad=>exact h
 |exc c env1=>exact fun H' N=>h σ H' N.z
 |ok x env1=>
  cases x with
  |val d=>exact fun v H1 N Dv=>step d env1 rfl v H1 N Dv
  |new xs=>exact fun v H1 N Dv=>step xs.d env1 rfl v H1 N Dv
  |ref i=>exact h
  |tmp xs=>exact h
theorem Hi{K:QQq}{env:Ev}{σ:St}{H:Hp}{D:Ends}{r:Out Rv}{f:Bool->Ev->Fl}{R:Bool->Hp->Prop}(h:tS K W env (r.CK f) D σ H)
  (k:∀b env1 H1,Nx K env σ H env1 H1->tS K W env1 (f b env1) D σ H1->R b H1):tT K W env r σ H R:=by
 have step:∀d env1 x,x.jb=some d->r=.ok x env1->∃b,gC d=some b/\∀H1,Nx K env σ H env1 H1->R b H1:=fun d env1 x ex er=>by
  subst er
  cases q:gC d with
  |none=>
   cases x with
   |val d'=>cases ex;simp only[Out.CK,Out.jg,q]at h;exact h.2.elim
   |new xs=>cases ex;simp only[Out.CK,Out.jg,q]at h;exact h.2.elim
   |ref i=>cases ex
   |tmp xs=>cases ex
  |some b=>
   refine⟨b,rfl,fun H1 N=>k b env1 H1 N (pq ?_ N.z)⟩
   cases x with
   |val d'=>cases ex;simp only[Out.CK,Out.jg,q]at h;exact h
   |new xs=>cases ex;simp only[Out.CK,Out.jg,q]at h;exact h
   |ref i=>cases ex
   |tmp xs=>cases ex
 refine⟨h.1,?_⟩
 cases r with
 |bad=>exact h.2
 |exc c env1=>exact fun H' N=>h.2 σ H' N.z
 |ok x env1=>
  cases x with
  |val d=>obtain⟨b,e,q⟩:=step d env1 _ rfl rfl;exact⟨d,b,rfl,e,q⟩
  |new xs=>obtain⟨b,e,q⟩:=step xs.d env1 _ rfl rfl;exact⟨xs.d,b,rfl,e,q⟩
  |ref i=>exact h.2.elim
  |tmp xs=>exact h.2.elim
theorem aaX{t:E}{te:Expr}{s1 s2:List Stmt}(ht:GT X W c t te)(h1:Mf X W c m1 s1)(h2:Mf X W c m2 s2):GS X W c (.ite t m1 m2) (.If te s1 s2 pos):=by
 intro env
 refine PS.imp (Z0 ht (t:=fun D σ H=>∃env,tS X.K W env (ex c m1 env) D σ H) (u:=fun D σ H=>∃env,tS X.K W env (ex c m2 env) D σ H)
  (fun QLq s σ H D I⟨env,q⟩=>h1 env QLq s σ H D I q) (fun QLq s σ H D I⟨env,q⟩=>h2 env QLq s σ H D I q)) fun D σ H q=>?_
 simp only[ac5]at q
 refine⟨env,Hi q fun b env1 H1 N q1=>?_⟩
 cases b with
 |true=>rw[if_pos rfl]at q1⊢;exact⟨env1,q1⟩
 |false=>rw[if_neg Qjz]at q1⊢;exact⟨env1,q1⟩
theorem PL{m:E}(h:GE X W c m e)(hs:swapsWith e none pos.line X.env=pure false):GS X W c (.expr m) (.Expr e pos):=by
 intro env
 refine PS.imp (Br h.d hs) fun D σ H q=>?_
 simp only[x_8]at q
 exact⟨env,pA q fun d env1 v H1 N Dv q1=>q1.2 σ H1 (Nz.refl q1.1)⟩
theorem J4{k:Nat}:GS X W0 c (.raise k) st:=fun env QLq s σ H D I q=>by
 simp only[ac2]at q
 exact(q.2 σ H (Nz.refl q.1)).elim
end
section
variable{K:QQq}{env env1 env2:Ev}{σ σ1 σ2:St}{H H1 H2:Hp}
theorem jD{i j:Nat}{s:Sl}{v:V}{a:Addr}(h:aN (env.set i s) (σ.set i (some v)) j a)(hj:i≠j):aN env σ j a:=by
 obtain⟨⟨t,xs,e1,e2⟩,e3⟩:=h
 rw[Qxz hj]at e1 e3
 exact⟨⟨t,xs,e1,e2⟩,e3⟩
theorem lB{i:Nat}{s:Sl}{v:V}{a:Addr}(hi:i<env.length)(hs:i<σ.length)(h:aN (env.set i s) (σ.set i (some v)) i a):isOwn s≠none/\v=.ref a:=by
 obtain⟨⟨t,xs,e1,e2⟩,e3⟩:=h
 rw[Qwq hi]at e1
 rw[Qwq hs]at e3
 cases e1
 cases e3
 exact⟨by rw[e2];simp,rfl⟩
theorem Sat.u9{i:Nat}{q:Ob}{a:Addr}(S:Sat K env σ H)(hi:i<env.length)(ha:jd K H q a)(no:∀k,¬aN env σ k a):Sat K (env.set i (.own q)) (σ.set i (some (.ref a))) H:=by
 have hs:i<σ.length:=by rw[<-S.len];exact hi
 refine⟨by simpa using S.len,fun j s e=>?_,fun j k b h1 h2=>?_⟩
 ·by_cases hj:i=j
  ·subst hj
   rw[Qwq hi]at e
   cases e
   exact⟨a,by rw[Qwq hs];rfl,ha⟩
  ·rw[Qxz hj]at e⊢
   exact S.sl j s e
 ·by_cases hj:i=j
  ·subst hj
   by_cases hk:i=k
   ·exact hk
   ·obtain⟨_,z⟩:=lB hi hs h1
    cases z
    exact absurd (jD h2 hk) (no k)
  ·by_cases hk:i=k
   ·subst hk
    obtain⟨_,z⟩:=lB hi hs h2
    cases z
    exact absurd (jD h1 hj) (no j)
   ·exact S.ne j k b (jD h1 hj) (jD h2 hk)
theorem Nz.put{i:Nat}{x:Rv}{s:Sl}{v:V}(S:Sat K env σ H)(N:Nx K env σ H env1 H1)(hx:gf K σ H H1 x v)(hs:x.wM=some s)(h:cQ i s env1=some env2):Nz K env σ H env2 (σ.set i (some v)) H1:=by
 obtain⟨rfl,hi,nb⟩:=pJ h
 have hsl:i<σ.length:=by rw[<-N.eX.len];exact hi
 have bors:∀(j:Nat)xs,env[j]? =some (.bor xs)->(∃ys,(env1.set i s)[j]? =some (.bor ys))/\(σ.set i (some v))[j]? =σ[j]? :=fun j xs e=>by
  obtain⟨ys,e1⟩:=N.bors j xs e
  have hj:i≠j:=fun z=>by subst z;exact nb ys e1
  exact⟨⟨ys,by rw[Qxz hj];exact e1⟩,by rw[Qxz hj]⟩
 cases x with
 |val d=>
  cases hs
  refine⟨N.eX.put hi hx,fun j a z=>.inl ?_,N.pers,N.keep,N.dom,bors⟩
  by_cases hj:i=j
  ·subst hj
   exact absurd rfl (lB hi hsl z).1
  ·exact N.sub j a (jD z hj)
 |new q=>
  cases hs
  obtain⟨a,rfl,oa,h0⟩:=hx
  refine⟨N.eX.u9 hi oa fun k z=>S.j8 h0 k (N.sub k a z),fun j b z=>?_,N.pers,N.keep,N.dom,bors⟩
  by_cases hj:i=j
  ·subst hj
   obtain⟨_,z⟩:=lB hi hsl z
   cases z
   exact .inr h0
  ·exact .inl (N.sub j b (jD z hj))
 |ref j=>cases hs
 |tmp q=>cases hs
end
section
variable{X:Cx}{W:Wi}{c:Cf}{m:E}{st:Stmt}{e:Expr}{pos pos':Pos}
theorem Q0{K:QQq}{env:Ev}{σ:St}{H:Hp}{D:Ends}{r:Out Rv}{f:Rv->Ev->Fl}{R:VK}(h:tS K W env (r.fl f) D σ H)
  (k:∀x env1 v H1,Nx K env σ H env1 H1->gf K σ H H1 x v->tS K W env (f x env1) D σ H->R v H1):tM K W env r σ H R:=by
 obtain⟨S,h⟩:=h
 refine⟨S,?_⟩
 cases r with
 |bad=>exact h
 |exc c env1=>exact fun H' N=>h σ H' N.z
 |ok x env1=>exact fun v H1 N z=>k x env1 v H1 N z ⟨S,h⟩
theorem Bl{i:Nat}{env:Ev}{D:Ends}{σ:St}{H:Hp}{K:QQq}(q:tS K W env (ex c (.set i m) env) D σ H):tM K W env (ev c m env) σ H fun v H1=>D.nx (σ.set i (some v)) H1:=by
 simp only[x_5]at q
 refine Q0 q fun x env1 v H1 N z q1=>?_
 cases e1:x.wM with
 |none=>rw[e1]at q1;exact q1.2.elim
 |some s=>
  rw[e1]at q1
  simp only[Option.bind]at q1
  cases e2:cQ i s env1 with
  |none=>rw[e2]at q1;exact q1.2.elim
  |some env2=>
   rw[e2]at q1
   exact q1.2 _ _ (Nz.put q1.1 N z e1 e2)
theorem J3{i:Nat}{x:Str}(h:GE X W c m e)(hN:X.N.Nodup)(hi:X.N[i]? =some x)(hx:Loc X.env.scope x)(hf:X.fn x=true\/X.env.scope.names.lookup x=some .local)
  (hs:swapsWith e (some (.Name x pos')) pos.line X.env=pure false):GS X W c (.set i m) (.Assign [.Name x pos'] e pos):=fun env=>
 PS.imp (Us hN hi hx h.am hs hf) fun D σ H q=>⟨env,Bl q⟩
theorem Hq{is:List Nat}{env:Ev}{D:Ends}{σ:St}{H:Hp}{K:QQq}(q:tS K W env (ex c (.setT is m) env) D σ H):tD K W env (ev c m env) σ H fun v H1=>tG K (.tup is) v σ H1 D.nx:=by
 simp only[x_6]at q
 refine pA q fun d env1 v H1 N Dv q1=>?_
 cases e2:bT (.tup is) d env1 with
 |none=>rw[e2]at q1;exact q1.2.elim
 |some env2=>
  rw[e2]at q1
  exact⟨env1,d,env2,q1.1,Dv,e2,fun σ' st=>q1.2 σ' H1 ⟨st.eX,fun i a z=>.inl (st.sub z),bQ.refl _,fun _ _ z _=>z,fun _ z=>z,fun i xs e=>⟨⟨xs,(st.same i (st.bors i xs e)).1.trans e⟩,(st.same i (st.bors i xs e)).2⟩⟩⟩
theorem PJ{is:List Nat}{tg:Expr}(h:GE X W c m e)(hg:GG X (.tup is) tg)(hs:swapsWithSole [tg] e pos.line X.env=pure false)(hw:swappedStores [tg] e X.env=pure none)
  (h1:(assignEach [tg] X.env).map (·.2)=[assign tg X.env]):GS X W c (.setT is m) (.Assign [tg] e pos):=fun env=>
 PS.imp (Ij h.d hg hs hw h1) fun D σ H q=>⟨env,Hq q⟩
end
end Mini
end
section
namespace Mini
open PySem L2
theorem Ad(env:Env):∀(names:List (Str×NameKind))(cs:List (Str×Addr)),(∀x∈names,x.2=.free->∃c,env.cells.lookup x.1=some c)->(∀x c,cs.lookup x=some c->env.cells.lookup x=some c)->
  ∃cl,(do
   let s<-forIn names cs (fun(x:Str×NameKind)cs=>match x with
    |(name,kind)=>if (kind==NameKind.free)=true then do
      let a<-cellOf env name
      pure (ForInStep.yield ((name,a)::cs))
     else pure (ForInStep.yield cs))
   pure s:Sem (List (Str×Addr)))=(pure cl:Sem _)/\
   (∀x c,cl.lookup x=some c->env.cells.lookup x=some c)/\(∀x,(x,NameKind.free)∈names->∃c,cl.lookup x=some c)/\∀x c,cs.lookup x=some c->∃c,cl.lookup x=some c:=by
 intro names
 induction names with
 |nil=>intro cs h1 h2;exact⟨cs,rfl,h2,by simp,fun x c e=>⟨c,e⟩⟩
 |cons p r ih=>
  intro cs h1 h2
  obtain⟨n,k⟩:=p
  by_cases hk:k=.free
  ·subst hk
   obtain⟨c,hc⟩:=h1 (n,.free) QYz rfl
   have q2:∀x d,((n,c)::cs).lookup x=some d->env.cells.lookup x=some d:=fun x d e=>by
    rw[QHz]at e
    cases hx:x==n with
    |true=>rw[hx]at e;cases e;rw[eq_of_beq hx];exact hc
    |false=>rw[hx]at e;exact h2 x d e
   obtain⟨cl,e1,e2,e3,e4⟩:=ih ((n,c)::cs) (fun x hx=>h1 x (QYq _ hx)) q2
   have own:∃d,cl.lookup n=some d:=e4 n c (by simp[QHz])
   refine⟨cl,?_,e2,fun x hx=>?_,fun x d e=>?_⟩
   ·rw[<-e1]
    have:cellOf env n=pure c:=by unfold cellOf;rw[hc]
    simp only[List.forIn_cons]
    rw[if_pos (show(NameKind.free==NameKind.free)=true from rfl),this]
    rfl
   ·rcases QCq.mp hx with z|z
    ·cases z;exact own
    ·exact e3 x z
   ·cases hx:x==n with
    |true=>rw[eq_of_beq hx];exact own
    |false=>exact e4 x d (by rw[QHz,hx];exact e)
  ·obtain⟨cl,e1,e2,e3,e4⟩:=ih cs (fun x hx=>h1 x (QYq _ hx)) h2
   refine⟨cl,?_,e2,fun x hx=>?_,e4⟩
   ·rw[<-e1]
    simp only[List.forIn_cons]
    have hk':¬(k==NameKind.free)=true:=fun z=>hk (eq_of_beq z)
    rw[if_neg hk']
    rfl
   ·rcases QCq.mp hx with z|z
    ·cases z;exact absurd rfl hk
    ·exact e3 x z
theorem ae4{scope:Scope}{env:Env}(h:∀x∈scope.names,x.2=.free->∃c,env.cells.lookup x.1=some c):∃cl,Ly scope env cl:=by
 obtain⟨cl,e1,e2,e3,_⟩:=Ad env scope.names [] h (by simp)
 refine⟨cl,?_,e2,fun x hx=>e3 x (PySem.mem_of_lookup hx)⟩
 have q:closureFor scope env=(forIn scope.names [] (fun(x:Str×NameKind)cs=>match x with
    |(name,kind)=>if (kind==NameKind.free)=true then do
      let a<-cellOf env name
      pure (ForInStep.yield ((name,a)::cs))
     else pure (ForInStep.yield cs)):Sem (List (Str×Addr)))>>=pure:=rfl
 rw[q,e1]
 rfl
section
variable{X:Cx}{W:Wi}{c:Cf}{scope:Scope}{tgs:List Str}{tg:Tg}{it cond elt:E}{tgE iterE eltE:Expr}{ifs:List Expr}{pos spos py:Pos}
theorem Di{nl:Nat}{env:Ev}{σ:St}{H:Hp}{K:QQq}{Q:VK}{R:It->Hp->Prop}
  (q:tM K W env (ev c (.comp nl tg it cond elt) env) σ H Q)
  (k:∀J H1 env1 xs ys τ,Nx K env σ H env1 H1->Gives K J xs H1->aR tg (ev c cond) (ev c elt) xs [] (List.replicate nl Sl.un++env1)=.ok ys τ->
   (∀v H2,Nx K env σ H (τ.drop nl) H2->gf K σ H H2 (.new (.lst ys)) v->Q v H2)->R J H1):tI K W env (ev c it env) σ H R:=by
 simp only[jZ]at q
 obtain⟨S,q⟩:=q
 refine⟨S,?_⟩
 cases r:ev c it env with
 |bad=>rw[r]at q;exact q
 |exc k env1=>rw[r]at q;exact q
 |ok x env1=>
  rw[r]at q
  have go:∀d,x.jb=some d->(match (match items d with
    |some xs=>match aR tg (ev c cond) (ev c elt) xs [] (List.replicate nl Sl.un++env1)with
     |.ok ys τ=>Out.ok (Rv.new (.lst ys)) (τ.drop nl)
     |_=>.bad
    |none=>.bad)with
   |.ok x env'=>∀v H',Nx K env σ H env' H'->gf K σ H H' x v->Q v H'
   |.exc c env'=>∀H',Nx K env σ H env' H'->W c env' σ H'
   |.bad=>False)->∃d xs,x.jb=some d/\items d=some xs/\∀J H',Nx K env σ H env1 H'->Gives K J xs H'->R J H':=fun d ed z=>by
   cases e1:items d with
   |none=>rw[e1]at z;exact z.elim
   |some xs=>
    rw[e1]at z
    simp only at z
    cases e2:aR tg (ev c cond) (ev c elt) xs [] (List.replicate nl Sl.un++env1)with
    |bad=>rw[e2]at z;exact z.elim
    |exc k τ=>rw[e2]at z;exact z.elim
    |ok ys τ=>
     rw[e2]at z
     exact⟨d,xs,ed,e1,fun J H1 N G=>k J H1 env1 xs ys τ N G e2 z⟩
  cases x with
  |val d=>exact go d rfl q
  |new o=>exact go o.d rfl q
  |ref i=>exact q.elim
  |tmp o=>exact q.elim
theorem Inv.letGo{QLq:QQz}{σ:St}{H:Hp}{s:Shared}{C:Addr}{h':Heap}(I:Inv X QLq σ H s)(f:gh X QLq H C)(hs:Heap.SameBut C s.heap h'):Inv X QLq σ H {s with heap:=h'}:=by
 exact I.turned (t':=s.toks) (fun b o hb e=>(hs.2 b hb).trans e) f.1 f.2.1 f.2.2.2.1 f.2.2.2.2.1 f.2.2.2.2.2
theorem Gw.cl{QLq:QQz}{σ:St}{H:Hp}{s:Shared}(sc:Gw X.env.scope scope tgs X.N)(I:Inv X QLq σ H s):∃cl,Ly scope X.env cl:=
 ae4 fun x hx hf=>I.ok.has x.1 (sc.fre x hx hf)
theorem P0(B:yD X c scope tgs tg cond elt tgE eltE ifs)(hi:GI X W c it tgE iterE)(hc:X.calm=true)(hs:∀x,foldedSetIterable iterE X.env x=pure x):
  GE X W c (.comp tgs.length tg it cond elt) (.ListComp eltE [⟨tgE,iterE,ifs,0⟩] scope pos):=by
 intro env QLq s σ H Q I q
 obtain⟨cl,co⟩:=B.sc.cl I
 rw[eval_ListComp]
 refine wpAny_comprehension_free (use:=none) rfl hs co.eq B.sc.kind B.sc.locs (b8 (hi env QLq s σ H _ I (Di q (R:=fun J H1=>∃env1 xs ys τ,Nx X.K env σ H env1 H1/\Gives X.K J xs H1/\aR tg (ev c cond) (ev c elt) xs [] (List.replicate tgs.length Sl.un++env1)=.ok ys τ/\
  (∀v H2,Nx X.K env σ H (τ.drop tgs.length) H2->gf X.K σ H H2 (.new (.lst ys)) v->Q v H2)) fun J H1 env1 xs ys τ N G e z=>⟨env1,xs,ys,τ,N,G,e,z⟩)) fun v s1 h1=>b8 h1 fun itv s2 h2=>?_)
 obtain⟨ita,fp,tn,J,H1,rfl,I1,T,t0,hf,env1,xs,ys,τ,N,G,e,z⟩:=h2
 refine uy (RR:=fun acc C=>compPost (model X.prog X.w) X.A X.xe none (EP X QLq σ Q) acc C) B hc co I1 N.eX T t0 hf G e fun D C s' H' vs m I' N' hD hl hn hC fC=>?_
 refine⟨m,hC,fun h' hs'=>⟨.ref D,H',Inv.letGo I' fC hs',rfl,z _ _ (N.trans N') ⟨D,rfl,⟨_,hD,vs,rfl,hl⟩,N.dom D hn⟩⟩⟩
theorem zQ{i:Nat}{x:Str}(B:yD X c scope tgs tg cond elt tgE eltE ifs)(hi:GI X W c it tgE iterE)(hc:X.calm=true)(hs:∀x,foldedSetIterable iterE X.env x=pure x)
  (hN:X.N.Nodup)(hx:X.N[i]? =some x)(hl:Loc X.env.scope x)(hf:X.fn x=true\/X.env.scope.names.lookup x=some .local)
  (hsw:swapsWith (.ListComp eltE [⟨tgE,iterE,ifs,0⟩] scope pos) (some (.Name x py)) spos.line X.env=pure true):
  GS X W c (.set i (.comp tgs.length tg it cond elt)) (.Assign [.Name x py] (.ListComp eltE [⟨tgE,iterE,ifs,0⟩] scope pos) spos):=by
 intro env QLq s σ H D I q
 have q:=Bl q
 obtain⟨cl,co⟩:=B.sc.cl I
 rw[exec_Assign_Name_used _ _ _ _ hsw]
 refine QKq (wpAny_standAt (QKq ?_))
 show wpAny _ _ (do let _<-comprehension (.ListComp eltE [⟨tgE,iterE,ifs,0⟩] scope pos) scope X.env _ (newList []) false (eval iterE X.env) (some (assign (.Name x py) X.env))) _ _ s
 refine QKq (QGq (wpAny_comprehension_free (use:=some (assign (.Name x py) X.env)) (Q:=fun _ s'=>SP X QLq D .next s') rfl hs co.eq B.sc.kind B.sc.locs
  (b8 (hi env QLq s σ H _ I (Di q (R:=fun J H1=>∃env1 xs ys τ,Nx X.K env σ H env1 H1/\Gives X.K J xs H1/\aR tg (ev c cond) (ev c elt) xs [] (List.replicate tgs.length Sl.un++env1)=.ok ys τ/\
  (∀v H2,Nx X.K env σ H (τ.drop tgs.length) H2->gf X.K σ H H2 (.new (.lst ys)) v->D.nx (σ.set i (some v)) H2)) fun J H1 env1 xs ys τ N G e z=>⟨env1,xs,ys,τ,N,G,e,z⟩)) fun v s1 h1=>b8 h1 fun itv s2 h2=>?_))
  (fun _ s' hq=>QKz (QKz hq)) fun _ _ e=>e)
 obtain⟨ita,fp,tn,J,H1,rfl,I1,T,t0,hf',env1,xs,ys,τ,N,G,e,z⟩:=h2
 refine uy (RR:=fun acc C=>compPost (model X.prog X.w) X.A X.xe (some (assign (.Name x py) X.env)) (fun _ s'=>SP X QLq D .next s') acc C) B hc co I1 N.eX T t0 hf' G e fun A C s' H' vs m I' N' hD hl' hn hC fC=>?_
 show wpAny _ _ (assign (.Name x py) X.env (.ref A)) _ _ _
 refine wpAny_assign_Name (sG (v:=.ref A) I' hN hx hl rfl (fun s'' I''⟨a,ha,hor⟩=>?_) hf)
 have hCa:C≠a:=by
  rcases hor with rfl|hor
  ·exact fC.2.1
  ·exact fun z=>fC.2.2.2.2.1 x a hor z.symm
 refine⟨m,hC.sameBut ha hCa,fun h' hs'=>⟨_,H',Inv.letGo I'' fC hs',z _ _ (N.trans N') ⟨A,rfl,⟨_,hD,vs,rfl,hl'⟩,N.dom A hn⟩⟩⟩
end
end Mini
end
section
namespace Mini
open PySem L2
section
variable{K:QQq}{H:Hp}{a:Addr}{xs:List D}{vs:List V}
theorem Gb(hq:gQ K H a vs)(l:aq K H xs vs)(hz:vs.length<=sizeLine):Gives K (Itt K a) xs H where
 go:=fun H1 p i d e=>by
  obtain⟨v,ev,_⟩:=l.get e
  exact⟨vs,v,p.DX hq,ev⟩
 yld:=fun H1 p i d e x H2 y=>by
  obtain⟨rfl,y⟩:=y
  obtain⟨v,ev,dv⟩:=l.get e
  have:=y vs (p.DX hq)
  rw[ev]at this
  cases this
  exact⟨dv.mono p,.inl rfl⟩
 stop:=fun H1 p i hi=>⟨vs,p.DX hq,by rw[<-l.length];exact hi⟩
 len:=by rw[l.length];exact hz
theorem Gd(hq:Lw K H a vs)(l:aq K H xs vs)(hz:vs.length<=sizeLine):Gives K (Itl K a) xs H where
 go:=fun H1 p i d e=>by
  obtain⟨v,ev,_⟩:=l.get e
  exact⟨vs,v,(p.Ws hq).sq,ev⟩
 yld:=fun H1 p i d e x H2 y=>by
  obtain⟨rfl,y⟩:=y
  obtain⟨v,ev,dv⟩:=l.get e
  have:=y vs (p.Ws hq).sq
  rw[ev]at this
  cases this
  exact⟨dv.mono p,.inl rfl⟩
 stop:=fun H1 p i hi=>⟨vs,(p.Ws hq).sq,by rw[<-l.length];exact hi⟩
 len:=by rw[l.length];exact hz
def Its(x:Str):It:=⟨fun i _=>i<x.cps.size,fun i H v H'=>H'=H/\∃c,x.cps[i]? =some c/\v=.str ⟨#[c]⟩,fun i _=>x.cps.size<=i⟩
theorem signs_get{x:Str}{i:Nat}{d:D}(h:(signs x)[i]? =some d):∃c,x.cps[i]? =some c/\d=.str ⟨#[c]⟩:=by
 unfold signs at h
 rw[QFz]at h
 cases e:x.cps.toList[i]? with
 |none=>rw[e]at h;cases h
 |some c=>rw[e]at h;cases h;exact⟨c,by simpa using e,rfl⟩
theorem my(x:Str):(signs x).length=x.cps.size:=by simp[signs]
theorem ur{x:Str}(hz:x.cps.size<=sizeLine):Gives K (Its x) (signs x) H where
 go:=fun H1 p i d e=>by
  have:=(QCz.mp e).1
  rw[my]at this
  exact this
 yld:=fun H1 p i d e v H2 y=>by
  obtain⟨rfl,c,e1,rfl⟩:=y
  obtain⟨c',e2,rfl⟩:=signs_get e
  rw[e1]at e2
  cases e2
  exact⟨rfl,.inl rfl⟩
 stop:=fun H1 p i hi=>by rw[my]at hi;exact hi
 len:=by rw[my];exact hz
end
section
variable{P:Program}{w:World}{K:QQq}{tg:Expr}
theorem wz(it:Addr)(x:Str)(t:Tok)(ty:String)(W:∀A':Around,A'.handled=none->Walks P w A' it [it] [it] x.cps.size (SignAt x) (fun i h=>h.IsStrIter it ty x t i))
  (hn:["enumerate","zip","dict_itemiterator","dict_reverseitemiterator","odict_iterator","itertools.zip_longest","itertools.pairwise"].contains ty=false)
  (hself:∀(A:Around)(i:Nat)(s:Shared)(Q:QZq)(E:QZq),s.heap.IsStrIter it ty x t i->Q (.ref it) s->wpAny (model P w) A (pyIter (.ref it)) Q E s):
  Turn P w K tg (Its x) [it] it (fun i h=>h.IsStrIter it ty x t i/\i<=x.cps.size) where
 mem:=by simp
 obj:=fun i h st b hb=>by
  have e:b=it:=by simpa using hb
  subst e
  obtain⟨⟨o,e,_,d⟩,_⟩:=st
  exact⟨o,e,fun v z=>by rw[d]at z;cases z⟩
 keep:=fun i h h' st k=>⟨let ⟨o,e,r⟩:=st.1;⟨o,k it (by simp) o e,r⟩,st.2⟩
 item:=by
  intro X hP hw hK hc i QLq s σ H E I hf st hg
  subst hP hw hK
  obtain⟨f0,f1,f2,f3,f4,f5⟩:=hf it (by simp)
  refine(W X.A (I.ok.hd hc)).item i s _ _ hg st.1 fun v h' tk hv st' kk=>?_
  obtain⟨c,t,hx,rfl⟩:=hv
  have I1:Inv X QLq σ H {s with heap:=h',toks:=tk}:=I.turned (fun b o hb e=>kk b o (by simpa using hb) e) f0 f1 f3 f4 f5
  obtain⟨o,e,cl,d⟩:=id st'
  exact⟨_,rfl,Cy (s:={s with heap:=h',toks:=tk}) e cl d hn ⟨.str ⟨#[c]⟩,H,I1,⟨t,rfl⟩,⟨rfl,c,hx,rfl⟩,⟨st',hg⟩,fun b hb=>(hf b hb).1⟩⟩
 done:=by
  intro X hP hw hK hc i QLq s σ H E I hf st hg
  subst hP hw hK
  obtain⟨f0,f1,f2,f3,f4,f5⟩:=hf it (by simp)
  have e:i=x.cps.size:=Nat.le_antisymm st.2 hg
  subst e
  exact(W X.A (I.ok.hd hc)).done s _ _ st.1 fun h' tk kk=>⟨rfl,I.turned (fun b o hb e=>kk b o (by simpa using hb) e) f0 f1 f3 f4 f5⟩
 self:=fun A i s Q E st h=>hself A i s Q E st.1 h
end
section
variable{K:QQq}{H:Hp}{a:Addr}
theorem CZ{H:Hp}:∀cs:List Bool,aq K H (cs.map .bl) (cs.map .bl)
 |[]=>aq.eY
 |c::cs=>aq.aK.mpr ⟨_,_,rfl,by rfl,CZ cs⟩
theorem Wx{k:SK}(h:cA K H k a):bF K H (dY k) (.ref a):=by
 obtain⟨b,q1,q2⟩:=h
 unfold dY bF
 refine⟨a,_,rfl,q1,aq.aK.mpr ⟨_,_,rfl,?_,aq.aK.mpr ⟨_,_,rfl,by rfl,aq.eY⟩⟩⟩
 unfold bF
 exact⟨b,_,rfl,q2,CZ _⟩
end
section
variable{P:Program}{w:World}{K:QQq}{tg:Expr}
end
section
variable{X:Cx}{W:Wi}{c:Cf}{m:E}{tg e:Expr}
theorem JL{QLq:QQz}{σ:St}{H:Hp}{s:Shared}{R:It->Hp->Prop}{d:D}{xs:List D}{v:V}{u:Value}(I:Inv X QLq σ H s)(rv:RelV v u)(hd:bF X.K H d v)(hi:items d=some xs)(q:∀J,Gives X.K J xs H->R J H):
  wpAny (model X.prog X.w) X.A (pyIter u) (PIE X QLq σ tg R) X.xe s:=by
 have fp:∀(s':Shared),s.heap.objs.size<=s'.heap.objs.size->True:=fun _ _=>trivial
 cases d with
 |tup ds=>
  cases hi
  obtain⟨a,vs,rfl,hq,l⟩:=cF hd
  cases rv
  obtain⟨its,r,p,hz⟩:=I.tuple hq
  refine wpAny_pyIter_tuple (show s.heap.IsTuple a its.toArray from p) ?_
  refine⟨s.heap.objs.size,[s.heap.objs.size],_,_,H,rfl,I.kept (t':=s.toks) fun b o e=>QWq _ e,yL a _,⟨_,Qzq _ rfl,rfl,rfl⟩,fun b hb=>?_,q _ (Gb hq l hz)⟩
  have e:b=s.heap.objs.size:=by simpa using hb
  subst e
  exact I.zX (QVz _) (I.hok.fresh (QVz _))
 |lst ds=>
  cases hi
  obtain⟨a,vs,rfl,hq,l⟩:=dC hd
  cases rv
  obtain⟨its,r,p,hz⟩:=I.list hq.sq
  refine wpAny_pyIter_list p.isList ?_
  refine⟨s.heap.objs.size,[s.heap.objs.size],_,_,H,rfl,I.kept (t':=s.toks) fun b o e=>QWq _ e,DN a _,⟨_,Qzq _ rfl,rfl,rfl⟩,fun b hb=>?_,q _ (Gd hq l hz)⟩
  have e:b=s.heap.objs.size:=by simpa using hb
  subst e
  exact I.zX (QVz _) (I.hok.fresh (QVz _))
 |str x=>
  simp only[items]at hi
  split at hi
  ·rename_i hf
   cases hi
   cases hd
   obtain⟨t,rfl⟩:=rv
   have hz:x.cps.size<=sizeLine:=dU hf
   have fin:∀b∈[s.heap.objs.size],gh X QLq H b:=fun b hb=>by
    have e:b=s.heap.objs.size:=by simpa using hb
    subst e
    exact I.zX (QVz _) (I.hok.fresh (QVz _))
   cases ha:x.cps.all (· <128)
   ·refine wpAny_pyIter_wide ha ?_
    exact⟨s.heap.objs.size,[s.heap.objs.size],_,_,H,rfl,I.kept (t':=s.toks) fun b o e=>QWq _ e,wz _ x t "str_iterator" (fun A' hA=>Walks.strWide hA _ x t) (by decide) (fun A i s Q E st h=>wpAny_pyIter_striter_wide st h),⟨⟨_,Qzq _ rfl,rfl,rfl⟩,QIq _⟩,fin,q _ (ur hz)⟩
   ·refine wpAny_pyIter_ascii ha ?_
    exact⟨s.heap.objs.size,[s.heap.objs.size],_,_,H,rfl,I.kept (t':=s.toks) fun b o e=>QWq _ e,wz _ x t "str_ascii_iterator" (fun A' hA=>Walks.strAscii hA _ x t) (by decide) (fun A i s Q E st h=>wpAny_pyIter_striter_ascii st h),⟨⟨_,Qzq _ rfl,rfl,rfl⟩,QIq _⟩,fin,q _ (ur hz)⟩
  ·cases hi
 |_=>cases hi
theorem aa0(h:GE X W c m e):GI X W c m tg e:=by
 intro env QLq s σ H R I q
 refine b8 (h.d QLq s σ H (fun v H'=>∃d xs,bF X.K H' d v/\items d=some xs/\∀J,Gives X.K J xs H'->R J H') I ⟨env,q.1,?_⟩) fun u s1⟨v,H1,I1,r1,d,xs,hd,hi,q1⟩=>JL I1 r1 hd hi q1
 have q2:=q.2
 cases r:ev c m env with
 |bad=>rw[r]at q2;exact q2
 |exc k env1=>rw[r]at q2;exact q2
 |ok x env1=>
  rw[r]at q2
  obtain⟨d,xs,ed,ei,q3⟩:=q2
  cases x with
  |val d'=>cases ed;exact fun v H' N Dv=>⟨d,xs,Dv,ei,fun J G=>q3 J H' N G⟩
  |new o=>cases ed;exact fun v H' N Dv=>⟨o.d,xs,Dv,ei,fun J G=>q3 J H' N G⟩
  |ref i=>cases ed
  |tmp o=>cases ed
end
end Mini
end
section
namespace Mini
open PySem L2
def YC:Ty->String
 |.tup=>"tuple"
 |.lst=>"list"
 |.str=>"str"
 |.bool=>"bool"
 |.int=>"int"
 |.cC=>"dict"
section
variable{X:Cx}{W:Wi}{c:Cf}{m m1 m2:E}{a b e:Expr}{pos p p':Pos}
def ad9(K:QQq):List V->Hp->VK->Prop:=fun xs H Q=>∃d v t,xs=[v,.ty (YC t)]/\bF K H d v/\Q (.bl (qg t d)) H
theorem KQ:fJ X (.builtin "isinstance") (ad9 X.K):=by
 intro QLq s σ H xs us Q I r h
 obtain⟨d,v,t,rfl,hd,q⟩:=h
 obtain⟨u,u',rfl,ru,rt⟩:=Vals.two r
 cases rt
 have fin:∀k,Q (.bl k) H->EP X QLq σ Q (.bool k) {s with toks:=s.toks+1}:=fun k z=>⟨.bl k,H,I.tok _,rfl,z⟩
 have fin0:∀k,Q (.bl k) H->EP X QLq σ Q (.bool k) s:=fun k z=>⟨.bl k,H,I,rfl,z⟩
 cases d with
 |non=>
  cases hd;cases ru
  cases t with
  |tup=>exact IsiPair.NoneType_tuple (fin _ q)
  |lst=>exact IsiPair.NoneType_list (fin _ q)
  |str=>exact IsiPair.NoneType_str (fin _ q)
  |bool=>exact IsiPair.NoneType_bool (fin _ q)
  |int=>exact IsiPair.NoneType_int (fin _ q)
  |cC=>exact IsiPair.NoneType_dict (fin _ q)
 |bl k=>
  cases hd;cases ru
  cases t with
  |tup=>exact IsiPair.bool_tuple (fin _ q)
  |lst=>exact IsiPair.bool_list (fin _ q)
  |str=>exact IsiPair.bool_str (fin _ q)
  |bool=>exact IsiPair.bool_bool (fin0 _ q)
  |int=>exact IsiPair.bool_int (fin0 _ q)
  |cC=>exact IsiPair.bool_dict (fin _ q)
 |int k=>
  cases hd;obtain⟨tk,rfl⟩:=ru
  cases t with
  |tup=>exact IsiPair.int_tuple (fin _ q)
  |lst=>exact IsiPair.int_list (fin _ q)
  |str=>exact IsiPair.int_str (fin _ q)
  |bool=>exact IsiPair.int_bool (fin _ q)
  |int=>exact IsiPair.int_int (fin0 _ q)
  |cC=>exact IsiPair.int_dict (fin _ q)
 |str k=>
  cases hd;obtain⟨tk,rfl⟩:=ru
  cases t with
  |tup=>exact IsiPair.str_tuple (fin _ q)
  |lst=>exact IsiPair.str_list (fin _ q)
  |str=>exact IsiPair.str_str (fin0 _ q)
  |bool=>exact IsiPair.str_bool (fin _ q)
  |int=>exact IsiPair.str_int (fin _ q)
  |cC=>exact IsiPair.str_dict (fin _ q)
 |tup ds=>
  obtain⟨a,vs,rfl,hq,_⟩:=cF hd
  cases ru
  obtain⟨its,_,⟨o,e,cl,_⟩,_⟩:=I.tuple hq
  cases t with
  |tup=>exact IsiPair.tuple_tuple e cl (fin0 _ q)
  |lst=>exact IsiPair.tuple_list e cl (fin _ q)
  |str=>exact IsiPair.tuple_str e cl (fin _ q)
  |bool=>exact IsiPair.tuple_bool e cl (fin _ q)
  |int=>exact IsiPair.tuple_int e cl (fin _ q)
  |cC=>exact IsiPair.tuple_dict e cl (fin _ q)
 |lst ds=>
  obtain⟨a,vs,rfl,hq,_⟩:=dC hd
  cases ru
  obtain⟨its,_,⟨o,n,e,cl,_⟩,_⟩:=I.list hq.sq
  cases t with
  |tup=>exact IsiPair.list_tuple e cl (fin _ q)
  |lst=>exact IsiPair.list_list e cl (fin0 _ q)
  |str=>exact IsiPair.list_str e cl (fin _ q)
  |bool=>exact IsiPair.list_bool e cl (fin _ q)
  |int=>exact IsiPair.list_int e cl (fin _ q)
  |cC=>exact IsiPair.list_dict e cl (fin _ q)
 |cC ks ds=>
  unfold bF at hd
  obtain⟨a,o,kvs,rfl,ha,_⟩:=hd
  cases ru
  obtain⟨e,_,_,_,_,o',_,_,e',ex,_⟩:=I.hok a _ ha
  rw[e]at e'
  cases e'
  have cl:=ex.1
  cases t with
  |tup=>exact IsiPair.dict_tuple e cl (fin _ q)
  |lst=>exact IsiPair.dict_list e cl (fin _ q)
  |str=>exact IsiPair.dict_str e cl (fin _ q)
  |bool=>exact IsiPair.dict_bool e cl (fin _ q)
  |int=>exact IsiPair.dict_int e cl (fin _ q)
  |cC=>exact IsiPair.dict_dict e cl (fin0 _ q)
 |iJ ks ds=>
  unfold bF at hd
  obtain⟨a,o,kvs,rfl,ha,_⟩:=hd
  cases ru
  obtain⟨e,_,_,_,_,o',_,_,_,e',ex,_⟩:=I.hok a _ ha
  rw[e]at e'
  cases e'
  have cl:=ex.1
  cases t with
  |tup=>exact IsiPair.dict_tuple e cl (fin _ q)
  |lst=>exact IsiPair.dict_list e cl (fin _ q)
  |str=>exact IsiPair.dict_str e cl (fin _ q)
  |bool=>exact IsiPair.dict_bool e cl (fin _ q)
  |int=>exact IsiPair.dict_int e cl (fin _ q)
  |cC=>exact IsiPair.dict_dict e cl (fin0 _ q)
theorem Wh{t:Ty}{x:Str}(ha:GE X W c m a)(hx:x=Str.ofString (YC t))(hg:Gl X x)(hm:X.mg x=none)(hi:Gl X "isinstance")(hmi:X.mg "isinstance"=none)
  (hs:starEach [a,.Name x p'] X.env=(false,eval a X.env)::starEach [.Name x p'] X.env):
  GE X W c (.isi m t) (.Call (.Name "isinstance" p) [a,.Name x p'] [] pos):=by
 intro env
 have hv:bootBuiltins x=some (.type (YC t)):=by subst hx;cases t<;>kernel_rfl
 have hn:x≠"__name__":=by subst hx;cases t<;>decide+kernel
 have hd:(x==("__debug__":Str))=false:=by subst hx;cases t<;>decide+kernel
 have N:PE X (.Name x p') (tC (.ty (YC t))):=Oq hg hm hv rfl hn hd
 refine PE.imp (pR KQ hi hmi (by kernel_rfl) (cJ ha.d (cJ N fD rfl) hs) (by decide+kernel) (by decide+kernel) hs rfl) fun σ H Q q=>?_
 simp only[Mw]at q
 exact⟨env,aQ q fun d env1 v H1 N1 D1 q1=>⟨d,v,t,rfl,D1,dN q1 rfl⟩⟩
end
end Mini
end
section
namespace Mini
open PySem L2
def oN(X:Cx)(r:List V->Hp->VK->Prop)(f:D->Option Rv):Prop:=
 ∀(env:Ev)(σ:St)(H:Hp)(x:D)(z:Rv)(v:V)(Q:VK),Sat X.K env σ H->cW X.K H x v->f x=some z->(∀w H',Nx X.K env σ H env H'->gf X.K σ H H' z w->Q w H')->r [v] H Q
section
variable{X:Cx}{W:Wi}{c:Cf}{m m1 m2:E}{a b e:Expr}{pos p p':Pos}
theorem KZ{bb:Bi}{r:List V->Hp->VK->Prop}(R:oN X r (b1 bb)){env:Ev}{σ:St}{H:Hp}{Q:VK}(hv:m.aC=none)(q:tM X.K W env (ev c (.bi bb m) env) σ H Q):aD X W c m σ H fun v H1=>r [v] H1 Q:=by
 simp only[mj,hv]at q
 refine⟨env,aQ q fun d env1 v H1 N1 D1 q1=>?_⟩
 obtain⟨z,ez,S,q3⟩:=cD q1
 exact R env1 σ H1 d z v Q S (.inl D1) ez q3
theorem Do{bb:Bi}{r:List V->Hp->VK->Prop}(R:oN X r (b1 bb)){env:Ev}{σ:St}{H:Hp}{Q:VK}{k:Nat}(hv:m.aC=some k)(q:tM X.K W env (ev c (.bi bb m) env) σ H Q):Hg k σ H fun v H1=>r [v] H1 Q:=by
 simp only[mj,hv]at q
 obtain⟨z,ez,S,q3⟩:=cD q
 cases e0:aZ k env with
 |none=>rw[e0]at ez;cases ez
 |some d0=>
  rw[e0]at ez
  obtain⟨u,eu,Du⟩:=fW S e0
  exact⟨u,eu,R env σ H d0 z u Q S Du ez q3⟩
theorem vH{bb:Bi}{id:String}{x:Str}{r:List V->Hp->VK->Prop}(C:fJ X (.builtin id) r)(R:oN X r (b1 bb))(ha:GE X W c m a)(hv:∀k,m.aC=some k->∃x p,a=.Name x p/\je X k x)
  (hg:Gl X x)(hm:X.mg x=none)(hb:bootBuiltins x=some (.builtin id))(hn:x≠"__name__")(hd:(x==("__debug__":Str))=false)(hs:starEach [a] X.env=[(false,eval a X.env)]):
  GE X W c (.bi bb m) (.Call (.Name x p) [a] [] pos):=by
 intro env
 cases q:m.aC with
 |none=>exact PE.imp (pR C hg hm hb (cJ ha.d fD hs) hn hd hs rfl) fun σ H Q h=>KZ R q h
 |some k=>
  obtain⟨y,p',rfl,nm⟩:=hv k q
  exact PE.imp (pR C hg hm hb (cJ nm.pe fD hs) hn hd hs rfl) fun σ H Q h=>Do R q h
theorem zW{bb:Bi}{id:String}{x:Str}{r:List V->Hp->VK->Prop}(C:fJ X (.type id) r)(R:oN X r (b1 bb))(ha:GE X W c m a)(hv:∀k,m.aC=some k->∃x p,a=.Name x p/\je X k x)
  (hg:Gl X x)(hm:X.mg x=none)(hb:bootBuiltins x=some (.type id))(hn:x≠"__name__")(hd:(x==("__debug__":Str))=false)(hs:starEach [a] X.env=[(false,eval a X.env)]):
  GE X W c (.bi bb m) (.Call (.Name x p) [a] [] pos):=by
 intro env
 cases q:m.aC with
 |none=>exact PE.imp (mK C hg hm hb (cJ ha.d fD hs) hn hd hs rfl) fun σ H Q h=>KZ R q h
 |some k=>
  obtain⟨y,p',rfl,nm⟩:=hv k q
  exact PE.imp (mK C hg hm hb (cJ nm.pe fD hs) hn hd hs rfl) fun σ H Q h=>Do R q h
theorem cW.seq{K:QQq}{H:Hp}{d:D}{xs:List D}{v:V}(h:cW K H d v)(e:bw d=some xs):∃a vs,v=.ref a/\(iH K H a vs\/gQ K H a vs)/\aq K H xs vs:=by
 cases d with
 |tup ys=>cases e;exact h.M9
 |lst ys=>cases e;exact h.Hs
 |_=>cases e
theorem cW.cC{K:QQq}{H:Hp}{ks ds:List D}{v:V}(h:cW K H (.cC ks ds) v):∃a kvs,v=.ref a/\Rd H a (.dK kvs)/\ks=kvs.map (fun p=>cL p.1)/\aq K H ds (kvs.map (·.2)):=by
 rcases h with h|⟨o,a,q,rfl,u,ha,hq⟩
 ·unfold bF at h
  obtain⟨a,o,kvs,rfl,ha,k,l⟩:=h
  exact⟨a,kvs,rfl,.inr ⟨o,ha⟩,k,l⟩
 ·cases o<;>cases q
  obtain⟨kvs,rfl,k,l⟩:=hq
  exact⟨a,kvs,rfl,.inl ha,k,l⟩
def Uj(K:QQq):List V->Hp->VK->Prop:=fun xs H Q=>(∃x n,xs=[x]/\WY K x H n/\Q (.int n) H)\/∃a kvs,xs=[.ref a]/\Rd H a (.dK kvs)/\Q (.int kvs.length) H
theorem Gm:fJ X (.builtin "len") (Uj X.K):=by
 intro QLq s σ H xs us Q I r h
 rcases h with h|⟨a,kvs,rfl,e,q⟩
 ·exact KN QLq s σ H xs us Q I r h
 ·obtain⟨u,rfl,ru⟩:=vals1 r
  cases ru
  exact abb I e fun t s' I'=>⟨.int kvs.length,H,I',⟨t,rfl⟩,q⟩
theorem Nm:oN X (Uj X.K) (b1 .len):=by
 intro env σ H x z v Q S Dx e q
 have go:∀(n:Nat),Fq x=some n->WY X.K v H n->Uj X.K [v] H Q:=fun n en ln=>by
  simp only[b1,en]at e
  cases e
  exact .inl ⟨v,n,rfl,ln,q _ H (Nx.refl S) rfl⟩
 cases x with
 |tup xs=>
  obtain⟨a,vs,rfl,hq,l⟩:=Dx.M9
  refine go xs.length rfl ?_
  rcases hq with hq|hq
  ·exact .inl ⟨vs,hq,l.length⟩
  ·exact .inr ⟨vs,hq,l.length⟩
 |lst xs=>
  obtain⟨a,vs,rfl,hq,l⟩:=Dx.Hs
  refine go xs.length rfl ?_
  rcases hq with hq|hq
  ·exact .inl ⟨vs,hq,l.length⟩
  ·exact .inr ⟨vs,hq,l.length⟩
 |str y=>
  have:=Dx.str
  subst this
  by_cases hf:fits y.length=true
  ·exact go y.length (by simp[Fq,hf]) ⟨dU hf,rfl⟩
  ·simp[b1,Fq,hf]at e
 |cC ks ds=>
  cases e
  obtain⟨a,kvs,rfl,hr,hk,l⟩:=Dx.cC
  have e2:ks.length=kvs.length:=by rw[hk,QAq]
  exact .inr ⟨a,kvs,rfl,hr,by rw[<-e2];exact q _ H (Nx.refl S) rfl⟩
 |_=>cases e
theorem Np:oN X (fun xs H Q=>(∃i,xs=[.int i]/\Q (.int i) H)\/∃k,xs=[.bl k]/\Q (.int (if k then 1 else 0)) H) (b1 .int):=by
 intro env σ H x z v Q S Dx e q
 cases x with
 |int i=>
  cases e
  have:=Dx.int
  subst this
  exact .inl ⟨i,rfl,q _ H (Nx.refl S) rfl⟩
 |bl k=>
  cases e
  rcases Dx with h|⟨o,a,q',_⟩
  ·cases h
   exact .inr ⟨k,rfl,q _ H (Nx.refl S) (by cases k<;>rfl)⟩
  ·cases o<;>cases q'
 |_=>cases e
theorem Ei:oN X (fun xs H Q=>∃p ys,xs=[.ref p]/\((iH X.K H p ys/\∀l,H l=none->Q (.ref l) (upd H l (.tup ys)))\/(gQ X.K H p ys/\Q (.ref p) H))) (b1 .tuple):=by
 intro env σ H x z v Q S Dx e q
 simp only[b1]at e
 cases es:bw x with
 |none=>rw[es]at e;cases e
 |some xs=>
  rw[es]at e
  cases e
  obtain⟨a,vs,rfl,hq,l⟩:=Dx.seq es
  refine⟨a,vs,rfl,?_⟩
  rcases hq with hq|hq
  ·refine .inl ⟨hq,fun p hp=>?_⟩
   have N:=Nx.laid (o:=.tup vs) S hp
   exact q _ _ N (dW (.inl (.inl aU)) (l.mono N.pers))
  ·exact .inr ⟨hq,q _ H (Nx.refl S) (dW hq l)⟩
theorem cW.iJ{K:QQq}{H:Hp}{ks ds:List D}{v:V}(h:cW K H (.iJ ks ds) v):∃a xs,v=.ref a/\Rd H a (sD xs)/\ks=xs.map (fun x=>dY x.1)/\∀x∈xs,cA K H x.1 x.2.1:=by
 rcases h with h|⟨o,a,q,rfl,u,ha,hq⟩
 ·unfold bF at h
  obtain⟨a,o,xs,rfl,ha,k,ka,l⟩:=h
  exact⟨a,xs,rfl,.inr ⟨o,ha⟩,k,ka⟩
 ·cases o<;>cases q
  obtain⟨xs,rfl,k,ka,l⟩:=hq
  exact⟨a,xs,rfl,.inl ha,k,ka⟩
theorem CW{K:QQq}{H:Hp}:∀{xs:List SV},(∀x∈xs,cA K H x.1 x.2.1)->aq K H (xs.map fun x=>dY x.1) (xs.map fun x=>.ref x.2.1)
 |[]=>fun _=>aq.eY
 |x::xs=>fun h=>aq.aK.mpr ⟨_,_,rfl,Wx (h x QYz),CW fun y hy=>h y (QYq _ hy)⟩
theorem Hy:oN X (fun xs H Q=>(∃p ys,xs=[.ref p]/\(iH X.K H p ys\/gQ X.K H p ys)/\∀l,H l=none->Q (.ref l) (upd H l (.lst ys)))\/∃a ks,xs=[.ref a]/\Rd H a (sD ks)/\∀l,H l=none->Q (.ref l) (upd H l (.lst (ks.map fun x=>.ref x.2.1)))) (b1 .list):=by
 intro env σ H x z v Q S Dx e q
 simp only[b1]at e
 have go:∀{xs:List D},bw x=some xs->LQ .list xs=some z->∃p ys,[v]=[V.ref p]/\(iH X.K H p ys\/gQ X.K H p ys)/\∀l,H l=none->Q (.ref l) (upd H l (.lst ys)):=fun es e=>by
  cases e
  obtain⟨a,vs,rfl,hq,l⟩:=Dx.seq es
  exact⟨a,vs,rfl,hq,fun p hp=>q _ _ (Nx.laid S hp) (jF S l hp)⟩
 cases x with
 |iJ ks ds=>
  cases e
  obtain⟨a,xs,rfl,hr,rfl,ka⟩:=Dx.iJ
  exact .inr ⟨a,xs,rfl,hr,fun p hp=>q _ _ (Nx.laid S hp) (jF S (CW ka) hp)⟩
 |tup xs=>exact .inl (go rfl e)
 |lst xs=>exact .inl (go rfl e)
 |_=>cases e
theorem BoolsAre.get{vs:List Value}{bs:List Bool}(h:BoolsAre vs bs):∀{i:Nat}{v:Value},vs[i]? =some v->∃b,bs[i]? =some b/\v=.bool b:=by
 induction h with
 |nil=>intro i v e;simp at e
 |cons b t ih=>
  intro i v e
  cases i with
  |zero=>simp at e;subst e;exact⟨b,rfl,rfl⟩
  |succ i=>exact ih (by simpa using e)
theorem range_all(bs:List Bool):((List.range bs.length).all fun i=>bs.getD i false)=bs.all id:=by
 rw[Bool.eq_iff_iff]
 simp only[List.all_eq_true,List.mem_range,id]
 constructor
 ·intro h b hb
  obtain⟨i,hi,e⟩:=List.mem_iff_getElem.mp hb
  have:=h i hi
  rw[List.getD_eq_getElem?_getD,QXq hi]at this
  simpa[e]using this
 ·intro h i hi
  rw[List.getD_eq_getElem?_getD,QXq hi]
  exact h _ (List.getElem_mem hi)
theorem range_any(bs:List Bool):((List.range bs.length).any fun i=>bs.getD i false)=bs.any id:=by
 rw[Bool.eq_iff_iff]
 simp only[List.any_eq_true,List.mem_range,id]
 constructor
 ·rintro ⟨i,hi,h⟩
  rw[List.getD_eq_getElem?_getD,QXq hi]at h
  exact⟨bs[i],List.getElem_mem hi,by simpa using h⟩
 ·rintro ⟨b,hb,h⟩
  obtain⟨i,hi,e⟩:=List.mem_iff_getElem.mp hb
  exact⟨i,hi,by rw[List.getD_eq_getElem?_getD,QXq hi];simpa[e]using h⟩
def Xq(K:QQq)(f:List Bool->Bool):List V->Hp->VK->Prop:=fun xs H Q=>∃p vs ds bs,xs=[.ref p]/\(iH K H p vs\/gQ K H p vs)/\aq K H ds vs/\bools ds=some bs/\Q (.bl (f bs)) H
theorem nC{P:Program}{w:World}{A:Around}{its:List Value}{bs:List Bool}(hb:BoolsAre its bs):TruthOf P w A (fun i v=>its.toArray[i]? =some v) fun i=>bs.getD i false:=by
 intro i v s Q E hv h
 obtain⟨b,e,rfl⟩:=hb.get (i:=i) (v:=v) (by simpa using hv)
 have h:Q (bs.getD i false) s:=h
 rw[List.getD_eq_getElem?_getD,e]at h
 exact wpAny_truthy_bool h
theorem qL{id:String}{f:List Bool->Bool}{g:Nat->(Nat->Bool)->Bool}(hc:X.calm=true)(hg:∀bs:List Bool,g bs.length (fun i=>bs.getD i false)=f bs)
  (hcall:∀{E:QZq}{s:Shared}{x:Value}{Q:QZq},
   wpAny (model X.prog X.w) X.A.in1 (pyIter x) (fun it s₂=>∃I fp wr n P St tr,it=.ref I/\Walks X.prog X.w X.A.in1 I fp wr n P St/\St 0 s₂.heap/\TruthOf X.prog X.w X.A.in1 P tr/\
    ∀h' tk,(∀b o,b∉wr->s₂.heap.get? b=some o->h'.get? b=some o)->Q (.bool (g n tr)) {s₂ with heap:=h',toks:=tk}) E s->wpAny (model X.prog X.w) X.A (call (.builtin id) [x]) Q E s):
  fJ X (.builtin id) (Xq X.K f):=by
 intro QLq s σ H xs us Q I r h
 obtain⟨a,vs,ds,bs,rfl,hq,l,hb,q⟩:=h
 obtain⟨u,rfl,ru⟩:=Vals.one r
 cases ru
 have hh:X.A.in1.handled=none:=I.ok.hd hc
 refine hcall ?_
 have fin:∀(its:List Value)(o:Obj),Vals vs its->∀h' tk,(∀b o',b∉[s.heap.objs.size]->(s.heap.push o).get? b=some o'->h'.get? b=some o')->EP X QLq σ Q (.bool (g its.toArray.size fun i=>bs.getD i false)) {s with heap:=h',toks:=tk}:=fun its o rv h' tk k=>by
  have hl:its.toArray.size=bs.length:=by
   have:=(fM hb l rv).length
   simpa using this
  rw[hl,hg]
  refine⟨.bl (f bs),H,I.kept fun b o' e=>k b o' ?_ (QWq _ e),rfl,q⟩
  simp only[QDz]
  exact Qvz (Qqz e)
 rcases hq with hq|hq
 ·obtain⟨its,rv,p,hz⟩:=I.list hq
  have hlt:a≠s.heap.objs.size:=by
   obtain⟨o,n,e,_⟩:=p
   exact Qvz (Qqz e)
  refine wpAny_pyIter_list p.isList ⟨s.heap.objs.size,[s.heap.objs.size,a],[s.heap.objs.size],its.toArray.size,_,_,_,rfl,Walks.list hh _ a hlt its.toArray,⟨⟨_,Qzq _ rfl,rfl,rfl⟩,p.isList.at fun o e=>QWq _ e⟩,nC (fM hb l rv),fin its _ rv⟩
 ·obtain⟨its,rv,p,hz⟩:=I.tuple hq
  have hlt:a≠s.heap.objs.size:=by
   obtain⟨o,e,_⟩:=p
   exact Qvz (Qqz e)
  have p':s.heap.IsTuple a its.toArray:=p
  refine wpAny_pyIter_tuple p' ⟨s.heap.objs.size,[s.heap.objs.size,a],[s.heap.objs.size],its.toArray.size,_,_,_,rfl,Walks.tuple hh _ a hlt its.toArray,⟨⟨_,Qzq _ rfl,rfl,rfl⟩,p'.at fun o e=>QWq _ e⟩,nC (fM hb l rv),fin its _ rv⟩
theorem Gq(hc:X.calm=true):fJ X (.builtin "all") (Xq X.K (·.all id)):=qL (g:=fun n tr=>(List.range n).all tr) hc range_all call_all_walk
theorem Gp(hc:X.calm=true):fJ X (.builtin "any") (Xq X.K (·.any id)):=qL (g:=fun n tr=>(List.range n).any tr) hc range_any call_any_walk
theorem sU{bb:Bi}{f:List Bool->Bool}(hb:∀xs,LQ bb xs=(bools xs).map fun bs=>.val (.bl (f bs)))(h1:∀x,b1 bb x=(bw x).bind (LQ bb)):oN X (Xq X.K f) (b1 bb):=by
 intro env σ H x z v Q S Dx e q
 rw[h1]at e
 cases es:bw x with
 |none=>rw[es]at e;cases e
 |some xs=>
  rw[es]at e
  simp only[Option.bind,hb]at e
  cases eb:bools xs with
  |none=>rw[eb]at e;cases e
  |some bs=>
   rw[eb]at e
   cases e
   obtain⟨a,vs,rfl,hq,l⟩:=Dx.seq es
   exact⟨a,vs,xs,bs,rfl,hq,l,eb,q _ H (Nx.refl S) rfl⟩
theorem Nr:oN X (Xq X.K (·.all id)) (b1 .all):=sU (fun _=>rfl) fun _=>rfl
theorem Nq:oN X (Xq X.K (·.any id)) (b1 .any):=sU (fun _=>rfl) fun _=>rfl
end
end Mini
end
section
namespace HT
open PySem PySem.Spec PyProof.Rows
section
variable{prog:Program}{w:World}{A:Around}{E:QZq}{s:Shared}
theorem jO{t sl:Addr}{items:Array Value}{vl vu:Value}{lo hi:Option Int}{Q:QZq}(ht:IsTup s.heap t items)(hs:s.heap.IsSliceOf sl vl vu .none)(pl:IsPart vl lo)(pu:IsPart vu hi)
  (hw:cX items.size 0 lo=0/\cX items.size items.size hi=items.size)(h:Q (.ref t) s):wpAny (model prog w) A (getItem (.ref t) (.ref sl)) Q E s:=by
 obtain⟨os,hos,hcs,hds⟩:=id hs
 have hTs:s.TypeIs (.ref sl) "slice":=⟨os,hos,hcs⟩
 unfold getItem
 try with_reducible refine Qqq ?_
 first|refine QKq (QKz ?_)|skip
 refine QKq (wpAny_sequenceKey ht.typeIs (by decide) ?_)
 refine QKq (wpAny_callSpecial?_slot (name:=Str.ofString "__getitem__") ht.typeIs PyProof.Rows.slot_tuple_getitem
  (Qzz PyProof.Rows.slot_tuple_getitem ht.typeIs entry_tuple_getitem ?_ (args_tuple_getitem _ _)))
 show wpAny _ _ (Builtin.Tuple.tupleItemsOf (.ref t)>>=_) _ _ s
 refine QKq (tupleItemsOf_ ht ?_)
 refine QKq (wpAny_typeOf hTs ?_)
 rw[if_pos (by decide)]
 refine QKq (gU hs pl pu ?_)
 have hno:((((cX items.size 0 lo:Nat):Int)==0&&(1:Int)==1&&(cX items.size items.size hi-cX items.size 0 lo)==items.size)=true):=by
  rw[hw.1,hw.2];simp
 show wpAny _ _ (if (((cX items.size 0 lo:Nat):Int)==0&&(1:Int)==1&&(cX items.size items.size hi-cX items.size 0 lo)==items.size)=true then _ else _) _ _ s
 rw[if_pos hno]
 refine QKq ?_
 unfold Builtin.Tuple.tupleIsExact
 refine QKq (wpAny_typeOf ht.typeIs (QKz ?_))
 rw[if_pos (by decide)]
 exact QKq (wpAny_rule (QKz ⟨_,rfl,QKz h⟩))
end
end HT
namespace Mini
open PySem L2
section
variable{X:Cx}{W:Wi}{c:Cf}{m m1 m2 m3:E}{a b e:Expr}{pos p p2:Pos}
def Rb(K:QQq):V->Option Int->Option Int->Hp->VK->Prop:=fun x lo hi H Q=>∃a xs,x=.ref a/\gQ K H a xs/\
 (HT.cX xs.length 0 lo=0/\HT.cX xs.length xs.length hi=xs.length)/\Q (.ref a) H
theorem M4:Qx X (Rb X.K):=by
 intro QLq s σ H x v vl vu lo hi sl Q I rx hs pl pu h
 obtain⟨a,xs,rfl,hx,hw,q⟩:=h
 cases rx
 obtain⟨its,r,ht,hz⟩:=I.tuple hx
 have hlen:its.toArray.size=xs.length:=by rw[Qyq];exact r.length.symm
 exact⟨"tuple",_,PyProof.Rows.slot_tuple_getitem.lookup,ht.typeIs,HT.jO ht hs pl pu (by rw[hlen];exact hw) ⟨.ref a,H,I,rfl,q⟩⟩
def ZM(K:QQq):V->Option Int->Option Int->Hp->VK->Prop:=fun x lo hi H Q=>ZK K x lo hi H Q\/Rb K x lo hi H Q\/ZL K x lo hi H Q
theorem T7:Qx X (ZM X.K):=T6.or (M4.or M5)
theorem oY(n:Nat)(i:Int)(d:Nat):clip n i=HT.cX n d (some i):=by
 unfold clip HT.cX
 dsimp only
 by_cases h:i<0
 ·rw[if_pos h,if_pos h]
  split
  ·omega
  ·split<;>omega
 ·rw[if_neg h,if_neg h,if_neg h]
  split<;>omega
theorem Wz{α:Type}(xs:List α)(a b:Nat):(xs.take b).drop a=(xs.drop a).take (b-a):=by
 rw[List.drop_take]
theorem vR{K:QQq}{H:Hp}{ds:List D}{vs:List V}(l:aq K H ds vs)(lo hi:Option Int):aq K H (cut ds lo hi) (qH vs lo hi):=by
 have hl:=l.length
 unfold cut qH
 dsimp only
 rw[Wz]
 cases lo with
 |none=>
  cases hi with
  |none=>rw[HT.kZ,HT.kZ,<-hl];exact(l.drop _).take _
  |some j=>rw[HT.kZ,<-hl,<-oY];exact(l.drop _).take _
 |some i=>
  cases hi with
  |none=>rw[HT.kZ,<-hl,<-oY];exact(l.drop _).take _
  |some j=>rw[<-hl,<-oY,<-oY];exact(l.drop _).take _
theorem Gk{vs:List V}{lo hi:Option Int}(h:HT.cX vs.length 0 lo=0/\HT.cX vs.length vs.length hi=vs.length):qH vs lo hi=vs:=by
 unfold qH
 rw[h.1,h.2]
 simp
theorem yS{K:QQq}{env:Ev}{σ:St}{H:Hp}{d:D}{z:Rv}{v:V}{lo hi:Option Int}{Q:VK}(S:Sat K env σ H)(D1:bF K H d v)(e:fP d lo hi=some z)(q:∀w H',Nx K env σ H env H'->gf K σ H H' z w->Q w H'):ZM K v lo hi H Q:=by
 cases d with
 |tup xs=>
  cases e
  obtain⟨a,vs,rfl,hq,l⟩:=cF D1
  by_cases hw:HT.cX vs.length 0 lo=0/\HT.cX vs.length vs.length hi=vs.length
  ·refine .inr (.inl ⟨a,vs,rfl,hq,hw,q _ H (Nx.refl S) ?_⟩)
   have:=vR l lo hi
   rw[Gk hw]at this
   exact dW hq this
  ·refine .inl ⟨a,vs,rfl,hq,hw,fun p hp=>?_⟩
   have N:=Nx.laid (o:=.tup (qH vs lo hi)) S hp
   exact q _ _ N (dW (.inl (.inl aU)) ((vR l lo hi).mono N.pers))
 |lst xs=>
  cases e
  obtain⟨a,vs,rfl,hq,l⟩:=dC D1
  exact .inr (.inr ⟨a,vs,rfl,hq.sq,fun p hp=>q _ _ (Nx.laid S hp) (jF S (vR l lo hi) hp)⟩)
 |_=>cases e
def GO(X:Cx)(W:Wi)(c:Cf)(m:E)(eo:Option Expr):Prop:=(m=.noneE/\eo=Option.none)\/∃e,eo=Option.some e/\m.jf=false/\GE X W c m e
def tPt(X:Cx)(W:Wi)(c:Cf)(m:E):TO:=fun σ H Q=>∃env,tD X.K W env (ev c m env) σ H fun v H1=>∀d,bF X.K H1 d v->∃o,cI m.jf d=some o/\Q o H1
theorem GO.po{eo:Option Expr}(h:GO X W c m eo):PO X eo (tPt X W c m):=by
 rcases h with ⟨rfl,rfl⟩|⟨e,rfl,hn,h⟩
 ·intro QLq s σ H Q I q
  obtain⟨env,q⟩:=q
  simp only[v_0,v_1,Yz,v_3,v_4,Yy,v_6,Xf,Yx,Ms,uQ,G5,G4,DG,Mz,Tf,My,G3,GZ,Mx,Mw,mj,Mv,Te,GX,Mu,Mt,jZ]at q
  obtain⟨o,e,z⟩:=q.2 .non H (Nx.refl q.1) rfl .non rfl
  cases e
  exact Oe QLq s σ H Q I z
 ·intro QLq s σ H Q I q
  obtain⟨env,q⟩:=q
  refine Od h.d QLq s σ H Q I ⟨env,q.1,?_⟩
  have q2:=q.2
  have go:∀d v H',bF X.K H' d v->(∀d,bF X.K H' d v->∃o,cI m.jf d=some o/\Q o H')->∃i,v=.int i/\Q (some i) H':=fun d v H' Dv z=>by
   obtain⟨o,e,z⟩:=z d Dv
   rw[hn]at e
   cases d with
   |int i=>cases e;exact⟨i,Dv,z⟩
   |_=>cases e
  cases r:ev c m env with
  |bad=>rw[r]at q2;exact q2
  |exc k env1=>rw[r]at q2;exact q2
  |ok x env1=>
   rw[r]at q2
   cases x with
   |val d=>exact fun v H' N Dv=>go d v H' Dv (q2 v H' N Dv)
   |new o=>exact fun v H' N Dv=>go o.d v H' Dv (q2 v H' N Dv)
   |ref i=>exact q2
   |tmp o=>exact q2
theorem xj{K:QQq}{H:Hp}{jf:Bool}{d d':D}{v:V}{o:Option Int}(h:bF K H d v)(e:cI jf d=some o)(h':bF K H d' v):cI jf d'=some o:=by
 cases jf with
 |true=>exact e
 |false=>
  cases d with
  |int i=>
   have hv:v=.int i:=h
   subst hv
   cases d' with
   |int j=>cases (show V.int i=V.int j from h');exact e
   |non=>cases (show V.int i=V.non from h')
   |bl b=>cases (show V.int i=V.bl b from h')
   |str x=>cases (show V.int i=V.str x from h')
   |tup ds=>obtain⟨a,vs,z,_⟩:=cF h';cases z
   |lst ds=>obtain⟨a,vs,z,_⟩:=dC h';cases z
   |cC ks ds=>unfold bF at h';obtain⟨a,o,kvs,z,_⟩:=h';cases z
   |iJ ks ds=>unfold bF at h';obtain⟨a,o,xs,z,_⟩:=h';cases z
  |_=>cases e
theorem Wa{lo hi:Option Expr}(ha:GE X W c m1 a)(hl:GO X W c m2 lo)(hh:GO X W c m3 hi):GE X W c (.slc m1 m2 m3) (.Subscript a (.Slice lo hi none p2) pos):=by
 intro env
 refine PE.imp (Ir T7 ha.d hl.po hh.po) fun σ H Q q=>?_
 simp only[Mz]at q
 refine⟨env,aQ q fun d env1 v H1 N1 D1 q1=>⟨env1,aQ q1 fun dl env2 vl H2 N2 D2 q2 dl' D2'=>?_⟩⟩
 cases el:cI m2.jf dl with
 |none=>rw[el]at q2;exact q2.2.elim
 |some l=>
  rw[el]at q2
  refine⟨l,xj D2 el D2',env2,aQ q2 fun dh env3 vh H3 N3 D3 q3 dh' D3'=>?_⟩
  obtain⟨z,ez,S,q4⟩:=cD q3
  cases eh:cI m3.jf dh with
  |none=>rw[eh]at ez;cases ez
  |some h=>
   rw[eh]at ez
   exact⟨h,xj D3 eh D3',yS S (D1.mono (N2.trans N3).pers) ez q4⟩
def abC(X:Cx)(x:Str)(d:D):Prop:=∃v u,X.mg x=some u/\RelV v u/\∀H,bF X.K H d v
theorem PN{k:Nat}{x:Str}{d:D}(hk:c.gl k=some d)(h:abC X x d)(hg:Gl X x)(hd:(x==("__debug__":Str))=false):GE X W c (.glob k) (.Name x pos):=by
 obtain⟨v,u,hm,r,hD⟩:=h
 intro env
 refine PE.imp (Oj hg hm r hd) fun σ H Q q=>?_
 simp only[Yz,hk]at q
 exact dN q (hD H)
end
end Mini
end
section
namespace Mini
open PySem L2
theorem fQ{H:Hp}{a:Addr}{u u':HO}(h:H a=some u)(hu:Mg u):bQ H (upd H a u'):=by
 refine⟨fun b xs q=>?_,fun b o' w q=>?_⟩
 ·rw[aG (fun z=>by subst z;rw[h]at q;cases q;exact hu.tup xs rfl)];exact q
 ·rw[aG (fun z=>by subst z;rw[h]at q;cases q;exact hu.frz o' w rfl)];exact q
theorem o7{k:Nat}{f:Ob->Option Ob}{env env':Ev}(h:cg k f env=some env'):∃o o',f o=some o'/\((env[k]? =some (.own o)/\env'=env.set k (.own o'))\/(env[k]? =some (.bor o)/\env'=env.set k (.bor o'))):=by
 unfold cg at h
 cases e:env[k]? with
 |none=>rw[e]at h;cases h
 |some s=>
  rw[e]at h
  cases s with
  |un=>cases h
  |val d=>cases h
  |own o=>
   cases e2:f o with
   |none=>simp only[e2]at h;cases h
   |some o'=>simp only[e2]at h;cases h;exact⟨o,o',e2,.inl ⟨rfl,rfl⟩⟩
  |bor o=>
   cases e2:f o with
   |none=>simp only[e2]at h;cases h
   |some o'=>simp only[e2]at h;cases h;exact⟨o,o',e2,.inr ⟨rfl,rfl⟩⟩
theorem Nx.turn{K:QQq}{env:Ev}{σ:St}{H:Hp}{k:Nat}{sl sl':Sl}{o o':Ob}{a:Addr}{u u':HO}(S:Sat K env σ H)(hs:(sl=.own o/\sl'=.own o')\/(sl=.bor o/\sl'=.bor o'))(e:env[k]? =some sl)(es:σ[k]? =some (some (.ref a)))
  (ha:H a=some u)(hu:Mg u)(hd:Gy K H o' u'):Nx K env σ H (env.set k sl') (upd H a u'):=by
 have p:=fQ (u':=u') ha hu
 have ow:isOwn sl=some o/\isOwn sl'=some o':=by rcases hs with ⟨rfl,rfl⟩|⟨rfl,rfl⟩<;>exact⟨rfl,rfl⟩
 have oa:aN env σ k a:=⟨⟨_,o,e,ow.1⟩,es⟩
 have hi:k<env.length:=(QCz.mp e).1
 have sub:∀j b,aN (env.set k sl') σ j b->aN env σ j b:=fun j b z=>by
  obtain⟨⟨s,ys,e1,e2⟩,e3⟩:=z
  by_cases hj:k=j
  ·subst hj;exact⟨⟨sl,o,e,ow.1⟩,e3⟩
  ·rw[Qxz hj]at e1;exact⟨⟨s,ys,e1,e2⟩,e3⟩
 refine⟨⟨by simpa using S.len,fun j s ej=>?_,fun j l b z w=>S.ne j l b (sub j b z) (sub l b w)⟩,sub,p,fun b w q n=>?_,fun b q=>?_,fun j ys ej=>?_⟩
 ·by_cases hj:k=j
  ·subst hj
   rw[Qwq hi]at ej
   cases ej
   have at_:jd K (upd H a u') o' a:=⟨u',aU,hd.mono p⟩
   rcases hs with ⟨_,rfl⟩|⟨_,rfl⟩
   ·exact⟨a,by rw[es];rfl,at_⟩
   ·exact⟨a,by rw[es];rfl,at_⟩
  ·rw[Qxz hj]at ej
   refine(S.sl j s ej).keep p fun b w ho ev hb=>?_
   have nb:b≠a:=fun z=>by
    subst z
    exact hj (S.ne k j b oa (vf ej ho ev))
   rw[aG nb];exact hb
 ·rw[aG (fun z=>by subst z;exact n k oa)];exact q
 ·by_cases hb:b=a
  ·subst hb;rw[aU]at q;cases q
  ·rw[aG hb]at q;exact q
 ·by_cases hj:k=j
  ·subst hj
   rw[e]at ej
   cases ej
   rcases hs with ⟨z,_⟩|⟨_,rfl⟩
   ·cases z
   ·exact⟨o',by rw[Qwq hi]⟩
  ·exact⟨ys,by rw[Qxz hj];exact ej⟩
theorem Be{K:QQq}{env env':Ev}{σ:St}{H:Hp}{k:Nat}{f:Ob->Option Ob}(S:Sat K env σ H)(h:cg k f env=some env'):
  ∃o o' a u,f o=some o'/\σ[k]? =some (some (.ref a))/\H a=some u/\Gy K H o u/\aZ k env=some o.d/\∀u',Gy K H o' u'->Nx K env σ H env' (upd H a u'):=by
 obtain⟨o,o',ef,hh⟩:=o7 h
 rcases hh with ⟨e,rfl⟩|⟨e,rfl⟩
 ·obtain⟨a,e1,u,e2,e3⟩:=S.sl k _ e
  exact⟨o,o',a,u,ef,bW e1,e2,e3,by unfold aZ;rw[e],fun u' hd=>Nx.turn S (.inl ⟨rfl,rfl⟩) e (bW e1) e2 e3.tO hd⟩
 ·obtain⟨a,e1,u,e2,e3⟩:=S.sl k _ e
  exact⟨o,o',a,u,ef,bW e1,e2,e3,by unfold aZ;rw[e],fun u' hd=>Nx.turn S (.inr ⟨rfl,rfl⟩) e (bW e1) e2 e3.tO hd⟩
theorem IW{f:List D->Option (List D)}{o o':Ob}(h:rG f o=some o'):∃xs ys,o=.lst xs/\f xs=some ys/\o'=.lst ys:=by
 cases o with
 |lst xs=>
  simp only[rG]at h
  cases e:f xs with
  |none=>rw[e]at h;cases h
  |some ys=>rw[e]at h;cases h;exact⟨xs,ys,rfl,e,rfl⟩
 |dct ks vs=>cases h
 |sdt ks vs=>cases h
theorem wA{K:QQq}{env env':Ev}{σ:St}{H:Hp}{k:Nat}{f:List D->Option (List D)}(S:Sat K env σ H)(h:cg k (rG f) env=some env'):
  ∃xs ys a vs,f xs=some ys/\σ[k]? =some (some (.ref a))/\H a=some (.lst vs)/\aq K H xs vs/\aZ k env=some (.lst xs)/\∀ws,aq K H ys ws->Nx K env σ H env' (upd H a (.lst ws)):=by
 obtain⟨o,o',a,u,ef,es,ha,hd,lk,N⟩:=Be S h
 obtain⟨xs,ys,rfl,e,rfl⟩:=IW ef
 obtain⟨vs,rfl,l⟩:=hd
 exact⟨xs,ys,a,vs,e,es,ha,l,lk,fun ws hw=>N _ ⟨ws,rfl,hw⟩⟩
theorem cW.lst{K:QQq}{H:Hp}{xs:List D}{v:V}(h:cW K H (.lst xs) v):∃a vs,v=.ref a/\iH K H a vs/\aq K H xs vs:=by
 rcases h with h|⟨o,a,q,rfl,u,ha,hq⟩
 ·obtain⟨a,vs,rfl,hq,l⟩:=dC h
  exact⟨a,vs,rfl,hq.sq,l⟩
 ·cases o<;>cases q
  obtain⟨vs,rfl,l⟩:=hq
  exact⟨a,vs,rfl,.inl (.inl ha),l⟩
structure Aw(X:Cx)(o:Expr)(name:Str)(apos:Pos)(e:Expr)(cpos:Pos):Prop where
 base:attributeBase o name X.env (eval o X.env)=eval o X.env
 line:(apos.endLine==cpos.line)=true
 star:starEach [e] X.env=[(false,eval e X.env)]
section
variable{X:Cx}{W:Wi}{c:Cf}{m m1 m2 m3:E}{o a b e:Expr}{pos p p2 apos cpos:Pos}{name:Str}
theorem Aw.few(h:Aw X o name apos e cpos):((backTo cpos (starEach [e] X.env)).all (fun x=> !x.1)&&(backToKw cpos (keywordEach [] X.env)).all (fun x=>x.1.isSome)
   &&decide ([e].length+([]:List Keyword).length+(if ([]:List Keyword).isEmpty then 0 else 1)<30))=true:=by
 rw[h.star];rfl
theorem Ro{id:String}{r:V->List V->Hp->VK->Prop}{to:TE}{te:TE}(M:Aw X o name apos e cpos)(slot:Slot "list" name id)(hty:typeOf (.builtin id)=pure (.type "method_descriptor"))(hm:MtR X id r)(ho:PE X o to)(he:PE X e te):
  PE X (.Call (.Attribute o name apos) [e] [] cpos) (tBM X.K "list" r to (Hj te YZ)):=
 Z3 PySem.F.plainAttrs_list slot hty hm ho (cJ he fD M.star) M.base M.few M.line M.star rfl
theorem countV{K:QQq}{H:Hp}{p:D}{x:V}(Dp:bF K H p x)(fp:flat p=true):∀{ds:List D}{vs:List V}{us:List Value},aq K H ds vs->Vals vs us->ds.all flat=true->vs.all gA=true/\us.countP (wj x)=eO p ds:=by
 intro ds
 induction ds with
 |nil=>intro vs us l r _;rw[aq.bB.mp l]at r⊢;cases r;exact⟨rfl,rfl⟩
 |cons d ds ih=>
  intro vs us l r f
  obtain⟨v,vs',rfl,hd,l'⟩:=aq.aK.mp l
  rw[List.all_cons,QUq]at f
  cases r with
  |cons r1 r2=>
   obtain⟨i1,i2⟩:=ih l' r2 f.2
   obtain⟨j1,j2⟩:=vB Dp fp (aq.cZ hd aq.eY) (by simp[f.1])
   simp only[List.all_cons,List.all_nil,Bool.and_true]at j1
   have j3:Km v x=cH d p:=by simpa[inV,aW]using j2
   refine⟨by rw[List.all_cons,j1,i1];rfl,?_⟩
   rw[List.countP_cons,i2,z6 r1 j1,j3,eO]
   split<;>omega
def NP(K:QQq):V->List V->Hp->VK->Prop:=fun x ys H Q=>∃a vs ds d y,x=.ref a/\ys=[y]/\(iH K H a vs\/gQ K H a vs)/\aq K H ds vs/\bF K H d y/\flat d=true/\ds.all flat=true/\Q (.int (eO d ds)) H
theorem Kc{K:QQq}{H:Hp}{d:D}{v:V}(h:bF K H d v)(f:flat d=true):gA v=true:=by
 cases d with
 |non=>cases h;rfl
 |bl b=>cases h;rfl
 |int i=>cases h;rfl
 |str x=>cases h;rfl
 |_=>cases f
theorem Fg:MtR X "list.count" (fun x ys H Q=>(∃a vs,x=.ref a/\iH X.K H a vs)/\NP X.K x ys H Q):=by
 intro QLq s σ H x ys v us Q I rx ry h
 obtain⟨⟨a,vs,rfl,hq⟩,a',vs',ds,d,y,e1,rfl,hq',l,hd,f1,f2,q⟩:=h
 cases e1
 cases rx
 obtain⟨u,rfl,ru⟩:=Vals.one ry
 have hv:vs'=vs:=by
  rcases hq' with z|z
  ·exact I.xK z hq
  ·obtain⟨_,_,⟨o,e,c,_⟩,_⟩:=I.tuple z
   obtain⟨_,_,⟨o',_,e',c',_⟩,_⟩:=I.list hq
   rw[e]at e';cases e';rw[c]at c';injection c' with z;exact absurd z (by decide)
 subst hv
 obtain⟨its,r,pl,hz⟩:=I.list hq
 obtain⟨⟨cls,dd,data,sl⟩,n,ho,hc,hdd,hdt⟩:=id pl
 simp only at hc hdt
 subst hc hdt
 obtain⟨g1,g2⟩:=countV hd f1 l r f2
 refine call_meets PySem.F.slot_list_count ⟨_,ho,rfl⟩ PySem.F.entry_list_count (PySem.F.args_list_count_2 _ _) (SeqAt.list_countAt a its.toArray n dd sl u (wj y)) ⟨ho,fun w hw=>fV ru (Kc hd f1) r g1 w (by simpa using hw),?_⟩
 refine⟨.int (eO d ds),H,I.tok _,⟨s.toks,?_⟩,q⟩
 rw[show its.toArray.toList=its from rfl,g2]
theorem Ff:MtR X "tuple.count" (fun x ys H Q=>(∃a vs,x=.ref a/\gQ X.K H a vs)/\NP X.K x ys H Q):=by
 intro QLq s σ H x ys v us Q I rx ry h
 obtain⟨⟨a,vs,rfl,hq⟩,a',vs',ds,d,y,e1,rfl,hq',l,hd,f1,f2,q⟩:=h
 cases e1
 cases rx
 obtain⟨u,rfl,ru⟩:=Vals.one ry
 have hv:vs'=vs:=by
  rcases hq' with z|z
  ·obtain⟨_,_,⟨o,e,c,_⟩,_⟩:=I.tuple hq
   obtain⟨_,_,⟨o',_,e',c',_⟩,_⟩:=I.list z
   rw[e]at e';cases e';rw[c]at c';injection c' with z;exact absurd z (by decide)
  ·exact I.sy z hq
 subst hv
 obtain⟨its,r,pl,hz⟩:=I.tuple hq
 obtain⟨⟨cls,dd,data,sl⟩,ho,hc,n,hdt⟩:=id pl
 simp only at hc hdt
 subst hc hdt
 obtain⟨g1,g2⟩:=countV hd f1 l r f2
 refine call_meets PySem.F.slot_tuple_count ⟨_,ho,rfl⟩ PySem.F.entry_tuple_count (PySem.F.args_tuple_count_2 _ _) (SeqAt.tuple_countAt a its.toArray n dd sl u (wj y)) ⟨ho,fun w hw=>fV ru (Kc hd f1) r g1 w (by simpa using hw),?_⟩
 refine⟨.int (eO d ds),H,I.tok _,⟨s.toks,?_⟩,q⟩
 rw[show its.toArray.toList=its from rfl,g2]
def adi(K:QQq)(to te:TE):TE:=fun σ H Q=>to σ H fun x H1=>∃a vs,x=.ref a/\((iH K H1 a vs/\te σ H1 fun y H2=>(∃a vs,x=.ref a/\iH K H2 a vs)/\NP K x [y] H2 Q)\/(gQ K H1 a vs/\te σ H1 fun y H2=>(∃a vs,x=.ref a/\gQ K H2 a vs)/\NP K x [y] H2 Q))
theorem UJ{to te:TE}(M:Aw X o "count" apos e cpos)(ho:PE X o to)(he:PE X e te):PE X (.Call (.Attribute o "count" apos) [e] [] cpos) (adi X.K to te):=by
 intro QLq s σ H Q I h
 refine wpAny_Call_method_late M.base M.few M.line rfl (b8 (ho QLq s σ H _ I h) fun v s1⟨x,H1,I1,r1,a,vs,ex,q1⟩=>?_)
 subst ex
 cases r1
 have arg:∀{id:String}{r:V->List V->Hp->VK->Prop},MtR X id r->(te σ H1 fun y H2=>r (.ref a) [y] H2 Q)->wpAny (model X.prog X.w) X.A (callWith cpos (.builtin id) [.ref a] (backTo cpos (starEach [e] X.env)) (backToKw cpos (keywordEach [] X.env))) (EP X QLq σ Q) X.xe s1:=fun{id r}hm z=>by
  have hA:=cJ (X:=X) he fD M.star cpos QLq s1 σ H1 (fun vs H2=>r (.ref a) vs H2 Q) I1 z
  rw[M.star]at hA⊢
  exact Calls.callWith_builtin rfl (Calls.evalArgs_plain (b8 hA fun us s2⟨vs,H2,I2,r2,q2⟩=>hm QLq s2 σ H2 (.ref a) vs (.ref a) us Q I2 rfl r2 q2))
 rcases q1 with ⟨hq,z⟩|⟨hq,z⟩
 ·obtain⟨its,r,pl,hz⟩:=I1.list hq
  refine⟨"list","list.count",PySem.F.plainAttrs_list,PySem.F.slot_list_count,PySem.F.type_list_count,pl.isList.typeIs,fun b eb=>?_,arg Fg z⟩
  cases eb
  obtain⟨o,n,e,c,hd,_⟩:=pl
  exact⟨o,e,hd⟩
 ·obtain⟨its,r,⟨o,eo,ec,hd,n,dt⟩,hz⟩:=I1.yN hq
  refine⟨"tuple","tuple.count",PySem.F.plainAttrs_tuple,PySem.F.slot_tuple_count,PySem.F.type_tuple_count,⟨o,eo,ec⟩,fun b eb=>?_,arg Ff z⟩
  cases eb
  exact⟨o,eo,hd⟩
theorem J6(M:Aw X o "count" apos e cpos)(ho:GE X W c m1 o)(he:GE X W c m2 e):GE X W c (.count m1 m2) (.Call (.Attribute o "count" apos) [e] [] cpos):=by
 intro env
 refine PE.imp (UJ M ho.d he.d) fun σ H Q q=>?_
 simp only[Mu]at q
 refine⟨env,aQ q fun d env1 v H1 N1 D1 q1=>?_⟩
 cases d with
 |tup xs=>
  simp only[bw,Option.isNone_some,Qxq,if_false]at q1
  obtain⟨a,vs,rfl,hq,l⟩:=cF D1
  refine⟨a,vs,rfl,.inr ⟨hq,env1,aQ q1 fun d2 env2 y H2 N2 D2 q2=>?_⟩⟩
  obtain⟨z,ez,S,q3⟩:=cD q2
  simp only[vX]at ez
  split at ez
  ·rename_i hf
   cases ez
   rw[QUq]at hf
   exact⟨⟨a,vs,rfl,N2.pers.DX hq⟩,a,vs,xs,d2,y,rfl,rfl,.inr (N2.pers.DX hq),l.mono N2.pers,D2,hf.1,hf.2,q3 _ H2 (Nx.refl S) rfl⟩
  ·cases ez
 |lst xs=>
  simp only[bw,Option.isNone_some,Qxq,if_false]at q1
  obtain⟨a,vs,rfl,hq,l⟩:=dC D1
  refine⟨a,vs,rfl,.inl ⟨hq.sq,env1,aQ q1 fun d2 env2 y H2 N2 D2 q2=>?_⟩⟩
  obtain⟨z,ez,S,q3⟩:=cD q2
  simp only[vX]at ez
  split at ez
  ·rename_i hf
   cases ez
   rw[QUq]at hf
   exact⟨⟨a,vs,rfl,(N2.pers.Ws hq).sq⟩,a,vs,xs,d2,y,rfl,rfl,.inl (N2.pers.Ws hq).sq,l.mono N2.pers,D2,hf.1,hf.2,q3 _ H2 (Nx.refl S) rfl⟩
  ·cases ez
 |_=>exact q1.2.elim
theorem JH{n:Nat}{i:Int}{j:Nat}(h:ix? n i=some j)(hn:n<=sizeLine): -(2 ^63)<=i/\i<2 ^63/\seqIndex? i n=some j/\j<n:=by
 have hl:sizeLine=16777216:=sizeLine_eq
 unfold ix? at h
 by_cases h0:i<0
 ·simp only[h0,if_true]at h
  by_cases hj:0<=i+(n:Int)/\i+(n:Int)<n
  ·rw[if_pos hj]at h
   have e:(i+(n:Int)).toNat=j:=QEq h
   exact⟨by omega,by omega,by rw[seqIndex_neg (by omega) (by omega),e],by omega⟩
  ·rw[if_neg hj]at h;cases h
 ·simp only[h0,if_false]at h
  by_cases hj:0<=i/\i< (n:Int)
  ·rw[if_pos hj]at h
   have e:i.toNat=j:=QEq h
   exact⟨by omega,by omega,by rw[seqIndex_of (by omega) (by omega),e],by omega⟩
  ·rw[if_neg hj]at h;cases h
theorem qi{d:Option D}(h:dg d=true):∃xs,d=some (.lst xs):=by
 cases d with
 |none=>cases h
 |some d=>cases d with
  |lst xs=>exact⟨xs,rfl⟩
  |_=>cases h
theorem J5{k:Nat}{x:Str}(M:Aw X (.Name x p) "pop" apos e cpos)(nm:je X k x)(he:GE X W c m e):GE X W c (.popAt k m) (.Call (.Attribute (.Name x p) "pop" apos) [e] [] cpos):=by
 intro env QLq s σ H Q I q
 refine PE.imp (Ro M PySem.F.slot_list_pop PySem.F.type_list_pop Jk nm.pe he.d) (t':=fun σ' H' Q'=>σ'=σ/\H'=H/\Q'=Q) (fun σ' H' Q'⟨e1,e2,e3⟩=>?_) QLq s σ H Q I ⟨rfl,rfl,rfl⟩
 subst e1 e2 e3
 simp only[Mt]at q
 cases hl:dg (aZ k env)with
 |false=>rw[hl]at q;exact q.2.elim
 |true=>
  rw[hl]at q
  simp only[Bool.not_true,Qxq,if_false]at q
  obtain⟨xs0,e0⟩:=qi hl
  obtain⟨u,eu,Du⟩:=fW q.1 e0
  obtain⟨a0,vs0,rfl,hq0,l0⟩:=Du.lst
  refine⟨.ref a0,eu,.inl ⟨rfl,vs0,hq0⟩,env,aQ q fun d env1 y H1 N1 D1 q1=>?_⟩
  unfold pQ at q1
  cases d with
  |int i=>
   cases e1:aZ k env1 with
   |none=>rw[e1]at q1;exact q1.2.elim
   |some d1=>
    rw[e1]at q1
    cases d1 with
    |lst xs=>
     simp only at q1
     cases hz:fits xs.length with
     |false=>rw[hz]at q1;exact q1.2.elim
     |true=>
     rw[hz]at q1
     simp only[Bool.not_true,Qxq,if_false]at q1
     cases e2:ix? xs.length i with
     |none=>rw[e2]at q1;exact q1.2.elim
     |some j=>
      rw[e2]at q1
      simp only at q1
      cases e3:xs[j]? with
      |none=>rw[e3]at q1;exact q1.2.elim
      |some dd=>
       cases e4:cg k (rG fun xs=>some (xs.eraseIdx j)) env1 with
       |none=>rw[e3,e4]at q1;exact q1.2.elim
       |some env2=>
        rw[e3,e4]at q1
        obtain⟨zs,ys,a,vs,ef,es,ha,l,lk,N⟩:=wA q1.1 e4
        rw[e1]at lk
        cases lk
        cases ef
        rw[eu]at es
        cases es
        have D1':y=.int i:=D1
        subst D1'
        obtain⟨w,ew,dw⟩:=l.get e3
        obtain⟨b1,b2,b3,b4⟩:=JH e2 (dU hz)
        refine⟨a0,vs,i,j,w,rfl,rfl,ha,b1,b2,by rw[<-l.length];exact b3,ew,?_⟩
        exact q1.2 w _ (N _ (l.eraseIdx j)) (dw.mono (N _ (l.eraseIdx j)).pers)
    |_=>exact q1.2.elim
  |_=>exact q1.2.elim
theorem Ga{k:Nat}{x:Str}(M:Aw X (.Name x p) "append" apos e cpos)(nm:je X k x)(he:GE X W c m e):GS X W c (.append k m) (.Expr (.Call (.Attribute (.Name x p) "append" apos) [e] [] cpos) pos):=by
 intro env
 refine PS.imp (Br (Ro M PySem.F.slot_list_append PySem.F.type_list_append tV nm.pe he.d) rfl) fun D σ H q=>?_
 simp only[x_9]at q
 cases hl:dg (aZ k env)with
 |false=>rw[hl]at q;exact q.2.elim
 |true=>
  rw[hl]at q
  simp only[Bool.not_true,Qxq,if_false]at q
  obtain⟨xs0,e0⟩:=qi hl
  obtain⟨u,eu,Du⟩:=fW q.1 e0
  obtain⟨a0,vs0,rfl,hq0,l0⟩:=Du.lst
  refine⟨.ref a0,eu,.inl ⟨rfl,vs0,hq0⟩,env,pA q fun d env1 y H1 N1 D1 q1=>?_⟩
  cases e4:cg k (rG fun xs=>if fits (xs.length+1)then some (xs++[d])else none) env1 with
  |none=>rw[e4]at q1;exact q1.2.elim
  |some env2=>
   rw[e4]at q1
   obtain⟨zs,ys,a,vs,ef,es,ha,l,lk,N⟩:=wA q1.1 e4
   rw[eu]at es
   cases es
   split at ef
   ·rename_i hf
    cases ef
    have l2:=l.append (aq.cZ D1 aq.eY)
    have:=dU hf
    refine⟨a0,vs,y,rfl,rfl,ha,by rw[<-l.length];omega,q1.2 _ _ (N _ l2).z⟩
   ·cases ef
def Rg:V->V->V->Hp->(Hp->Prop)->Prop:=fun o i v H Q=>∃a H',o=.ref a/\Ay H a i v H'/\Q H'
theorem M7(hu:X.A.units+1<cLine):Ls X Rg:=by
 intro QLq s σ H o i v ov iv u Q I ro ri rv h
 obtain⟨a,H',rfl,g,q⟩:=h
 cases ro
 exact Gi hu I g ri rv fun s4 I4=>⟨H',I4,q⟩
def Rc(K:QQq):V->V->V->Hp->(Hp->Prop)->Prop:=fun o i v H Q=>∃d a k xs,o=.ref d/\i=.ref a/\H d=some (.dS xs)/\(∀x∈xs,cA K H x.1 x.2.1)/\cA K H k a/\xs.length<sizeLine/\Q (upd H d (.dS (rN k a v xs)))
theorem T8(hu:X.A.units+2<cLine):Ls X (Rc X.K):=by
 intro QLq s σ H o i v ov iv u Q I ro ri rv h
 obtain⟨d,a,k,xs,rfl,rfl,hd,hk,ka,hl,q⟩:=h
 cases ro
 cases ri
 exact Ef hu I hd hk ka hl rv fun s4 I4=>⟨_,I4,q⟩
def ZP(K:QQq):V->V->V->Hp->(Hp->Prop)->Prop:=fun o i v H Q=>Rf o i v H Q\/Rg o i v H Q\/Rc K o i v H Q
theorem M8(hu:X.A.units+2<cLine):Ls X (ZP X.K):=by
 intro QLq s σ H o i v ov iv u Q I ro ri rv h
 rcases h with h|h|h
 ·exact set_list QLq s σ H o i v ov iv u Q I ro ri rv h
 ·exact M7 (by omega) QLq s σ H o i v ov iv u Q I ro ri rv h
 ·exact T8 hu QLq s σ H o i v ov iv u Q I ro ri rv h
theorem Vy{n:Nat}{i:Int}{j:Nat}(h:ix? n i=some j):Pr n i=some j:=by
 unfold ix? at h
 unfold Pr
 by_cases h0:i<0
 ·simp only[h0,if_true]at h
  rw[if_neg (by omega)]
  by_cases hj:0<=i+(n:Int)/\i+(n:Int)<n
  ·rw[if_pos hj]at h;rw[if_pos (by omega)];exact h
  ·rw[if_neg hj]at h;cases h
 ·simp only[h0,if_false]at h
  rw[if_pos (by omega)]
  by_cases hj:0<=i/\i< (n:Int)
  ·rw[if_pos hj]at h;rw[if_pos hj.2];exact h
  ·rw[if_neg hj]at h;cases h
theorem Vo(k k':Key):cH (cL k') (cL k)=decide (k'=k):=by
 cases k'<;>cases k<;>simp[cL,cH,Bool.beq_eq_decide_eq]
theorem wN{K:QQq}{H:Hp}{k:Key}{d:D}{v:V}(hv:bF K H d v):∀{kvs:List (Key×V)}{ds:List D},aq K H ds (kvs.map (·.2))->
  aq K H (sZ (cL k) d (kvs.map fun p=>cL p.1) ds) ((kvs.map fun kv=>if kv.1=k then(kv.1,v)else kv).map (·.2))
 |[],ds,l=>by
  rw[List.map_nil]at l
  have:ds=[]:=by have:=l.length;cases ds<;>simp_all
  subst this
  exact aq.eY
 |(k',u)::r,ds,l=>by
  rw[Qyz]at l
  cases ds with
  |nil=>have:=l.length;simp at this
  |cons x ds=>
   obtain⟨w,ws,e,h1,h2⟩:=aq.aK.mp l
   cases e
   have ih:=wN (k:=k) hv h2
   simp only[Qyz,sZ,Vo]
   by_cases q:k'=k
   ·simp only[q,decide_true,if_true]
    exact aq.cZ hv ih
   ·simp only[q,decide_false,Qxq,if_false]
    exact aq.cZ h1 ih
theorem sY{k:Key}{v:V}:∀(kvs:List (Key×V)),(kvs.map fun kv=>if kv.1=k then(kv.1,v)else kv).map (fun p=>cL p.1)=kvs.map fun p=>cL p.1
 |[]=>rfl
 |(k',u)::r=>by
  simp only[Qyz,sY r]
  split<;>rfl
theorem u6{K:QQq}{H:Hp}{k:Key}{d:D}{v:V}(hv:bF K H d v){kvs:List (Key×V)}{ds:List D}(l:aq K H ds (kvs.map (·.2))):
  (putD (cL k) d (kvs.map fun p=>cL p.1) ds).1=(putK kvs k v).map (fun p=>cL p.1)/\aq K H (putD (cL k) d (kvs.map fun p=>cL p.1) ds).2 ((putK kvs k v).map (·.2)):=by
 unfold putD putK
 rw[<-jC,<-o6]
 split
 ·rename_i h
  exact⟨(sY kvs).symm,wN hv l⟩
 ·refine⟨by simp,?_⟩
  rw[List.map_append]
  exact l.append (aq.cZ hv aq.eY)
theorem Q9{K:QQq}{H:Hp}{k:SK}{d:D}{v:V}(hv:bF K H d v):∀{xs:List SV}{ds:List D},aq K H ds (xs.map (·.2.2))->
  aq K H (sZ (dY k) d (xs.map fun x=>dY x.1) ds) ((xs.map fun x=>if x.1=k then(x.1,x.2.1,v)else x).map (·.2.2))
 |[],ds,l=>by
  have:ds=[]:=by have:=l.length;cases ds<;>simp_all
  subst this
  exact aq.eY
 |x::r,ds,l=>by
  rw[Qyz]at l
  cases ds with
  |nil=>have:=l.length;simp at this
  |cons z ds=>
   obtain⟨w,ws,e,h1,h2⟩:=aq.aK.mp l
   cases e
   have ih:=Q9 (k:=k) hv h2
   simp only[Qyz,sZ,zZ]
   by_cases q:x.1=k
   ·simp only[q,decide_true,if_true]
    exact aq.cZ hv ih
   ·simp only[q,decide_false,Qxq,if_false]
    exact aq.cZ h1 ih
theorem pK{k:SK}{v:V}:∀xs:List SV,(xs.map fun x=>if x.1=k then(x.1,x.2.1,v)else x).map (fun x=>dY x.1)=xs.map fun x=>dY x.1
 |[]=>rfl
 |x::r=>by
  simp only[Qyz,pK r]
  split<;>rfl
theorem Uq{K:QQq}{H:Hp}{k:SK}{a:Addr}{d:D}{v:V}(hv:bF K H d v)(ka:cA K H k a){xs:List SV}{ds:List D}(hk:∀x∈xs,cA K H x.1 x.2.1)(l:aq K H ds (xs.map (·.2.2))):
  (putD (dY k) d (xs.map fun x=>dY x.1) ds).1=(rN k a v xs).map (fun x=>dY x.1)/\(∀x∈rN k a v xs,cA K H x.1 x.2.1)/\aq K H (putD (dY k) d (xs.map fun x=>dY x.1) ds).2 ((rN k a v xs).map (·.2.2)):=by
 unfold putD rN
 rw[Cu]
 split
 ·refine⟨(pK xs).symm,fun x hx=>?_,Q9 hv l⟩
  obtain⟨y,hy,rfl⟩:=QDq.mp hx
  split
  ·exact hk y hy
  ·exact hk y hy
 ·refine⟨by simp,fun x hx=>?_,?_⟩
  ·rcases QXz.mp hx with z|z
   ·exact hk x z
   ·rw[QDz.mp z];exact ka
  ·rw[List.map_append]
   exact l.append (aq.cZ hv aq.eY)
theorem J2{k:Nat}{x:Str}{ix:E}{ixe:Expr}{tp:Pos}(nm:je X k x)(he:GE X W c m e)(hi:GE X W c ix ixe)
  (ha:∀v,assign (.Subscript (.Name x p) ixe tp) X.env v=(do
   let ov<-holding [v] (eval (.Name x p) X.env)
   let iv<-holding [v,ov] (eval ixe X.env)
   standAt tp
   holding [v,ov,iv] (setItem ov iv v)
   release [v,ov,iv] []))
  (hs:swapsWithSole [.Subscript (.Name x p) ixe tp] e pos.line X.env=pure false)(hw:swappedStores [.Subscript (.Name x p) ixe tp] e X.env=pure none)(hu:X.A.units+2<cLine)
  (h1:(assignEach [.Subscript (.Name x p) ixe tp] X.env).map (·.2)=[assign (.Subscript (.Name x p) ixe tp) X.env]):
  GS X W c (.setIx k ix m) (.Assign [.Subscript (.Name x p) ixe tp] e pos):=by
 intro env
 refine PS.imp (Ij he.d (Uv nm.pe hi.d (M8 hu) ha) hs hw h1) fun D σ H q=>?_
 simp only[x_7]at q
 refine⟨env,pA q fun d env1 v H1 N1 D1 q1=>?_⟩
 cases e0:aZ k env1 with
 |none=>rw[e0]at q1;exact q1.2.elim
 |some d0=>
  rw[e0]at q1
  simp only[Option.isNone_some,Qxq,if_false]at q1
  obtain⟨u,eu,Du⟩:=fW q1.1 e0
  refine⟨u,eu,env1,pA q1 fun d2 env2 y H2 N2 D2 q2=>?_⟩
  cases e4:cg k (pP d2 d) env2 with
  |none=>rw[e4]at q2;exact q2.2.elim
  |some env3=>
   rw[e4]at q2
   obtain⟨o,o',a,w,ef,es,hA,hd,lk,N⟩:=Be q2.1 e4
   rw[eu]at es
   cases es
   cases o with
   |lst xs=>
    obtain⟨vs,rfl,l⟩:=hd
    cases d2 with
    |int i=>
     simp only[pP]at ef
     cases e5:ix? xs.length i with
     |none=>rw[e5]at ef;cases ef
     |some j=>
      rw[e5]at ef
      cases ef
      have D2':y=.int i:=D2
      subst D2'
      exact .inl ⟨a,vs,i,j,rfl,rfl,hA,by rw[<-l.length];exact Vy e5,q2.2 _ _ (N _ ⟨_,rfl,l.set (D1.mono N2.pers) j⟩).z⟩
    |_=>cases ef
   |dct ks ds=>
    obtain⟨kvs,rfl,rfl,l⟩:=hd
    simp only[pP]at ef
    split at ef
    ·rename_i hk
     rw[QUq]at hk
     cases ef
     obtain⟨kk,rfl⟩:=eN hk.1
     have ek:=iC D2
     subst ek
     obtain⟨g1,g2⟩:=u6 (k:=kk) (D1.mono N2.pers) l
     have hf:=dU hk.2
     rw[QAq]at hf
     exact .inr (.inl ⟨a,_,rfl,Ay.k hA (by omega),q2.2 _ _ (N _ ⟨_,rfl,g1,g2⟩).z⟩)
    ·cases ef
   |sdt ks ds=>
    obtain⟨xs,rfl,rfl,hks,l⟩:=hd
    simp only[pP]at ef
    split at ef
    ·rename_i hk
     rw[QUq]at hk
     cases ef
     obtain⟨kk,rfl⟩:=jw hk.1
     obtain⟨b,rfl,kb⟩:=pC D2
     obtain⟨g1,g2,g3⟩:=Uq (D1.mono N2.pers) kb hks l
     have hf:=dU hk.2
     rw[QAq]at hf
     exact .inr (.inr ⟨a,b,kk,xs,rfl,rfl,hA,hks,kb,by omega,q2.2 _ _ (N _ ⟨_,rfl,g1,g2,g3⟩).z⟩)
    ·cases ef
end
end Mini
end
section
namespace Mini
open PySem L2
section
variable{X:Cx}{W:Wi}{c:Cf}{m m1 m2 m3:E}{o a b e:Expr}{pos p p2 apos cpos:Pos}{name:Str}
theorem V1(he:GE X W c m e)(hv:∀k,m.aC=some k->∃x p,e=.Name x p/\je X k x):GS X W c (.ret m) (.Return (some e) pos):=by
 intro env
 have plain:∀D σ H,tS X.K W env ((ev c m env).fl mD) D σ H->YT (aM X W c m) D σ H:=fun D σ H q=>by
  refine⟨env,Q0 q fun x env1 v H1 N z q1=>?_⟩
  cases x with
  |val d=>exact q1.2 v σ H1 N.z z
  |new o=>
   obtain⟨a,e1,e2,e3⟩:=z
   exact q1.2 v σ H1 N.z ⟨a,e1,e2,.inl e3⟩
  |ref i=>exact q1.2.elim
  |tmp o=>exact q1.2.elim
 cases q0:m.aC with
 |none=>exact PS.imp (mH he.am) fun D σ H q=>plain D σ H (by simpa only[yI,q0]using q)
 |some k=>
  cases e0:env[k]? with
  |none=>exact PS.imp (mH he.am) fun D σ H q=>plain D σ H (by simpa only[yI,q0,e0]using q)
  |some sl=>
   cases sl with
   |un=>exact PS.imp (mH he.am) fun D σ H q=>plain D σ H (by simpa only[yI,q0,e0]using q)
   |val d=>exact PS.imp (mH he.am) fun D σ H q=>plain D σ H (by simpa only[yI,q0,e0]using q)
   |bor o=>exact PS.imp (mH he.am) fun D σ H q=>plain D σ H (by simpa only[yI,q0,e0]using q)
   |own o=>
    obtain⟨x,p,rfl,nm⟩:=hv k q0
    refine PS.imp (mH nm.pe) fun D σ H q=>?_
    simp only[yI,q0,e0]at q
    obtain⟨a,e1,e2⟩:=q.1.sl k _ e0
    have es:=bW e1
    have hi:k<env.length:=(QCz.mp e0).1
    have sub:∀j b,aN (env.set k .un) σ j b->aN env σ j b:=fun j b z=>by
     obtain⟨⟨s,ys,z1,z2⟩,z3⟩:=z
     by_cases hj:k=j
     ·subst hj;rw[Qwq hi]at z1;cases z1;cases z2
     ·rw[Qxz hj]at z1;exact⟨⟨s,ys,z1,z2⟩,z3⟩
    refine⟨.ref a,es,q.2 (.ref a) σ H ⟨⟨by simpa using q.1.len,fun j s ej=>?_,fun j l b z w=>q.1.ne j l b (sub j b z) (sub l b w)⟩,fun j b z=>.inl (sub j b z),bQ.refl H,fun _ _ z _=>z,fun _ z=>z,fun j ys ej=>?_⟩ ⟨a,rfl,e2,.inr ⟨k,o,e0,es⟩⟩⟩
    ·by_cases hj:k=j
     ·subst hj;rw[Qwq hi]at ej;cases ej;trivial
     ·rw[Qxz hj]at ej;exact q.1.sl j s ej
    ·have hj:k≠j:=fun z=>by subst z;rw[e0]at ej;cases ej
     exact⟨⟨ys,by rw[Qxz hj];exact ej⟩,rfl⟩
theorem PK:GS X W c ACH (.Return none pos):=fun env=>PS.imp Oa fun D σ H q=>by
 simp only[yI,E.aC,v_0,v_1,Yz,v_3,v_4,Yy,v_6,Xf,Yx,Ms,uQ,G5,G4,DG,Mz,Tf,My,G3,GZ,Mx,Mw,mj,Mv,Te,GX,Mu,Mt,jZ,Out.fl,mD]at q
 exact q.2 .non σ H (Nz.refl q.1) rfl
theorem j5(lo:Int):∀(n i:Nat)(d:D),(bI lo n)[i]? =some d->d=.int (lo+i)/\i<n
 |0,i=>fun d h=>by simp[bI]at h
 |n+1,0=>fun d h=>by simp[bI]at h;exact⟨by rw[<-h];simp,by omega⟩
 |n+1,i+1=>fun d h=>by
  rw[bI,List.getElem?_cons_succ]at h
  obtain⟨e,l⟩:=j5 (lo+1) n i d h
  refine⟨by rw[e];congr 1;push_cast;omega,by omega⟩
theorem j4(lo:Int):∀n,(bI lo n).length=n
 |0=>rfl
 |n+1=>by rw[bI,QBq,j4]
theorem xZ{K:QQq}{H:Hp}{lo:Int}{n:Nat}(hz:n<=sizeLine):Gives K (Itr lo n) (bI lo n) H where
 go:=fun H1 p i d e=>(j5 lo n i d e).2
 yld:=fun H1 p i d e x H2 y=>by
  obtain⟨rfl,rfl⟩:=y
  rw[(j5 lo n i d e).1]
  exact⟨rfl,.inl rfl⟩
 stop:=fun H1 p i hi=>by rw[j4]at hi;exact hi
 len:=by rw[j4];exact hz
theorem Jo{i:Int}(h:tY i=true): -(2 ^62)<=i/\i<2 ^62:=by
 simp only[tY,QUz]at h
 omega
theorem Ge{tg:Expr}(ha:GE X W c m a)(hg:Gl X "range")(hm:X.mg "range"=none)(hs:starEach [a] X.env=[(false,eval a X.env)]):GI X W c (.range1 m) tg (.Call (.Name "range" p) [a] [] pos):=by
 intro env QLq s σ H R I q
 refine Ex hg hm (cJ ha.d fD hs) hs QLq s σ H R I ⟨env,q.1,?_⟩
 have q2:=q.2
 simp only[Mv]at q2
 have go:∀d env1 v H',Nx X.K env σ H env1 H'->bF X.K H' d v->(match (lift env1 (match d with|.int n=>if fits n.toNat&&tY n then some (Rv.val (.lst (bI 0 n.toNat)))else none|_=>none))with
   |.ok x env'=>∃d xs,x.jb=some d/\items d=some xs/\∀J H',Nx X.K env σ H env' H'->Gives X.K J xs H'->R J H'
   |.exc c env'=>∀H',Nx X.K env σ H env' H'->W c env' σ H'
   |.bad=>False)->∃j:Int,[v]=[.int j]/\ -(2 ^62)<=j/\j<2 ^62/\R (Itr 0 j.toNat) H':=fun d env1 v H' N Dv z=>by
  cases d with
  |int n=>
   simp only at z
   by_cases hf:(fits n.toNat&&tY n)=true
   ·rw[if_pos hf]at z
    rw[QUq]at hf
    obtain⟨d',xs,e1,e2,z⟩:=z
    cases e1
    cases e2
    have hv:v=.int n:=Dv
    subst hv
    exact⟨n,rfl,(Jo hf.2).1,(Jo hf.2).2,z _ H' N (xZ (dU hf.1))⟩
   ·rw[if_neg hf]at z;exact z.elim
  |_=>exact z.elim
 cases r:ev c m env with
 |bad=>rw[r]at q2;exact q2
 |exc k env1=>rw[r]at q2;exact q2
 |ok x env1=>
  rw[r]at q2
  cases x with
  |val d=>exact fun v H' N Dv=>go d env1 v H' N Dv q2
  |new o=>exact fun v H' N Dv=>go o.d env1 v H' N Dv q2
  |ref i=>exact q2
  |tmp o=>exact q2
theorem iV.z{K:QQq}{tg:Tg}{env env':Ev}{σ σ':St}{H:Hp}(st:iV K tg env σ env' σ' H):Nz K env σ H env' σ' H:=
 ⟨st.eX,fun i a z=>.inl (st.sub z),bQ.refl _,fun _ _ z _=>z,fun _ z=>z,fun i xs e=>⟨⟨xs,(st.same i (st.bors i xs e)).1.trans e⟩,(st.same i (st.bors i xs e)).2⟩⟩
theorem Bf{K:QQq}{env:Ev}{σ:St}{H:Hp}{f:Fl}{g:Ev->Fl}{D:Ends}{N:St->Hp->Prop}(q:tS K W env (f.turn g) D σ H)
  (k:∀env2 σ2 H2,Nz K env σ H env2 σ2 H2->tS K W env2 (g env2) D σ2 H2->N σ2 H2):tS K W env f {D with nx:=N,ct:=N,bk:=D.nx} σ H:=by
 refine⟨q.1,?_⟩
 cases f with
 |next env2=>exact fun σ2 H2 N2=>k env2 σ2 H2 N2 (pq q N2)
 |cont env2=>exact fun σ2 H2 N2=>k env2 σ2 H2 N2 (pq q N2)
 |brk env2=>exact q.2
 |ret r env2=>exact q.2
 |exc j env2=>exact q.2
 |bad=>exact q.2
theorem V2{tg:Tg}{tgE iterE:Expr}{it:E}{b:S}{body:List Stmt}(hp:PassesOwn (model X.prog X.w) X.A X.env X.xe)(hc:X.calm=true)(hi:GI X W c it tgE iterE)(hg:GG X tg tgE)(hb:Mf X W c b body)
  (hs:∀x,foldedSetIterable iterE X.env x=pure x):GS X W c (.for_ tg it b) (.For tgE iterE body [] pos):=by
 intro env QLq s σ H D I q
 have P:=Ut (pos:=pos) hp hc (wi:=fun σ' H' R=>σ'=σ/\H'=H/\tI X.K W env (ev c it env) σ H R) (fun QLq s σ' H' R I'⟨e1,e2,z⟩=>by subst e1 e2;exact hi env QLq s _ _ R I' z) hg (tb:=fun D σ H=>∃env,tS X.K W env (ex c b env) D σ H) (fun QLq s σ H D I⟨env,z⟩=>hb env QLq s σ H D I z) hs
 refine P QLq s σ H D I ⟨rfl,rfl,?_⟩
 simp only[ac4]at q
 have tur:∀env1 xs J H1,Nx X.K env σ H env1 H1->Gives X.K J xs H1->tS X.K W env1 (bH tg (ex c b) xs env1) D σ H1->∃W':Nat->Nat->St->Hp->Prop,(∃m,W' 0 m σ H1)/\∀i m σ H,W' i m σ H->
   (J.stop i H/\D.nx σ H)\/(J.go i H/\∃N:St->Hp->Prop,(∀σ' H',N σ' H'->∃m',m'<m/\W' (i+1) m' σ' H')/\∀x H',J.yld i H x H'->tG X.K tg x σ H' fun σ2 H2=>∃env,tS X.K W env (ex c b env) {D with nx:=N,ct:=N,bk:=D.nx} σ2 H2):=fun env1 xs J H1 N1 G z=>by
  refine⟨fun i m σ' H'=>i<=xs.length/\m=xs.length-i/\bQ H1 H'/\∃env',tS X.K W env' (bH tg (ex c b) (xs.drop i) env') D σ' H',⟨xs.length,QIq _,by simp,bQ.refl _,env1,z⟩,?_⟩
  rintro i m σ' H' ⟨hi,rfl,pe,env',z⟩
  by_cases hl:i<xs.length
  ·obtain⟨d,hd⟩:∃d,xs[i]? =some d:=⟨xs[i],by simp[hl]⟩
   rw[ux hd,bH]at z
   cases e:bT tg d env' with
   |none=>rw[e]at z;exact z.2.elim
   |some env2=>
    rw[e]at z
    simp only at z
    refine .inr ⟨G.go H' pe i d hd,fun σ2 H2=>bQ H1 H2/\∃env3,tS X.K W env3 (bH tg (ex c b) (xs.drop (i+1)) env3) D σ2 H2,fun σ2 H2⟨p2,w⟩=>⟨xs.length- (i+1),by omega,hl,rfl,p2,w⟩,fun x H2 y=>?_⟩
    obtain⟨Dx,lay⟩:=G.yld H' pe i d hd x H2 y
    have N2:=z.1.lay lay
    refine⟨env',d,env2,N2.eX,Dx,e,fun σ2 st=>⟨env2,Bf (pq z (N2.z.trans st.z)) fun env3 σ3 H3 N3 w=>⟨(pe.trans N2.pers).trans N3.pers,env3,w⟩⟩⟩
  ·have e:i=xs.length:=by omega
   subst e
   rw[List.drop_length,bH]at z
   exact .inl ⟨G.stop H' pe _ (QVz _),z.2 σ' H' (Nz.refl z.1)⟩
 refine⟨q.1,?_⟩
 have go:∀(x:Rv)env1 d,x.jb=some d->(match (match items d with|some xs=>bH tg (ex c b) xs env1|none=>Fl.bad)with
   |.next env'=>∀σ' H',Nz X.K env σ H env' σ' H'->D.nx σ' H'
   |.ret r env'=>∀v σ' H',Nz X.K env σ H env' σ' H'->Lq X.K env σ H H' r v->D.rt v H'
   |.brk env'=>∀σ' H',Nz X.K env σ H env' σ' H'->D.bk σ' H'
   |.cont env'=>∀σ' H',Nz X.K env σ H env' σ' H'->D.ct σ' H'
   |.exc c env'=>∀σ' H',Nz X.K env σ H env' σ' H'->W c env' σ' H'
   |.bad=>False)->∃d xs,x.jb=some d/\items d=some xs/\∀J H',Nx X.K env σ H env1 H'->Gives X.K J xs H'->∃W':Nat->Nat->St->Hp->Prop,(∃m,W' 0 m σ H')/\∀i m σ H,W' i m σ H->
   (J.stop i H/\D.nx σ H)\/(J.go i H/\∃N:St->Hp->Prop,(∀σ' H',N σ' H'->∃m',m'<m/\W' (i+1) m' σ' H')/\∀x H',J.yld i H x H'->tG X.K tg x σ H' fun σ2 H2=>∃env,tS X.K W env (ex c b env) {D with nx:=N,ct:=N,bk:=D.nx} σ2 H2):=fun x env1 d ed z=>by
  cases e1:items d with
  |none=>rw[e1]at z;exact z.elim
  |some xs=>
   rw[e1]at z
   exact⟨d,xs,ed,e1,fun J H1 N G=>tur env1 xs J H1 N G (pq (env:=env) (σ:=σ) (H:=H) ⟨q.1,z⟩ N.z)⟩
 have q2:=q.2
 cases r:ev c it env with
 |bad=>rw[r]at q2;exact q2
 |exc k env1=>rw[r]at q2;exact fun H' N=>q2 σ H' N.z
 |ok x env1=>
  rw[r]at q2
  cases x with
  |val d=>exact go _ env1 d rfl q2
  |new o=>exact go _ env1 o.d rfl q2
  |ref i=>exact q2.elim
  |tmp o=>exact q2.elim
theorem J1{t:E}{te:Expr}{b:S}{body:List Stmt}(hp:PassesOwn (model X.prog X.w) X.A X.env X.xe)(ht:GT X W c t te)(hb:Mf X W c b body):GS X W c (.while_ t b) (.While te body [] pos):=by
 intro env
 refine PS.imp (Ii hp ht (tb:=fun D σ H=>∃env,tS X.K W env (ex c b env) D σ H) (fun QLq s σ H D I⟨env,z⟩=>hb env QLq s σ H D I z)) fun D σ H q=>?_
 simp only[ac3]at q
 refine⟨fun n σ' H'=>∃env',tS X.K W env' (bK (ev c t) (ex c b) n env') D σ' H',⟨c.turns,env,q⟩,?_⟩
 rintro n σ1 H1 ⟨env1,q1⟩
 cases n with
 |zero=>exact q1.2.elim
 |succ n=>
  rw[bK]at q1
  refine⟨env1,Hi q1 fun k env2 H2 N2 q2=>?_⟩
  cases k with
  |true=>
   rw[if_pos rfl]at q2⊢
   refine⟨fun σ' H'=>∃env',tS X.K W env' (bK (ev c t) (ex c b) n env') D σ' H',fun σ' H' w=>⟨n,Nat.lt_succ_self n,w⟩,env2,Bf q2 fun env3 σ3 H3 N3 w=>⟨env3,w⟩⟩
  |false=>
   rw[if_neg Qjz]at q2⊢
   exact q2.2 σ1 H2 (Nz.refl q2.1)
end
end Mini
end
section
namespace Mini
open PySem L2
structure Cz(K:QQq)(ps:List Sl)(vs:List V)(H:Hp)(qs:List Sl)(H':Hp):Prop where
 bor:∀(i:Nat)o,ps[i]? =some (.bor o)->∃o' a,qs[i]? =some (.bor o')/\vs[i]? =some (.ref a)/\jd K H' o' a
 pers:bQ H H'
 keep:∀b u,H b=some u->(∀i,¬aN ps (vs.map some) i b)->H' b=some u
 dom:∀b,H' b=none->H b=none
def afd(K:QQq)(H H':Hp):Rv->V->Prop
 |.val d,v=>bF K H' d v
 |.new q,v=>∃a,v=.ref a/\jd K H' q a/\H a=none
 |_,_=>False
def noOwn(ps:List Sl):Prop:=∀(i:Nat)o,ps[i]? ≠some (.own o)
def rH(K:QQq)(n:Nat)(f:List Sl->Res):Sp:=fun vs H Q _=>∃ps,vs.length=n/\Sat K ps (vs.map some) H/\noOwn ps/\match f ps with
 |.ok r qs=>∀v H',Cz K ps vs H qs H'->afd K H H' r v->Q v H'
 |.exc _ qs=>∀H',Cz K ps vs H qs H'->False
 |.bad=>False
theorem vd{ps:List Sl}{vs:List V}{i k:Nat}{b:Addr}(hl:ps.length=vs.length):aN (ps++List.replicate k .un) (vs.map some++List.replicate k none) i b↔aN ps (vs.map some) i b:=by
 constructor
 ·rintro ⟨⟨s,o,e1,e2⟩,e3⟩
  by_cases hi:i<ps.length
  ·rw[Qwz hi]at e1
   rw[Qwz (by simpa[<-hl]using hi)]at e3
   exact⟨⟨s,o,e1,e2⟩,e3⟩
  ·rw[QIz (by omega),List.getElem?_replicate]at e1
   split at e1
   ·cases e1;cases e2
   ·cases e1
 ·rintro ⟨⟨s,o,e1,e2⟩,e3⟩
  have hi:i<ps.length:=(QCz.mp e1).1
  exact⟨⟨s,o,by rw[Qwz hi];exact e1,e2⟩,by rw[Qwz (by simpa[<-hl]using hi)];exact e3⟩
theorem Sat.pad{K:QQq}{ps:List Sl}{vs:List V}{H:Hp}(S:Sat K ps (vs.map some) H)(k:Nat):Sat K (ps++List.replicate k .un) (vs.map some++List.replicate k none) H:=by
 have hl:ps.length=vs.length:=by simpa using S.len
 refine⟨by simp[hl],fun i s e=>?_,fun i j a h1 h2=>S.ne i j a ((vd hl).mp h1) ((vd hl).mp h2)⟩
 by_cases hi:i<ps.length
 ·rw[Qwz hi]at e
  rw[Qwz (by simpa[<-hl]using hi)]
  exact S.sl i s e
 ·rw[QIz (by omega),List.getElem?_replicate]at e
  split at e
  ·cases e;trivial
  ·cases e
theorem Nz.cz{K:QQq}{ps:List Sl}{vs:List V}{H H':Hp}{k n:Nat}{env':Ev}{σ':St}(S:Sat K ps (vs.map some) H)(hn:vs.length=n)(N:Nz K (ps++List.replicate k .un) (vs.map some++List.replicate k none) H env' σ' H'):Cz K ps vs H (env'.take n) H':=by
 have hl:ps.length=vs.length:=by simpa using S.len
 refine⟨fun i o e=>?_,N.pers,fun b u hb no=>N.keep b u hb fun i z=>no i ((vd hl).mp z),N.dom⟩
 have hi:i<ps.length:=(QCz.mp e).1
 obtain⟨⟨o',e1⟩,e2⟩:=N.bors i o (by rw[Qwz hi];exact e)
 obtain⟨a,z1,z2⟩:=N.eX.sl i _ e1
 rw[e2,Qwz (by simpa[<-hl]using hi),QFz]at z1
 refine⟨o',a,by rw[List.getElem?_take_of_lt (by omega)];exact e1,?_,z2⟩
 cases q:vs[i]? with
 |none=>rw[q]at z1;cases z1
 |some v=>rw[q]at z1;simp at z1;rw[z1]
section
variable{P:Program}{w:World}{K:QQq}{mg:QZz}{base:Heap}
theorem Qd{x qual:Str}{st:Stmt}{f:Addr}{fd:FuncData}{N ps:List Str}{k:Nat}{c:Cf}{g:Fn}(F:W3 K x qual st f fd)(S:jN N ps (aX st))(hp:g.pars=ps.length)(hn:g.names=N.length)
  (hb:∀(cdv:Value)(A:Around)(outer:List Env)(s:Shared)(H:Hp)(E:XK),jc k (A.deeper (PyProof.Rows.envOfC qual (aX st) s.heap.objs.size f cdv))->Mf (z9 GD P w K mg base N qual (aX st) f cdv A outer s H E).nox W0 c g.body (dD st)):
  nA P w K mg base GD (k+1) f fd ps (rH K ps.length (gk c g)):=by
 refine F.ok S (fun vs H Q E h=>?_) (fun cdv A outer s H vs Q E hr h=>?_)
 ·obtain⟨_,h,_⟩:=h
  exact h
 ·obtain⟨sl,hl,S0,no,q⟩:=h
  refine⟨_,hb cdv A outer s H E hr (sl++List.replicate (g.names-g.pars) .un),?_⟩
  have hlen:sl.length=vs.length:=by simpa using S0.len
  have hst:L2.start N vs=vs.map some++List.replicate (g.names-g.pars) none:=by
   unfold L2.start
   rw[hn,hp,hl]
  have e0:gk c g sl=match ex c g.body (sl++List.replicate (g.names-g.pars) .un)with
    |.next σ=>.ok (.val .non) (σ.take g.pars)
    |.ret r σ=>.ok r (σ.take g.pars)
    |.exc k σ=>.exc k (σ.take g.pars)
    |_=>.bad:=by
   unfold gk
   rw[if_pos (by rw[hp,<-hl,hlen])]<;>cases ex c g.body (sl++List.replicate (g.names-g.pars) .un)<;>rfl
  rw[e0]at q
  rw[hst]
  refine⟨S0.pad _,?_⟩
  have hg:vs.length=g.pars:=by rw[hl,hp]
  cases r:ex c g.body (sl++List.replicate (g.names-g.pars) .un)with
  |next env'=>rw[r]at q;exact fun σ' H' N=>q .non H' (N.cz S0 hg) rfl
  |ret rv env'=>
   rw[r]at q
   refine fun v σ' H' N z=>q v H' (N.cz S0 hg) ?_
   cases rv with
   |val d=>exact z
   |new o=>
    obtain⟨a,e1,e2,e3⟩:=z
    refine⟨a,e1,e2,?_⟩
    rcases e3 with e3|⟨i,ys,e3,_⟩
    ·exact e3
    ·by_cases hi:i<sl.length
     ·rw[Qwz hi]at e3
      exact absurd e3 (no i ys)
     ·rw[QIz (by omega),List.getElem?_replicate]at e3
      split at e3<;>cases e3
   |ref i=>exact z.elim
   |tmp o=>exact z.elim
  |brk env'=>rw[r]at q;exact q.elim
  |cont env'=>rw[r]at q;exact q.elim
  |exc j env'=>rw[r]at q;exact fun σ' H' N=>q H' (N.cz S0 hg)
  |bad=>rw[r]at q;exact q.elim
end
inductive En(K:QQq)(env:Ev)(σ:St)(H0 H:Hp):List Rv->List Sl->List V->Prop
 |nil:En K env σ H0 H [] [] []
 |val {d:D} {v:V} {rs:List Rv} {ps:List Sl} {vs:List V}:bF K H d v->En K env σ H0 H rs ps vs->En K env σ H0 H (.val d::rs) (.val d::ps) (v::vs)
 |tmp {o:Ob} {a:Addr} {rs:List Rv} {ps:List Sl} {vs:List V}:jd K H o a->H0 a=none->(∀q,Rv.tmp q∉rs)->En K env σ H0 H rs ps vs->En K env σ H0 H (.tmp o::rs) (.bor o::ps) (.ref a::vs)
 |ref {o:Ob} {j:Nat} {a:Addr} {s:Sl} {rs:List Rv} {ps:List Sl} {vs:List V}:env[j]? =some s->isOwn s=some o->σ[j]? =some (some (.ref a))->jd K H o a->Rv.ref j∉rs->En K env σ H0 H rs ps vs->En K env σ H0 H (.ref j::rs) (.bor o::ps) (.ref a::vs)
section
variable{K:QQq}{env env1 env2:Ev}{σ:St}{H0 H H2:Hp}
theorem jz(S:Sat K env σ H):∀{rs:List Rv}{ps:List Sl}{vs:List V},enter rs env=some ps->gB K σ H0 H rs vs->En K env σ H0 H rs ps vs
 |[],ps,vs,h,r=>by
  cases h
  have:vs=[]:=r
  subst this
  exact .nil
 |x::rs,ps,vs,h,r=>by
  obtain⟨v,vr,rfl,h1,h2⟩:=r
  cases x with
  |val d=>
   simp only[enter]at h
   cases e:enter rs env with
   |none=>rw[e]at h;cases h
   |some ps'=>rw[e]at h;cases h;exact .val h1 (jz S e h2)
  |new o=>cases h
  |tmp o=>
   simp only[enter]at h
   split at h
   ·cases h
   ·rename_i hn
    cases e:enter rs env with
    |none=>rw[e]at h;cases h
    |some ps'=>
     rw[e]at h
     cases h
     obtain⟨a,rfl,oa,ha⟩:=h1
     refine .tmp oa ha (fun q hq=>hn ?_) (jz S e h2)
     exact List.any_eq_true.mpr ⟨_,hq,rfl⟩
  |ref j=>
   simp only[enter]at h
   split at h
   ·cases h
   ·rename_i hn
    have nr:Rv.ref j∉rs:=fun hq=>hn (List.any_eq_true.mpr ⟨_,hq,by simp[iz]⟩)
    cases e1:env[j]? with
    |none=>rw[e1]at h;cases h
    |some s=>
     rw[e1]at h
     have h1':σ[j]? =some (some v):=h1
     cases s with
     |un=>cases h
     |val d=>cases h
     |own o=>
      cases e:enter rs env with
      |none=>simp only[e]at h;cases h
      |some ps'=>
       simp only[e]at h
       cases h
       obtain⟨a,z1,z2⟩:=S.sl j _ e1
       rw[h1']at z1
       cases z1
       exact .ref e1 rfl h1' z2 nr (jz S e h2)
     |bor o=>
      cases e:enter rs env with
      |none=>simp only[e]at h;cases h
      |some ps'=>
       simp only[e]at h
       cases h
       obtain⟨a,z1,z2⟩:=S.sl j _ e1
       rw[h1']at z1
       cases z1
       exact .ref e1 rfl h1' z2 nr (jz S e h2)
theorem En.len{rs:List Rv}{ps:List Sl}{vs:List V}(h:En K env σ H0 H rs ps vs):ps.length=vs.length/\rs.length=vs.length:=by
 induction h with
 |nil=>exact⟨rfl,rfl⟩
 |val _ _ ih=>simp[ih.1,ih.2]
 |tmp _ _ _ _ ih=>simp[ih.1,ih.2]
 |ref _ _ _ _ _ _ ih=>simp[ih.1,ih.2]
theorem En.noOwn{rs:List Rv}{ps:List Sl}{vs:List V}(h:En K env σ H0 H rs ps vs):noOwn ps:=by
 induction h with
 |nil=>intro i o e;simp at e
 |val _ _ ih=>intro i o e;cases i with
  |zero=>simp at e
  |succ i=>exact ih i o (by simpa using e)
 |tmp _ _ _ _ ih=>intro i o e;cases i with
  |zero=>simp at e
  |succ i=>exact ih i o (by simpa using e)
 |ref _ _ _ _ _ _ ih=>intro i o e;cases i with
  |zero=>simp at e
  |succ i=>exact ih i o (by simpa using e)
theorem En.lent{rs:List Rv}{ps:List Sl}{vs:List V}(h:En K env σ H0 H rs ps vs):∀{i:Nat}{a:Addr},aN ps (vs.map some) i a->(∃o,rs[i]? =some (.tmp o)/\H0 a=none)\/∃j,rs[i]? =some (.ref j)/\aN env σ j a:=by
 induction h with
 |nil=>rintro i a ⟨⟨s,o,e,_⟩,_⟩;simp at e
 |val _ _ ih=>
  rintro i a ⟨⟨s,o,e1,e2⟩,e3⟩
  cases i with
  |zero=>simp at e1;subst e1;cases e2
  |succ i=>simpa using ih ⟨⟨s,o,by simpa using e1,e2⟩,by simpa using e3⟩
 | @tmp o b rs ps vs oa h0 _ _ ih=>
  rintro i a ⟨⟨s,o',e1,e2⟩,e3⟩
  cases i with
  |zero=>
   simp at e3
   subst e3
   exact .inl ⟨o,rfl,h0⟩
  |succ i=>simpa using ih ⟨⟨s,o',by simpa using e1,e2⟩,by simpa using e3⟩
 | @ref o j b s rs ps vs e1 e2 e3 oa nr _ ih=>
  rintro i a ⟨⟨s',o',z1,z2⟩,z3⟩
  cases i with
  |zero=>
   simp at z3
   subst z3
   exact .inr ⟨j,rfl,⟨⟨s,o,e1,e2⟩,e3⟩⟩
  |succ i=>simpa using ih ⟨⟨s',o',by simpa using z1,z2⟩,by simpa using z3⟩
theorem En.eX{env0:Ev}(S0:Sat K env0 σ H0)(S:Sat K env σ H)(sub:∀(i:Nat)a,aN env σ i a->aN env0 σ i a){rs:List Rv}{ps:List Sl}{vs:List V}(h:En K env σ H0 H rs ps vs):Sat K ps (vs.map some) H:=by
 refine⟨by simpa using h.len.1,?_,?_⟩
 ·clear S0 sub
  induction h with
  |nil=>intro i s e;simp at e
  |val hd _ ih=>
   intro i s e
   cases i with
   |zero=>simp at e;subst e;exact⟨_,rfl,hd⟩
   |succ i=>simpa using ih i s (by simpa using e)
  |tmp oa _ _ _ ih=>
   intro i s e
   cases i with
   |zero=>simp at e;subst e;exact⟨_,rfl,oa⟩
   |succ i=>simpa using ih i s (by simpa using e)
  |ref _ _ _ oa _ _ ih=>
   intro i s e
   cases i with
   |zero=>simp at e;subst e;exact⟨_,rfl,oa⟩
   |succ i=>simpa using ih i s (by simpa using e)
 ·--no two slots have one address
  have fresh:∀a,H0 a=none->∀j,¬aN env σ j a:=fun a ha j z=>S0.j8 ha j (sub j a z)
  induction h with
  |nil=>rintro i j a ⟨⟨s,o,e,_⟩,_⟩;simp at e
  |val hd t ih=>
   rintro i j a ⟨⟨s,o,e1,e2⟩,e3⟩ ⟨⟨s',o',e1',e2'⟩,e3'⟩
   cases i with
   |zero=>simp at e1;subst e1;cases e2
   |succ i=>cases j with
    |zero=>simp at e1';subst e1';cases e2'
    |succ j=>rw[ih i j a ⟨⟨s,o,by simpa using e1,e2⟩,by simpa using e3⟩ ⟨⟨s',o',by simpa using e1',e2'⟩,by simpa using e3'⟩]
  | @tmp o b rs ps vs oa h0 nt t ih=>
   have clash:∀i,¬aN ps (vs.map some) i b:=fun i z=>by
    rcases t.lent z with ⟨q,e,_⟩|⟨q,_,ow⟩
    ·exact nt q (QBz e)
    ·exact fresh b h0 q ow
   rintro i j a ⟨⟨s,o,e1,e2⟩,e3⟩ ⟨⟨s',o',e1',e2'⟩,e3'⟩
   cases i with
   |zero=>
    simp at e3
    subst e3
    cases j with
    |zero=>rfl
    |succ j=>exact absurd ⟨⟨s',o',by simpa using e1',e2'⟩,by simpa using e3'⟩ (clash j)
   |succ i=>cases j with
    |zero=>
     simp at e3'
     subst e3'
     exact absurd ⟨⟨s,o,by simpa using e1,e2⟩,by simpa using e3⟩ (clash i)
    |succ j=>rw[ih i j a ⟨⟨s,o,by simpa using e1,e2⟩,by simpa using e3⟩ ⟨⟨s',o',by simpa using e1',e2'⟩,by simpa using e3'⟩]
  | @ref o k b s0 rs ps vs z1 z2 z3 oa nr t ih=>
   have ok:aN env σ k b:=⟨⟨s0,o,z1,z2⟩,z3⟩
   have clash:∀i,¬aN ps (vs.map some) i b:=fun i z=>by
    rcases t.lent z with ⟨q,e,h0⟩|⟨q,e,ow⟩
    ·exact fresh b h0 k ok
    ·have:=S.ne k q b ok ow
     subst this
     exact nr (QBz e)
   rintro i j a ⟨⟨s,o,e1,e2⟩,e3⟩ ⟨⟨s',o',e1',e2'⟩,e3'⟩
   cases i with
   |zero=>
    simp at e3
    subst e3
    cases j with
    |zero=>rfl
    |succ j=>exact absurd ⟨⟨s',o',by simpa using e1',e2'⟩,by simpa using e3'⟩ (clash j)
   |succ i=>cases j with
    |zero=>
     simp at e3'
     subst e3'
     exact absurd ⟨⟨s,o,by simpa using e1,e2⟩,by simpa using e3⟩ (clash i)
    |succ j=>rw[ih i j a ⟨⟨s,o,by simpa using e1,e2⟩,by simpa using e3⟩ ⟨⟨s',o',by simpa using e1',e2'⟩,by simpa using e3'⟩]
end
end Mini
end
section
namespace Mini
open PySem L2
def Sl.BW(o':Ob):Sl->Option Sl
 |.own _=>some (.own o')
 |.bor _=>some (.bor o')
 |_=>none
theorem G7{j:Nat}{o':Ob}{env env':Ev}(h:cg j (fun _=>some o') env=some env'):∃s s',env[j]? =some s/\s.BW o'=some s'/\env'=env.set j s':=by
 obtain⟨o,q,e,hh⟩:=o7 h
 cases e
 rcases hh with ⟨e,rfl⟩|⟨e,rfl⟩
 ·exact⟨_,_,e,rfl,rfl⟩
 ·exact⟨_,_,e,rfl,rfl⟩
theorem m6:∀{rs:List Rv}{qs:List Sl}{env env2:Ev},giveBack rs qs env=some env2->env2.length=env.length/\∀j:Nat,
  ((∀i:Nat,rs[i]? ≠some (Rv.ref j))/\env2[j]? =env[j]?)\/∃(i:Nat)(o':Ob)(s s':Sl),rs[i]? =some (.ref j)/\qs[i]? =some (.bor o')/\env[j]? =some s/\s.BW o'=some s'/\env2[j]? =some s'
 |[],[],env,env2,h=>by
  cases h
  exact⟨rfl,fun j=>.inl ⟨fun i=>by simp,rfl⟩⟩
 |[],_::_,env,env2,h=>by cases h
 |x::rs,[],env,env2,h=>by cases x<;>cases h
 |x::rs,q::qs,env,env2,h=>by
  have skip:giveBack rs qs env=some env2->(∀j,x≠ .ref j)->env2.length=env.length/\∀j:Nat,
    ((∀i:Nat,(x::rs)[i]? ≠some (Rv.ref j))/\env2[j]? =env[j]?)\/∃(i:Nat)(o':Ob)(s s':Sl),(x::rs)[i]? =some (.ref j)/\(q::qs)[i]? =some (.bor o')/\env[j]? =some s/\s.BW o'=some s'/\env2[j]? =some s':=fun h nx=>by
   obtain⟨l,g⟩:=m6 h
   refine⟨l,fun j=>?_⟩
   rcases g j with ⟨g1,g2⟩|⟨i,o',s,s',g1,g2,g3⟩
   ·refine .inl ⟨fun i e=>?_,g2⟩
    cases i with
    |zero=>simp at e;exact nx j e
    |succ i=>exact g1 i (by simpa using e)
   ·exact .inr ⟨i+1,o',s,s',by simpa using g1,by simpa using g2,g3⟩
  cases x with
  |val d=>exact skip h fun j z=>by cases z
  |new o=>exact skip h fun j z=>by cases z
  |tmp o=>exact skip h fun j z=>by cases z
  |ref k=>
   cases q with
   |bor o=>
    change Option.bind (cg k (fun _=>some o) env) (giveBack rs qs)=some env2 at h
    cases e:cg k (fun _=>some o) env with
    |none=>rw[e]at h;cases h
    |some env1=>
     rw[e]at h
     obtain⟨s0,s1,z1,z2,rfl⟩:=G7 e
     have hk:k<env.length:=(QCz.mp z1).1
     obtain⟨l,g⟩:=m6 h
     refine⟨by simpa using l,fun j=>?_⟩
     rcases g j with ⟨g1,g2⟩|⟨i,o',s,s',g1,g2,g3,g4,g5⟩
     ·by_cases hj:k=j
      ·subst hj
       rw[Qwq hk]at g2
       exact .inr ⟨0,o,s0,s1,rfl,rfl,z1,z2,g2⟩
      ·rw[Qxz hj]at g2
       refine .inl ⟨fun i e=>?_,g2⟩
       cases i with
       |zero=>simp at e;exact hj e
       |succ i=>exact g1 i (by simpa using e)
     ·by_cases hj:k=j
      ·subst hj
       rw[Qwq hk]at g3
       cases g3
       refine .inr ⟨i+1,o',s0,s',by simpa using g1,by simpa using g2,z1,?_,g5⟩
       cases s0 with
       |own q=>cases z2;exact g4
       |bor q=>cases z2;exact g4
       |un=>cases z2
       |val d=>cases z2
      ·rw[Qxz hj]at g3
       exact .inr ⟨i+1,o',s,s',by simpa using g1,by simpa using g2,g3,g4,g5⟩
   |un=>cases h
   |val d=>cases h
   |own o=>cases h
theorem Jr{s s':Sl}{o':Ob}(h:s.BW o'=some s'):(∃o,isOwn s=some o)/\isOwn s'=some o':=by
 cases s with
 |own q=>cases h;exact⟨⟨q,rfl⟩,rfl⟩
 |bor q=>cases h;exact⟨⟨q,rfl⟩,rfl⟩
 |un=>cases h
 |val d=>cases h
section
variable{K:QQq}{env0 env env2:Ev}{σ:St}{H0 H H2:Hp}{rs:List Rv}{ps qs:List Sl}{vs:List V}
theorem En.Ud(h:En K env σ H0 H rs ps vs):∀{i j:Nat},rs[i]? =some (.ref j)->∃o a,ps[i]? =some (.bor o)/\vs[i]? =some (.ref a)/\σ[j]? =some (some (.ref a)):=by
 induction h with
 |nil=>intro i j e;simp at e
 |val _ _ ih=>intro i j e;cases i with
  |zero=>simp at e
  |succ i=>simpa using ih (by simpa using e)
 |tmp _ _ _ _ ih=>intro i j e;cases i with
  |zero=>simp at e
  |succ i=>simpa using ih (by simpa using e)
 | @ref o k a s rs ps vs e1 e2 e3 oa nr t ih=>
  intro i j e
  cases i with
  |zero=>simp at e;subst e;exact⟨o,a,rfl,rfl,e3⟩
  |succ i=>simpa using ih (by simpa using e)
theorem Ql(S0:Sat K env0 σ H0)(N:Nx K env0 σ H0 env H)(E:En K env σ H0 H rs ps vs)(C:Cz K ps vs H qs H2)(g:giveBack rs qs env=some env2):Nx K env0 σ H0 env2 H2:=by
 have S:=N.eX
 have sub:=N.sub
 obtain⟨gl,gs⟩:=m6 g
 have fresh:∀a,H0 a=none->∀j,¬aN env σ j a:=fun a ha j z=>S0.j8 ha j (sub j a z)
 have own2:∀j b,aN env2 σ j b->aN env σ j b:=fun j b z=>by
  obtain⟨⟨s,o,e1,e2⟩,e3⟩:=z
  rcases gs j with ⟨_,g2⟩|⟨i,o',s0,s1,_,_,g3,g4,g5⟩
  ·rw[g2]at e1;exact⟨⟨s,o,e1,e2⟩,e3⟩
  ·obtain⟨⟨q,hq⟩,_⟩:=Jr g4
   exact⟨⟨s0,q,g3,hq⟩,e3⟩
 have notLent:∀j b,aN env σ j b->(∀i:Nat,rs[i]? ≠some (Rv.ref j))->∀i,¬aN ps (vs.map some) i b:=fun j b ow nr i z=>by
  rcases E.lent z with ⟨q,_,h0⟩|⟨k,e,ow'⟩
  ·exact fresh b h0 j ow
  ·have:=S.ne j k b ow ow'
   subst this
   exact nr i e
 refine⟨⟨by rw[gl];exact S.len,fun j s e=>?_,fun j k b z w=>S.ne j k b (own2 j b z) (own2 k b w)⟩,fun j b z=>sub j b (own2 j b z),N.pers.trans C.pers,fun b u hb no=>C.keep b u (N.keep b u hb no) fun i z=>?_,fun b z=>N.dom b (C.dom b z),fun j xs e=>?_⟩
 ·rcases gs j with ⟨g1,g2⟩|⟨i,o',s0,s1,g1,g2,g3,g4,g5⟩
  ·rw[g2]at e
   refine(S.sl j s e).keep C.pers fun b u ho ev hb=>?_
   exact C.keep b u hb (notLent j b (vf e ho ev) g1)
  ·rw[g5]at e
   cases e
   obtain⟨o,a,p1,p2,p3⟩:=E.Ud g1
   obtain⟨o'',a',c1,c2,c3⟩:=C.bor i o p1
   rw[g2]at c1
   cases c1
   rw[p2]at c2
   cases c2
   cases s0 with
   |own q=>cases g4;exact⟨a,by rw[p3];rfl,c3⟩
   |bor q=>cases g4;exact⟨a,by rw[p3];rfl,c3⟩
   |un=>cases g4
   |val d=>cases g4
 ·rcases E.lent z with ⟨q,_,h0⟩|⟨k,e,ow⟩
  ·rw[h0]at hb;cases hb
  ·exact no k (sub k b ow)
 ·obtain⟨xs,e⟩:=N.bors j xs e
  rcases gs j with ⟨g1,g2⟩|⟨i,o',s0,s1,g1,g2,g3,g4,g5⟩
  ·exact⟨xs,by rw[g2];exact e⟩
  ·rw[e]at g3
   cases g3
   cases g4
   exact⟨o',g5⟩
end
section
variable{X:Cx}{W:Wi}{c:Cf}{m:E}{e:Expr}{es:List Expr}{pos p:Pos}{CX:GC}{k:Nat}{f:Addr}{fd:FuncData}{ps:List Str}{x:Str}{g:Nat}
theorem Qa(F:nA X.prog X.w X.K X.mg X.base GD k f fd ps (rH X.K ps.length (c.fn g)))(hr:jc k X.A)(hg:Gl X x)(hm:X.mg x=some (.ref f))(hk:PySem.W.keepIn X.K (.ref f)=true)(hb:Binds X.K fd ps [])
  (hd:(x==("__debug__":Str))=false)(ha:GA X W c m (e::es))(he:starEach (e::es) X.env=(false,eval e X.env)::starEach es X.env)(hpl:(backTo pos (starEach es X.env)).any (·.1)=false)(hn:∀sl,c.fn g sl=.bad\/sl.length=ps.length):
  GE X W c (.call g m) (.Call (.Name x p) (e::es) [] pos):=by
 intro env QLq s σ H Q I q
 refine Oo F hr hg hm hk hb .nil Z5 (t:=fun σ' H' R=>σ'=σ/\H'=H/\Q3 X.K W env (evs c m env) σ H R) (fun p QLq s σ' H' R I'⟨e1,e2,z⟩=>by subst e1 e2;exact ha env p QLq s _ _ R I' z) hd he hpl QLq s σ H Q I ⟨rfl,rfl,?_⟩
 simp only[My]at q
 obtain⟨S,q⟩:=q
 refine⟨S,?_⟩
 cases r:evs c m env with
 |bad=>rw[r]at q;exact q
 |exc j env1=>rw[r]at q;exact q
 |ok rs env1=>
  rw[r]at q
  simp only[Out.bind,qN]at q
  intro vs H1 N rv
  rw[List.append_nil]
  cases e1:enter rs env1 with
  |none=>rw[e1]at q;exact q.elim
  |some sl=>
   rw[e1]at q
   simp only at q
   have E:=jz N.eX e1 rv
   refine⟨sl,?_,E.eX S N.eX N.sub,E.noOwn,?_⟩
   ·rcases hn sl with z|z
    ·rw[z]at q;exact q.elim
    ·rw[<-E.len.1,z]
   ·cases e2:c.fn g sl with
    |bad=>rw[e2]at q;exact q.elim
    |ok rv qs=>
     rw[e2]at q
     simp only at q
     intro v H2 C z
     cases e3:giveBack rs qs env1 with
     |none=>rw[e3]at q;exact q.elim
     |some env2=>
      rw[e3]at q
      refine q v H2 (Ql S N E C e3) ?_
      cases rv with
      |val d=>exact z
      |new o=>obtain⟨a,z1,z2,z3⟩:=z;exact⟨a,z1,z2,N.dom a z3⟩
      |ref i=>exact z.elim
      |tmp o=>exact z.elim
    |exc j qs=>rw[e2]at q;exact q.elim
end
theorem Eh(c:Cf)(g:Fn)(sl:List Sl):gk c g sl=.bad\/sl.length=g.pars:=by
 unfold gk
 split
 ·exact .inr (by assumption)
 ·exact .inl rfl
end Mini
end
section
namespace Mini
open PySem L2 PyProof.Rows
def oE(b:Bool)(h:Heap)(it l:Addr)(k:Nat):Prop:=match b with|true=>h.IsListIter it l k|false=>h.IsTupleIter it l k
def wk(b:Bool)(h:Heap)(l:Addr)(xs:Array Value):Prop:=match b with|true=>h.IsList l xs|false=>h.IsTuple l xs
theorem oE.at{b:Bool}{h h':Heap}{it l:Addr}{k:Nat}(x:oE b h it l k)(e:∀o,h.get? it=some o->h'.get? it=some o):oE b h' it l k:=by
 cases b<;>exact Exists.elim x fun o⟨h1,h2⟩=>⟨o,e o h1,h2⟩
theorem wk.at{b:Bool}{h h':Heap}{l:Addr}{xs:Array Value}(x:wk b h l xs)(e:∀o,h.get? l=some o->h'.get? l=some o):wk b h' l xs:=by
 cases b<;>exact Exists.elim x fun o⟨h1,h2⟩=>⟨o,e o h1,h2⟩
theorem oE.obj{b:Bool}{h:Heap}{it l:Addr}{k:Nat}(x:oE b h it l k):∃o,h.get? it=some o/\∀v,o.data≠ .cell v:=by
 cases b<;>exact Exists.elim x fun o⟨h1,_,h2⟩=>⟨o,h1,fun v z=>by rw[h2]at z;cases z⟩
theorem oE.lt{b:Bool}{h:Heap}{it l:Addr}{k:Nat}(x:oE b h it l k):it<h.objs.size:=let ⟨_,e,_⟩:=x.obj;Qqz e
section
variable{prog:Program}{w:World}{A:Around}{E:QZq}{s:Shared}
theorem lC{it l:Addr}{i:Nat}{items}{x:Value}{Q:QZq}(hit:s.heap.IsTupleIter it l i)
  (hl:s.heap.IsTuple l items)(hx:items[i]? =some x)
  (hQ:∀h',h'.IsTupleIter it l (i+1)->Heap.SameBut it s.heap h'->Q x {s with heap:=h'}):
  wpAny (model prog w) A (Builtin.SmallTypes.nextOf (.ref it)) Q E s:=by
 obtain⟨o,ho,hc,hd⟩:=id hit
 obtain⟨ol,hol,_,nl,hdl⟩:=hl
 unfold Builtin.SmallTypes.nextOf
 refine QKq (wpAny_callSpecial?_slot (name:=Str.ofString "__next__") hit.typeIs PySem.F.slot_tuple_iterator_next
  (Qzz PySem.F.slot_tuple_iterator_next hit.typeIs PySem.F.entry_tuple_iterator_next ?_ (PySem.F.args_tuple_iterator_next_1 _)))
 show wpAny _ _ (field (.ref it) 0>>=_) _ _ s
 refine QKq (QGz ho hd (x:=.ref l) rfl ?_)
 show wpAny _ _ (if (Value.ref l==Value.none)=true then _ else _) _ _ s
 rw[if_neg (show¬((Value.ref l==Value.none)=true)from Qjz)]
 show wpAny _ _ (field (.ref it) 1>>=_) _ _ s
 refine QKq (QGz ho hd (x:=.int i 0) rfl ?_)
 show wpAny _ _ (seqItems? (.ref l)>>=_) _ _ s
 refine QKq (wpAny_seqItems hol hdl ?_)
 simp only[Int.toNat_natCast,hx]
 refine QKq (wpAny_setField ho hd (by simp) (QKz ⟨x,rfl,QKz (hQ _ ?_ (Heap.SameBut.update ..))⟩))
 exact⟨_,Heap.get?_update_self _ ho (Obj.isFreed_of_fields (Obj.data_mapFields hd _)),(Obj.cls_mapFields ..).trans hc,by
  rw[Obj.data_mapFields hd];simp[rawInt]⟩
theorem mL{it l:Addr}{i:Nat}{items}{Q:QZq}(hh:A.handled=none)
  (hit:s.heap.IsTupleIter it l i)(hl:s.heap.IsTuple l items)(hx:items[i]? =none)
  (hE:∀h' e,Heap.ExtBut it s.heap h'->(∃o,h'.get? e=some o/\o.cls=.type "StopIteration")->E (.ref e) {s with heap:=h'}):
  wpAny (model prog w) A (Builtin.SmallTypes.nextOf (.ref it)) Q E s:=by
 obtain⟨o,ho,hc,hd⟩:=id hit
 obtain⟨ol,hol,_,nl,hdl⟩:=hl
 unfold Builtin.SmallTypes.nextOf
 refine QKq (wpAny_callSpecial?_slot (name:=Str.ofString "__next__") hit.typeIs PySem.F.slot_tuple_iterator_next
  (Qzz PySem.F.slot_tuple_iterator_next hit.typeIs PySem.F.entry_tuple_iterator_next ?_ (PySem.F.args_tuple_iterator_next_1 _)))
 show wpAny _ _ (field (.ref it) 0>>=_) _ _ s
 refine QKq (QGz ho hd (x:=.ref l) rfl ?_)
 show wpAny _ _ (if (Value.ref l==Value.none)=true then _ else _) _ _ s
 rw[if_neg (show¬((Value.ref l==Value.none)=true)from Qjz)]
 show wpAny _ _ (field (.ref it) 1>>=_) _ _ s
 refine QKq (QGz ho hd (x:=.int i 0) rfl ?_)
 show wpAny _ _ (seqItems? (.ref l)>>=_) _ _ s
 refine QKq (wpAny_seqItems hol hdl ?_)
 simp only[Int.toNat_natCast,hx]
 refine QKq (wpAny_rule (QKq (wpAny_setField ho hd (by simp) ?_)))
 show wpAny _ _ (newExc (.type "StopIteration") []>>=_) _ _ _
 refine QKq ?_
 simp only[newExc,newTuple]
 refine QKq (Qjq ?_ (by size_fits))
 refine QKq (m:=firstArgMember _ _) (wpAny_of_eq (a:=Value.none) (by first|rfl|(simp only[firstArgMember];rfl)) ?_)
 refine Qjq ?_ (by size_fits)
 simp only[raiseNew]
 refine QKq (wpAny_handled ?_)
 first|rw[show A.in1.handled=none from hh]|rw[hh]
 refine QKq (QKz (wpAny_throw (hE _ _ (((Heap.SameBut.update ..).extBut.push _).push _) ⟨_,Qzq _ rfl,rfl⟩)))
theorem eF{b:Bool}{it l:Addr}{i:Nat}{items}{x:Value}{Q:QZq}(hit:oE b s.heap it l i)
  (hl:wk b s.heap l items)(hx:items[i]? =some x)(hQ:∀h',oE b h' it l (i+1)->Heap.SameBut it s.heap h'->Q x {s with heap:=h'}):
  wpAny (model prog w) A (Builtin.SmallTypes.nextOf (.ref it)) Q E s:=by
 cases b with
 |true=>exact wpAny_nextOf_list_item hit hl hx hQ
 |false=>exact lC hit hl hx hQ
theorem jE{b:Bool}{it l:Addr}{i:Nat}{items}{Q:QZq}(hh:A.handled=none)
  (hit:oE b s.heap it l i)(hl:wk b s.heap l items)(hx:items[i]? =none)
  (hE:∀h' e,Heap.ExtBut it s.heap h'->(∃o,h'.get? e=some o/\o.cls=.type "StopIteration")->E (.ref e) {s with heap:=h'}):
  wpAny (model prog w) A (Builtin.SmallTypes.nextOf (.ref it)) Q E s:=by
 cases b with
 |true=>exact wpAny_nextOf_list_end hh hit hl hx hE
 |false=>exact mL hh hit hl hx hE
end
def gO(h:Heap)(z TI TO:Addr)(f0 f1:Value):Prop:=
 h.get? z=some {cls:=.type "zip",dict:=none,data:=.fields #[f0,f1,.bool false,.ref TI,.ref TO],slots:= #[]}
def F0(f0:Value):Prop:=f0=.none\/∃T:Nat,f0=rawInt T
section
variable{prog:Program}{w:World}{A:Around}{E:QZq}{s:Shared}
theorem kJ{M:Model}{a:Addr}{Q:Option Obj->Shared->Prop}(h:Q (s.heap.get? a) s):wpAny M A (loadIfAlive a) Q E s:=fun Γ p hΓ=>by
 show Sem.wp M Γ (.loadIfAlive a .pure) _ _ p s
 rw[Sem.wp_loadIfAlive]
 exact(QKz (M:=M) (A:=A) (E:=E) h) Γ p hΓ
theorem wy{z TI TO:Addr}{f0 f1:Value}{Q:Bool->Shared->Prop}(hz:gO s.heap z TI TO f0 f1)(h0:F0 f0)(hQ1:Q true s)
  (hQ2:∀h' g1,gO h' z TI TO f0 g1->Heap.SameBut z s.heap h'->Q false {s with heap:=h'}):wpAny (model prog w) A (Builtin.SmallTypes.ownedTupleIsFree (.ref z)) Q E s:=by
 unfold Builtin.SmallTypes.ownedTupleIsFree
 rcases h0 with rfl|⟨T,rfl⟩
 ·exact QKq (QGz hz rfl (x:=.none) rfl (QKz hQ1))
 ·refine QKq (QGz hz rfl (x:=rawInt T) rfl ?_)
  show wpAny _ _ (loadIfAlive ((T:Int).toNat)>>=_) _ _ s
  refine QKq (kJ ?_)
  cases hT:s.heap.get? ((T:Int).toNat)with
  |none=>exact QKz hQ1
  |some o=>
   show wpAny _ _ (field (.ref z) 1>>=_) _ _ s
   refine QKq (QGz hz rfl (x:=f1) rfl ?_)
   by_cases hf:(f1 != .bool true)=true
   ·rw[if_pos hf]
    refine QKq (wpAny_setField_rec hz (by simp) fun h' hz' hs'=>QKz (hQ2 h' (.bool true) hz' hs'))
   ·rw[if_neg hf]
    exact QKz (hQ2 s.heap f1 hz (Heap.SameBut.refl ..))
structure Lj(z TI TO i1 i2:Addr)(b1 b2:Bool)(l1 l2:Addr)(k1 k2:Nat)(T:Addr)(x y:Value)(h h':Heap):Prop where
 zr:∃f0 f1,gO h' z TI TO f0 f1/\F0 f0
 ti:IsPair h' TI (.ref i1) (.ref i2)
 to:∃a b,IsPair h' TO a b
 it1:oE b1 h' i1 l1 k1
 it2:oE b2 h' i2 l2 k2
 new:IsPair h' T x y
 size:h'.objs.size=T+1
 keep:∀c o,c≠z->c≠TO->c≠i1->c≠i2->h.get? c=some o->h'.get? c=some o
theorem Dw{z TI TO i1 i2 l1 l2:Addr}{b1 b2:Bool}{k1 k2:Nat}{xs ys:Array Value}{x y a b f0 f1:Value}{Q:QZq}(D:ZipApart z TI TO i1 i2 l1 l2)
  (hz:gO s.heap z TI TO f0 f1)(h0:F0 f0)(hTI:IsPair s.heap TI (.ref i1) (.ref i2))(hTO:IsPair s.heap TO a b)
  (h1:oE b1 s.heap i1 l1 k1)(h2:oE b2 s.heap i2 l2 k2)(hl1:wk b1 s.heap l1 xs)(hl2:wk b2 s.heap l2 ys)(hx:xs[k1]? =some x)(hy:ys[k2]? =some y)
  (hQ:∀h',Lj z TI TO i1 i2 b1 b2 l1 l2 (k1+1) (k2+1) s.heap.objs.size x y s.heap h'->Q (.ref s.heap.objs.size) {s with heap:=h'}):
  wpAny (model prog w) A (Builtin.«zip.__next__» ⟨[.ref z],[]⟩) (fun fin s'=>∃v,fin=.done (.ret v)/\Q v s') E s:=by
 show wpAny _ _ (field (.ref z) 2>>=_) _ _ _
 refine QKq (QGz hz rfl (x:=.bool false) rfl ?_)
 show wpAny _ _ (field (.ref z) 3>>=_) _ _ _
 refine QKq (QGz hz rfl (x:=.ref TI) rfl ?_)
 refine QKq (wpAny_seqItems hTI rfl ?_)
 show wpAny _ _ (Builtin.SmallTypes.ownedTupleIsFree (.ref z)>>=_) _ _ _
 refine QKq (wy hz h0 ?_ ?_)
 ·--the tuple of its own is used again
  simp only[if_true]
  refine QKq (wpAny_rule ?_)
  refine QKq (QGz hz rfl (x:=.ref TO) rfl ?_)
  refine QKq (wpAny_setField_rec hz (by simp) fun h₁ hz₁ hs₁=>?_)
  replace hz₁:gO h₁ z TI TO .ellipsis f1:=hz₁
  refine QKq ?_
  simp only[List.zipIdx_cons,List.zipIdx_nil,List.forIn_cons,List.forIn_nil]
  refine QKq (QKq (wpAny_onRaise ?_))
  show wpAny _ _ (Builtin.SmallTypes.nextOf (.ref i1)>>=_) _ _ _
  refine QKq (eF (h1.at fun o e=>hs₁.extBut _ _ D.i1z e) (hl1.at fun o e=>hs₁.extBut _ _ D.l1z e) hx fun h₂ h1₂ hs₂=>QKz ?_)
  have hTO₂:IsPair h₂ TO a b:=hs₂.extBut _ _ D.TOi1 (hs₁.extBut _ _ D.TOz hTO)
  refine QKq (wpAny_seqItems hTO₂ rfl ?_)
  refine QKq (wpAny_updateSeq_pair hTO₂ fun h₃ hTO₃ hs₃=>?_)
  replace hTO₃:IsPair h₃ TO x b:=hTO₃
  refine QKq (wpAny_letGo (QKz ?_))
  refine QKq (QKq (wpAny_onRaise ?_))
  show wpAny _ _ (Builtin.SmallTypes.nextOf (.ref i2)>>=_) _ _ _
  refine QKq (eF (h2.at fun o e=>hs₃.extBut _ _ D.TOi2.symm (hs₂.extBut _ _ D.i12.symm (hs₁.extBut _ _ D.i2z e)))
   (hl2.at fun o e=>hs₃.extBut _ _ D.l2TO (hs₂.extBut _ _ D.l2i1 (hs₁.extBut _ _ D.l2z e))) hy fun h₄ h2₄ hs₄=>QKz ?_)
  have hTO₄:IsPair h₄ TO x b:=hs₄.extBut _ _ D.TOi2 hTO₃
  refine QKq (wpAny_seqItems hTO₄ rfl ?_)
  refine QKq (wpAny_updateSeq_pair hTO₄ fun h₅ hTO₅ hs₅=>?_)
  replace hTO₅:IsPair h₅ TO x y:=hTO₅
  refine QKq (wpAny_letGo (QKz (QKz ?_)))
  refine QKq (wpAny_seqItems hTO₅ rfl ?_)
  refine QKq (wpAny_newTuple ?_)
  have hsz:h₅.objs.size=s.heap.objs.size:=by rw[hs₅.1,hs₄.1,hs₃.1,hs₂.1,hs₁.1]
  have hz₅:gO h₅ z TI TO .ellipsis f1:=hs₅.extBut _ _ D.TOz.symm (hs₄.extBut _ _ D.i2z.symm (hs₃.extBut _ _ D.TOz.symm (hs₂.extBut _ _ D.i1z.symm hz₁)))
  have hk₅:∀c o,c≠z->c≠TO->c≠i1->c≠i2->s.heap.get? c=some o->h₅.get? c=some o:=fun c o c1 c2 c3 c4 e=>
   hs₅.extBut _ _ c2 (hs₄.extBut _ _ c4 (hs₃.extBut _ _ c2 (hs₂.extBut _ _ c3 (hs₁.extBut _ _ c1 e))))
  have h1₅:oE b1 h₅ i1 l1 (k1+1):=h1₂.at fun o e=>hs₅.extBut _ _ D.TOi1.symm (hs₄.extBut _ _ D.i12 (hs₃.extBut _ _ D.TOi1.symm e))
  have h2₅:oE b2 h₅ i2 l2 (k2+1):=h2₄.at fun o e=>hs₅.extBut _ _ D.TOi2.symm e
  have hzlt:z<h₅.objs.size:=Qqz hz₅
  show wpAny _ _ (Builtin.SmallTypes.ownedTupleHandOut (.ref z) (.ref h₅.objs.size)>>=_) _ _ _
  refine QKq ?_
  unfold Builtin.SmallTypes.ownedTupleHandOut
  have hz₆:gO (h₅.push {cls:=.type "tuple",data:=.seq #[x,y]}) z TI TO .ellipsis f1:=QWq _ hz₅
  refine QKq (wpAny_setField_rec hz₆ (by simp) fun h₇ hz₇ hs₇=>?_)
  replace hz₇:gO h₇ z TI TO (rawInt h₅.objs.size) f1:=hz₇
  refine wpAny_setField_rec hz₇ (by simp) fun h₈ hz₈ hs₈=>?_
  replace hz₈:gO h₈ z TI TO (rawInt h₅.objs.size) (.bool false):=hz₈
  have up:∀c o,c≠z->h₅.get? c=some o->h₈.get? c=some o:=fun c o c1 e=>hs₈.extBut _ _ c1 (hs₇.extBut _ _ c1 (QWq _ e))
  have hT₈:IsPair h₈ h₅.objs.size x y:=hs₈.extBut _ _ (Nat.ne_of_gt hzlt) (hs₇.extBut _ _ (Nat.ne_of_gt hzlt) (Qzq _ rfl))
  have hz8:h₈.objs.size=h₅.objs.size+1:=by rw[hs₈.1,hs₇.1,Heap.size_push]
  rw[hsz]at hz₈ hT₈ hz8
  refine QKz ⟨_,rfl,?_⟩
  show Q (.ref h₅.objs.size) _
  rw[hsz]
  have hTI₅:IsPair h₅ TI (.ref i1) (.ref i2):=hk₅ _ _ D.TIz D.TITO D.TIi1 D.TIi2 hTI
  exact hQ h₈ ⟨⟨_,_,hz₈,.inr ⟨_,rfl⟩⟩,up _ _ D.TIz hTI₅,⟨_,_,up _ _ D.TOz hTO₅⟩,h1₅.at fun o e=>up _ o D.i1z e,h2₅.at fun o e=>up _ o D.i2z e,hT₈,hz8,fun c o c1 c2 c3 c4 e=>up c o c1 (hk₅ c o c1 c2 c3 c4 e)⟩
 ·--it was kept:a new one
  intro h₁ g1 hz₁ hs₁
  simp only[Qxq,if_false]
  refine QKq ?_
  show wpAny _ _ (forIn #[Value.ref i1,Value.ref i2] _ _) _ _ _
  rw[<-Array.forIn_toList]
  simp only[List.forIn_cons,List.forIn_nil]
  refine QKq (QKq (Qqq ?_))
  show wpAny _ _ (Builtin.SmallTypes.nextOf (.ref i1)>>=_) _ _ _
  refine QKq (eF (h1.at fun o e=>hs₁.extBut _ _ D.i1z e) (hl1.at fun o e=>hs₁.extBut _ _ D.l1z e) hx fun h₂ h1₂ hs₂=>QKz ?_)
  refine QKz ?_
  refine QKq (QKq (Qqq ?_))
  show wpAny _ _ (Builtin.SmallTypes.nextOf (.ref i2)>>=_) _ _ _
  refine QKq (eF (h2.at fun o e=>hs₂.extBut _ _ D.i12.symm (hs₁.extBut _ _ D.i2z e))
   (hl2.at fun o e=>hs₂.extBut _ _ D.l2i1 (hs₁.extBut _ _ D.l2z e)) hy fun h₄ h2₄ hs₄=>QKz ?_)
  refine QKz (QKz ?_)
  have hsz:h₄.objs.size=s.heap.objs.size:=by rw[hs₄.1,hs₂.1,hs₁.1]
  have hk:∀c o,c≠z->c≠i1->c≠i2->s.heap.get? c=some o->h₄.get? c=some o:=fun c o c1 c3 c4 e=>hs₄.extBut _ _ c4 (hs₂.extBut _ _ c3 (hs₁.extBut _ _ c1 e))
  refine QKq (wpAny_newTuple (QKz ⟨_,rfl,?_⟩) (by show 2<=sizeLine;rw[sizeLine_eq];decide))
  show Q (.ref h₄.objs.size) {s with heap:=h₄.push {cls:=.type "tuple",data:=.seq #[x,y]}}
  have T:Lj z TI TO i1 i2 b1 b2 l1 l2 (k1+1) (k2+1) s.heap.objs.size x y s.heap (h₄.push {cls:=.type "tuple",data:=.seq #[x,y]}):=by
   refine⟨⟨f0,g1,QWq _ (hs₄.extBut _ _ D.i2z.symm (hs₂.extBut _ _ D.i1z.symm hz₁)),h0⟩,QWq _ (hk _ _ D.TIz D.TIi1 D.TIi2 hTI),⟨a,b,QWq _ (hk _ _ D.TOz D.TOi1 D.TOi2 hTO)⟩,
    h1₂.at fun o e=>QWq _ (hs₄.extBut _ _ D.i12 e),h2₄.at fun o e=>QWq _ e,?_,by rw[Heap.size_push,hsz],fun c o c1 c2 c3 c4 e=>QWq _ (hk c o c1 c3 c4 e)⟩
   rw[<-hsz]
   exact Qzq _ rfl
  rw[hsz]
  exact hQ _ T
theorem GJ{z TI TO i1 i2 l1 l2:Addr}{b1 b2:Bool}{k1 k2:Nat}{xs ys:Array Value}{a b f0 f1:Value}{Q:Fin->Shared->Prop}(hh:A.handled=none)(D:ZipApart z TI TO i1 i2 l1 l2)
  (hz:gO s.heap z TI TO f0 f1)(h0:F0 f0)(hTI:IsPair s.heap TI (.ref i1) (.ref i2))(hTO:IsPair s.heap TO a b)
  (h1:oE b1 s.heap i1 l1 k1)(h2:oE b2 s.heap i2 l2 k2)(hl1:wk b1 s.heap l1 xs)(hl2:wk b2 s.heap l2 ys)(hend:xs[k1]? =none\/ys[k2]? =none)
  (hE:∀h' e,(∀c o,c≠z->c≠TO->c≠i1->c≠i2->s.heap.get? c=some o->h'.get? c=some o)->(∃o,h'.get? e=some o/\o.cls=.type "StopIteration")->E (.ref e) {s with heap:=h'}):
  wpAny (model prog w) A (Builtin.«zip.__next__» ⟨[.ref z],[]⟩) Q E s:=by
 show wpAny _ _ (field (.ref z) 2>>=_) _ _ _
 refine QKq (QGz hz rfl (x:=.bool false) rfl ?_)
 show wpAny _ _ (field (.ref z) 3>>=_) _ _ _
 refine QKq (QGz hz rfl (x:=.ref TI) rfl ?_)
 refine QKq (wpAny_seqItems hTI rfl ?_)
 show wpAny _ _ (Builtin.SmallTypes.ownedTupleIsFree (.ref z)>>=_) _ _ _
 refine QKq (wy hz h0 ?_ ?_)
 ·simp only[if_true]
  refine QKq (wpAny_rule ?_)
  refine QKq (QGz hz rfl (x:=.ref TO) rfl ?_)
  refine QKq (wpAny_setField_rec hz (by simp) fun h₁ hz₁ hs₁=>?_)
  replace hz₁:gO h₁ z TI TO .ellipsis f1:=hz₁
  refine QKq ?_
  simp only[List.zipIdx_cons,List.zipIdx_nil,List.forIn_cons,List.forIn_nil]
  refine QKq (QKq (wpAny_onRaise ?_))
  show wpAny _ _ (Builtin.SmallTypes.nextOf (.ref i1)>>=_) _ _ _
  cases hx:xs[k1]? with
  |none=>
   refine QKq (jE hh (h1.at fun o e=>hs₁.extBut _ _ D.i1z e) (hl1.at fun o e=>hs₁.extBut _ _ D.l1z e) hx fun h₂ e hs₂ he=>?_)
   obtain⟨oe,hoe,hce⟩:=he
   have hz₂:gO h₂ z TI TO .ellipsis f1:=hs₂ _ _ D.i1z.symm hz₁
   have hez:e≠z:=fun x=>by subst x;unfold gO at hz₂;rw[hz₂]at hoe;cases hoe;simp at hce
   refine wpAny_setField_rec hz₂ (by simp) fun h₃ _ hs₃=>hE h₃ e (fun c o c1 _ c3 _ x=>hs₃.extBut _ _ c1 (hs₂ _ _ c3 (hs₁.extBut _ _ c1 x))) ⟨oe,hs₃.extBut _ _ hez hoe,hce⟩
  |some x=>
   have hy:ys[k2]? =none:=by
    rcases hend with h|h
    ·rw[hx]at h;cases h
    ·exact h
   refine QKq (eF (h1.at fun o e=>hs₁.extBut _ _ D.i1z e) (hl1.at fun o e=>hs₁.extBut _ _ D.l1z e) hx fun h₂ h1₂ hs₂=>QKz ?_)
   have hTO₂:IsPair h₂ TO a b:=hs₂.extBut _ _ D.TOi1 (hs₁.extBut _ _ D.TOz hTO)
   refine QKq (wpAny_seqItems hTO₂ rfl ?_)
   refine QKq (wpAny_updateSeq_pair hTO₂ fun h₃ hTO₃ hs₃=>?_)
   refine QKq (wpAny_letGo (QKz ?_))
   refine QKq (QKq (wpAny_onRaise ?_))
   show wpAny _ _ (Builtin.SmallTypes.nextOf (.ref i2)>>=_) _ _ _
   refine QKq (jE hh (h2.at fun o e=>hs₃.extBut _ _ D.TOi2.symm (hs₂.extBut _ _ D.i12.symm (hs₁.extBut _ _ D.i2z e)))
    (hl2.at fun o e=>hs₃.extBut _ _ D.l2TO (hs₂.extBut _ _ D.l2i1 (hs₁.extBut _ _ D.l2z e))) hy fun h₄ e hs₄ he=>?_)
   obtain⟨oe,hoe,hce⟩:=he
   have hz₄:gO h₄ z TI TO .ellipsis f1:=hs₄ _ _ D.i2z.symm (hs₃.extBut _ _ D.TOz.symm (hs₂.extBut _ _ D.i1z.symm hz₁))
   have hez:e≠z:=fun x=>by subst x;unfold gO at hz₄;rw[hz₄]at hoe;cases hoe;simp at hce
   refine wpAny_setField_rec hz₄ (by simp) fun h₅ _ hs₅=>hE h₅ e (fun c o c1 c2 c3 c4 x=>hs₅.extBut _ _ c1 (hs₄ _ _ c4 (hs₃.extBut _ _ c2 (hs₂.extBut _ _ c3 (hs₁.extBut _ _ c1 x))))) ⟨oe,hs₅.extBut _ _ hez hoe,hce⟩
 ·intro h₁ g1 hz₁ hs₁
  simp only[Qxq,if_false]
  refine QKq ?_
  show wpAny _ _ (forIn #[Value.ref i1,Value.ref i2] _ _) _ _ _
  rw[<-Array.forIn_toList]
  simp only[List.forIn_cons,List.forIn_nil]
  refine QKq (QKq (Qqq ?_))
  show wpAny _ _ (Builtin.SmallTypes.nextOf (.ref i1)>>=_) _ _ _
  cases hx:xs[k1]? with
  |none=>
   exact QKq (jE hh (h1.at fun o e=>hs₁.extBut _ _ D.i1z e) (hl1.at fun o e=>hs₁.extBut _ _ D.l1z e) hx fun h₂ e hs₂ he=>hE h₂ e (fun c o c1 _ c3 _ x=>hs₂ _ _ c3 (hs₁.extBut _ _ c1 x)) he)
  |some x=>
   have hy:ys[k2]? =none:=by
    rcases hend with h|h
    ·rw[hx]at h;cases h
    ·exact h
   refine QKq (eF (h1.at fun o e=>hs₁.extBut _ _ D.i1z e) (hl1.at fun o e=>hs₁.extBut _ _ D.l1z e) hx fun h₂ h1₂ hs₂=>QKz ?_)
   refine QKz ?_
   refine QKq (QKq (Qqq ?_))
   show wpAny _ _ (Builtin.SmallTypes.nextOf (.ref i2)>>=_) _ _ _
   exact QKq (jE hh (h2.at fun o e=>hs₂.extBut _ _ D.i12.symm (hs₁.extBut _ _ D.i2z e))
    (hl2.at fun o e=>hs₂.extBut _ _ D.l2i1 (hs₁.extBut _ _ D.l2z e)) hy fun h₄ e hs₄ he=>hE h₄ e (fun c o c1 _ c3 c4 x=>hs₄ _ _ c4 (hs₂.extBut _ _ c3 (hs₁.extBut _ _ c1 x))) he)
theorem oG{z TI TO i1 i2 l1 l2:Addr}{b1 b2:Bool}{k1 k2:Nat}{xs ys:Array Value}{x y a b f0 f1:Value}{Q:Option Value->Shared->Prop}(D:ZipApart z TI TO i1 i2 l1 l2)
  (hz:gO s.heap z TI TO f0 f1)(h0:F0 f0)(hTI:IsPair s.heap TI (.ref i1) (.ref i2))(hTO:IsPair s.heap TO a b)
  (h1:oE b1 s.heap i1 l1 k1)(h2:oE b2 s.heap i2 l2 k2)(hl1:wk b1 s.heap l1 xs)(hl2:wk b2 s.heap l2 ys)(hx:xs[k1]? =some x)(hy:ys[k2]? =some y)
  (hQ:∀h',Lj z TI TO i1 i2 b1 b2 l1 l2 (k1+1) (k2+1) s.heap.objs.size x y s.heap h'->Q (some (.ref s.heap.objs.size)) {s with heap:=h'}):
  wpAny (model prog w) A (pyNext (.ref z)) Q E s:=by
 have hT:s.TypeIs (.ref z) "zip":=⟨_,hz,rfl⟩
 unfold pyNext
 exact QKq (wpAny_attempt (wpAny_callSpecial?_slot (name:=Str.ofString "__next__") hT PySem.F.slot_zip_next
  (Qzz PySem.F.slot_zip_next hT PySem.F.entry_zip_next
   (Dw D hz h0 hTI hTO h1 h2 hl1 hl2 hx hy fun h' T=>QKz (hQ h' T)) (PySem.F.args_zip_next_1 _))))
theorem pO{z TI TO i1 i2 l1 l2:Addr}{b1 b2:Bool}{k1 k2:Nat}{xs ys:Array Value}{a b f0 f1:Value}{Q:Option Value->Shared->Prop}(hh:A.handled=none)(D:ZipApart z TI TO i1 i2 l1 l2)
  (hz:gO s.heap z TI TO f0 f1)(h0:F0 f0)(hTI:IsPair s.heap TI (.ref i1) (.ref i2))(hTO:IsPair s.heap TO a b)
  (h1:oE b1 s.heap i1 l1 k1)(h2:oE b2 s.heap i2 l2 k2)(hl1:wk b1 s.heap l1 xs)(hl2:wk b2 s.heap l2 ys)(hend:xs[k1]? =none\/ys[k2]? =none)
  (hQ:∀h',(∀c o,c≠z->c≠TO->c≠i1->c≠i2->s.heap.get? c=some o->h'.get? c=some o)->Q none {s with heap:=h'}):wpAny (model prog w) A (pyNext (.ref z)) Q E s:=by
 have hT:s.TypeIs (.ref z) "zip":=⟨_,hz,rfl⟩
 unfold pyNext
 refine QKq (wpAny_attempt (wpAny_callSpecial?_slot (name:=Str.ofString "__next__") hT PySem.F.slot_zip_next
  (Qzz PySem.F.slot_zip_next hT PySem.F.entry_zip_next (GJ hh D hz h0 hTI hTO h1 h2 hl1 hl2 hend fun h' e hk he=>?_) (PySem.F.args_zip_next_1 _))))
 obtain⟨o,ho,hc⟩:=he
 refine QKq (wpAny_isInstance (T:="StopIteration") (b:=true) ⟨o,ho,hc⟩ isSubtype_stop ?_)
 exact QKz (hQ _ hk)
end
end Mini
end
section
namespace Mini
open PySem L2 PyProof.Rows
section
variable{prog:Program}{w:World}{A:Around}{E:QZq}{s:Shared}
theorem Fp{tg:Expr}{z TI TO T:Addr}{f0 f1:Value}{Q:Unit->Shared->Prop}(hz:gO s.heap z TI TO f0 f1)(h0:F0 f0)
  (hQ:∀h' g0,gO h' z TI TO g0 f1->F0 g0->Heap.SameBut z s.heap h'->Q () {s with heap:=h'}):wpAny (model prog w) A (letOwnedTupleGo tg (.ref z) (.ref T)) Q E s:=by
 have same:Q () s:=hQ s.heap f0 hz h0 (Heap.SameBut.refl ..)
 have go:wpAny (model prog w) A (do
   let o<-load z
   match o.cls,o.data with
   |.type n,.fields vs=>
    if ["enumerate","zip","dict_itemiterator","dict_reverseitemiterator","odict_iterator","itertools.zip_longest","itertools.pairwise"].contains n&&vs[0]? ==some (rawInt T)then
     rule "for.unpacks-the-owned-tuple"
     updateField z 0 .none
   |_,_=>pure ()) Q E s:=by
  refine QKq (wpAny_load hz ?_)
  show wpAny _ _ (if (["enumerate","zip","dict_itemiterator","dict_reverseitemiterator","odict_iterator","itertools.zip_longest","itertools.pairwise"].contains "zip"&&
   (#[f0,f1,.bool false,.ref TI,.ref TO]:Array Value)[0]? ==some (rawInt T))=true then _ else _) Q E s
  split
  ·refine QKq (wpAny_rule ?_)
   show wpAny _ _ (setField (.ref z) 0 .none) Q E s
   exact wpAny_setField_rec hz (by simp) fun h' hz' hs'=>hQ h' .none hz' (.inl rfl) hs'
  ·exact QKz same
 unfold letOwnedTupleGo
 cases tg<;>first
  |exact QKz same
  |exact go
theorem ik{z TI TO:Addr}{f0 f1:Value}{Q:QZq}(hz:gO s.heap z TI TO f0 f1)(h:Q (.ref z) s):wpAny (model prog w) A (pyIter (.ref z)) Q E s:=by
 have hT:s.TypeIs (.ref z) "zip":=⟨_,hz,rfl⟩
 refine wpAny_pyIter_slot hT PySem.F.slot_zip_iter (Qzz PySem.F.slot_zip_iter hT PySem.F.entry_zip_iter ?_ (PySem.F.args_zip_iter_1 _))
 show wpAny _ _ (ret (.ref z)) _ _ s
 exact QKz ⟨_,rfl,"zip",_,hT,PySem.F.slot_zip_next.lookup,h⟩
end
def itN(b:Bool):String:=if b then "list_iterator" else "tuple_iterator"
abbrev zH1(b1:Bool)(h:Heap)(l1:Addr):Heap:=h.push {cls:=.type (itN b1),data:=.fields #[.ref l1,.int 0 0]}
abbrev zH2(b1 b2:Bool)(h:Heap)(l1 l2:Addr):Heap:=(zH1 b1 h l1).push {cls:=.type (itN b2),data:=.fields #[.ref l2,.int 0 0]}
abbrev zH3(b1 b2:Bool)(h:Heap)(l1 l2:Addr):Heap:=(zH2 b1 b2 h l1 l2).push {cls:=.type "tuple",data:=.seq #[.ref h.objs.size,.ref (zH1 b1 h l1).objs.size]}
abbrev zH4(b1 b2:Bool)(h:Heap)(l1 l2:Addr):Heap:=(zH3 b1 b2 h l1 l2).push {cls:=.type "tuple",data:=.seq #[.none,.none]}
abbrev Mh(b1 b2:Bool)(h:Heap)(l1 l2:Addr):Heap:=(zH4 b1 b2 h l1 l2).push {cls:=.type "zip",data:=.fields #[.none,.bool false,.bool false,.ref (zH2 b1 b2 h l1 l2).objs.size,.ref (zH3 b1 b2 h l1 l2).objs.size]}
theorem GF(b1 b2:Bool)(l1 l2:Addr)(xs ys:Array Value):
  Meets (Builtin.«zip.__new__» ⟨[.type "zip",.ref l1,.ref l2],[]⟩) (fun _ R s=>wk b1 s.heap l1 xs/\wk b2 s.heap l2 ys/\
   R (.ok (.ret (.ref (zH4 b1 b2 s.heap l1 l2).objs.size))) {s with heap:=Mh b1 b2 s.heap l1 l2}):=
 .of_wp fun prog w A R s h=>by
  obtain⟨hp,g,d,tk,os⟩:=s;obtain⟨hl1,hl2,h⟩:=h
  have hsub:=sub_zip
  cases b1<;>cases b2
  ·have hL1:Heap.IsTuple (Shared.heap ⟨hp,g,d,tk,os⟩) l1 xs:=hl1
   have hL2:Heap.IsTuple (Shared.heap ⟨hp.push {cls:=.type "tuple_iterator",data:=.fields #[.ref l1,.int 0 0]},g,d,tk,os⟩) l2 ys:=hl2.at (b:=false) fun o e=>QWq _ e
   wp_walk using wpAny_pyIter_tuple hL1,wpAny_pyIter_tuple hL2
   exact⟨_,rfl,h⟩
  ·have hL1:Heap.IsTuple (Shared.heap ⟨hp,g,d,tk,os⟩) l1 xs:=hl1
   have hL2:Heap.IsList (Shared.heap ⟨hp.push {cls:=.type "tuple_iterator",data:=.fields #[.ref l1,.int 0 0]},g,d,tk,os⟩) l2 ys:=hl2.at (b:=true) fun o e=>QWq _ e
   wp_walk using wpAny_pyIter_tuple hL1,wpAny_pyIter_list hL2
   exact⟨_,rfl,h⟩
  ·have hL1:Heap.IsList (Shared.heap ⟨hp,g,d,tk,os⟩) l1 xs:=hl1
   have hL2:Heap.IsTuple (Shared.heap ⟨hp.push {cls:=.type "list_iterator",data:=.fields #[.ref l1,.int 0 0]},g,d,tk,os⟩) l2 ys:=hl2.at (b:=false) fun o e=>QWq _ e
   wp_walk using wpAny_pyIter_list hL1,wpAny_pyIter_tuple hL2
   exact⟨_,rfl,h⟩
  ·have hL1:Heap.IsList (Shared.heap ⟨hp,g,d,tk,os⟩) l1 xs:=hl1
   have hL2:Heap.IsList (Shared.heap ⟨hp.push {cls:=.type "list_iterator",data:=.fields #[.ref l1,.int 0 0]},g,d,tk,os⟩) l2 ys:=hl2.at (b:=true) fun o e=>QWq _ e
   wp_walk using wpAny_pyIter_list hL1,wpAny_pyIter_list hL2
   exact⟨_,rfl,h⟩
end Mini
end
section
namespace Mini
open PySem L2 PyProof.Rows
structure yz(z TI TO i1 i2:Addr)(b1 b2:Bool)(l1 l2:Addr)(k:Nat)(h:Heap):Prop where
 zr:∃f0 f1,gO h z TI TO f0 f1/\F0 f0
 ti:IsPair h TI (.ref i1) (.ref i2)
 to:∃a b,IsPair h TO a b
 it1:oE b1 h i1 l1 k
 it2:oE b2 h i2 l2 k
section
variable{prog:Program}{w:World}{A:Around}{E:QZq}{s:Shared}
theorem uB{b1 b2:Bool}{l1 l2:Addr}{xs ys:Array Value}{Q:QZq}(hl1:wk b1 s.heap l1 xs)(hl2:wk b2 s.heap l2 ys)
  (h:∀h',yz (s.heap.objs.size+4) (s.heap.objs.size+2) (s.heap.objs.size+3) s.heap.objs.size (s.heap.objs.size+1) b1 b2 l1 l2 0 h'->h'.objs.size=s.heap.objs.size+5->
   (∀c o,s.heap.get? c=some o->h'.get? c=some o)->Q (.ref (s.heap.objs.size+4)) {s with heap:=h'}):
  wpAny (model prog w) A (call (.type "zip") [.ref l1,.ref l2]) Q E s:=by
 refine callType_new PySem.F.called_zip (by decide) (PySem.F.typeCall_zip_2 _ _) (PySem.F.newCall_zip_2 _ _) (fun obj=>PySem.F.args_object_init_3 obj _ _) PySem.F.entry_zip_new
  (GF b1 b2 l1 l2 xs ys) ⟨hl1,hl2,?_⟩
 have z1:(zH1 b1 s.heap l1).objs.size=s.heap.objs.size+1:=Heap.size_push ..
 have z2:(zH2 b1 b2 s.heap l1 l2).objs.size=s.heap.objs.size+2:=by rw[Heap.size_push,z1]
 have z3:(zH3 b1 b2 s.heap l1 l2).objs.size=s.heap.objs.size+3:=by rw[Heap.size_push,z2]
 have z4:(zH4 b1 b2 s.heap l1 l2).objs.size=s.heap.objs.size+4:=by rw[Heap.size_push,z3]
 have z5:(Mh b1 b2 s.heap l1 l2).objs.size=s.heap.objs.size+5:=by rw[Heap.size_push,z4]
 have g5:(Mh b1 b2 s.heap l1 l2).get? (zH4 b1 b2 s.heap l1 l2).objs.size=some _:=Qzq _ rfl
 have g4:(Mh b1 b2 s.heap l1 l2).get? (zH3 b1 b2 s.heap l1 l2).objs.size=some _:=QWq _ (Qzq _ rfl)
 have g3:(Mh b1 b2 s.heap l1 l2).get? (zH2 b1 b2 s.heap l1 l2).objs.size=some _:=QWq _ (QWq _ (Qzq _ rfl))
 have g2:(Mh b1 b2 s.heap l1 l2).get? (zH1 b1 s.heap l1).objs.size=some _:=QWq _ (QWq _ (QWq _ (Qzq _ rfl)))
 have g1:(Mh b1 b2 s.heap l1 l2).get? s.heap.objs.size=some _:=QWq _ (QWq _ (QWq _ (QWq _ (Qzq _ rfl))))
 show _/\_
 rw[z2,z3,z4]at g5
 rw[z1,z2]at g3
 rw[z3]at g4
 rw[z1]at g2
 rw[z4]
 have i1:oE b1 (Mh b1 b2 s.heap l1 l2) s.heap.objs.size l1 0:=by cases b1<;>exact⟨_,g1,rfl,rfl⟩
 have i2:oE b2 (Mh b1 b2 s.heap l1 l2) (s.heap.objs.size+1) l2 0:=by cases b2<;>exact⟨_,g2,rfl,rfl⟩
 exact⟨⟨_,g5,rfl⟩,h _ ⟨⟨_,_,g5,.inl rfl⟩,g3,⟨_,_,g4⟩,i1,i2⟩ z5 fun c o x=>
  QWq _ (QWq _ (QWq _ (QWq _ (QWq _ x))))⟩
end
theorem rZ{n l1 l2:Addr}(h1:l1<n)(h2:l2<n):ZipApart (n+4) (n+2) (n+3) n (n+1) l1 l2:=zipApart_new h1 h2
theorem Inv.MJ{X:Cx}{QLq:QQz}{σ:L2.St}{H:Hp}{s:Shared}{h':Heap}{t':Nat}{ch:List Addr}(I:Inv X QLq σ H s)(k:∀b o,b∉ch->s.heap.get? b=some o->h'.get? b=some o)(hf:∀b∈ch,gh X QLq H b):
  Inv X QLq σ H {s with heap:=h',toks:=t'}:=by
 have nit:∀b u,H b=some u->b∉ch:=fun b u e z=>by rw[(hf b z).1]at e;cases e
 have nL:X.env.locals∉ch:=fun z=>(hf _ z).2.1 rfl
 refine I.step (g':=s.gens) (d':=s.drawn) (ch:=ch) (fun b hb=>⟨(hf b hb).2.2.2.1,(hf b hb).2.1,(hf b hb).2.2.2.2.1,(hf b hb).2.2.2.2.2⟩) (fun b o _ _ hc e _=>k b o hc e) (fun b o _ _ hc e _=>⟨o.slots,k b o hc e⟩) (fun _ _ _ _ n=>n)
  (fun b o hc e=>⟨o,k b o hc e⟩) (fun _ _ e=>e) (fun _ _ _ e=>e) (fun b ps e=>⟨#[],by rw[e];simp⟩) (fun m hm=>?_) (fun b u e=>?_) I.bare
 ·obtain⟨o,es,ep,ho,r⟩:=hm
  exact⟨o,es,ep,k _ o nL ho,r⟩
 ·refine(I.hok b u e).stay (fun c v hc q=>k c v ?_ q) (fun _ q=>q) fun _ _ q=>q
  rcases hc with z|z
  ·rw[z];exact nit b u e
  ·exact nit c _ z
theorem Inv.DK{X:Cx}{QLq:QQz}{σ:L2.St}{H:Hp}{s:Shared}{h':Heap}{t':Nat}{ch:List Addr}{a:Addr}{u:HO}(I:Inv X QLq σ H s)(k:∀b o,b∉ch->s.heap.get? b=some o->h'.get? b=some o)(hf:∀b∈ch,gh X QLq H b)
  (ha:s.heap.objs.size<=a)(new:bU X.prog X.w (upd H a u) h' a u):Inv X QLq σ (upd H a u) {s with heap:=h',toks:=t'}:=by
 have hn:H a=none:=I.hok.fresh ha
 have nit:∀b u,H b=some u->b∉ch:=fun b u e z=>by rw[(hf b z).1]at e;cases e
 have nL:X.env.locals∉ch:=fun z=>(hf _ z).2.1 rfl
 have ne:∀b w,H b=some w->b≠a:=fun b w e z=>by subst z;rw[hn]at e;cases e
 refine I.step (g':=s.gens) (d':=s.drawn) (ch:=ch) (fun b hb=>⟨(hf b hb).2.2.2.1,(hf b hb).2.1,(hf b hb).2.2.2.2.1,(hf b hb).2.2.2.2.2⟩) (fun b o _ _ hc e _=>k b o hc e) (fun b o _ _ hc e _=>⟨o.slots,k b o hc e⟩)
  (fun b o _ e n=>by rw[aG (Qvz (Qvq (Qqz e) ha))];exact n)
  (fun b o hc e=>⟨o,k b o hc e⟩) (fun b xs e=>by rw[aG (ne b _ e)];exact e) (fun b o w e=>by rw[aG (ne b _ e)];exact e) (fun b ps e=>⟨#[],by rw[aG (ne b _ e),e];simp⟩) (fun m hm=>?_) (fun b w e=>?_) I.bare
 ·obtain⟨o,es,ep,ho,r⟩:=hm
  exact⟨o,es,ep,k _ o nL ho,r⟩
 ·by_cases hb:b=a
  ·subst hb
   rw[aU]at e
   cases e
   exact new
  ·rw[aG hb]at e
   refine(I.hok b w e).stay (fun c v hc q=>k c v ?_ q) (fun c q=>by rw[aG (ne c _ q)];exact q) fun c xs q=>by rw[aG (ne c _ q)];exact q
   rcases hc with z|z
   ·rw[z];exact nit b w e
   ·exact nit c _ z
def Ln(K:QQq)(b:Bool)(H:Hp)(l:Addr)(vs:List V):Prop:=match b with|true=>Lw K H l vs|false=>gQ K H l vs
theorem bQ.uW{K:QQq}{b:Bool}{H H':Hp}{l:Addr}{vs:List V}(p:bQ H H')(h:Ln K b H l vs):Ln K b H' l vs:=by
 cases b with
 |true=>exact p.Ws h
 |false=>exact p.DX h
theorem Inv.uW{X:Cx}{QLq:QQz}{σ:L2.St}{H:Hp}{s:Shared}{b:Bool}{l:Addr}{vs:List V}(I:Inv X QLq σ H s)(h:Ln X.K b H l vs):∃its:List Value,Vals vs its/\wk b s.heap l its.toArray/\vs.length<=sizeLine/\l<s.heap.objs.size:=by
 cases b with
 |true=>
  obtain⟨its,r,p,z⟩:=I.list (Lw.sq h)
  obtain⟨o,e,_⟩:=p.isList
  exact⟨its,r,p.isList,z,Qqz e⟩
 |false=>
  obtain⟨its,r,p,z⟩:=I.tuple h
  obtain⟨o,e,_⟩:=id p
  exact⟨its,r,p,z,Qqz e⟩
def Itz(K:QQq)(b1 b2:Bool)(l1 l2:Addr)(vs ws:List V):It:=
 ⟨fun i H=>Ln K b1 H l1 vs/\Ln K b2 H l2 ws/\∃v u,vs[i]? =some v/\ws[i]? =some u,
  fun i H x H'=>∃p v u,H p=none/\x=.ref p/\vs[i]? =some v/\ws[i]? =some u/\H'=upd H p (.tup [v,u]),
  fun i H=>Ln K b1 H l1 vs/\Ln K b2 H l2 ws/\(vs.length<=i\/ws.length<=i)⟩
theorem jm{P:Program}{w:World}{K:QQq}{tg:Expr}{z TI TO i1 i2 l1 l2:Addr}{b1 b2:Bool}{vs ws:List V}(D:ZipApart z TI TO i1 i2 l1 l2):
  Turn P w K tg (Itz K b1 b2 l1 l2 vs ws) [z,TI,TO,i1,i2] z (fun i h=>yz z TI TO i1 i2 b1 b2 l1 l2 i h) where
 mem:=by simp
 obj:=fun i h st b hb=>by
  obtain⟨f0,f1,zr,_⟩:=st.zr
  obtain⟨x,y,to⟩:=st.to
  simp only[QCq,QAz,or_false]at hb
  rcases hb with rfl|rfl|rfl|rfl|rfl
  ·exact⟨_,zr,fun v z=>by cases z⟩
  ·exact⟨_,st.ti,fun v z=>by cases z⟩
  ·exact⟨_,to,fun v z=>by cases z⟩
  ·exact st.it1.obj
  ·exact st.it2.obj
 keep:=fun i h h' st k=>by
  obtain⟨f0,f1,zr,hf⟩:=st.zr
  obtain⟨x,y,to⟩:=st.to
  exact⟨⟨f0,f1,k z (by simp) _ zr,hf⟩,k TI (by simp) _ st.ti,⟨x,y,k TO (by simp) _ to⟩,st.it1.at fun o e=>k i1 (by simp) o e,st.it2.at fun o e=>k i2 (by simp) o e⟩
 item:=by
  intro X hP hw hK hc i QLq s σ H E I hf st hg
  subst hP hw hK
  obtain⟨hq1,hq2,v,u,ev,eu⟩:=hg
  obtain⟨its,r1,p1,_,_⟩:=Inv.uW I hq1
  obtain⟨its2,r2,p2,_,_⟩:=Inv.uW I hq2
  obtain⟨x,ex,rx⟩:=r1.get ev
  obtain⟨y,ey,ry⟩:=r2.get eu
  obtain⟨f0,f1,zr,h0⟩:=st.zr
  obtain⟨a,b,to⟩:=st.to
  refine oG D zr h0 st.ti to st.it1 st.it2 p1 p2 (x:=x) (y:=y) (by simpa using ex) (by simpa using ey) fun h' T=>?_
  obtain⟨g0,g1,zr',h0'⟩:=T.zr
  refine⟨_,rfl,Fp (s:={s with heap:=h'}) zr' h0' fun h'' q0 zr'' hq0 sb=>?_⟩
  have f1':∀b∈[z,TO,i1,i2],gh X QLq H b:=fun b hb=>hf b (by
   simp only[QCq,QAz,or_false]at hb⊢
   rcases hb with h|h|h|h<;>simp[h])
  have kk:∀b o,b∉[z,TO,i1,i2]->s.heap.get? b=some o->h''.get? b=some o:=fun b o hb e=>by
   simp only[QCq,QAz,or_false,not_or]at hb
   exact sb.extBut _ _ hb.1 (T.keep b o hb.1 hb.2.1 hb.2.2.1 hb.2.2.2 e)
  have new'':IsPair h'' s.heap.objs.size x y:=sb.extBut _ _ (by
   obtain⟨q,e,_⟩:∃q,s.heap.get? z=some q/\True:=⟨_,zr,trivial⟩
   exact Nat.ne_of_gt (Qqz e)) T.new
  have nz:∀b∈[z,TO,i1,i2],b<s.heap.objs.size:=fun b hb=>by
   simp only[QCq,QAz,or_false]at hb
   rcases hb with rfl|rfl|rfl|rfl
   ·exact Qqz zr
   ·exact Qqz to
   ·exact st.it1.lt
   ·exact st.it2.lt
  have I1:Inv X QLq σ (upd H s.heap.objs.size (.tup [v,u])) {s with heap:=h''}:=by
   refine Inv.DK (t':=s.toks) I kk f1' (QVz _) ⟨by show 2<=sizeLine;rw[sizeLine_eq];decide,[x,y],.cons rx (.cons ry .nil),_,new'',rfl,rfl,_,rfl⟩
  refine⟨.ref s.heap.objs.size,upd H s.heap.objs.size (.tup [v,u]),I1,rfl,⟨_,v,u,I.hok.fresh (QVz _),rfl,ev,eu,rfl⟩,?_,fun b hb=>?_⟩
  ·have up:∀c o,c≠z->h'.get? c=some o->h''.get? c=some o:=fun c o hcz e=>sb.extBut _ _ hcz e
   obtain⟨a',b',to'⟩:=T.to
   exact⟨⟨q0,g1,zr'',hq0⟩,up _ _ D.TIz T.ti,⟨a',b',up _ _ D.TOz to'⟩,T.it1.at fun o e=>up _ o D.i1z e,T.it2.at fun o e=>up _ o D.i2z e⟩
  ·have lt:b<s.heap.objs.size:=by
    simp only[QCq,QAz,or_false]at hb
    rcases hb with rfl|rfl|rfl|rfl|rfl
    ·exact Qqz zr
    ·exact Qqz st.ti
    ·exact Qqz to
    ·exact st.it1.lt
    ·exact st.it2.lt
   rw[aG (Qvz lt)]
   exact(hf b hb).1
 done:=by
  intro X hP hw hK hc i QLq s σ H E I hf st hg
  subst hP hw hK
  obtain⟨hq1,hq2,hend⟩:=hg
  obtain⟨its,r1,p1,_,_⟩:=Inv.uW I hq1
  obtain⟨its2,r2,p2,_,_⟩:=Inv.uW I hq2
  have l1:=r1.length
  have l2:=r2.length
  obtain⟨f0,f1,zr,h0⟩:=st.zr
  obtain⟨a,b,to⟩:=st.to
  refine pO (I.ok.hd hc) D zr h0 st.ti to st.it1 st.it2 p1 p2 ?_ fun h' kk=>⟨rfl,?_⟩
  ·rcases hend with h|h
   ·exact .inl (by simp;omega)
   ·exact .inr (by simp;omega)
  ·refine Inv.MJ (t':=s.toks) (ch:=[z,TO,i1,i2]) I (fun b o hb e=>?_) fun b hb=>hf b (by
    simp only[QCq,QAz,or_false]at hb⊢
    rcases hb with h|h|h|h<;>simp[h])
   simp only[QCq,QAz,or_false,not_or]at hb
   exact kk b o hb.1 hb.2.1 hb.2.2.1 hb.2.2.2 e
 self:=fun A i s Q E st h=>by
  obtain⟨f0,f1,zr,h0⟩:=st.zr
  exact ik zr h
end Mini
end
section
namespace Mini
open PySem L2
theorem o4:∀{xs ys:List D}{i:Nat}{d:D},(aO xs ys)[i]? =some d->∃x y,xs[i]? =some x/\ys[i]? =some y/\d=.tup [x,y]
 |[],_,i,d,h=>by simp[aO]at h
 |_::_,[],i,d,h=>by simp[aO]at h
 |x::xs,y::ys,0,d,h=>by simp[aO]at h;exact⟨x,y,rfl,rfl,h.symm⟩
 |x::xs,y::ys,i+1,d,h=>by
  rw[aO,List.getElem?_cons_succ]at h
  simpa using o4 h
theorem oZ:∀(xs ys:List D),(aO xs ys).length=min xs.length ys.length
 |[],ys=>by simp[aO]
 |_::_,[]=>by simp[aO]
 |x::xs,y::ys=>by rw[aO,QBq,oZ xs ys,QBq,QBq];omega
theorem uq{K:QQq}{H:Hp}{b1 b2:Bool}{l1 l2:Addr}{vs ws:List V}{xs ys:List D}(h1:Ln K b1 H l1 vs)(h2:Ln K b2 H l2 ws)(d1:aq K H xs vs)(d2:aq K H ys ws)(hz:vs.length<=sizeLine):
  Gives K (Itz K b1 b2 l1 l2 vs ws) (aO xs ys) H where
 go:=fun H1 p i d e=>by
  obtain⟨x,y,ex,ey,_⟩:=o4 e
  obtain⟨v,ev,_⟩:=d1.get ex
  obtain⟨u,eu,_⟩:=d2.get ey
  exact⟨p.uW h1,p.uW h2,v,u,ev,eu⟩
 yld:=fun H1 p i d e x H2 y=>by
  obtain⟨a,v,u,hn,rfl,ev,eu,rfl⟩:=y
  obtain⟨dx,dy,ex,ey,rfl⟩:=o4 e
  obtain⟨v',ev',dv⟩:=d1.get ex
  obtain⟨u',eu',du⟩:=d2.get ey
  rw[ev]at ev'
  rw[eu]at eu'
  cases ev'
  cases eu'
  have pp:bQ H1 (upd H1 a (.tup [v,u])):=by
   refine⟨fun b xs q=>?_,fun b o w q=>?_⟩
   ·rw[aG (fun z=>by subst z;rw[hn]at q;cases q)];exact q
   ·rw[aG (fun z=>by subst z;rw[hn]at q;cases q)];exact q
  exact⟨dW (.inl (.inl aU)) (aq.cZ ((dv.mono p).mono pp) (aq.cZ ((du.mono p).mono pp) aq.eY)),.inr ⟨a,_,hn,rfl⟩⟩
 stop:=fun H1 p i hi=>by
  rw[oZ]at hi
  have:=d1.length
  have:=d2.length
  exact⟨p.uW h1,p.uW h2,by omega⟩
 len:=by rw[oZ];have:=d1.length;omega
theorem bF.uW{K:QQq}{H:Hp}{d:D}{xs:List D}{v:V}(h:bF K H d v)(e:bw d=some xs):∃b l vs,v=.ref l/\Ln K b H l vs/\aq K H xs vs:=by
 cases d with
 |tup ys=>cases e;obtain⟨a,vs,rfl,hq,l⟩:=cF h;exact⟨false,a,vs,rfl,hq,l⟩
 |lst ys=>cases e;obtain⟨a,vs,rfl,hq,l⟩:=dC h;exact⟨true,a,vs,rfl,hq,l⟩
 |_=>cases e
section
variable{K:QQq}{W:Wi}{env:Ev}{σ:St}{H:Hp}{R:It->Hp->Prop}
theorem Y4{env1:Ev}{H1:Hp}{r:Out Rv}(h:tI K W env r σ H R)(N:Nx K env σ H env1 H1):tI K W env1 r σ H1 R:=by
 obtain⟨_,h⟩:=h
 refine⟨N.eX,?_⟩
 cases r with
 |bad=>exact h
 |exc c env2=>exact fun H' N'=>h H' (N.trans N')
 |ok x env2=>
  obtain⟨d,xs,e1,e2,z⟩:=h
  exact⟨d,xs,e1,e2,fun J H' N' G=>z J H' (N.trans N') G⟩
theorem wI{r:Out Rv}{f:D->Ev->Out Rv}{R':VK}(h:tI K W env (r.ao f) σ H R)
  (k:∀d env1 v H1,Nx K env σ H env1 H1->bF K H1 d v->tI K W env1 (f d env1) σ H1 R->R' v H1):tD K W env r σ H R':=by
 have step:∀d env1,r.ao f=f d env1->∀v H1,Nx K env σ H env1 H1->bF K H1 d v->R' v H1:=fun d env1 e v H1 N D=>by
  rw[e]at h
  exact k d env1 v H1 N D (Y4 h N)
 obtain⟨S,h⟩:=h
 refine⟨S,?_⟩
 cases r with
 |bad=>exact h
 |exc c env1=>exact h
 |ok x env1=>
  cases x with
  |val d=>exact fun v H1 N D=>step d env1 rfl v H1 N D
  |new xs=>exact fun v H1 N D=>step xs.d env1 rfl v H1 N D
  |ref i=>exact h
  |tmp xs=>exact h
end
section
variable{X:Cx}{W:Wi}{c:Cf}{m1 m2:E}{a b tg:Expr}{pos p:Pos}
theorem V5(ha:GE X W c m1 a)(hb:GE X W c m2 b)(hg:Gl X "zip")(hm:X.mg "zip"=none)(hs:starEach [a,b] X.env=[(false,eval a X.env),(false,eval b X.env)])(hs2:starEach [b] X.env=[(false,eval b X.env)]):
  GI X W c (.zip m1 m2) tg (.Call (.Name "zip" p) [a,b] [] pos):=by
 intro env QLq s σ H R I q
 simp only[GX]at q
 let RR:List V->Hp->Prop:=fun vs H'=>∃env2 d1 d2 xs ys v1 v2,vs=[v1,v2]/\bF X.K H' d1 v1/\bF X.K H' d2 v2/\bw d1=some xs/\bw d2=some ys/\Sat X.K env2 σ H'/\∀J H2,Nx X.K env2 σ H' env2 H2->Gives X.K J (aO xs ys) H2->R J H2
 have go:aD X W c m1 σ H fun v1 H1=>aD X W c m2 σ H1 fun v2 H2=>RR [v1,v2] H2:=by
  refine⟨env,wI q fun d1 env1 v1 H1 N1 D1 q1=>⟨env1,wI q1 fun d2 env2 v2 H2 N2 D2 q2=>?_⟩⟩
  cases e1:bw d1 with
  |none=>rw[e1]at q2;exact q2.2.elim
  |some xs=>
   cases e2:bw d2 with
   |none=>rw[e1,e2]at q2;exact q2.2.elim
   |some ys=>
    rw[e1,e2]at q2
    obtain⟨S,d,zs,z1,z2,z3⟩:=q2
    cases z1
    cases z2
    exact⟨env2,d1,d2,xs,ys,v1,v2,rfl,D1.mono N2.pers,D2,e1,e2,S,z3⟩
 refine wpAny_Call_Name_kw (jr I hg hm PyProof.Rows.boot_zip ?_ (by decide) (by decide))
 refine PyProof.Rows.callWith_type1 (b8 (cJ ha.d (cJ hb.d fD hs2) (by rw[hs,hs2]) pos QLq s σ H RR I go) fun us s1⟨vs,H1,I1,r1,q1⟩=>?_) (by rw[hs,hs2]) (by rw[hs2];rfl)
 obtain⟨env2,d1,d2,xs,ys,v1,v2,rfl,D1,D2,e1,e2,S2,q3⟩:=q1
 obtain⟨b1,l1,vs,rfl,h1,dl1⟩:=D1.uW e1
 obtain⟨b2,l2,ws,rfl,h2,dl2⟩:=D2.uW e2
 obtain⟨u1,u2,rfl,ru1,ru2⟩:=Vals.two r1
 cases ru1
 cases ru2
 obtain⟨its,rr1,p1,z1,lt1⟩:=Inv.uW I1 h1
 obtain⟨its2,rr2,p2,z2,lt2⟩:=Inv.uW I1 h2
 refine uB p1 p2 fun h' st sz kk=>?_
 obtain⟨f0,f1,zr,h0⟩:=st.zr
 refine ik zr ?_
 refine⟨s1.heap.objs.size+4,[s1.heap.objs.size+4,s1.heap.objs.size+2,s1.heap.objs.size+3,s1.heap.objs.size,s1.heap.objs.size+1],_,_,H1,rfl,I1.kept (t':=s1.toks) kk,jm (vs:=vs) (ws:=ws) (rZ lt1 lt2),st,fun b hb=>?_,q3 _ H1 (Nx.refl S2) (uq h1 h2 dl1 dl2 z1)⟩
 have hb':s1.heap.objs.size<=b:=by
  simp only[QCq,QAz,or_false]at hb
  rcases hb with rfl|rfl|rfl|rfl|rfl<;>omega
 exact I1.zX hb' (I1.hok.fresh hb')
end
end Mini
end
section
namespace Mini
open PySem
theorem qd{prog:Program}{w:World}{A:Around}{E:QZq}{s:Shared}{a:Addr}{xs:Array Value}{k:Nat}{sl:Array (Option Value)}{Q:Option Value->Shared->Prop}
  (hx:s.heap.get? a=some {cls:=.type "list",dict:=none,data:=.seq xs k,slots:=sl})(hA:A.handled=none)
  (h:∀h' tk,(∀b o,s.heap.get? b=some o->h'.get? b=some o)->Q none {s with heap:=h',toks:=tk}):
  wpAny (model prog w) A (getAttr? (.ref a) "keys") Q E s:=by
 obtain⟨hp,g,d,tk,os⟩:=s
 have hT:∀tk',(⟨hp,g,d,tk',os⟩:Shared).TypeIs (.ref a) "list":=fun _=>⟨_,hx,rfl⟩
 have f1:=sub_AttributeError
 have f3:=F.slot_list_getattribute.lookup
 have f4:=F.slot_list_getattribute.bind (.ref a)
 have f5:=am_list_getattr_none
 have hmiss:typeLookup (.type "list") "keys"=pure none:=am_miss_of_fast (by kernel_rfl)
 unfold getAttr? getAttrBy? getAttrBy
 repeat (any_goals (first|assumption|exact hT _|((with_reducible show wpAny _ _ (call (Value.builtin "list.__getattribute__") _ _) _ _ _);refine call_meets F.slot_list_getattribute (hT _) am_entry_list_getattribute (F.args_list_getattribute_2 _ _) (meets_getattribute_miss_list a xs k sl "keys" _ hmiss (by decide+kernel) (by size_fits)) ⟨hx,hA,fun h' tk' e hx'=>?_⟩)|wp_step))
 obtain⟨t',u',he⟩:=hx'.there
 show wpAny _ _ (getattributeRaised _ _ _ _ _ _ _) _ _ _
 unfold getattributeRaised
 repeat (any_goals (first|assumption|wp_step))
 all_goals exact h _ _ hx'.keeps
theorem oJ{prog:Program}{w:World}{A:Around}{E:QZq}{s:Shared}{a:Addr}{xs:Array Value}{k:Nat}{sl:Array (Option Value)}{Q:Option Value->Shared->Prop}
  (hx:s.heap.get? a=some {cls:=.type "tuple",dict:=none,data:=.seq xs k,slots:=sl})(hA:A.handled=none)
  (h:∀h' tk,(∀b o,s.heap.get? b=some o->h'.get? b=some o)->Q none {s with heap:=h',toks:=tk}):
  wpAny (model prog w) A (getAttr? (.ref a) "keys") Q E s:=by
 obtain⟨hp,g,d,tk,os⟩:=s
 have hT:∀tk',(⟨hp,g,d,tk',os⟩:Shared).TypeIs (.ref a) "tuple":=fun _=>⟨_,hx,rfl⟩
 have f1:=sub_AttributeError
 have f3:=F.slot_tuple_getattribute.lookup
 have f4:=F.slot_tuple_getattribute.bind (.ref a)
 have f5:=am_tuple_getattr_none
 have hmiss:typeLookup (.type "tuple") "keys"=pure none:=am_miss_of_fast (by kernel_rfl)
 unfold getAttr? getAttrBy? getAttrBy
 repeat (any_goals (first|assumption|exact hT _|((with_reducible show wpAny _ _ (call (Value.builtin "tuple.__getattribute__") _ _) _ _ _);refine call_meets F.slot_tuple_getattribute (hT _) am_entry_tuple_getattribute (F.args_tuple_getattribute_2 _ _) (meets_getattribute_miss_tuple a xs k sl "keys" _ hmiss (by decide+kernel) (by size_fits)) ⟨hx,hA,fun h' tk' e hx'=>?_⟩)|wp_step))
 obtain⟨t',u',he⟩:=hx'.there
 show wpAny _ _ (getattributeRaised _ _ _ _ _ _ _) _ _ _
 unfold getattributeRaised
 repeat (any_goals (first|assumption|wp_step))
 all_goals exact h _ _ hx'.keeps
theorem jP:typeLookup (.type "zip") "__getattr__"=pure none:=by rw[typeLookup_type,builtinLookup_eq_fast];kernel_rfl
theorem cB:Slot "zip" "__getattribute__" "zip.__getattribute__":=
 .of (owner:="zip") (n:="__getattribute__") (by rw[typeLookup_type,builtinLookup_eq_fast];kernel_rfl) (by decide+kernel) (by decide+kernel) (by decide+kernel)
  (by first|exact .inl (by decide+kernel)|exact .inr (by decide+kernel)) (by rw[isSubtype_type];kernel_rfl)
theorem f9:entryFor table "zip.__getattribute__"=some Builtin.«object.__getattribute__»:=
 entryFor_alias (id':="object.__getattribute__") (by kernel_rfl) (by decide+kernel) (by decide+kernel) (by kernel_rfl)
theorem gM(a b:Value):argsOk "zip.__getattribute__" ⟨[a,b],[]⟩:=by
 unfold argsOk;kernel_rfl
theorem fK(a:Addr)(xs:Array Value)(sl:Array (Option Value))(name:Str)(u:Tok)(hmiss:typeLookup (.type "zip") name=pure none)(hname:(["__module__","__name__","__qualname__","__doc__","__annotations__"]:List Str).contains name=false)(hsz:name.length+100<=sizeLine:=by size_fits):
  Meets (Builtin.«object.__getattribute__» ⟨[.ref a,.str name u],[]⟩) (fun A R s=>s.heap.get? a=some {cls:=.type "zip",dict:=none,data:=.fields xs,slots:=sl}/\raisesAttr (.ref a) name A R s):=
 Meets.of_wp fun prog w A R s hs=>by
  obtain⟨hp,g,d,tk,os⟩:=s
  obtain⟨hx,hs⟩:=hs
  have hT:(⟨hp,g,d,tk,os⟩:Shared).TypeIs (.ref a) "zip":=⟨_,hx,rfl⟩
  unfold Builtin.«object.__getattribute__»
  repeat (any_goals (first|assumption|wp_step))
  simp only[hname,Qxq,if_false]
  repeat (any_goals (first|assumption|wp_step))
  exact wpAny_raiseAttrError hs.1 hs.2 (attrMsg_fits (by decide+kernel) hsz)
theorem rT{prog:Program}{w:World}{A:Around}{E:QZq}{s:Shared}{a:Addr}{xs:Array Value}{sl:Array (Option Value)}{Q:Option Value->Shared->Prop}
  (hx:s.heap.get? a=some {cls:=.type "zip",dict:=none,data:=.fields xs,slots:=sl})(hA:A.handled=none)
  (h:∀h' tk,(∀b o,s.heap.get? b=some o->h'.get? b=some o)->Q none {s with heap:=h',toks:=tk}):
  wpAny (model prog w) A (getAttr? (.ref a) "keys") Q E s:=by
 obtain⟨hp,g,d,tk,os⟩:=s
 have hT:∀tk',(⟨hp,g,d,tk',os⟩:Shared).TypeIs (.ref a) "zip":=fun _=>⟨_,hx,rfl⟩
 have f1:=sub_AttributeError
 have f3:=cB.lookup
 have f4:=cB.bind (.ref a)
 have f5:=jP
 have hmiss:typeLookup (.type "zip") "keys"=pure none:=am_miss_of_fast (by kernel_rfl)
 unfold getAttr? getAttrBy? getAttrBy
 repeat (any_goals (first|assumption|exact hT _|((with_reducible show wpAny _ _ (call (Value.builtin "zip.__getattribute__") _ _) _ _ _);refine call_meets cB (hT _) f9 (gM _ _) (fK a xs sl "keys" _ hmiss (by decide+kernel) (by size_fits)) ⟨hx,hA,fun h' tk' e hx'=>?_⟩)|wp_step))
 obtain⟨t',u',he⟩:=hx'.there
 show wpAny _ _ (getattributeRaised _ _ _ _ _ _ _) _ _ _
 unfold getattributeRaised
 repeat (any_goals (first|assumption|wp_step))
 all_goals exact h _ _ hx'.keeps
end Mini
end
section
namespace Mini
open PySem L2
theorem Nx.chg{K:QQq}{env:Ev}{σ:St}{H0 H:Hp}{d:Addr}{u u':HO}(N:Nx K env σ H0 env H)(S:Sat K env σ H0)(h0:H0 d=none)(h:H d=some u)(hu:Mg u):Nx K env σ H0 env (upd H d u'):=by
 have p:=fQ (u':=u') h hu
 refine⟨N.eX.keep p fun i b w ow hb=>?_,N.sub,N.pers.trans p,fun b w q n=>?_,fun b q=>?_,N.bors⟩
 ·rw[aG (fun z=>by subst z;exact S.j8 h0 i (N.sub i b ow))];exact hb
 ·rw[aG (fun z=>by subst z;rw[h0]at q;cases q)];exact N.keep b w q n
 ·refine N.dom b ?_
  by_cases hb:b=d
  ·subst hb;rw[aU]at q;cases q
  ·rw[aG hb]at q;exact q
theorem KH{kvs:List (Key×V)}:Mg (.dK kvs):=by
 constructor
 all_goals (intros;intro z;cases z)
theorem Dm{vs:List V}:Mg (.lst vs):=by
 constructor
 all_goals (intros;intro z;cases z)
def Cx.under(X:Cx)(A:Around):Cx:={X with A:=A}
theorem Inv.under{X:Cx}{A:Around}{QLq:QQz}{σ:St}{H:Hp}{s:Shared}(I:Inv X QLq σ H s)(h1:A.handled=X.A.handled)(h2:A.frames=X.A.frames):Inv (Cx.under X A) QLq σ H s:=
 ⟨⟨I.ok.mod,I.ok.kind,I.ok.glob,I.ok.blt,I.ok.above,I.ok.inj,I.ok.has,I.ok.cab,fun hc=>h1.trans (I.ok.hd hc),h2.trans I.ok.frames,I.ok.stk,I.ok.exf,I.ok.bs,I.ok.bsz,I.ok.noex,I.ok.exfs,I.ok.kj,I.ok.frf⟩,
  I.os,I.bare,I.base,I.loc,I.cell,I.free,I.freeC,I.pin,I.hok,I.len⟩
theorem Inv.back{X:Cx}{A:Around}{QLq:QQz}{σ:St}{H:Hp}{s:Shared}(I:Inv (Cx.under X A) QLq σ H s)(h1:X.A.handled=A.handled)(h2:X.A.frames=A.frames):Inv X QLq σ H s:=
 Inv.under (X:=Cx.under X A) (A:=X.A) I h1 h2
theorem Cw{M:Model}{A:Around}{β:Type}{x:Str}{p:Pos}{it u:Value}{m:Sem β}{Q:β->Shared->Prop}{E:QZq}{s:Shared}
  (h:wpAny M A (letOwnedTupleGo (.Name x p) it u) (fun _ s=>wpAny M A m Q E s) E s):wpAny M A m Q E s:=by
 have:=QKq (f:=fun _=>m) h
 exact this
theorem iQ:entryFor table "dict.update.loop"=some Builtin.«dict.update.loop»:=entryFor_of_tree (by kernel_rfl)
theorem dB:plainId "dict.update.loop"=true:=by decide+kernel
theorem yh{ks vs r:List D}{d:D}{p:List D×List D}(h:dictOf ks vs (d::r)=some p):∃k v,d=.tup [k,v]/\keyOk k=true/\dictOf (putD k v ks vs).1 (putD k v ks vs).2 r=some p:=by
 unfold dictOf at h
 split at h
 ·rename_i e;cases e
 ·rename_i k v r' e
  cases e
  split at h
  ·rename_i hk
   exact⟨k,v,rfl,hk,h⟩
  ·cases h
 ·cases h
theorem CT{xs:List D}{i:Nat}(h:i<xs.length):∃d,xs[i]? =some d/\xs.drop i=d::xs.drop (i+1):=⟨xs[i],QXq h,List.drop_eq_getElem_cons h⟩
section
variable{X:Cx}{A:Around}{QLq:QQz}{σ τ:St}{env:Ev}{R:Result->Shared->Prop}{J:It}{fp:List Addr}{it d:Addr}{tn:Nat->Heap->Prop}{x:Str}{p:Pos}{xs ks' vs':List D}{H0 H1:Hp}
theorem Gg(hA:X.A=A.in1)(hc:X.calm=true)(T:Turn X.prog X.w X.K (.Name x p) J fp it tn)(G:Gives X.K J xs H1)(S:Sat X.K env τ H0)(h0:H0 d=none)
  (fin:∀s H,Inv X QLq σ H s->Nx X.K env τ H0 env H->jd X.K H (.dct ks' vs') d->R (.ok (.ret .none)) s):
  ∀(n i:Nat)(s:Shared)(H:Hp)(kvs:List (Key×V))(vs:List D),xs.length-i=n->Inv X QLq σ H s->(∀b∈fp,gh X QLq H b)->tn i s.heap->bQ H1 H->Nx X.K env τ H0 env H->H d=some (.dK kvs)->
   aq X.K H vs (kvs.map (·.2))->dictOf (kvs.map fun q=>cL q.1) vs (xs.drop i)=some (ks',vs')->kvs.length<=i->i<=xs.length->
   codeAny (model X.prog X.w) A (.builtin "dict.update.loop" ⟨[.ref d,.ref it,rawInt ((i:Nat):Int),.none],[]⟩) R s:=by
 intro n
 induction n with
 |zero=>
  intro i s H kvs vs hn I hf st P N hd dl ho hk hi
  refine codeAny_builtin iQ ?_
  rw[Around.under_plainId dB _,<-hA]
  show wpAny _ X.A (pyNext (.ref it)>>=_) _ _ s
  refine QKq (QGq (T.done X rfl rfl rfl hc i QLq s σ H _ I hf st (G.stop H P i (by omega))) (fun r s1 h=>?_) fun _ _ h=>h)
  obtain⟨rfl,I1⟩:=h
  rw[List.drop_eq_nil_of_le (by omega)]at ho
  cases ho
  show wpAny _ X.A (Builtin.Dict.addKeywords d []>>=_) _ _ s1
  exact QKq (QKz (QKz (fin s1 H I1 N ⟨_,hd,kvs,rfl,rfl,dl⟩)))
 |succ n ih=>
  intro i s H kvs vs hn I hf st P N hd dl ho hk hi
  have hlt:i<xs.length:=by omega
  obtain⟨dd,ed,edr⟩:=CT hlt
  rw[edr]at ho
  obtain⟨k,v,rfl,hkk,ho'⟩:=yh ho
  refine codeAny_builtin iQ ?_
  rw[Around.under_plainId dB _,<-hA]
  show wpAny _ X.A (pyNext (.ref it)>>=_) _ _ s
  refine QKq (QGq (T.item X rfl rfl rfl hc i QLq s σ H _ I hf st (G.go H P i _ ed)) (fun r s1 h=>?_) fun _ _ h=>h)
  obtain⟨u,rfl,h⟩:=h
  refine Cw (QGq h (fun _ s2 h2=>?_) fun _ _ h=>h)
  obtain⟨y,H',I',ry,yl,st',nf⟩:=h2
  obtain⟨Dy,hH⟩:=G.yld H P i _ ed y H' yl
  obtain⟨a,ws,rfl,hq,l⟩:=cF Dy
  cases ry
  obtain⟨vk,r1,rfl,Dk,l⟩:=aq.aK.mp l
  obtain⟨vv,r2,rfl,Dv,l⟩:=aq.aK.mp l
  have:=aq.bB.mp l
  subst this
  obtain⟨kk,rfl⟩:=eN hkk
  have ek:=iC Dk
  subst ek
  obtain⟨its,rr,pt,_⟩:=I'.tuple hq
  obtain⟨uk,uv,rfl,rk,rv⟩:=Vals.two rr
  obtain⟨o,eo,ec,nn,edt⟩:=pt
  have N':Nx X.K env τ H0 env H'/\bQ H H'/\H' d=some (.dK kvs):=by
   rcases hH with rfl|⟨q,ws,hq0,rfl⟩
   ·exact⟨N,bQ.refl _,hd⟩
   ·have NL:=Nx.laid (o:=.tup ws) N.eX hq0
    exact⟨N.trans NL,NL.pers,by rw[aG (fun z=>by subst z;rw[hq0]at hd;cases hd)];exact hd⟩
  obtain⟨N',PP,hd'⟩:=N'
  show wpAny _ X.A (holding [.ref a] _>>=_) _ _ s2
  refine QKq (Qqq ?_)
  refine QKq (wpAny_tryCatch ?_)
  unfold Builtin.Dict.pairItems
  have hty:s2.TypeIs (.ref a) "tuple":=⟨o,eo,ec⟩
  refine QKq (wpAny_typeOf hty ?_)
  rw[if_pos (by decide)]
  refine QKq (wpAny_seqItems eo edt (QKz ?_))
  show wpAny _ X.A (holding [uk,uv] (dictSet d uk uv)) _ _ s2
  refine Qqq ?_
  obtain⟨z,hds,vvs,rel,dd⟩:=Kp I'.hok hd'
  have hz:vvs.length<=sizeLine:=by rw[<-rel.length];exact z
  have hG:=G.len
  have hl:(putK kvs kk vv).length<=i+1:=by have:=gq kvs kk vv;omega
  refine wpAny_dictSet_pairs (hsz:=hz) (nJ rk) dd fun h' dd' hs=>?_
  have he:∃q,h'.get? d=some q:=let ⟨q,_,_,hq,_⟩:=dd';⟨q,hq⟩
  have I2:Inv X QLq σ (upd H' d (.dK (putK kvs kk vv))) {s2 with heap:=h',toks:=s2.toks+1}:=jL I' (by rw[hd'];exact True.intro) hs he (z7 (by omega) hds (rel.put kk rv) dd')
  have N2:=Nx.chg (u':=.dK (putK kvs kk vv)) N' S h0 hd' KH
  have p2:=fQ (u':=.dK (putK kvs kk vv)) hd' KH
  obtain⟨g1,g2⟩:=u6 (k:=kk) Dv (dl.mono PP)
  refine QKz ⟨plainId_quiet dB _,?_⟩
  refine ih (i+1) _ _ (putK kvs kk vv) _ (by omega) I2 (fun b hb=>?_) (T.keep _ _ _ st' fun b hb o e=>?_) ((P.trans PP).trans p2) N2 aU (g2.mono p2) ?_ hl (by omega)
  ·have nb:b≠d:=fun e=>by subst e;rw[nf b hb]at hd';cases hd'
   exact⟨by rw[aG nb];exact nf b hb,(hf b hb).2⟩
  ·have nb:b≠d:=fun e=>by subst e;rw[nf b hb]at hd';cases hd'
   exact(hs.2 b nb).trans e
  ·rw[<-g1];exact ho'
end
section
variable{X:Cx}{QLq:QQz}{σ τ:St}{env:Ev}{H:Hp}{s:Shared}{o:Addr}{ob:Obj}{T:String}{x:Str}{p:Pos}{xs:List D}{pr:List D×List D}{Q:QZq}{E:QZq}
theorem qM(hc:X.calm=true)(I:Inv X QLq σ H s)(S:Sat X.K env τ H)(ho:s.heap.get? o=some ob)(hcl:ob.cls=.type T)(hT:(T !="dict")=true)(hd:dictOf [] [] xs=some pr)
  (hkey:∀(s1:Shared)(E:QZq)(Q:Option Value->Shared->Prop),s1.heap.get? o=some ob->(∀h' tk,(∀b u,s1.heap.get? b=some u->h'.get? b=some u)->Q none {s1 with heap:=h',toks:=tk})->
   wpAny (model X.prog X.w) X.A.in1.in1 (getAttr? (.ref o) "keys") Q E s1)
  (hit:∀(s1:Shared)(u:HO)(E:QZq)(Q:QZq),Inv (Cx.under X X.A.in1.in1) QLq σ (upd H s.heap.objs.size u) s1->Nx X.K env τ H env (upd H s.heap.objs.size u)->(∀b u,s.heap.get? b=some u->s1.heap.get? b=some u)->
   (∀s2 it fp tn J,Inv (Cx.under X X.A.in1.in1) QLq σ (upd H s.heap.objs.size u) s2->Turn X.prog X.w X.K (.Name x p) J fp it tn->tn 0 s2.heap->(∀b∈fp,gh X QLq (upd H s.heap.objs.size u) b)->Gives X.K J xs (upd H s.heap.objs.size u)->Q (.ref it) s2)->
   wpAny (model X.prog X.w) X.A.in1.in1 (pyIter (.ref o)) Q E s1)
  (h:∀a s' H',Inv X QLq σ H' s'->Nx X.K env τ H env H'->jd X.K H' (.dct pr.1 pr.2) a->H a=none->Q (.ref a) s'):
  wpAny (model X.prog X.w) X.A (call (.type "dict") [.ref o]) Q E s:=by
 refine callType_codes (Q₁:=fun obj s₁=>obj=.ref s.heap.objs.size/\s₁={s with heap:=s.heap.push {cls:=.type "dict",data:=.dict #[]}}) PySem.F.kt_called_dict (PySem.F.kt_typeCall_dict_1 _) PySem.F.entry_dict_init (kt_code_dict_new _ ⟨rfl,rfl⟩) ?_
 rintro obj s₁ ⟨rfl,rfl⟩
 have hnew:(s.heap.push {cls:=.type "dict",data:=.dict #[]}).DictOf (bN X.prog X.w) s.heap.objs.size []:=Heap.DictOf.new s.heap
 have k1:∀b u,s.heap.get? b=some u->(s.heap.push {cls:=.type "dict",data:=.dict #[]}).get? b=some u:=fun _ _ q=>QWq _ q
 have hfr:H s.heap.objs.size=none:=I.hok.fresh (QVz _)
 have I1:=I.laid (a:=s.heap.objs.size) (o:=.dK []) (h':=s.heap.push {cls:=.type "dict",data:=.dict #[]}) (t':=s.toks) k1 (QVz _) (ye s.heap I.big)
 have N1:=Nx.laid (o:=.dK []) S hfr
 refine⟨hnew.typeIs,PySem.F.args_dict_init_2 _ _,?_⟩
 unfold Builtin.«dict.__init__»
 refine QKq ?_
 unfold Builtin.Dict.selfAndRest
 refine QKq (wpAny_notOrdered_dict hnew.typeIs ?_)
 show wpAny _ _ (pure (s.heap.objs.size,[Value.ref o])) _ _ _
 refine QKz ?_
 show wpAny _ _ (Builtin.Dict.updateFrom "dict.__init__" s.heap.objs.size (.ref o) [] .none) _ _ _
 unfold Builtin.Dict.updateFrom
 have hty:(⟨s.heap.push {cls:=.type "dict",data:=.dict #[]},s.gens,s.drawn,s.toks,s.os⟩:Shared).TypeIs (.ref o) T:=⟨ob,k1 o ob ho,hcl⟩
 refine QKq (wpAny_typeOf hty ?_)
 have ht:((Value.type T) !=(Value.type "dict"))=true:=by
  have:T≠"dict":=by simpa using hT
  simpa using this
 rw[if_pos ht]
 refine QKq (hkey _ _ _ (k1 o ob ho) fun h2 tk k2=>?_)
 simp only[Option.isNone_none,if_true]
 refine QKq (wpAny_rule ?_)
 have I2:Inv X QLq σ _ {s with heap:=h2,toks:=tk}:=I1.kept (t':=tk) k2
 refine QKq (hit _ _ _ _ (Inv.under I2 rfl rfl) N1 (fun b u q=>k2 b u (k1 b u q)) fun s3 it fp tn J I3 Tn st hf G=>?_)
 refine QKq (QKz (QKz ⟨plainId_quiet dB _,?_⟩))
 refine Gg (X:=Cx.under X X.A.in1.in1) (A:=X.A.in1) rfl hc Tn G S hfr (fun s4 H4 I4 N4 O4=>?_) xs.length 0 s3 _ [] [] rfl I3 hf st (bQ.refl _) N1 aU aq.eY hd (QVz _) (QIq _)
 exact⟨rfl,h _ s4 H4 (Inv.back I4 rfl rfl) N4 O4 hfr⟩
end
end Mini
end
section
namespace Mini
open PySem L2
theorem yH:typeLookup (.type "zip") "__len__"=pure none:=by rw[typeLookup_type,builtinLookup_eq_fast];kernel_rfl
theorem wu:typeLookup (.type "zip") "__length_hint__"=pure none:=by rw[typeLookup_type,builtinLookup_eq_fast];kernel_rfl
section
variable{X:Cx}{A:Around}{QLq:QQz}{σ τ:St}{env:Ev}{R:Result->Shared->Prop}{J:It}{fp:List Addr}{it d:Addr}{tn:Nat->Heap->Prop}{x:Str}{p:Pos}{xs:List D}{H0 H1:Hp}
theorem Inv.ZZ{H:Hp}{s:Shared}{vs:List V}{y:V}{u:Value}{Q:Unit->Shared->Prop}{E:QZq}{A:Around}(I:Inv X QLq σ H s)(hd:H d=some (.lst vs))(ry:RelV y u)(hz:vs.length<sizeLine)
  (h:∀h',(∀b o,b≠d->s.heap.get? b=some o->h'.get? b=some o)->Inv X QLq σ (upd H d (.lst (vs++[y]))) {s with heap:=h'}->Q () {s with heap:=h'}):
  wpAny (model X.prog X.w) A (updateSeq d (·.push u)) Q E s:=by
 obtain⟨z,its,n,r,e⟩:=(show bU X.prog X.w H s.heap d (.lst vs)from I.hok d _ hd)
 have hl:=r.length
 refine wpAny_updateSeq e rfl ?_ (by show its.toArray.size<=_;rw[Qyq];omega) (by show(its.toArray.push u).size<=_;rw[Array.size_push,Qyq];omega)
 have es:=Heap.get?_update_self (Obj.mapSeq (·.push u)) e rfl
 have oth:∀b o,b≠d->s.heap.get? b=some o->(s.heap.update d (Obj.mapSeq (·.push u))).get? b=some o:=fun b o hb q=>(Heap.get?_update_other _ _ (Ne.symm hb)).trans q
 refine h _ oth (I.write (t':=s.toks) (x:=d) (e:=d) (o:=.lst (vs++[y])) (by rw[hd];exact True.intro) (.inl rfl) (fun b q hb z=>oth b q hb z) ⟨_,es⟩ ?_)
 have ea:(its++[u]).toArray=its.toArray.push u:=by simp
 exact⟨by simp;omega,its++[u],_,Vals.append r (.cons ry .nil),by rw[ea];exact es⟩
theorem Fo(hA:X.A=A.in1)(hc:X.calm=true)(T:Turn X.prog X.w X.K (.Name x p) J fp it tn)(G:Gives X.K J xs H1)(S:Sat X.K env τ H0)(h0:H0 d=none)
  (fin:∀s H,Inv X QLq σ H s->Nx X.K env τ H0 env H->jd X.K H (.lst xs) d->R (.ok (.ret .none)) s):
  ∀(n i:Nat)(s:Shared)(H:Hp)(vs:List V),xs.length-i=n->Inv X QLq σ H s->(∀b∈fp,gh X QLq H b)->tn i s.heap->bQ H1 H->Nx X.K env τ H0 env H->H d=some (.lst vs)->
   aq X.K H (xs.take i) vs->i<=xs.length->
   codeAny (model X.prog X.w) A (.builtin "list.extend.loop" ⟨[.ref d,.ref it,.none],[]⟩) R s:=by
 intro n
 induction n with
 |zero=>
  intro i s H vs hn I hf st P N hd dl hi
  refine codeAny_builtin PySem.F.entry_extend_loop ?_
  rw[Around.under_plainId PySem.F.plain_extend_loop _,<-hA]
  show wpAny _ X.A (pyNext (.ref it)>>=_) _ _ s
  refine QKq (QGq (T.done X rfl rfl rfl hc i QLq s σ H _ I hf st (G.stop H P i (by omega))) (fun r s1 h=>?_) fun _ _ h=>h)
  obtain⟨rfl,I1⟩:=h
  rw[List.take_of_length_le (by omega)]at dl
  exact QKz (fin s1 H I1 N ⟨_,hd,vs,rfl,dl⟩)
 |succ n ih=>
  intro i s H vs hn I hf st P N hd dl hi
  have hlt:i<xs.length:=by omega
  obtain⟨dd,ed,edr⟩:=CT hlt
  refine codeAny_builtin PySem.F.entry_extend_loop ?_
  rw[Around.under_plainId PySem.F.plain_extend_loop _,<-hA]
  show wpAny _ X.A (pyNext (.ref it)>>=_) _ _ s
  refine QKq (QGq (T.item X rfl rfl rfl hc i QLq s σ H _ I hf st (G.go H P i _ ed)) (fun r s1 h=>?_) fun _ _ h=>h)
  obtain⟨u,rfl,h⟩:=h
  refine Cw (QGq h (fun _ s2 h2=>?_) fun _ _ h=>h)
  obtain⟨y,H',I',ry,yl,st',nf⟩:=h2
  obtain⟨Dy,hH⟩:=G.yld H P i _ ed y H' yl
  have N':Nx X.K env τ H0 env H'/\bQ H H'/\H' d=some (.lst vs):=by
   rcases hH with rfl|⟨q,ws,hq0,rfl⟩
   ·exact⟨N,bQ.refl _,hd⟩
   ·have NL:=Nx.laid (o:=.tup ws) N.eX hq0
    exact⟨N.trans NL,NL.pers,by rw[aG (fun z=>by subst z;rw[hq0]at hd;cases hd)];exact hd⟩
  obtain⟨N',PP,hd'⟩:=N'
  have hG:=G.len
  have lv:=dl.length
  rw[List.length_take]at lv
  show wpAny _ X.A (updateSeq d (·.push u)>>=_) _ _ s2
  refine QKq (Inv.ZZ I' hd' ry (by omega) fun h' oth I2=>?_)
  have N2:=Nx.chg (u':=.lst (vs++[y])) N' S h0 hd' Dm
  have p2:=fQ (u':=.lst (vs++[y])) hd' Dm
  refine QKz ⟨plainId_quiet PySem.F.plain_extend_loop _,?_⟩
  refine ih (i+1) _ _ (vs++[y]) (by omega) I2 (fun b hb=>?_) (T.keep _ _ _ st' fun b hb o e=>?_) ((P.trans PP).trans p2) N2 aU ?_ (by omega)
  ·have nb:b≠d:=fun e=>by subst e;rw[nf b hb]at hd';cases hd'
   exact⟨by rw[aG nb];exact nf b hb,(hf b hb).2⟩
  ·have nb:b≠d:=fun e=>by subst e;rw[nf b hb]at hd';cases hd'
   exact oth b o nb e
  ·have:xs.take (i+1)=xs.take i++[dd]:=by rw[List.take_add_one,ed];rfl
   rw[this]
   exact((dl.mono PP).append (aq.cZ Dy aq.eY)).mono p2
end
section
variable{X:Cx}{QLq:QQz}{σ τ:St}{env:Ev}{H:Hp}{s:Shared}{o:Addr}{ob:Obj}{x:Str}{p:Pos}{xs:List D}{Q:QZq}{E:QZq}
theorem Aj(hc:X.calm=true)(I:Inv X QLq σ H s)(S:Sat X.K env τ H)(ho:s.heap.get? o=some ob)(hcl:ob.cls=.type "zip")
  (hself:∀(s1:Shared)(E:QZq)(Q:QZq),(∀b u,s.heap.get? b=some u->s1.heap.get? b=some u)->Q (.ref o) s1->wpAny (model X.prog X.w) X.A.in1.in1 (pyIter (.ref o)) Q E s1)
  (hit:∀(s1:Shared)(u:HO),Nx X.K env τ H env (upd H s.heap.objs.size u)->(∀b u,s.heap.get? b=some u->s1.heap.get? b=some u)->
   ∃fp tn J,Turn X.prog X.w X.K (.Name x p) J fp o tn/\tn 0 s1.heap/\(∀b∈fp,gh X QLq (upd H s.heap.objs.size u) b)/\Gives X.K J xs (upd H s.heap.objs.size u))
  (h:∀a s' H',Inv X QLq σ H' s'->Nx X.K env τ H env H'->jd X.K H' (.lst xs) a->H a=none->Q (.ref a) s'):
  wpAny (model X.prog X.w) X.A (call (.type "list") [.ref o]) Q E s:=by
 refine callType_codes (Q₁:=fun obj s₁=>obj=.ref s.heap.objs.size/\s₁={s with heap:=s.heap.push {cls:=.type "list",data:=.seq #[]}}) PySem.F.called_list (PySem.F.typeCall_list_1 _) PySem.F.entry_list_init
  (code_list_new _ ⟨rfl,rfl⟩) fun obj s₁ h₁=>?_
 obtain⟨rfl,rfl⟩:=h₁
 have k1:∀b u,s.heap.get? b=some u->(s.heap.push {cls:=.type "list",data:=.seq #[]}).get? b=some u:=fun _ _ q=>QWq _ q
 have hS:(s.heap.push {cls:=.type "list",data:=.seq #[]}).get? s.heap.objs.size=some {cls:=.type "list",data:=.seq #[]}:=Qzq _ rfl
 have hfr:H s.heap.objs.size=none:=I.hok.fresh (QVz _)
 have hne:s.heap.objs.size≠o:=fun e=>absurd (Qqz ho) (by rw[e];exact Nat.lt_irrefl _)
 have oth:∀(f:Array Value->Array Value)(h':Heap)b u,b≠s.heap.objs.size->h'.get? b=some u->(h'.update s.heap.objs.size (Obj.mapSeq f)).get? b=some u:=
  fun f h' b u hb e=>(Heap.get?_update_other _ _ (Ne.symm hb)).trans e
 have old:∀b u,s.heap.get? b=some u->b≠s.heap.objs.size:=fun b u e=>Qvz (Qqz e)
 refine⟨⟨_,hS,rfl⟩,PySem.F.args_list_init_2 _ _,?_⟩
 show wpAny _ X.A.in1.in1 (do let old<-Builtin.List.listItems (.ref s.heap.objs.size);Builtin.List.listUpdate (.ref s.heap.objs.size) (fun _=> #[]);letGo old.toList.reverse;Builtin.List.listExtendWith (.ref s.heap.objs.size) (.ref o) .none) _ _ _
 refine QKq ?_
 unfold Builtin.List.listItems
 refine QKq (wpAny_seqItems hS rfl (QKz ?_))
 show wpAny _ X.A.in1.in1 (updateSeq s.heap.objs.size (fun _=> #[])>>=fun _=>letGo (#[]:Array Value).toList.reverse>>=fun _=>Builtin.List.listExtendWith (.ref s.heap.objs.size) (.ref o) .none) _ _ _
 refine QKq (wpAny_updateSeq hS rfl ?_)
 have hS₂:=Heap.get?_update_self (Obj.mapSeq (fun _=>(#[]:Array Value))) hS rfl
 have k2:∀b u,s.heap.get? b=some u->((s.heap.push {cls:=.type "list",data:=.seq #[]}).update s.heap.objs.size (Obj.mapSeq (fun _=>(#[]:Array Value)))).get? b=some u:=fun b u e=>oth _ _ b u (old b u e) (k1 b u e)
 refine QKq (wpAny_letGo ?_)
 unfold Builtin.List.listExtendWith
 have hty:(⟨(s.heap.push {cls:=.type "list",data:=.seq #[]}).update s.heap.objs.size (Obj.mapSeq (fun _=>(#[]:Array Value))),s.gens,s.drawn,s.toks,s.os⟩:Shared).TypeIs (.ref o) "zip":=⟨ob,k2 o ob ho,hcl⟩
 refine QKq (wpAny_typeOf hty ?_)
 have h1:Builtin.List.listSameRef (.ref s.heap.objs.size) (.ref o)=false:=by simp[Builtin.List.listSameRef,hne]
 have h2:(Value.type "zip"==Value.type "list")=false:=by decide
 have h3:(Value.type "zip"==Value.type "tuple")=false:=by decide
 simp only[h1,h2,h3,Bool.or_false,Qxq,if_false]
 refine QKq (hself _ _ _ k2 ?_)
 refine QKq (Qqq ?_)
 unfold Builtin.List.listLengthHint
 refine QKq (wpAny_specialOf hty yH ?_)
 show wpAny _ X.A.in1.in1 (specialOf (Value.ref o) (Str.ofString "__length_hint__")>>=_) _ _ _
 refine QKq (wpAny_specialOf hty wu ?_)
 refine QKz ?_
 show wpAny _ X.A.in1.in1 (rule "list.extend.makes-room">>=fun _=>Builtin.List.listTouch (.ref s.heap.objs.size)>>=fun _=>
  again (.builtin "list.extend.loop" ⟨[.ref s.heap.objs.size,.ref o,.none],[]⟩)) _ _ _
 refine QKq (wpAny_rule ?_)
 refine QKq ?_
 show wpAny _ X.A.in1.in1 (updateSeq s.heap.objs.size (·.push .none)>>=fun _=>updateSeq s.heap.objs.size (·.pop)) _ _ _
 refine QKq (wpAny_updateSeq hS₂ rfl ?_)
 have hS₃:=Heap.get?_update_self (Obj.mapSeq (·.push Value.none)) hS₂ rfl
 refine wpAny_updateSeq (hz:=by seq_fits) hS₃ rfl ?_
 have hS₄:=Heap.get?_update_self (Obj.mapSeq (·.pop)) hS₃ rfl
 have k4:∀b u,s.heap.get? b=some u->((((s.heap.push {cls:=.type "list",data:=.seq #[]}).update s.heap.objs.size (Obj.mapSeq (fun _=>(#[]:Array Value)))).update s.heap.objs.size (Obj.mapSeq (·.push Value.none))).update s.heap.objs.size (Obj.mapSeq (·.pop))).get? b=some u:=
  fun b u e=>oth _ _ b u (old b u e) (oth _ _ b u (old b u e) (k2 b u e))
 have I1:=I.laid (a:=s.heap.objs.size) (o:=.lst []) (t':=s.toks) k4 (QVz _) ⟨QIq _,[],_,.nil,hS₄⟩
 have N1:=Nx.laid (o:=.lst []) S hfr
 obtain⟨fp,tn,J,Tn,st,hf,G⟩:=hit {s with heap:=_} _ N1 k4
 refine QKz ⟨plainId_quiet PySem.F.plain_extend_loop _,?_⟩
 refine Fo (X:=Cx.under X X.A.in1.in1) (A:=X.A.in1) rfl hc Tn G S hfr (fun s4 H4 I4 N4 O4=>?_) xs.length 0 _ _ [] rfl (Inv.under I1 rfl rfl) hf st (bQ.refl _) N1 aU aq.eY (QIq _)
 exact⟨rfl,h _ s4 H4 (Inv.back I4 rfl rfl) N4 O4 hfr⟩
end
end Mini
end
section
namespace Mini
open PySem L2
theorem Gives.mono{K:QQq}{J:It}{xs:List D}{H H':Hp}(g:Gives K J xs H)(p:bQ H H'):Gives K J xs H':=
 ⟨fun H1 q=>g.go H1 (p.trans q),fun H1 q=>g.yld H1 (p.trans q),fun H1 q=>g.stop H1 (p.trans q),g.len⟩
theorem Inv.QC{X:Cx}{E:QZq}{QLq:QQz}{σ:St}{H:Hp}{s:Shared}(I:Inv X QLq σ H s):Inv {X with xe:=E} QLq σ H s:=
 ⟨⟨I.ok.mod,I.ok.kind,I.ok.glob,I.ok.blt,I.ok.above,I.ok.inj,I.ok.has,I.ok.cab,I.ok.hd,I.ok.frames,I.ok.stk,I.ok.exf,I.ok.bs,I.ok.bsz,I.ok.noex,I.ok.exfs,I.ok.kj,I.ok.frf⟩,
  I.os,I.bare,I.base,I.loc,I.cell,I.free,I.freeC,I.pin,I.hok,I.len⟩
theorem Inv.unE{X:Cx}{E:QZq}{QLq:QQz}{σ:St}{H:Hp}{s:Shared}(I:Inv {X with xe:=E} QLq σ H s):Inv X QLq σ H s:=Inv.QC (X:={X with xe:=E}) (E:=X.xe) I
theorem Inv.seqObj{X:Cx}{QLq:QQz}{σ:St}{H:Hp}{s:Shared}{b:Bool}{l:Addr}{vs:List V}(I:Inv X QLq σ H s)(h:Ln X.K b H l vs):
  ∃(its:Array Value)(k:Nat)(sl:Array (Option Value)),s.heap.get? l=some {cls:=.type (if b then "list" else "tuple"),dict:=none,data:=.seq its k,slots:=sl}:=by
 cases b with
 |true=>
  obtain⟨its,r,⟨o,n,e,c,d,dt⟩,z⟩:=I.list (Lw.sq h)
  obtain⟨oc,od,odt,os⟩:=o
  simp only at c d dt
  subst c d dt
  exact⟨_,_,_,e⟩
 |false=>
  obtain⟨its,r,⟨o,e,c,d,n,dt⟩,z⟩:=I.yN h
  obtain⟨oc,od,odt,os⟩:=o
  simp only at c d dt
  subst c d dt
  exact⟨_,_,_,e⟩
theorem vy{d:D}{xs:List D}(h:bw d=some xs):items d=some xs:=by
 cases d<;>simp[bw]at h<;>simp[items,h]
def Ri(K:QQq):List V->Hp->VK->Prop:=fun us H Q=>∃env τ v d xs pr,us=[v]/\Sat K env τ H/\bF K H d v/\bw d=some xs/\dictOf [] [] xs=some pr/\
 ∀a H',Nx K env τ H env H'->jd K H' (.dct pr.1 pr.2) a->H a=none->Q (.ref a) H'
section
variable{X:Cx}{W:Wi}{c:Cf}{m m1 m2:E}{a b e:Expr}{pos p p':Pos}
theorem Ak(hc:X.calm=true):fJ X (.type "dict") (Ri X.K):=by
 intro QLq s σ H us ws Q I r h
 obtain⟨env,τ,v,d,xs,pr,rfl,S,Dv,es,hd,q⟩:=h
 obtain⟨u,rfl,ru⟩:=vals1 r
 obtain⟨bb,l,vs,rfl,hq,dl⟩:=Dv.uW es
 cases ru
 obtain⟨its,k,sl,eo⟩:=Inv.seqObj I hq
 refine qM (x:=("_":Str)) (p:=(default:Pos)) hc I S eo rfl (by cases bb<;>decide) hd (fun s1 E Q e1 k1=>?_) (fun s1 u E Q I1 N1 k1 hQ=>?_) fun a s' H' I' N' O' h'=>⟨.ref a,H',I',rfl,q a H' N' O' h'⟩
 ·cases bb with
  |true=>exact qd e1 (I.ok.hd hc) k1
  |false=>exact oJ e1 (I.ok.hd hc) k1
 ·refine QGq (JL (X:={(Cx.under X X.A.in1.in1)with xe:=E}) (tg:=.Name ("_":Str) (default:Pos)) (d:=d) (xs:=xs) (R:=fun J H'=>Gives X.K J xs H'/\H'=upd H s.heap.objs.size u) (Inv.QC I1) (show RelV (.ref l) (.ref l)from rfl) (Dv.mono N1.pers) (vy es) fun J g=>⟨g,rfl⟩) (fun v2 s2 h2=>?_) fun _ _ h=>h
  obtain⟨it,fp,tn,J,H',rfl,I2,T,st,hf,g,rfl⟩:=h2
  exact hQ s2 it fp tn J (Inv.unE I2) T st hf g
theorem Kr{env:Ev}{σ:St}{H:Hp}{Q:VK}(hv:m.aC=none)(q:tM X.K W env (ev c (.bi .dict m) env) σ H Q):aD X W c m σ H fun v H1=>Ri X.K [v] H1 Q:=by
 simp only[mj,hv]at q
 refine⟨env,aQ q fun d env1 v H1 N1 D1 q1=>?_⟩
 obtain⟨z,ez,S,q3⟩:=cD q1
 simp only[b1]at ez
 cases es:bw d with
 |none=>rw[es]at ez;cases ez
 |some xs=>
  rw[es]at ez
  simp only[QHq,LQ]at ez
  cases ed:dictOf [] [] xs with
  |none=>rw[ed]at ez;cases ez
  |some pr=>
   rw[ed]at ez
   cases ez
   exact⟨env1,σ,v,d,xs,pr,rfl,S,D1,es,ed,fun a H' N O h0=>q3 _ H' N ⟨a,rfl,O,h0⟩⟩
theorem PX(hc:X.calm=true)(ha:GE X W c m a)(hv:m.aC=none)(hg:Gl X "dict")(hm:X.mg "dict"=none)(hs:starEach [a] X.env=[(false,eval a X.env)]):
  GE X W c (.bi .dict m) (.Call (.Name "dict" p) [a] [] pos):=fun env=>
 PE.imp (mK (Ak hc) hg hm PyProof.Rows.boot_dict (cJ ha.d fD hs) (by decide) (by decide) hs rfl) fun σ H Q h=>Kr hv h
structure afa(X:Cx)(W:Wi)(QLq:QQz)(σ:St)(Q:VK)(f:D->Ev->Out Rv)(v:Value)(s:Shared):Prop where
 go:∃z TI TO i1 i2 b1 b2 l1 l2 vs ws xs ys env H,v=.ref z/\Inv X QLq σ H s/\yz z TI TO i1 i2 b1 b2 l1 l2 0 s.heap/\ZipApart z TI TO i1 i2 l1 l2/\(∀b∈[z,TI,TO,i1,i2],gh X QLq H b)/\
  Gives X.K (Itz X.K b1 b2 l1 l2 vs ws) (aO xs ys) H/\tM X.K W env (f (.lst (aO xs ys)) env) σ H Q
theorem ww{env:Ev}{QLq:QQz}{s:Shared}{σ:St}{H:Hp}{Q:VK}{f:D->Ev->Out Rv}(ha:GE X W c m1 a)(hb:GE X W c m2 b)(hg:Gl X "zip")(hm:X.mg "zip"=none)
  (hs:starEach [a,b] X.env=[(false,eval a X.env),(false,eval b X.env)])(hs2:starEach [b] X.env=[(false,eval b X.env)])(I:Inv X QLq σ H s)(q:tM X.K W env ((ev c (.zip m1 m2) env).ao f) σ H Q):
  wpAny (model X.prog X.w) X.A (eval (.Call (.Name "zip" p) [a,b] [] pos) X.env) (afa X W QLq σ Q f) X.xe s:=by
 simp only[GX]at q
 let RR:List V->Hp->Prop:=fun vs H'=>∃env2 d1 d2 xs ys v1 v2,vs=[v1,v2]/\bF X.K H' d1 v1/\bF X.K H' d2 v2/\bw d1=some xs/\bw d2=some ys/\tM X.K W env2 (f (.lst (aO xs ys)) env2) σ H' Q
 have asc:∀(o:Out Rv)(g:D->Ev->Out Rv),(o.ao g).ao f=o.ao fun d e=>(g d e).ao f:=fun o g=>by
  cases o with
  |ok x e=>cases x<;>rfl
  |exc c e=>rfl
  |bad=>rfl
 rw[asc]at q
 have go:aD X W c m1 σ H fun v1 H1=>aD X W c m2 σ H1 fun v2 H2=>RR [v1,v2] H2:=by
  refine⟨env,aQ q fun d1 env1 v1 H1 N1 D1 q1=>⟨env1,?_⟩⟩
  rw[asc]at q1
  refine aQ q1 fun d2 env2 v2 H2 N2 D2 q2=>?_
  cases e1:bw d1 with
  |none=>rw[e1]at q2;exact q2.2.elim
  |some xs=>
   cases e2:bw d2 with
   |none=>rw[e1,e2]at q2;exact q2.2.elim
   |some ys=>
    rw[e1,e2]at q2
    exact⟨env2,d1,d2,xs,ys,v1,v2,rfl,D1.mono N2.pers,D2,e1,e2,q2⟩
 refine wpAny_Call_Name_kw (jr I hg hm PyProof.Rows.boot_zip ?_ (by decide) (by decide))
 refine PyProof.Rows.callWith_type1 (b8 (cJ ha.d (cJ hb.d fD hs2) (by rw[hs,hs2]) pos QLq s σ H RR I go) fun us s1⟨vs,H1,I1,r1,q1⟩=>?_) (by rw[hs,hs2]) (by rw[hs2];rfl)
 obtain⟨env2,d1,d2,xs,ys,v1,v2,rfl,D1,D2,e1,e2,q3⟩:=q1
 obtain⟨b1,l1,vs,rfl,h1,dl1⟩:=D1.uW e1
 obtain⟨b2,l2,ws,rfl,h2,dl2⟩:=D2.uW e2
 obtain⟨u1,u2,rfl,ru1,ru2⟩:=Vals.two r1
 cases ru1
 cases ru2
 obtain⟨its,rr1,p1,z1,lt1⟩:=Inv.uW I1 h1
 obtain⟨its2,rr2,p2,z2,lt2⟩:=Inv.uW I1 h2
 refine uB p1 p2 fun h' st sz kk=>?_
 refine⟨s1.heap.objs.size+4,s1.heap.objs.size+2,s1.heap.objs.size+3,s1.heap.objs.size,s1.heap.objs.size+1,b1,b2,l1,l2,vs,ws,xs,ys,env2,H1,rfl,I1.kept (t':=s1.toks) kk,st,rZ lt1 lt2,fun b hb=>?_,uq h1 h2 dl1 dl2 z1,q3⟩
 have hb':s1.heap.objs.size<=b:=by
  simp only[QCq,QAz,or_false]at hb
  rcases hb with rfl|rfl|rfl|rfl|rfl<;>omega
 exact I1.zX hb' (I1.hok.fresh hb')
theorem yz.lt{z TI TO i1 i2:Addr}{b1 b2:Bool}{l1 l2:Addr}{k:Nat}{h:Heap}(st:yz z TI TO i1 i2 b1 b2 l1 l2 k h):∀b∈[z,TI,TO,i1,i2],b<h.objs.size:=by
 intro b hb
 obtain⟨f0,f1,zr,_⟩:=st.zr
 obtain⟨x,y,to⟩:=st.to
 simp only[QCq,QAz,or_false]at hb
 rcases hb with rfl|rfl|rfl|rfl|rfl
 ·exact Qqz zr
 ·exact Qqz st.ti
 ·exact Qqz to
 ·exact st.it1.lt
 ·exact st.it2.lt
theorem zV{q1 q2:Pos}(hc:X.calm=true)(ha:GE X W c m1 a)(hb:GE X W c m2 b)(hg:Gl X "zip")(hm:X.mg "zip"=none)
  (hs:starEach [a,b] X.env=[(false,eval a X.env),(false,eval b X.env)])(hs2:starEach [b] X.env=[(false,eval b X.env)])(hg':Gl X "dict")(hm':X.mg "dict"=none)
  (hs':starEach [.Call (.Name "zip" q1) [a,b] [] q2] X.env=[(false,eval (.Call (.Name "zip" q1) [a,b] [] q2) X.env)]):
  GE X W c (.bi .dict (.zip m1 m2)) (.Call (.Name "dict" p) [.Call (.Name "zip" q1) [a,b] [] q2] [] pos):=by
 intro env QLq s σ H Q I q
 simp only[mj,E.aC]at q
 refine wpAny_Call_Name_kw (jr I hg' hm' PyProof.Rows.boot_dict ?_ (by decide) (by decide))
 refine PyProof.Rows.callWith_type1 ?_ hs' rfl
 rw[hs']
 refine Calls.spliced_cons (b8 (ww ha hb hg hm hs hs2 I (by simpa only[mj]using q)) fun u s1 h1=>Calls.spliced_nil ?_)
 obtain⟨z,TI,TO,i1,i2,b1,b2,l1,l2,vs,ws,xs,ys,env1,H1,rfl,I1,st,ap,hf,G,q1⟩:=h1.go
 obtain⟨r,er,S,q3⟩:=cD q1
 simp only[Mini.b1,bw,QHq,LQ]at er
 cases ed:dictOf [] [] (aO xs ys)with
 |none=>rw[ed]at er;cases er
 |some pr=>
  rw[ed]at er
  cases er
  obtain⟨f0,f1,zr,h0⟩:=st.zr
  refine qM (x:=("_":Str)) (p:=(default:Pos)) hc I1 S zr rfl (by decide) ed (fun s2 E Q e1 k1=>rT e1 (I1.ok.hd hc) k1) (fun s2 u E Q I2 N2 k2 hQ=>?_)
   fun a s' H' I' N' O' h'=>⟨.ref a,H',I',rfl,q3 _ H' N' ⟨a,rfl,O',h'⟩⟩
  refine ik (k2 _ _ zr) (hQ s2 z [z,TI,TO,i1,i2] _ _ I2 (jm (vs:=vs) (ws:=ws) ap) ((jm (P:=X.prog) (w:=X.w) (K:=X.K) (tg:=.Name ("_":Str) (default:Pos)) (vs:=vs) (ws:=ws) ap).keep 0 _ _ st fun b _ o e=>k2 b o e) (fun b hb=>⟨?_,(hf b hb).2⟩) (G.mono N2.pers))
  rw[aG (Qvz (st.lt b hb))]
  exact(hf b hb).1
theorem zU{q1 q2:Pos}(hc:X.calm=true)(ha:GE X W c m1 a)(hb:GE X W c m2 b)(hg:Gl X "zip")(hm:X.mg "zip"=none)
  (hs:starEach [a,b] X.env=[(false,eval a X.env),(false,eval b X.env)])(hs2:starEach [b] X.env=[(false,eval b X.env)])(hg':Gl X "list")(hm':X.mg "list"=none)
  (hs':starEach [.Call (.Name "zip" q1) [a,b] [] q2] X.env=[(false,eval (.Call (.Name "zip" q1) [a,b] [] q2) X.env)]):
  GE X W c (.bi .list (.zip m1 m2)) (.Call (.Name "list" p) [.Call (.Name "zip" q1) [a,b] [] q2] [] pos):=by
 intro env QLq s σ H Q I q
 simp only[mj,E.aC]at q
 refine wpAny_Call_Name_kw (jr I hg' hm' PyProof.Rows.boot_list ?_ (by decide) (by decide))
 refine PyProof.Rows.callWith_type1 ?_ hs' rfl
 rw[hs']
 refine Calls.spliced_cons (b8 (ww ha hb hg hm hs hs2 I (by simpa only[mj]using q)) fun u s1 h1=>Calls.spliced_nil ?_)
 obtain⟨z,TI,TO,i1,i2,b1,b2,l1,l2,vs,ws,xs,ys,env1,H1,rfl,I1,st,ap,hf,G,q1⟩:=h1.go
 obtain⟨r,er,S,q3⟩:=cD q1
 simp only[Mini.b1,bw,QHq,LQ]at er
 cases er
 obtain⟨f0,f1,zr,h0⟩:=st.zr
 refine Aj (x:=("_":Str)) (p:=(default:Pos)) hc I1 S zr rfl (fun s2 E Q k2 hQ=>ik (k2 _ _ zr) hQ) (fun s2 u N2 k2=>?_)
  fun a s' H' I' N' O' h'=>⟨.ref a,H',I',rfl,q3 _ H' N' ⟨a,rfl,O',h'⟩⟩
 refine⟨[z,TI,TO,i1,i2],_,_,jm (vs:=vs) (ws:=ws) ap,(jm (P:=X.prog) (w:=X.w) (K:=X.K) (tg:=.Name ("_":Str) (default:Pos)) (vs:=vs) (ws:=ws) ap).keep 0 _ _ st fun b _ o e=>k2 b o e,fun b hb=>⟨?_,(hf b hb).2⟩,G.mono N2.pers⟩
 rw[aG (Qvz (st.lt b hb))]
 exact(hf b hb).1
end
end Mini
end
section
namespace Mini
open PySem L2
section
variable{prog:Program}{w:World}{A:Around}{E:QZq}{s:Shared}
theorem v4{a b:Bool}{Q:QZq}(h:Q (.bool (!a&&b)) s):wpAny (model prog w) A (call (.builtin "int.__lt__") [.bool a,.bool b]) Q E s:=by
 refine Qzz PySem.F.slot_bool_lt (PyProof.Rows.typeIs_bool' s a) PySem.F.entry_int_lt ?_ (PySem.F.args_int_lt_2 _ _)
 have e:(decide ((if a=true then(1:Int)else 0)< (if b=true then(1:Int)else 0)))=(!a&&b):=by cases a<;>cases b<;>rfl
 have g:=PyProof.Rows.gives_int_lt_bools a b
 show wpAny _ _ (ret (.bool (decide ((if a=true then(1:Int)else 0)< (if b=true then(1:Int)else 0))))) _ _ s
 rw[e]
 exact QKz ⟨_,rfl,h⟩
theorem xn{a b:Bool}{Q:Bool->Shared->Prop}(h:Q (!a&&b) s):wpAny (model prog w) A (PyProof.Rows.oneLt' true (.bool a) (.bool b)) Q E s:=by
 rw[PyProof.Rows.oneLt'_eq]
 simp only[if_true]
 refine QKq (wpAny_cRoomFor_byValue rfl ?_)
 refine QKq (wpAny_callSpecialIfBound?_slot (PyProof.Rows.typeIs_bool' s a) PySem.F.slot_bool_lt (v4 ?_))
 exact wpAny_truthy_bool h
theorem zA{c a b:Bool}{Q:Bool->Shared->Prop}(h:Q (!a&&b) s):wpAny (model prog w) A (PyProof.Rows.oneLt' c (.bool a) (.bool b)) Q E s:=by
 cases c with
 |true=>exact xn h
 |false=>exact PySem.W.kat_one _ _ (show wpAny (model prog w) A (richCompare .Lt (.bool a) (.bool b)) _ _ s from tu A s a b prog w _ _ h)
theorem uh{b fin:Bool}{Q:Bool->Shared->Prop}{nx ny:Nat}:∀{vs ws:List Value}{ns ms:List Bool}(i:Nat),BoolsAre vs ns->BoolsAre ws ms->ns.length+ny=ms.length+nx->fin=decide (nx<ny)->Q (iW ns ms) s->
  PySem.W.KatLex prog w A b fin Q (vs.zip ws) i s
 |_,_,_,_,i,.nil,hw=>fun hl hf h=>by
  rw[List.zip_nil_left]
  refine PySem.W.kat_nil ?_
  cases hw with
  |nil=>rw[BZ]at h;rw[hf];simp at hl;rw[QEz (by omega)];exact h
  |cons c hw=>rw[Ca]at h;rw[hf];simp at hl;rw[QFq (by omega)];exact h
 |_,_,_,_,i,.cons a hv,.nil=>fun hl hf h=>by
  rw[List.zip_nil_right]
  refine PySem.W.kat_nil ?_
  rw[Cd]at h
  rw[hf]
  simp at hl
  rw[QEz (by omega)]
  exact h
 |_,_,_,_,i,.cons a hv,.cons c hw=>fun hl hf h=>by
  rw[List.zip_cons_cons]
  rw[uc]at h
  simp only[QBq]at hl
  refine PySem.W.kat_cons (SeqAt.EqAt.bool_bool (A:=A) (s:=s) a c prog w _ _ ?_)
  by_cases hac:a=c
  ·subst hac
   rw[if_pos rfl]at h
   rw[beq_self_eq_true]
   exact PySem.W.kat_yes (uh (i+1) hv hw (by omega) hf h)
  ·rw[if_neg hac]at h
   rw[beq_eq_false_iff_ne.mpr hac]
   exact PySem.W.kat_no (zA h)
theorem xO{b:Bool}{x y:Addr}{xs ys:Array Value}{ns ms:List Bool}{Q:Bool->Shared->Prop}(hx:∃o n,s.heap.get? x=some o/\o.data=.seq xs n)(hy:∃o n,s.heap.get? y=some o/\o.data=.seq ys n)(bx:BoolsAre xs.toList ns)(by':BoolsAre ys.toList ms)
  (h:Q (iW ns ms) s):wpAny (model prog w) A (PyProof.Rows.keyLt' (PyProof.Rows.tuples' b) (.ref x) (.ref y)) Q E s:=by
 obtain⟨ox,nx,ex,dx⟩:=hx
 obtain⟨oy,ny,ey,dy⟩:=hy
 have l1:=bx.length
 have l2:=by'.length
 simp at l1 l2
 exact PySem.W.kat_lt ex dx ey dy (uh (nx:=xs.size) (ny:=ys.size) 0 bx by' (by omega) rfl h)
end
end Mini
end
section
namespace Mini
open PySem L2 PyProof.Rows
section
variable{prog:Program}{w:World}{A:Around}{E:QZq}{s:Shared}
theorem vp{a:Addr}{vs out:List Value}{n:Nat}{P:PySem.Fin->Shared->Prop}(ho:s.heap.get? a=some (seqObj "list" vs.toArray n))(h64:vs.length<64)(hl:out.length=vs.length)
  (h1:vs.length<2->out=vs)
  (h2:2<=vs.length->∀h':Heap,(∀b o,b≠a->s.heap.get? b=some o->h'.get? b=some o)->wpAny (model prog w) A (keyKind' vs.toArray) (fun κ s'=>s'={s with heap:=h'}/\
   (PySem.W.kas_sort vs.length).kasWp (PySem.W.kas_ask prog w A κ vs) (fun p s''=>s''={s with heap:=h'}/\(p.toList.map fun i=>vs.getD i Value.none)=out) s') (fun _ _=>False) {s with heap:=h'})
  (h:P (.done (.ret .none)) {s with heap:=sortedHeap s.heap a vs out.toArray}):
  wpAny (model prog w) A (Builtin.«list.sort» ⟨[.ref a],[]⟩) P E s:=by
 rw[list_sort_plain]
 have ha:a<s.heap.objs.size:=Qqz ho
 have hz:vs.length<=sizeLine:=by rw[sizeLine_eq];omega
 refine QKq (listItems_at ho rfl ?_)
 refine QKq (listUpdate_at ho rfl ?_ (by rw[Qyq];exact hz) (QIq _))
 obtain⟨e1,ho1⟩:∃e1,(s.heap.update a (Obj.mapSeq fun _=> #[])).get? a=some (seqObj "list" #[] e1):=⟨_,get?_update_seq ho (fun _=> #[])⟩
 refine QKq (seqEpoch_at ho1 rfl ?_)
 refine QKq (wpAny_newTuple ?_ (by show vs.length<=_;exact hz))
 refine QKq (wpAny_newList ?_ (QIq _))
 refine Qqq ?_
 have ho6:(((s.heap.update a (Obj.mapSeq fun _=> #[])).push (seqObj "tuple" vs.toArray 0)).push (seqObj "list" #[] 0)).get? a=some (seqObj "list" #[] e1):=by
  rw[Heap.get?_push_ne _ _ _ (by rw[size_push',Heap.size_update];exact Qvz (Nat.lt_succ_of_lt ha)),Heap.get?_push_ne _ _ _ (by rw[Heap.size_update];exact Qvz ha)]
  exact ho1
 have kp:∀b o,b≠a->s.heap.get? b=some o->(((s.heap.update a (Obj.mapSeq fun _=> #[])).push (seqObj "tuple" vs.toArray 0)).push (seqObj "list" #[] 0)).get? b=some o:=fun b o hb e=>
  QWq _ (QWq _ ((Heap.get?_update_other _ _ (Ne.symm hb)).trans e))
 show wpAny (model prog w) A _ P E {s with heap:=((s.heap.update a (Obj.mapSeq fun _=> #[])).push (seqObj "tuple" vs.toArray 0)).push (seqObj "list" #[] 0)}
 dsimp only
 by_cases hn:vs.toArray.size<2
 ·rw[if_pos hn,if_pos hn]
  refine QKq (QKz ?_)
  rw[StateT.run_pure]
  refine QKq (QKz ?_)
  dsimp only
  have em:(arrOf (SortSt.mk' general' (vs.toArray.zip vs.toArray) #[] 7 none)).map (·.2)=out.toArray:=by
   rw[h1 (by simpa using hn)]
   show(vs.toArray.zip vs.toArray).map (·.2)=_
   apply Array.toList_inj.mp
   simp[List.map_snd_zip]
  refine QKq (seqEpoch_at ho6 rfl ?_)
  rw[em]
  refine QKq (listUpdate_at ho6 rfl ?_ (QIq _) (by show out.toArray.size<=_;rw[Qyq];omega))
  simp only[bne_self_eq_false,Qxq,if_false]
  exact QKz h
 ·rw[if_neg hn,if_neg hn]
  have hn2:2<=vs.length:=by simpa using hn
  refine QKq (QGq (h2 hn2 _ kp) (fun κ s0 hk=>?_) fun _ _ x=>x.elim)
  obtain⟨rfl,hk⟩:=hk
  refine QKq (QGq (PySem.W.kat_run (Q:=fun st' s'=>∃p:Array Nat,arrOf st'=p.map (PySem.W.kas_item (vs.toArray.zip vs.toArray))/\failedOf st'=none/\s'={s with heap:=((s.heap.update a (Obj.mapSeq fun _=> #[])).push (seqObj "tuple" vs.toArray 0)).push (seqObj "list" #[] 0)}/\(p.toList.map fun i=>vs.getD i Value.none)=out)
   rfl hn2 h64 (fun p' st' s' a1 a2 a3 a4=>⟨p',a2,a3,a4.1,a4.2⟩) hk) ?_ fun _ _ e=>e)
  rintro ⟨⟨⟩,st'⟩ s' ⟨p,har,hf,rfl,hp⟩
  dsimp only
  have em:(arrOf st').map (·.2)=out.toArray:=by rw[PySem.W.kat_snds rfl har,hp]
  refine QKq (seqEpoch_at ho6 rfl ?_)
  rw[em]
  refine QKq (listUpdate_at ho6 rfl ?_ (QIq _) (by show out.toArray.size<=_;rw[Qyq];omega))
  rw[hf]
  simp only[bne_self_eq_false,Qxq,if_false]
  exact QKz h
theorem sH{l:Addr}{vs out:List Value}{Q:QZq}(hls:s.heap.IsList l vs.toArray)(h64:vs.length<64)(hl:out.length=vs.length)(h1:vs.length<2->out=vs)
  (h2:2<=vs.length->∀h':Heap,(∀b o,s.heap.get? b=some o->h'.get? b=some o)->wpAny (model prog w) A.in1.in1 (keyKind' vs.toArray) (fun κ s'=>s'={s with heap:=h'}/\
   (PySem.W.kas_sort vs.length).kasWp (PySem.W.kas_ask prog w A.in1.in1 κ vs) (fun p s''=>s''={s with heap:=h'}/\(p.toList.map fun i=>vs.getD i Value.none)=out) s') (fun _ _=>False) {s with heap:=h'})
  (h:Q (.ref (s.heap.objs.size+1)) {s with heap:=sortedAll s.heap vs out.toArray}):
  wpAny (model prog w) A (call (.builtin "sorted") [.ref l]) Q E s:=by
 refine Calls.call_function_entry kind_sorted plain_sorted entry_sorted (args_sorted1 _) ?_
 unfold Builtin.«sorted»
 have hz:vs.length<=sizeLine:=by rw[sizeLine_eq];omega
 refine QKq (m:=checkCount "sorted" 1 1 _) (QKz ?_)
 refine QKq (collect_list hls ?_ hz)
 refine QKq (wpAny_newList ?_ hz)
 have hsz:((s.heap.push (seqObj "list" #[] 0)).update s.heap.objs.size (Obj.mapSeq (· ++vs.toArray))).objs.size=s.heap.objs.size+1:=by
  rw[Heap.size_update,size_push']
 have hoL:(((s.heap.push (seqObj "list" #[] 0)).update s.heap.objs.size (Obj.mapSeq (· ++vs.toArray))).push (seqObj "list" vs.toArray 0)).get? (s.heap.objs.size+1)=some (seqObj "list" vs.toArray 0):=by
  rw[<-hsz];exact Qzq _ rfl
 have keep:∀b o,s.heap.get? b=some o->(((s.heap.push (seqObj "list" #[] 0)).update s.heap.objs.size (Obj.mapSeq (· ++vs.toArray))).push (seqObj "list" vs.toArray 0)).get? b=some o:=fun b o q=>by
  have hlt:b<s.heap.objs.size:=Qqz q
  rw[Heap.get?_push_ne _ _ _ (by rw[hsz];exact Qvz (Nat.lt_succ_of_lt hlt)),Heap.get?_update_ne _ _ _ _ (Qvz hlt),Heap.get?_push_ne _ _ _ (Qvz hlt)]
  exact q
 show wpAny _ _ _ _ _ {s with heap:=((s.heap.push (seqObj "list" #[] 0)).update s.heap.objs.size (Obj.mapSeq (· ++vs.toArray))).push (seqObj "list" vs.toArray 0)}
 rw[hsz]
 refine QKq (Qqq (Qzz slot_list_sort ⟨_,hoL,rfl⟩ entry_list_sort (vp hoL h64 hl h1 (fun hn h' kp=>?_) ⟨_,rfl,?_⟩) (args_list_sort _)))
 ·exact h2 hn h' fun b o e=>kp b o (Qvz (Nat.lt_succ_of_lt (Qqz e))) (keep b o e)
 ·exact QKz ⟨_,rfl,h⟩
theorem qe{α:Type}{cmp:Nat->Nat->(Bool->Shared->Prop)->Shared->Prop}{f:Nat->Nat->Option Bool}{Q:α->Shared->Prop}{a:α}(hc:∀i j b(C:Bool->Shared->Prop),f i j=some b->C b s->cmp i j C s):
  ∀(t:PySem.W.KasT α),Hx f t=some a->Q a s->t.kasWp cmp Q s
 |.ret x,e,q=>by cases e;exact q
 |.ask i j k,e,q=>by
  simp only[Hx]at e
  cases z:f i j with
  |none=>rw[z]at e;cases e
  |some b=>rw[z]at e;exact hc i j b _ z (qe hc (k b) e q)
end
end Mini
end
section
namespace Mini
open PySem L2
inductive fG(h:Heap):List Value->List (List Bool)->Prop
 |nil:fG h [] []
 |cons {a:Addr} {o:Obj} {arr:Array Value} {n:Nat} {b:Bool} {bs:List Bool} {vs:List Value} {rs:List (List Bool)}:h.get? a=some o->o.cls=.type "tuple"->o.data=.seq arr n->BoolsAre arr.toList (b::bs)->fG h vs rs->fG h (.ref a::vs) ((b::bs)::rs)
theorem fG.mono{h h':Heap}(k:∀b o,h.get? b=some o->h'.get? b=some o):∀{vs:List Value}{rs:List (List Bool)},fG h vs rs->fG h' vs rs
 |_,_,.nil=>.nil
 |_,_,.cons e c d b r=>.cons (k _ _ e) c d b (fG.mono k r)
theorem fG.tups{h:Heap}:∀{vs:List Value}{rs:List (List Bool)},fG h vs rs->∃fs,PySem.W.KatTups h vs fs/\fs.length=vs.length/\∀v∈fs,∃b,v=.bool b
 |_,_,.nil=>⟨[],PySem.W.KatTups.nil,rfl,fun v z=>nomatch z⟩
 |_,_,.cons (b:=b) e c d bb r=>by
  obtain⟨fs,t,l,f⟩:=r.tups
  have h0:∃x,(‹Array Value›)[0]? =some x/\x=.bool b:=by
   rename_i arr _ _ _ _
   cases q:arr.toList with
   |nil=>rw[q]at bb;cases bb
   |cons x xs=>
    rw[q]at bb
    cases bb
    refine⟨.bool b,?_,rfl⟩
    have:arr=(Value.bool b::xs).toArray:=by rw[<-q]
    rw[this]
    rfl
  obtain⟨x,hx,rfl⟩:=h0
  refine⟨.bool b::fs,PySem.W.KatTups.cons e c d hx t,by simp[l],fun v z=>?_⟩
  rcases QCq.mp z with rfl|z
  ·exact⟨b,rfl⟩
  ·exact f v z
theorem fG.at{h:Heap}:∀{vs:List Value}{rs:List (List Bool)},fG h vs rs->∀{i:Nat}{r:List Bool},rs[i]? =some r->∃a o arr n,vs.getD i Value.none=.ref a/\h.get? a=some o/\o.data=.seq arr n/\BoolsAre arr.toList r
 |_,_,.cons e c d b t,0,r,q=>by cases q;exact⟨_,_,_,_,rfl,e,d,b⟩
 |_,_,.cons e c d b t,i+1,r,q=>by
  obtain⟨a,o,arr,n,z⟩:=t.at (i:=i) (r:=r) (by simpa using q)
  exact⟨a,o,arr,n,by simpa using z⟩
theorem qO{K:QQq}{H:Hp}:∀{ys:List D}{bs:List Bool}{vs:List V}{us:List Value},bools ys=some bs->aq K H ys vs->Vals vs us->BoolsAre us bs
 |[],bs,vs,us,e,d,v=>by
  cases e
  rw[aq.bB.mp d]at v
  cases v
  exact .nil
 |y::ys,bs,vs,us,e,d,v=>by
  obtain⟨w,ws,rfl,h1,h2⟩:=aq.aK.mp d
  cases v with
  |cons r t=>
   cases y with
   |bl b=>
    simp only[bools]at e
    cases q:bools ys with
    |none=>rw[q]at e;cases e
    |some bs'=>
     rw[q]at e
     cases e
     cases h1
     cases r
     exact .cons b (qO q h2 t)
   |_=>simp[bools]at e
theorem Bo{X:Cx}{QLq:QQz}{σ:St}{H:Hp}{s:Shared}(I:Inv X QLq σ H s):∀{xs:List D}{rs:List (List Bool)}{vs:List V}{us:List Value},iK xs=some rs->aq X.K H xs vs->Vals vs us->fG s.heap us rs
 |[],rs,vs,us,e,d,v=>by
  cases e
  rw[aq.bB.mp d]at v
  cases v
  exact .nil
 |y::ys,rs,vs,us,e,d,v=>by
  obtain⟨w,ws,rfl,h1,h2⟩:=aq.aK.mp d
  cases v with
  |cons r t=>
   cases y with
   |tup zs=>
    simp only[iK]at e
    cases q:bools zs with
    |none=>rw[q]at e;cases e
    |some bs=>
     cases bs with
     |nil=>rw[q]at e;cases e
     |cons b bs=>
      rw[q]at e
      simp only at e
      cases q2:iK ys with
      |none=>rw[q2]at e;cases e
      |some rs'=>
       rw[q2]at e
       cases e
       obtain⟨a,us',rfl,hq,l⟩:=cF h1
       cases r
       obtain⟨its,rr,⟨o,eo,c,n,dt⟩,_⟩:=I.tuple hq
       exact .cons eo c dt (by simpa using qO q l rr) (Bo I q2 h2 t)
   |_=>simp[iK]at e
theorem nO{K:QQq}{H:Hp}{xs:List D}{vs:List V}{us:List Value}(d:aq K H xs vs)(v:Vals vs us):∀{is:List Nat}{ys:List D},qt xs is=some ys->∃ws,aq K H ys ws/\Vals ws (is.map fun i=>us.getD i Value.none)
 |[],ys,e=>by cases e;exact⟨[],aq.eY,.nil⟩
 |i::is,ys,e=>by
  simp only[qt]at e
  cases q:xs[i]? with
  |none=>rw[q]at e;cases e
  |some x=>
   rw[q]at e
   simp only[QHq]at e
   cases q2:qt xs is with
   |none=>rw[q2]at e;cases e
   |some ys'=>
    rw[q2]at e
    cases e
    obtain⟨ws,h1,h2⟩:=nO d v q2
    obtain⟨w,ew,dw⟩:=d.get q
    obtain⟨u,eu,ru⟩:=v.get ew
    refine⟨w::ws,aq.cZ dw h1,?_⟩
    rw[Qyz]
    have:us.getD i Value.none=u:=by simp[List.getD,eu]
    rw[this]
    exact .cons ru h2
theorem cW.aef{K:QQq}{H:Hp}{xs:List D}{v:V}(h:cW K H (.lst xs) v):∃a vs,v=.ref a/\iH K H a vs/\aq K H xs vs:=by
 rcases h with h|⟨o,a,q,rfl,u,ha,hq⟩
 ·obtain⟨a,vs,rfl,hq,l⟩:=dC h
  exact⟨a,vs,rfl,hq.sq,l⟩
 ·cases o<;>cases q
  obtain⟨vs,rfl,l⟩:=hq
  exact⟨a,vs,rfl,.inl (.inl ha),l⟩
def Ra(K:QQq):List V->Hp->VK->Prop:=fun us H Q=>∃l vs xs ys,us=[.ref l]/\iH K H l vs/\aq K H xs vs/\nG xs=some ys/\∀ws,aq K H ys ws->∀a,H a=none->Q (.ref a) (upd H a (.lst ws))
section
variable{X:Cx}
theorem vY:fJ X (.builtin "sorted") (Ra X.K):=by
 intro QLq s σ H us ws Q I r h
 obtain⟨l,vs,xs,ys,rfl,hq,dl,es,q⟩:=h
 obtain⟨u,rfl,ru⟩:=vals1 r
 cases ru
 obtain⟨its,rr,pl,hz⟩:=I.list hq
 have lx:=dl.length
 have lv:=rr.length
 have fin:∀(zs:List V)(out:List Value),aq X.K H ys zs->Vals zs out->out.length<=sizeLine->EP X QLq σ Q (.ref (s.heap.objs.size+1)) {s with heap:=PyProof.Rows.sortedAll s.heap its out.toArray}:=fun zs out d v lz=>by
  obtain⟨e,ea⟩:=PyProof.Rows.sortedAll_at s.heap its out.toArray
  exact⟨.ref (s.heap.objs.size+1),_,I.laid (t':=s.toks) (fun b o x=>PyProof.Rows.sortedAll_old x) (Nat.le_succ _) (show bU X.prog X.w _ _ _ (.lst zs)from⟨by rw[v.length];exact lz,out,e,v,ea⟩),rfl,q zs d _ (I.hok.fresh (Nat.le_succ _))⟩
 unfold nG at es
 by_cases h1:xs.length<2
 ·rw[if_pos h1]at es
  cases es
  exact sH pl.isList (by omega) rfl (fun _=>rfl) (fun z=>absurd z (by omega)) (fin vs its dl rr (by omega))
 ·rw[if_neg h1]at es
  by_cases h64:xs.length<64
  ·rw[if_pos h64]at es
   unfold abm at es
   cases e1:iK xs with
   |none=>
    rw[e1]at es
    cases es
   |some rs=>
    rw[e1]at es
    simp only[QHq]at es
    cases e2:Hx (Qp rs) (PySem.W.kas_sort xs.length)with
    |none=>rw[e2]at es;cases es
    |some p=>
     rw[e2]at es
     simp only[QHq]at es
     by_cases e3:p.size=xs.length
     ·rw[if_pos e3]at es
      obtain⟨zs,d,v⟩:=nO dl rr es
      have RA:=Bo I e1 dl rr
      have lo:(p.toList.map fun i=>its.getD i Value.none).length=its.length:=by rw[QAq,Array.length_toList];omega
      refine sH pl.isList (by omega) lo (fun z=>absurd z (by omega)) (fun _ h' kp=>?_) (fin zs _ d v (by omega))
      have RA':=RA.mono kp
      obtain⟨fs,t,lf,fb⟩:=RA'.tups
      refine PySem.W.kat_kind (T:=.type "bool") t (by omega) (fun v hv=>?_) (by decide) ⟨rfl,?_⟩
      ·obtain⟨b,rfl⟩:=fb v hv
       exact PySem.W.Looks.of_pure rfl
      ·have el:its.length=xs.length:=by omega
       rw[el]
       refine qe (f:=Qp rs) (fun i j b C e c=>?_) _ e2 ⟨rfl,rfl⟩
       unfold Qp at e
       cases ei:rs[i]? with
       |none=>rw[ei]at e;cases e
       |some ri=>
        cases ej:rs[j]? with
        |none=>rw[ei,ej]at e;cases e
        |some rj=>
         rw[ei,ej]at e
         cases e
         obtain⟨ai,oi,arri,ni,x1,x2,x3,x4⟩:=RA'.at ei
         obtain⟨aj,oj,arrj,nj,y1,y2,y3,y4⟩:=RA'.at ej
         show wpAny _ _ (PyProof.Rows.keyLt' _ (its.getD i Value.none) (its.getD j Value.none)) _ _ _
         rw[x1,y1]
         exact xO ⟨oi,ni,x2,x3⟩ ⟨oj,nj,y2,y3⟩ x4 y4 c
     ·rw[if_neg e3]at es;cases es
  ·rw[if_neg h64]at es;cases es
theorem yW:oN X (Ra X.K) (b1 .sorted):=by
 intro env σ H x z v Q S Dx e q
 simp only[b1]at e
 cases x with
 |lst xs=>
  simp only[iM,QHq,LQ]at e
  cases es:nG xs with
  |none=>rw[es]at e;cases e
  |some ys=>
   rw[es]at e
   cases e
   obtain⟨a,vs,rfl,hq,l⟩:=Dx.aef
   exact⟨a,vs,xs,ys,rfl,hq,l,es,fun ws d p hp=>q _ _ (Nx.laid S hp) (jF S d hp)⟩
 |_=>simp[iM]at e
end
end Mini
end
section
namespace Mini
open PySem L2
section
variable{X:Cx}{W:Wi}{c:Cf}{m m1 m2 m3:E}{e a b:Expr}{pos:Pos}
theorem Wb{k:Nat}{x:Str}(nm:je X k x):GE X W c (.ref k) (.Name x pos):=by
 intro env
 refine PE.imp nm.pe fun σ H Q q=>?_
 simp only[G3]at q
 have go:∀o,(env[k]? =some (.own o)\/env[k]? =some (.bor o))->tM X.K W env (.ok (.ref k) env) σ H Q->Hg k σ H Q:=fun o e q=>by
  have:∃a,(σ[k]?).join=some (.ref a):=by
   rcases e with e|e
   ·obtain⟨a,z,_⟩:=q.1.sl k _ e;exact⟨a,z⟩
   ·obtain⟨a,z,_⟩:=q.1.sl k _ e;exact⟨a,z⟩
  obtain⟨a,z⟩:=this
  exact⟨.ref a,bW z,q.2 _ H (Nx.refl q.1) (bW z)⟩
 cases e:env[k]? with
 |none=>rw[e]at q;exact q.2.elim
 |some s=>
  rw[e]at q
  cases s with
  |un=>exact q.2.elim
  |val d=>exact q.2.elim
  |own o=>exact go o (.inl e) q
  |bor o=>exact go o (.inr e) q
theorem V9(h:GE X W c m e):GE X W c (.tmp m) e:=by
 intro env
 refine PE.imp (h env) fun σ H Q q=>?_
 simp only[Mx]at q
 refine⟨q.1,?_⟩
 have q2:=q.2
 cases r:ev c m env with
 |bad=>rw[r]at q2;exact q2
 |exc k env1=>rw[r]at q2;exact q2
 |ok x env1=>
  rw[r]at q2
  cases x with
  |val d=>exact False.elim q2
  |ref i=>exact False.elim q2
  |tmp o=>exact False.elim q2
  |new o=>exact q2
theorem Hh{K:QQq}{env:Ev}{σ:St}{H:Hp}{r:Out Rv}{f:Bool->Ev->Out Rv}{Q R:Bool->Hp->Prop}(h:tT K W env (r.cu gC f) σ H Q)
  (k:∀b env1 H1,Nx K env σ H env1 H1->tT K W env1 (f b env1) σ H1 Q->R b H1):tT K W env r σ H R:=by
 have step:∀d env1 x,x.jb=some d->r=.ok x env1->∃b,gC d=some b/\∀H1,Nx K env σ H env1 H1->R b H1:=fun d env1 x ex er=>by
  subst er
  cases q:gC d with
  |none=>
   cases x with
   |val d'=>cases ex;simp only[Out.cu,Out.ao,q]at h;exact h.2.elim
   |new xs=>cases ex;simp only[Out.cu,Out.ao,q]at h;exact h.2.elim
   |ref i=>cases ex
   |tmp xs=>cases ex
  |some b=>
   refine⟨b,rfl,fun H1 N=>k b env1 H1 N (QZ ?_ N)⟩
   cases x with
   |val d'=>cases ex;simp only[Out.cu,Out.ao,q]at h;exact h
   |new xs=>cases ex;simp only[Out.cu,Out.ao,q]at h;exact h
   |ref i=>cases ex
   |tmp xs=>cases ex
 refine⟨h.1,?_⟩
 cases r with
 |bad=>exact h.2
 |exc c env1=>exact h.2
 |ok x env1=>
  cases x with
  |val d=>obtain⟨b,e,q⟩:=step d env1 _ rfl rfl;exact⟨d,b,rfl,e,q⟩
  |new xs=>obtain⟨b,e,q⟩:=step xs.d env1 _ rfl rfl;exact⟨xs.d,b,rfl,e,q⟩
  |ref i=>exact h.2.elim
  |tmp xs=>exact h.2.elim
theorem VP{t:Expr}(ht:GT X W c m1 t)(ha:GT X W c m2 a)(hb:GT X W c m3 b):GT X W c (.ite m1 m2 m3) (.IfExp t a b pos):=by
 intro QLq s σ H Q I ⟨env,q⟩
 have e:∀w,isTrue (.IfExp t a b pos) X.env w=(isTrue t X.env (eval t X.env)>>=fun q=>if q=true then isTrue a X.env (eval a X.env)else isTrue b X.env (eval b X.env)):=fun w=>by first|rfl|rw[PySem.isTrue]|simp only[PySem.isTrue]
 rw[e]
 simp only[G4]at q
 refine QKq (b8 (ht QLq s σ H (fun k H1=>∃env1,tT X.K W env1 (if k=true then ev c m2 env1 else ev c m3 env1) σ H1 Q) I ⟨env,Hh q fun k env1 H1 N q1=>⟨env1,q1⟩⟩) fun k s1⟨H1,I1,env1,q1⟩=>?_)
 cases k with
 |true=>rw[if_pos rfl]at q1⊢;exact ha QLq s1 σ H1 Q I1 ⟨env1,q1⟩
 |false=>rw[if_neg Qjz]at q1⊢;exact hb QLq s1 σ H1 Q I1 ⟨env1,q1⟩
end
end Mini
end
section
namespace Mini
open PySem L2
section
variable{X:Cx}{W:Wi}{c:Cf}{m m1 m2 m3:E}{o a b e:Expr}{pos p p2 apos cpos:Pos}{name:Str}
end
end Mini
end
section
namespace Mini
open PySem L2
section
variable{X:Cx}{W:Wi}{c:Cf}{m m1 m2 m3:E}{o a b e f:Expr}{pos p apos cpos:Pos}
theorem PQ(hu:X.A.units+1<cLine)(M:M2 X o "get" apos e f cpos)(hd:GE X W c m1 o)(hk:GE X W c m2 e)(hx:GE X W c m3 f):GE X W c (.get2 m1 m2 m3) (.Call (.Attribute o "get" apos) [e,f] [] cpos):=by
 intro env
 refine PE.imp (Iw hu hd.d hk.d hx.d M) fun σ H Q q=>?_
 simp only[ac7]at q
 refine⟨env,aQ q fun d env1 v H1 N1 D1 q1=>?_⟩
 cases d with
 |cC ks ds=>
  simp only[jU,Bool.not_true,Qxq,if_false]at q1
  unfold bF at D1
  obtain⟨a,ob,kvs,rfl,ha,rfl,l⟩:=D1
  refine⟨a,rfl,.inl ⟨kvs,.inr ⟨ob,ha⟩⟩,env1,aQ q1 fun k env2 y H2 N2 D2 q2=>⟨env2,aQ q2 fun x env3 z H3 N3 D3 q3=>?_⟩⟩
  obtain⟨r,er,S,q4⟩:=cD q3
  have P:=N2.pers.trans N3.pers
  simp only[uw]at er
  split at er
  ·rename_i hk
   cases er
   obtain⟨kk,rfl⟩:=eN hk
   have ek:=iC D2
   subst ek
   refine⟨gR kvs kk,.inl ⟨kvs,kk,.inr ⟨ob,P.frzs _ _ _ ha⟩,rfl,rfl⟩,q4 _ H3 (Nx.refl S) ?_⟩
   show bF _ _ _ _
   cases e1:cN (cL kk) (kvs.map fun p=>cL p.1) ds with
   |some d=>
    obtain⟨w,e2,e3⟩:=mR kk e1 l
    rw[e2]
    exact e3.mono P
   |none=>
    have n:=jC (kvs:=kvs) kk
    have e4:∀{ks vs:List D},vs.length=ks.length->cN (cL kk) ks vs=none->aW (cL kk) ks=false:=by
     intro ks
     induction ks with
     |nil=>intro vs _ _;rfl
     |cons k' ks ih=>
      intro vs hl h
      cases vs with
      |nil=>simp at hl
      |cons v vs=>
       simp only[cN]at h
       split at h
       ·cases h
       ·rename_i ne
        simp[aW,ne,ih (by simpa using hl) h]
    rw[e4 (by have:=l.length;simpa using this) e1]at n
    have e5:gR kvs kk=none:=by
     cases e6:gR kvs kk with
     |none=>rfl
     |some w=>rw[e6]at n;cases n
    rw[e5]
    exact D3
  ·cases er
 |_=>exact q1.2.elim
def aA(X:Cx)(W:Wi)(c:Cf)(m:E):TE:=fun σ H Q=>∃env,tA X.K W env (ev c m env) σ H Q
inductive Kv(X:Cx)(W:Wi)(c:Cf):E->List (Option Expr)->List Expr->List (TE×TE)->Prop
 |nil:Kv X W c .nil [] [] []
 |cons {k v r:E} {ke ve:Expr} {ks:List (Option Expr)} {vs:List Expr} {km:List (TE×TE)}:GE X W c k ke->GE X W c v ve->Kv X W c r ks vs km->Kv X W c (.cons k (.cons v r)) (some ke::ks) (ve::vs) ((aA X W c k,aA X W c v)::km)
theorem wG{K:QQq}{env:Ev}{σ:St}{H:Hp}{R:List V->Hp->Prop}{Q:VK}(q:Q3 K W env (evs c (.cons m1 m2) env) σ H R)(k:∀v H1 env1,Q3 K W env1 (evs c m2 env1) σ H1 (fun vs H2=>R (v::vs) H2)->Q v H1):tA K W env (ev c m1 env) σ H Q:=by
 obtain⟨S,q⟩:=q
 refine⟨S,?_⟩
 simp only[evs]at q
 cases r:ev c m1 env with
 |bad=>rw[r]at q;exact q.elim
 |exc k env1=>rw[r]at q;exact q
 |ok x env1=>
  rw[r]at q
  intro v H1 N1 k1
  refine k v H1 env1 ⟨N1.eX,?_⟩
  simp only[Out.bind]at q
  cases r2:evs c m2 env1 with
  |bad=>rw[r2]at q;exact q.elim
  |exc k env2=>rw[r2]at q;exact fun H2 N2=>q H2 (N1.trans N2)
  |ok xs env2=>
   rw[r2]at q
   intro vs H2 N2 k2
   exact q (v::vs) H2 (N1.trans N2) ⟨v,vs,rfl,k1.on S N1 N2,k2.weaken N1.dom⟩
def jl:List (V×V)->List V
 |[]=>[]
 |p::r=>p.1::p.2::jl r
theorem j0:∀{a b:List (V×V)},jl a=jl b->a=b
 |[],[]=>fun _=>rfl
 |[],_::_=>fun h=>by cases h
 |_::_,[]=>fun h=>by cases h
 |(x,y)::a,(x',y')::b=>fun h=>by
  simp only[jl,List.cons.injEq]at h
  obtain⟨rfl,rfl,h⟩:=h
  rw[j0 h]
theorem Kv.pps{es:E}{ks:List (Option Expr)}{vs:List Expr}{km:List (TE×TE)}(h:Kv X W c es ks vs km):PPs X pos ks vs km:=by
 induction h with
 |nil=>exact Oc
 |cons hk hv _ ih=>exact Ik (fun QLq s σ H Q I⟨env,q⟩=>hk.ag env QLq s σ H Q I q) (fun QLq s σ H Q I⟨env,q⟩=>hv.ag env QLq s σ H Q I q) ih
theorem Kv.go{es:E}{ks:List (Option Expr)}{vs:List Expr}{km:List (TE×TE)}(h:Kv X W c es ks vs km):∀{env:Ev}{σ:St}{H:Hp}{R:List V->Hp->Prop},Q3 X.K W env (evs c es env) σ H R->uU km σ H fun ps H2=>R (jl ps) H2:=by
 induction h with
 |nil=>
  intro env σ H R q
  obtain⟨S,q⟩:=q
  simp only[evs]at q
  exact q [] H (Nx.refl S) rfl
 |cons hk hv _ ih=>
  intro env σ H R q
  exact⟨env,wG q fun x H1 env1 q1=>⟨env1,wG q1 fun y H2 env2 q2=>ih q2⟩⟩
theorem yf{K:QQq}{H:Hp}:∀(ds:List D){ps:List D}{vs:List V}{kvs0:List (Key×V)}{ds0:List D}{pr:List D×List D},pairUp ds=some ps->dictOf (kvs0.map fun p=>cL p.1) ds0 ps=some pr->aq K H ds vs->aq K H ds0 (kvs0.map (·.2))->
  ∃kvs:List (Key×V),vs=jl (kvs.map fun kv=>(kV kv.1,kv.2))/\2*kvs.length=ds.length/\pr.1=(ir kvs0 kvs).map (fun p=>cL p.1)/\aq K H pr.2 ((ir kvs0 kvs).map (·.2))
 |[],ps,vs,kvs0,ds0,pr,e,f,l,l0=>by
  cases e
  cases f
  rw[aq.bB.mp l]
  exact⟨[],rfl,rfl,rfl,l0⟩
 |[_],ps,vs,kvs0,ds0,pr,e,f,l,l0=>by cases e
 |k::v::r,ps,vs,kvs0,ds0,pr,e,f,l,l0=>by
  simp only[pairUp,QJz]at e
  obtain⟨ps',e1,rfl⟩:=e
  simp only[dictOf]at f
  split at f
  ·rename_i hk
   obtain⟨kk,rfl⟩:=eN hk
   obtain⟨x,w1,rfl,h1,l1⟩:=aq.aK.mp l
   obtain⟨y,w2,rfl,h2,l2⟩:=aq.aK.mp l1
   have ek:=iC h1
   subst ek
   obtain⟨g1,g2⟩:=u6 (k:=kk) h2 l0
   rw[g1]at f
   obtain⟨kvs,a1,a2,a3,a4⟩:=yf r e1 f l2 g2
   refine⟨(kk,y)::kvs,by rw[a1];rfl,by simp;omega,a3,a4⟩
  ·cases f
theorem Nx.relaid{K:QQq}{env env1:Ev}{σ:St}{H H2:Hp}{p:Addr}{u u':HO}(S:Sat K env σ H)(hp:H p=none)(hu:Mg u)(N:Nx K env σ (upd H p u) env1 H2):H2 p=some u/\Nx K env σ H env1 (upd H2 p u'):=by
 have no:∀i,¬aN env σ i p:=S.j8 hp
 have e:H2 p=some u:=N.keep p u aU no
 have ne:∀b w,H b=some w->b≠p:=fun b w q z=>by subst z;rw[hp]at q;cases q
 have N0:=(Nx.laid (o:=u) S hp).trans N
 have P:=fQ (u':=u') e hu
 refine⟨e,⟨N.eX.keep P fun i b w o q=>?_,N0.sub,N0.pers.trans P,fun b w q n=>?_,fun b q=>?_,N0.bors⟩⟩
 ·rw[aG (fun z=>by subst z;exact no i (N.sub i _ o))];exact q
 ·rw[aG (ne b w q)];exact N0.keep b w q n
 ·by_cases hb:b=p
  ·subst hb;exact hp
  ·rw[aG hb]at q;exact N0.dom b q
theorem Ko{ds:List D}{r:Rv}(h:Gf ds=some r):∃(k:SK)(v:D),ds=[dY k,v]/\r=.new (.sdt [dY k] [v]):=by
 unfold Gf at h
 split at h
 ·split at h
  ·rename_i hk
   obtain⟨k,rfl⟩:=jw hk
   cases h
   exact⟨k,_,rfl,rfl⟩
  ·cases h
 ·cases h
theorem Wl(hu:X.A.units+2<cLine){es:E}{ks:List (Option Expr)}{vs:List Expr}{km:List (TE×TE)}(h:Kv X W c es ks vs km)(hall:ks.all (·.isSome)=true)(hl:ks.length=vs.length)(h0:ks≠[])(h15:ks.length<=15):GE X W c (.dsp es) (.Dict ks vs pos):=by
 intro env
 refine PE.imp (Ol hu h.pps hall hl h0 h15) fun σ H Q q p hp=>?_
 simp only[ac6]at q
 obtain⟨S,q⟩:=q
 have S1:=(Nx.laid (o:=.dK []) S hp).eX
 have go:Q3 X.K W env (evs c es env) σ (upd H p (.dK [])) (fun us H2=>H2 p=some (.dK [])/\((∃kvs:List (Key×V),us=jl (kvs.map fun kv=>(kV kv.1,kv.2))/\kvs.length<=15/\Q (.ref p) (upd H2 p (.dK (ir [] kvs))))\/∃k a v,us=jl [(.ref a,v)]/\cA X.K H2 k a/\Q (.ref p) (upd H2 p (sD [(k,a,v)])))):=by
  refine⟨S1,?_⟩
  cases r:evs c es env with
  |bad=>rw[r]at q;exact q.elim
  |exc k env1=>rw[r]at q;exact fun H2 N=>q H2 ((Nx.laid S hp).trans N)
  |ok rs env1=>
   rw[r]at q
   simp only[Out.bind]at q
   cases e1:aY rs with
   |none=>rw[e1]at q;exact q.elim
   |some ds=>
    rw[e1]at q
    simp only[QHq]at q
    unfold vM at q
    by_cases hd:(decide (ds.length<=30)&& !ds.isEmpty)=true
    ·rw[if_pos hd]at q
     simp only[QUq,QUz]at hd
     cases e0:Gf ds with
     |some rv0=>
      rw[e0]at q
      intro us H2 N rv
      have l:aq X.K H2 ds us:=gB.ds (by rw[qz es env r];exact rv) e1
      obtain⟨k,v,rfl,rfl⟩:=Ko e0
      obtain⟨x,w1,rfl,h1,l1⟩:=aq.aK.mp l
      obtain⟨y,w2,rfl,h2,l2⟩:=aq.aK.mp l1
      cases aq.bB.mp l2
      obtain⟨a,rfl,ka⟩:=pC h1
      obtain⟨b1,b2⟩:=Nx.relaid (u':=sD [(k,a,y)]) S hp (by constructor<;>(intros;intro z;cases z)) N
      have P:=fQ (u':=sD [(k,a,y)]) b1 (by constructor<;>(intros;intro z;cases z))
      refine⟨b1,.inr ⟨k,a,y,rfl,ka,q _ _ b2 ⟨p,rfl,⟨_,aU,[(k,a,y)],rfl,rfl,fun x hx=>?_,?_⟩,hp⟩⟩⟩
      ·cases QDz.mp hx
       obtain⟨b,q1,q2⟩:=ka
       exact⟨b,P.DX q1,P.DX q2⟩
      ·exact aq.aK.mpr ⟨y,[],rfl,h2.mono P,aq.eY⟩
     |none=>
     rw[e0]at q
     cases e2:pairUp ds with
     |none=>rw[e2]at q;exact q.elim
     |some ps=>
      rw[e2]at q
      simp only[QHq]at q
      cases e3:dictOf [] [] ps with
      |none=>rw[e3]at q;exact q.elim
      |some pr=>
       rw[e3]at q
       intro us H2 N rv
       have l:aq X.K H2 ds us:=gB.ds (by rw[qz es env r];exact rv) e1
       obtain⟨kvs,a1,a2,a3,a4⟩:=yf ds (kvs0:=[]) (ds0:=[]) e2 e3 l aq.eY
       obtain⟨b1,b2⟩:=Nx.relaid (u':=.dK (ir [] kvs)) S hp (by constructor<;>(intros;intro z;cases z)) N
       refine⟨b1,.inl ⟨kvs,a1,by omega,q _ _ b2 ⟨p,rfl,⟨_,aU,_,rfl,a3,a4.mono (fQ b1 (by constructor<;>(intros;intro z;cases z)))⟩,hp⟩⟩⟩
    ·rw[if_neg hd]at q;exact q.elim
 have:=h.go go
 refine cast ?_ this
 congr 1
 funext ps H2
 refine propext ⟨fun⟨z,f⟩=>⟨z,?_⟩,fun⟨z,f⟩=>⟨z,?_⟩⟩
 ·rcases f with ⟨kvs,e,h1,h2⟩|⟨k,a,v,e,h⟩
  ·exact .inl ⟨kvs,j0 e,h1,h2⟩
  ·exact .inr ⟨k,a,v,j0 e,h⟩
 ·rcases f with ⟨kvs,e,h1,h2⟩|⟨k,a,v,e,h⟩
  ·exact .inl ⟨kvs,by rw[e],h1,h2⟩
  ·exact .inr ⟨k,a,v,by rw[e],h⟩
end
end Mini
end
section
namespace Mini
open PySem
structure Ct where
 N:List Str
 sc:Scope
 fns:List (Str×List Bool)
 jx:List Str
 exs:List Str:=[]
def mY:List Str->Str->Option Nat
 |[],_=>none
 |y::r,x=>if x=y then some 0 else(mY r x).map (· +1)
def Kz:Const->Option D
 |.none=>some .non
 |.bool b=>some (.bl b)
 |.int i=>some (.int i)
 |.str x=>some (.str x)
 |_=>none
def Td(sc:Scope)(x:Str):Bool:=match sc.names.lookup x with
 |some .local=>true
 |some .cell=>true
 |some .free=>true
 |_=>false
def zR(sc:Scope)(x:Str):Bool:=sc.names.lookup x==some .globalImplicit
def Ja(x:Str):Bool:= !(x==("__debug__":Str))&& !(x==("__classdict__":Str))
def jn(C:Ct)(x:Str):Option E:=
 if Ja x then
  match mY C.N x with
  |some k=>if Td C.sc x then some (.var k)else none
  |none=>if zR C.sc x then(mY C.jx x).map .glob else none
 else none
def opB:Operator->Option Ma
 |.Add=>some .add
 |.Sub=>some .sub
 |.Mult=>some .mul
 |.Mod=>some .mod
 |.FloorDiv=>some .fdiv
 |.Pow=>some .pow
 |_=>none
def cmB:CmpOp->Option Cm
 |.Eq=>some .eq
 |.NotEq=>some .ne
 |.Lt=>some .lt
 |.LtE=>some .le
 |.Gt=>some .gt
 |.GtE=>some .ge
 |.In=>some .isin
 |.NotIn=>some .notin
 |.Is=>some .jf
 |.IsNot=>some .notN
def tyB(x:Str):Option Ty:=
 if x="tuple" then some .tup else if x="list" then some .lst else if x="str" then some .str else if x="bool" then some .bool else if x="int" then some .int else if x="dict" then some .cC else none
def X8(x:Str):Option Bi:=
 if x="len" then some .len else if x="int" then some .int else if x="tuple" then some .tuple else if x="list" then some .list else if x="all" then some .all else if x="any" then some .any
 else if x="sorted" then some .sorted else if x="dict" then some .dict else none
def plain:Expr->Bool
 |.BoolOp .. |.BinOp .. |.UnaryOp .. |.IfExp .. |.ListComp .. |.Compare .. |.Call .. |.Constant .. |.Subscript .. |.Name .. |.List .. |.Tuple .. |.Dict .. =>true
 |_=>false
def E.RM:E->Bool
 |.nil=>true
 |_=>false
def fnAt(C:Ct)(x:Str):Option (Nat×List Bool):=(mY (C.fns.map (·.1)) x).bind fun g=>(C.fns[g]?).map fun p=>(g,p.2)
def pL(scope outer:Scope):Scope:=
 {scope with names:=scope.names.map fun(n,k)=>if (k== .free&&outer.kind== .function&&outer.names.lookup n==some .cell)then(n,.cell)else(n,k)}
def pI(tgs N:List Str):List Str:=tgs++N.map fun x=>if tgs.contains x then(".":Str)++x else x
def rP:Expr->Option Str
 |.Name x _=>some x
 |_=>none
def Tt:Expr->Option (List Str×Tg)
 |.Name x _=>some ([x],.name 0)
 |.Tuple es _ _=>(es.mapM rP).map fun xs=>(xs,.tup (List.range xs.length))
 |_=>none
def T9(outer inner:Scope)(tgs N:List Str):Bool:=
 decide (inner.kind=.function)&&decide ((pI tgs N).Nodup)
 &&(inner.names.all fun p=>(p.2 != .local)||((tgs.contains p.1||p.1==(".0":Str))&&inner.names.lookup p.1==some .local))
 &&(tgs.all fun x=>inner.names.lookup x==some .local)
 &&(inner.names.all fun p=>p.2 != .cell)
 &&(inner.names.all fun p=>(p.2 != .free)||outer.names.lookup p.1==some .cell||outer.names.lookup p.1==some .free)
 &&(N.all fun x=> !tgs.contains x||(inner.names.lookup ((".":Str)++x)).isNone)
 && !N.contains (".0":Str)
def isCall:Expr->Bool
 |.Call .. =>true
 |_=>false
def I8(ap cp:Pos):Bool:=ap.endLine==cp.line
mutual
def dq:Nat->Ct->Expr->Option E
 |0,_,_=>none
 |n+1,C,e=>match e with
  |.Constant k _ _=>(Kz k).map .con
  |.Name x _=>jn C x
  |.Tuple es _ _=>(uT n C es).map .tup
  |.List es _=>(uT n C es).map .lis
  |.BinOp a o b _=>(opB o).bind fun o=>(dq n C a).bind fun a=>(dq n C b).map fun b=>.op o a b
  |.UnaryOp o a _=>match o with
   |.USub=>(dq n C a).map .neg
   |.Not=>(dq n C a).map .not
   |_=>none
  |.BoolOp o es _=>(uT n C es).bind fun m=>if m.RM then none else match o with
   |.And=>some (.and m)
   |.Or=>some (.or m)
  |.Compare a ops cs _=>match ops,cs with
   |[o],[b]=>(cmB o).bind fun o=>(dq n C a).bind fun a=>(dq n C b).map fun b=>.cmp o a b
   |[o,o2],[b,d]=>(cmB o).bind fun o=>(cmB o2).bind fun o2=>(dq n C a).bind fun a=>(dq n C b).bind fun b=>(dq n C d).map fun d=>.chain o o2 a b d
   |_,_=>none
  |.IfExp t a b _=>(dq n C t).bind fun t=>(dq n C a).bind fun a=>(dq n C b).map fun b=>.ite t a b
  |.Subscript a i _=>match i with
   |.Slice lo hi st _=>match st with
    |none=>(dq n C a).bind fun a=>(Tr n C lo).bind fun lo=>(Tr n C hi).map fun hi=>.slc a lo hi
    |some _=>none
   |i=>(dq n C a).bind fun a=>(dq n C i).map fun i=>.idx a i
  |.Call f args kw cp=>match kw with
   |[]=>match f with
    |.Name x _=>if Ja x&&zR C.sc x then(match fnAt C x with
      |some (g,fl)=>(Gx n C fl args).bind fun m=>if m.RM then none else some (.call g m)
      |none=>YL n C x args)else none
    |.Attribute o name ap=>if I8 ap cp then(match args with
      |[e]=>if name="count" then(dq n C o).bind fun m1=>(if plain o&& !isCall o then some ()else none).bind fun _=>(dq n C e).map fun m2=>.count m1 m2
       else if name="pop" then(match o with
        |.Name x _=>(jn C x).bind fun m=>match m with
         |.var k=>(dq n C e).map fun m2=>.popAt k m2
         |_=>none
        |_=>none)
       else none
      |[e,f]=>if name="get" then(dq n C o).bind fun m1=>(if plain o&& !isCall o then some ()else none).bind fun _=>(dq n C e).bind fun m2=>(dq n C f).map fun m3=>.get2 m1 m2 m3 else none
      |_=>none)else none
    |_=>none
   |_=>none
  |.Dict ks vs _=>if ks.length=vs.length&&decide (ks.length<=15)&& !ks.isEmpty then(DP n C ks vs).map .dsp else none
  |.ListComp elt gens sc _=>match gens with
   |[g]=>YK n C elt g sc
   |_=>none
  |_=>none
def DP:Nat->Ct->List (Option Expr)->List Expr->Option E
 |0,_,_,_=>none
 |n+1,C,ks,vs=>match ks,vs with
  |[],[]=>some .nil
  |some k::ks,v::vs=>(dq n C k).bind fun k=>(dq n C v).bind fun v=>(DP n C ks vs).map fun r=>.cons k (.cons v r)
  |_,_=>none
def YK:Nat->Ct->Expr->Comprehension->Scope->Option E
 |0,_,_,_,_=>none
 |n+1,C,elt,g,sc=>if g.is_async=0 then(Tt g.target).bind fun(tgs,tg)=>
   if T9 C.sc sc tgs C.N then
    let C2:Ct:={C with N:=pI tgs C.N,sc:=pL sc C.sc}
    (Xj n C g.iter).bind fun it=>(match g.ifs with
     |[]=>some (E.con (.bl true))
     |[c]=>dq n C2 c
     |_=>none).bind fun cond=>(dq n C2 elt).map fun m=>.comp tgs.length tg it cond m
   else none else none
def Xj:Nat->Ct->Expr->Option E
 |0,_,_=>none
 |n+1,C,e=>match e with
  |.Call f args kw cp=>match f,args,kw with
   |.Name x _,[a],[]=>if x="range"&&zR C.sc x&&(fnAt C x).isNone then(dq n C a).map .range1 else dq n C e
   |.Name x _,[a,b],[]=>if x="zip"&&zR C.sc x&&(fnAt C x).isNone then(dq n C a).bind fun a=>(dq n C b).map fun b=>.zip a b else dq n C e
   |_,_,_=>dq n C e
  |_=>dq n C e
def YL:Nat->Ct->Str->List Expr->Option E
 |0,_,_,_=>none
 |n+1,C,x,args=>match args with
  |[a,t]=>if x="isinstance" then(match t with
    |.Name y _=>if zR C.sc y then(tyB y).bind fun t=>(dq n C a).map fun a=>.isi a t else none
    |_=>none)else none
  |[a]=>match a with
   |.Call f zs kw _=>(match f,zs,kw with
    |.Name z _,[p,q],[]=>if z="zip"&&zR C.sc z&&(fnAt C z).isNone then
      (if x="dict" then(dq n C p).bind fun p=>(dq n C q).map fun q=>.bi .dict (.zip p q)
       else if x="list" then(dq n C p).bind fun p=>(dq n C q).map fun q=>.bi .list (.zip p q)else none)
     else(X8 x).bind fun b=>(dq n C a).bind fun m=>if b=.dict&&m.aC.isSome then some (.bi b (.rd m))else some (.bi b m)
    |_,_,_=>(X8 x).bind fun b=>(dq n C a).bind fun m=>if b=.dict&&m.aC.isSome then some (.bi b (.rd m))else some (.bi b m))
   |a=>(X8 x).bind fun b=>(dq n C a).bind fun m=>if b=.dict&&m.aC.isSome then some (.bi b (.rd m))else some (.bi b m)
  |_=>none
def Gx:Nat->Ct->List Bool->List Expr->Option E
 |0,_,_,_=>none
 |n+1,C,fl,es=>match fl,es with
  |[],[]=>some .nil
  |false::fl,e::es=>(dq n C e).bind fun m=>(Gx n C fl es).map fun ms=>.cons m ms
  |true::fl,e::es=>(match e with
    |.Name x _=>(jn C x).bind fun m=>match m with
     |.var k=>some (E.ref k)
     |_=>none
    |e=>(dq n C e).map E.tmp).bind fun m=>(Gx n C fl es).map fun ms=>.cons m ms
  |_,_=>none
def Tr:Nat->Ct->Option Expr->Option E
 |0,_,_=>none
 |n+1,C,o=>match o with
  |none=>some .noneE
  |some e=>dq n C e
def uT:Nat->Ct->List Expr->Option E
 |0,_,_=>none
 |n+1,C,es=>match es with
  |[]=>some .nil
  |e::es=>(dq n C e).bind fun m=>(uT n C es).map fun ms=>.cons m ms
end
def HN(C:Ct)(e f:Option Expr):Nat:=match e,f with
 |some (.Call (.Name x _) [.Constant (.str _) _ _] [] _),none=>if zR C.sc x&&Ja x then(match mY C.exs x with|some k=>k+1|none=>0)else 0
 |_,_=>0
def Fj(sc:Scope)(x:Str):Bool:=sc.names.lookup x==some .local||sc.names.lookup x==some .cell
def slotsOf(C:Ct):List Expr->Option (List Nat)
 |[]=>some []
 |.Name x _::es=>if Fj C.sc x then(mY C.N x).bind fun i=>(slotsOf C es).map (i:: ·)else none
 |_=>none
def Hc(C:Ct):Expr->Option Tg
 |.Name x _=>if Fj C.sc x then(mY C.N x).map .name else none
 |.Tuple es _ _=>(slotsOf C es).map .tup
 |_=>none
def isTup:Expr->Bool
 |.Tuple .. =>true
 |_=>false
def mZ:Expr->Bool
 |.ListComp .. =>true
 |_=>false
def isSlice:Expr->Bool
 |.Slice .. =>true
 |_=>false
mutual
def QW:Nat->Ct->Stmt->Option S
 |0,_,_=>none
 |n+1,C,st=>match st with
  |.Return v _=>match v with
   |none=>some ACH
   |some e=>(dq n C e).map .ret
  |.Assign ts e _=>match ts with
   |[t]=>match t with
    |.Name x _=>if Fj C.sc x then(mY C.N x).bind fun i=>(dq n C e).map fun m=>.set i m else none
    |.Tuple es _ _=>if isTup e||mZ e then none else(slotsOf C es).bind fun is=>(dq n C e).map fun m=>.setT is m
    |.Subscript o ix _=>match o with
     |.Name x _=>if mZ e||isSlice ix then none else(jn C x).bind fun v=>match v with
      |.var k=>(dq n C ix).bind fun i=>(dq n C e).map fun m=>.setIx k i m
      |_=>none
     |_=>none
    |_=>none
   |_=>none
  |.Expr e _=>match e with
   |.Call f args kw cp=>match f,args,kw with
    |.Attribute o name ap,[a],[]=>match o with
     |.Name x _=>if I8 ap cp&&name="append" then(jn C x).bind fun v=>(match v with
       |.var k=>(dq n C a).map fun m=>.append k m
       |_=>none)
      else(dq n C e).map .expr
     |_=>none
    |_,_,_=>(dq n C e).map .expr
   |_=>none
  |.If t a b _=>(dq n C t).bind fun t=>(o9 n C a).bind fun a=>(o9 n C b).map fun b=>.ite t a b
  |.For tg it b el _=>match el with
   |[]=>(Hc C tg).bind fun tg=>(Xj n C it).bind fun it=>(o9 n C b).map fun b=>.for_ tg it b
   |_=>none
  |.While t b el _=>match el with
   |[]=>(dq n C t).bind fun t=>(o9 n C b).map fun b=>.while_ t b
   |_=>none
  |.Raise e f _=>some (.raise (HN C e f))
  |_=>none
def o9:Nat->Ct->List Stmt->Option S
 |0,_,_=>none
 |n+1,C,ss=>match ss with
  |[]=>some .nil
  |s::ss=>(QW n C s).bind fun m=>(o9 n C ss).map fun ms=>.cons m ms
end
end Mini
end
section
namespace Mini
open PySem L2
def lQ:List Str:=["isinstance","tuple","list","str","bool","int","dict","len","all","any","sorted","zip","range"]
def W4(X:Cx)(c:Cf)(g:Nat)(x:Str):Prop:=∃k f fd ps,nA X.prog X.w X.K X.mg X.base GD k f fd ps (rH X.K ps.length (c.fn g))/\jc k X.A/\X.mg x=some (.ref f)/\PySem.W.keepIn X.K (.ref f)=true/\Binds X.K fd ps []/\∀sl,c.fn g sl=.bad\/sl.length=ps.length
structure iU(C:Ct)(X:Cx)(c:Cf):Prop where
 N:X.N=C.N
 sc:X.env.scope=C.sc
 nd:C.N.Nodup
 calm:X.calm=true
 hu:X.A.units+60<cLine
 bi:∀x∈lQ,X.mg x=none
 gl:∀k x,C.jx[k]? =some x->∃d,c.gl k=some d/\abC X x d
 fn:∀g x fl,C.fns[g]? =some (x,fl)->W4 X c g x
structure Sd(X:Cx)(c:Cf)(m:E)(e:Expr):Prop where
 ge:GE X W0 c m e
 gt:GT X W0 c m e
 pl:plain e=true
 va:∀k,m.aC=some k->∃x p,e=.Name x p/\je X k x
 nn:m.jf=false
theorem iw:∀{N:List Str}{x:Str}{k:Nat},mY N x=some k->N[k]? =some x
 |[],_,_,h=>by cases h
 |y::r,x,k,h=>by
  unfold mY at h
  split at h
  ·rename_i e;cases h;subst e;rfl
  ·cases q:mY r x with
   |none=>rw[q]at h;cases h
   |some j=>rw[q]at h;cases h;simpa using iw q
theorem Tc{sc:Scope}{x:Str}(h:Td sc x=true):Yq sc x:=by
 unfold Td at h
 unfold Yq
 cases q:sc.names.lookup x with
 |none=>rw[q]at h;cases h
 |some k=>rw[q]at h;cases k<;>simp at h<;>simp
theorem Bw{x:Str}(h:Ja x=true):(x==("__debug__":Str))=false/\(x==("__classdict__":Str))=false:=by
 unfold Ja at h
 rw[QUq]at h
 exact⟨by simpa using h.1,by simpa using h.2⟩
section
variable{C:Ct}{X:Cx}{c:Cf}{e a b:Expr}{m m1 m2 m3:E}{pos p:Pos}{x:Str}
theorem lJ(O:iU C X c)(h:zR C.sc x=true):Gl X x:=by
 unfold zR at h
 show X.env.scope.names.lookup x=_
 rw[O.sc]
 simpa using h
theorem bG(h:plain e=true)(es:List Expr)(env:Env):starEach (e::es) env=(false,eval e env)::starEach es env:=by
 cases e<;>first|rfl|exact absurd (show false=true from h) Qjz
theorem pY(h:plain e=true)(o:CmpOp):behindInMarks o e=false:=by
 cases e<;>first|rfl|exact absurd (show false=true from h) Qjz
theorem vI(h:plain e=true)(env:Env)(x:Value):foldedSetIterable e env x=pure x:=by
 cases e<;>first|rfl|exact absurd (show false=true from h) Qjz
theorem zu(h:plain e=true):v8 e:=by
 intro o i
 cases e<;>first|rfl|exact absurd (show false=true from h) Qjz
def tame:Expr->Bool
 |.UnaryOp .Not .. |.BoolOp .. |.IfExp .. |.Compare .. =>false
 |_=>true
theorem JX(h:GE X W0 c m e)(hp:plain e=true)(ht:tame e=true):GT X W0 c m e:=by
 refine h.t fun whole=>?_
 cases e with
 |UnaryOp o a q=>cases o<;>first|rfl|exact absurd (show false=true from ht) Qjz
 |_=>first|rfl|exact absurd (show false=true from hp) Qjz|exact absurd (show false=true from ht) Qjz
theorem Bm(O:iU C X c)(h:jn C x=some m):Sd X c m (.Name x p):=by
 unfold jn at h
 split at h
 ·rename_i nb
  obtain⟨n1,n2⟩:=Bw nb
  cases q:mY C.N x with
  |some k=>
   rw[q]at h
   simp only at h
   split at h
   ·rename_i hv
    cases h
    have nm:je X k x:=⟨by rw[O.N];exact iw q,by rw[O.sc];exact Tc hv,n1,n2⟩
    exact⟨nm.ge,JX nm.ge rfl rfl,rfl,fun k' e=>by cases e;exact⟨x,p,rfl,nm⟩,rfl⟩
   ·cases h
  |none=>
   rw[q]at h
   simp only at h
   split at h
   ·rename_i hg
    cases q2:mY C.jx x with
    |none=>rw[q2]at h;cases h
    |some k=>
     rw[q2]at h
     cases h
     obtain⟨d,hk,ok⟩:=O.gl k x (iw q2)
     have ge:GE X W0 c (.glob k) (.Name x p):=PN hk ok (lJ O hg) n1
     exact⟨ge,JX ge rfl rfl,rfl,fun k' e=>(by cases e),rfl⟩
   ·cases h
 ·cases h
theorem Bx(O:iU C X c){k:Nat}(h:jn C x=some (.var k)):je X k x:=by
 obtain⟨y,q,e,nm⟩:=(Bm (p:=default) O h).va k rfl
 cases e
 exact nm
inductive Al(X:Cx)(c:Cf):E->List Expr->Prop
 |nil:Al X c .nil []
 |cons {m ms:E} {e:Expr} {es:List Expr}:Sd X c m e->Al X c ms es->Al X c (.cons m ms) (e::es)
theorem Al.ga:∀{ms:E}{es:List Expr},Al X c ms es->GA X W0 c ms es
 |_,_,.nil=>J8
 |_,_,.cons h t=>CG h.ge t.ga (bG h.pl _ _)
theorem Al.and{es:List Expr}:∀{m ms:E}{e:Expr},Al X c (.cons m ms) (e::es)->GE X W0 c (.and (.cons m ms)) (.BoolOp .And (e::es) pos)/\GW X W0 c (.and (.cons m ms)) (.BoolOp .And (e::es) pos):=by
 induction es with
 |nil=>intro m ms e h;cases h with|cons h t=>cases t;exact⟨Qc h.ge,Pz h.gt⟩
 |cons e2 es ih=>intro m ms e h;cases h with|cons h t=>cases t with|cons h2 t=>exact⟨Wo h.ge (ih (.cons h2 t)).1,V0 h.gt (ih (.cons h2 t)).2⟩
theorem Al.or{es:List Expr}:∀{m ms:E}{e:Expr},Al X c (.cons m ms) (e::es)->GE X W0 c (.or (.cons m ms)) (.BoolOp .Or (e::es) pos)/\GW X W0 c (.or (.cons m ms)) (.BoolOp .Or (e::es) pos):=by
 induction es with
 |nil=>intro m ms e h;cases h with|cons h t=>cases t;exact⟨Wc h.ge,VM h.gt⟩
 |cons e2 es ih=>intro m ms e h;cases h with|cons h t=>cases t with|cons h2 t=>exact⟨aa1 h.ge (ih (.cons h2 t)).1,aaW h.gt (ih (.cons h2 t)).2⟩
theorem Vb{o:Operator}{q:Ma}(h:opB o=some q):o=aac q:=by
 cases o<;>first|(cases (show some _=some q from h);rfl)|cases (show none=some q from h)
theorem Ac{o:CmpOp}{q:Cm}(h:cmB o=some q):o=dX q:=by
 cases o<;>first|(cases (show some _=some q from h);rfl)|cases (show none=some q from h)
theorem Ky{k:Const}{d:D}(h:Kz k=some d):Bu d k=true:=by
 cases k<;>simp[Kz]at h<;>subst h<;>simp[Bu]
theorem Tp{t:Ty}(h:tyB x=some t):x=Str.ofString (YC t)/\x∈lQ:=by
 unfold tyB at h
 split at h
 ·rename_i e;cases h;subst e;exact⟨rfl,by decide⟩
 split at h
 ·rename_i e;cases h;subst e;exact⟨rfl,by decide⟩
 split at h
 ·rename_i e;cases h;subst e;exact⟨rfl,by decide⟩
 split at h
 ·rename_i e;cases h;subst e;exact⟨rfl,by decide⟩
 split at h
 ·rename_i e;cases h;subst e;exact⟨rfl,by decide⟩
 split at h
 ·rename_i e;cases h;subst e;exact⟨rfl,by decide⟩
 cases h
theorem RW(O:iU C X c){bb:Bi}(h:X8 x=some bb)(hg:zR C.sc x=true)(ha:Sd X c m a)(hd:bb=.dict->m.aC=none):GE X W0 c (.bi bb m) (.Call (.Name x p) [a] [] pos):=by
 have hs:=bG ha.pl [] X.env
 have hG:=lJ O hg
 unfold X8 at h
 split at h
 ·rename_i e;cases h;subst e;exact vH Gm Nm ha.ge ha.va hG (O.bi _ (by decide)) PySem.boot_len (by decide) (by decide) hs
 split at h
 ·rename_i e;cases h;subst e;exact zW Gn Np ha.ge ha.va hG (O.bi _ (by decide)) PyProof.Rows.boot_int (by decide) (by decide) hs
 split at h
 ·rename_i e;cases h;subst e;exact zW rY Ei ha.ge ha.va hG (O.bi _ (by decide)) PyProof.Rows.boot_tuple (by decide) (by decide) hs
 split at h
 ·rename_i e;cases h;subst e;exact zW (Ai O.calm) Hy ha.ge ha.va hG (O.bi _ (by decide)) PyProof.Rows.boot_list (by decide) (by decide) hs
 split at h
 ·rename_i e;cases h;subst e;exact vH (Gq O.calm) Nr ha.ge ha.va hG (O.bi _ (by decide)) PyProof.Rows.boot_all (by decide) (by decide) hs
 split at h
 ·rename_i e;cases h;subst e;exact vH (Gp O.calm) Nq ha.ge ha.va hG (O.bi _ (by decide)) PyProof.Rows.boot_any (by decide) (by decide) hs
 split at h
 ·rename_i e;cases h;subst e;exact vH vY yW ha.ge ha.va hG (O.bi _ (by decide)) PyProof.Rows.boot_sorted (by decide) (by decide) hs
 split at h
 ·rename_i e;cases h;subst e;exact PX O.calm ha.ge (hd rfl) hG (O.bi _ (by decide)) hs
 cases h
end
end Mini
end
section
namespace Mini
open PySem L2
theorem yZ{sc outer:Scope}{env:Env}(h:env.scope=outer):relabel sc env=pL sc outer:=by
 subst h
 rfl
theorem Hv{outer inner:Scope}{tgs N:List Str}(h:T9 outer inner tgs N=true):(pI tgs N).Nodup:=by
 unfold T9 at h
 simp only[QUq,QUz]at h
 exact h.1.1.1.1.1.1.2
theorem Hu{outer inner:Scope}{tgs N:List Str}(h:T9 outer inner tgs N=true):Gw outer inner tgs N:=by
 unfold T9 at h
 simp only[QUq,QUz,List.all_eq_true,Bool.or_eq_true,bne_iff_ne,beq_iff_eq,Bool.not_eq_true',ne_eq]at h
 obtain⟨⟨⟨⟨⟨⟨⟨h1,h2⟩,h3⟩,h4⟩,h5⟩,h6⟩,h7⟩,h8⟩:=h
 refine⟨h1,h2,fun x hx=>?_,fun p hp hl=>?_,h4,h5,fun p hp hf=>?_,fun x hx ht=>?_,fun hx=>?_⟩
 ·rcases h3 (x,.local) (PySem.mem_of_lookup hx)with z|z
  ·exact absurd rfl z
  ·rcases z.1 with z|z
   ·exact .inl (by simpa using z)
   ·exact .inr z
 ·rcases h3 p hp with z|z
  ·exact absurd hl z
  ·exact z.2
 ·rcases h6 p hp with (z|z)|z
  ·exact absurd hf z
  ·exact .inl z
  ·exact .inr z
 ·rcases h7 x hx with z|z
  ·rw[ht]at z;cases z
  ·simpa using z
 ·have:N.contains (".0":Str)=true:=by simpa using hx
  rw[this]at h8;cases h8
section
variable{C:Ct}{X:Cx}{c:Cf}{sc:Scope}{tgs:List Str}
theorem iU.blk(O:iU C X c)(hs:T9 C.sc sc tgs C.N=true){cl:List (Str×Addr)}{fp:List Addr}{s₀:Shared}{H₀:Hp}:iU {C with N:=pI tgs C.N,sc:=pL sc C.sc} (Mini.blk X sc cl (bJ tgs X.N) fp s₀ H₀) c:=
 ⟨by show bJ tgs X.N=pI tgs C.N;rw[O.N];rfl,yZ O.sc,Hv hs,O.calm,O.hu,O.bi,O.gl,O.fn⟩
theorem pW{sc:Scope}{N:List Str}:∀{es:List Expr}{xs:List Str}(k:Nat),es.mapM rP=some xs->(∀j x,xs[j]? =some x->N[k+j]? =some x)->(∀x∈xs,sc.names.lookup x=some .local)->gn sc N (List.range' k xs.length) es=true
 |[],xs,k,h,_,_=>by
  simp at h;subst h;rfl
 |e::es,xs,k,h,hN,hl=>by
  rw[List.mapM_cons]at h
  cases q:rP e with
  |none=>rw[q]at h;cases h
  |some x=>
   rw[q]at h
   cases q2:es.mapM rP with
   |none=>rw[q2]at h;cases h
   |some ys=>
    rw[q2]at h
    cases h
    cases e<;>simp[rP]at q
    subst q
    rw[QBq,List.range'_succ]
    unfold gn
    rw[pW (k+1) q2 (fun j y e=>by have:=hN (j+1) y (by simpa using e);rw[<-this];congr 1;omega) (fun y hy=>hl y (QYq _ hy))]
    have:=hN 0 _ rfl
    simp at this
    simp[this,hl _ QYz]
theorem pX{env:Env}:∀{es:List Expr}{xs:List Str},es.mapM rP=some xs->(assignEach es env).length=xs.length/\(assignEach es env).findIdx? (·.1)=none
 |[],xs,h=>by simp at h;subst h;exact⟨rfl,rfl⟩
 |e::es,xs,h=>by
  rw[List.mapM_cons]at h
  cases q:rP e with
  |none=>rw[q]at h;cases h
  |some x=>
   rw[q]at h
   cases q2:es.mapM rP with
   |none=>rw[q2]at h;cases h
   |some ys=>
    rw[q2]at h
    cases h
    obtain⟨i1,i2⟩:=pX (env:=env) q2
    cases e<;>simp[rP]at q
    subst q
    constructor
    ·show(_::assignEach es env).length=_
     simp[i1]
    ·show(List.findIdx? (·.1) ((false,_)::assignEach es env))=none
     rw[List.findIdx?_cons]
     simp[i2]
theorem YM(O:iU C X c){tg:Tg}{tgE:Expr}(ht:Tt tgE=some (tgs,tg))(hs:T9 C.sc sc tgs C.N=true):(∀i∈slots tg,i<tgs.length)/\∀(cl:List (Str×Addr))(fp:List Addr)(s₀:Shared)(H₀:Hp),GG (Mini.blk X sc cl (bJ tgs X.N) fp s₀ H₀) tg tgE:=by
 have S:=Hu hs
 have lc:∀x∈tgs,∀(cl:List (Str×Addr))(fp:List Addr)(s₀:Shared)(H₀:Hp),(Mini.blk X sc cl (bJ tgs X.N) fp s₀ H₀).env.scope.names.lookup x=some .local:=fun x hx cl fp s₀ H₀=>lookup_relabel_local (S.tg x hx)
 have nd:∀(cl:List (Str×Addr))(fp:List Addr)(s₀:Shared)(H₀:Hp),(Mini.blk X sc cl (bJ tgs X.N) fp s₀ H₀).N.Nodup:=fun cl fp s₀ H₀=>by
  show(bJ tgs X.N).Nodup
  rw[O.N]
  exact Hv hs
 cases tgE<;>simp only[Tt]at ht<;>try (cases ht;done)
 ·rename_i x q
  cases ht
  refine⟨fun i hi=>?_,fun cl fp s₀ H₀=>vG (nd cl fp s₀ H₀) rfl (.inl (lc x (by simp) cl fp s₀ H₀)) (.inr (lc x (by simp) cl fp s₀ H₀))⟩
  simp[slots]at hi
  subst hi
  simp
 ·rename_i es k q
  cases qm:es.mapM rP with
  |none=>rw[qm]at ht;cases ht
  |some xs=>
   rw[qm]at ht
   cases ht
   refine⟨fun i hi=>by simpa[slots]using hi,fun cl fp s₀ H₀=>?_⟩
   obtain⟨l1,l2⟩:=pX (env:=(Mini.blk X sc cl (bJ tgs X.N) fp s₀ H₀).env) qm
   refine zT (nd cl fp s₀ H₀) O.calm (Jb ?_) (by simp[l1]) l2
   have:=pW (sc:=(Mini.blk X sc cl (bJ tgs X.N) fp s₀ H₀).env.scope) (N:=(Mini.blk X sc cl (bJ tgs X.N) fp s₀ H₀).N) 0 qm (fun j x e=>?_) (fun x hx=>lc x hx cl fp s₀ H₀)
   ·rwa[List.range_eq_range']
   ·show(bJ tgs X.N)[0+j]? =some x
    unfold bJ
    rw[Nat.zero_add,Qwz (QCz.mp e).1]
    exact e
end
end Mini
end
section
namespace Mini
open PySem L2
inductive Ar(X:Cx)(c:Cf):E->List Expr->Prop
 |nil:Ar X c .nil []
 |cons {m ms:E} {e:Expr} {es:List Expr}:GE X W0 c m e->plain e=true->Ar X c ms es->Ar X c (.cons m ms) (e::es)
theorem Ar.ga{X:Cx}{c:Cf}:∀{ms:E}{es:List Expr},Ar X c ms es->GA X W0 c ms es
 |_,_,.nil=>J8
 |_,_,.cons h p t=>CG h t.ga (bG p _ _)
theorem Ar.plain{X:Cx}{c:Cf}{pos:Pos}:∀{ms:E}{es:List Expr},Ar X c ms es->(backTo pos (starEach es X.env)).any (·.1)=false
 |_,_,.nil=>rfl
 |_,_,.cons h p t=>by
  rw[bG p]
  have:=t.plain (pos:=pos)
  simpa[backTo]using this
def Az(X:Cx)(c:Cf)(m:E)(elt:Expr)(g:Comprehension)(sc:Scope):Prop:=
 ∃tgs tg it cond m',m=.comp tgs.length tg it cond m'/\yD X c sc tgs tg cond m' g.target elt g.ifs/\GI X W0 c it g.target g.iter/\plain g.iter=true/\g.is_async=0
structure Ih(c:Cf)(n:Nat):Prop where
 e:∀C X e m,iU C X c->dq n C e=some m->Sd X c m e
 es:∀C X es m,iU C X c->uT n C es=some m->Al X c m es
 a:∀C X fl es m,iU C X c->Gx n C fl es=some m->Ar X c m es
 o:∀C X o m,iU C X c->Tr n C o=some m->GO X W0 c m o
 b:∀C X x args m p pos,iU C X c->zR C.sc x=true->YL n C x args=some m->GE X W0 c m (.Call (.Name x p) args [] pos)/\m.aC=none/\m.jf=false
 i:∀C X tg e m,iU C X c->Xj n C e=some m->GI X W0 c m tg e/\plain e=true
 k:∀C X elt g sc m,iU C X c->YK n C elt g sc=some m->Az X c m elt g sc
 d:∀C X ks vs m,iU C X c->DP n C ks vs=some m->∃km,Kv X W0 c m ks vs km/\ks.all (·.isSome)=true
theorem ih0(c:Cf):Ih c 0:=by
 constructor
 all_goals (intros;rename_i h;first|(rw[dq]at h;cases h)|(rw[uT]at h;cases h)|(rw[Gx]at h;cases h)|(rw[Tr]at h;cases h)|(rw[YL]at h;cases h)|(rw[Xj]at h;cases h)|(rw[YK]at h;cases h)|(rw[DP]at h;cases h))
section
variable{c:Cf}{n:Nat}{C:Ct}{X:Cx}{m:E}
theorem M3(I:Ih c n)(O:iU C X c){es:List Expr}(h:uT (n+1) C es=some m):Al X c m es:=by
 cases es with
 |nil=>rw[uT]at h;cases h;exact .nil
 |cons e es=>
  rw[uT]at h
  simp only[QJq,QJz]at h
  obtain⟨m1,h1,m2,h2,rfl⟩:=h
  exact .cons (I.e C X e m1 O h1) (I.es C X es m2 O h2)
theorem TX(I:Ih c n)(O:iU C X c){ks:List (Option Expr)}{vs:List Expr}(h:DP (n+1) C ks vs=some m):∃km,Kv X W0 c m ks vs km/\ks.all (·.isSome)=true:=by
 unfold DP at h
 split at h
 ·cases h;exact⟨[],.nil,rfl⟩
 ·simp only[QJq,QJz]at h
  obtain⟨k1,h1,v1,h2,r,h3,rfl⟩:=h
  obtain⟨km,K,a⟩:=I.d C X _ _ r O h3
  exact⟨_,.cons (I.e C X _ k1 O h1).ge (I.e C X _ v1 O h2).ge K,by simpa using a⟩
 ·cases h
theorem TF(I:Ih c n)(O:iU C X c){o:Option Expr}(h:Tr (n+1) C o=some m):GO X W0 c m o:=by
 cases o with
 |none=>rw[Tr]at h;cases h;exact .inl ⟨rfl,rfl⟩
 |some e=>
  rw[Tr]at h
  have s:=I.e C X e m O h
  exact .inr ⟨e,rfl,s.nn,s.ge⟩
theorem T3(I:Ih c n)(O:iU C X c){fl:List Bool}{es:List Expr}(h:Gx (n+1) C fl es=some m):Ar X c m es:=by
 cases fl with
 |nil=>
  cases es with
  |nil=>rw[Gx]at h;cases h;exact .nil
  |cons e es=>rw[Gx]at h<;>first|cases h|(intros;simp_all)
 |cons f fl=>
  cases es with
  |nil=>rw[Gx]at h<;>first|cases h|(intros;simp_all)
  |cons e es=>
   cases f with
   |false=>
    rw[Gx]at h
    simp only[QJq,QJz]at h
    obtain⟨m1,h1,m2,h2,rfl⟩:=h
    have s:=I.e C X e m1 O h1
    exact .cons s.ge s.pl (I.a C X fl es m2 O h2)
   |true=>
    by_cases hN:∃x p,e=.Name x p
    ·obtain⟨x,p,rfl⟩:=hN
     rw[Gx]at h
     simp only[QJq,QJz]at h
     obtain⟨m1,⟨m3,h3,h4⟩,m2,h2,rfl⟩:=h
     split at h4
     ·cases h4
      exact .cons (Wb (Bx O h3)) rfl (I.a C X fl es m2 O h2)
     ·cases h4
    ·rw[Gx]at h
     ·simp only[QJq,QJz]at h
      obtain⟨m1,⟨m3,h3,rfl⟩,m2,h2,rfl⟩:=h
      have s:=I.e C X e m3 O h3
      exact .cons (V9 s.ge) s.pl (I.a C X fl es m2 O h2)
     ·exact fun x p z=>hN ⟨x,p,z⟩
theorem Uh{x:Str}(O:iU C X c)(h:(decide (x="range")&&zR C.sc x&&(fnAt C x).isNone)=true):x="range"/\Gl X "range":=by
 simp only[QUq,QUz]at h
 obtain⟨⟨rfl,h2⟩,_⟩:=h
 exact⟨rfl,lJ O h2⟩
theorem Yr{x:Str}(O:iU C X c)(h:(decide (x="zip")&&zR C.sc x&&(fnAt C x).isNone)=true):x="zip"/\Gl X "zip":=by
 simp only[QUq,QUz]at h
 obtain⟨⟨rfl,h2⟩,_⟩:=h
 exact⟨rfl,lJ O h2⟩
theorem TQ(I:Ih c n)(O:iU C X c){tg e:Expr}(h:Xj (n+1) C e=some m):GI X W0 c m tg e/\plain e=true:=by
 have dflt:dq n C e=some m->GI X W0 c m tg e/\plain e=true:=fun h=>let s:=I.e C X e m O h;⟨aa0 s.ge,s.pl⟩
 unfold Xj at h
 split at h
 ·split at h
  ·split at h
   ·rename_i hr
    obtain⟨rfl,hg⟩:=Uh O hr
    simp only[QJz]at h
    obtain⟨m1,h1,rfl⟩:=h
    have s:=I.e C X _ m1 O h1
    exact⟨Ge s.ge hg (O.bi _ (by decide)) (bG s.pl _ _),rfl⟩
   ·exact dflt h
  ·split at h
   ·rename_i hr
    obtain⟨rfl,hg⟩:=Yr O hr
    simp only[QJq,QJz]at h
    obtain⟨m1,h1,m2,h2,rfl⟩:=h
    have s1:=I.e C X _ m1 O h1
    have s2:=I.e C X _ m2 O h2
    exact⟨V5 s1.ge s2.ge hg (O.bi _ (by decide)) (by rw[bG s1.pl,bG s2.pl];rfl) (bG s2.pl _ _),rfl⟩
   ·exact dflt h
  ·exact dflt h
 ·exact dflt h
theorem TJ(I:Ih c n)(O:iU C X c){elt:Expr}{g:Comprehension}{sc:Scope}(h:YK (n+1) C elt g sc=some m):Az X c m elt g sc:=by
 rw[YK]at h
 split at h
 ·rename_i ha
  simp only[QJq]at h
  obtain⟨⟨tgs,tg⟩,ht,h⟩:=h
  simp only at h
  split at h
  ·rename_i hs
   simp only[QJq,QJz]at h
   obtain⟨it,h1,cond,h2,m',h3,rfl⟩:=h
   obtain⟨sm,gg⟩:=YM O ht hs
   have S:=Hu hs
   obtain⟨gi,gp⟩:=I.i C X g.target g.iter it O h1
   refine⟨tgs,tg,it,cond,m',rfl,⟨by rw[O.sc,O.N];exact S,sm,fun cl fp s₀ H₀ _=>gg cl fp s₀ H₀,?_,fun cl fp s₀ H₀ _=>(I.e _ _ elt m' (O.blk hs) h3).ge⟩,gi,gp,ha⟩
   split at h2
   ·rename_i hi
    cases h2
    exact .inl ⟨hi,rfl⟩
   ·rename_i ce hi
    exact .inr ⟨ce,hi,fun cl fp s₀ H₀ _=>(I.e _ _ ce cond (O.blk hs) h2).gt⟩
   ·cases h2
  ·cases h
 ·cases h
end
end Mini
end
section
namespace Mini
open PySem L2
section
variable{c:Cf}{n:Nat}{C:Ct}{X:Cx}{m:E}
theorem IV(I:Ih c n)(O:iU C X c){x:Str}{a:Expr}{p pos:Pos}(hg:zR C.sc x=true)(h:((X8 x).bind fun b=>(dq n C a).bind fun m=>if (decide (b=.dict)&&m.aC.isSome)=true then some (E.bi b (.rd m))else some (E.bi b m))=some m):
  GE X W0 c m (.Call (.Name x p) [a] [] pos)/\m.aC=none/\m.jf=false:=by
 simp only[QJq]at h
 obtain⟨bb,h1,m1,h2,h3⟩:=h
 split at h3
 ·cases h3
  have s:=I.e C X a m1 O h2
  have gr:GE X W0 c (.rd m1) a:=fun env=>PE.imp (s.ge env) fun σ H Q q=>by simpa only[GZ]using q
  have sr:Sd X c (.rd m1) a:=⟨gr,fun QLq sh σ H Q I⟨env,q⟩=>s.gt QLq sh σ H Q I ⟨env,by simpa only[GZ]using q⟩,s.pl,fun k z=>(by cases z),rfl⟩
  exact⟨RW O h1 hg sr fun _=>rfl,rfl,rfl⟩
 ·rename_i hn
  cases h3
  refine⟨RW O h1 hg (I.e C X a m1 O h2) (fun z=>?_),rfl,rfl⟩
  subst z
  cases q:m1.aC with
  |none=>rfl
  |some k=>rw[q]at hn;exact absurd rfl hn
theorem TY(I:Ih c n)(O:iU C X c){x:Str}{args:List Expr}{p pos:Pos}(hg:zR C.sc x=true)(h:YL (n+1) C x args=some m):GE X W0 c m (.Call (.Name x p) args [] pos)/\m.aC=none/\m.jf=false:=by
 unfold YL at h
 split at h
 ·--isinstance
  split at h
  ·rename_i hx
   subst hx
   split at h
   ·split at h
    ·rename_i hy
     simp only[QJq,QJz]at h
     obtain⟨t,h1,m1,h2,rfl⟩:=h
     have s:=I.e C X _ m1 O h2
     obtain⟨e1,e2⟩:=Tp h1
     exact⟨Wh s.ge e1 (lJ O hy) (O.bi _ e2) (lJ O hg) (O.bi _ (by decide)) (bG s.pl _ _),rfl,rfl⟩
    ·cases h
   ·cases h
  ·cases h
 ·split at h
  ·split at h
   ·split at h
    ·rename_i hz
     obtain⟨rfl,hgz⟩:=Yr O hz
     split at h
     ·rename_i hx
      subst hx
      simp only[QJq,QJz]at h
      obtain⟨m1,h1,m2,h2,rfl⟩:=h
      have s1:=I.e C X _ m1 O h1
      have s2:=I.e C X _ m2 O h2
      exact⟨zV O.calm s1.ge s2.ge hgz (O.bi _ (by decide)) (by rw[bG s1.pl,bG s2.pl];rfl) (bG s2.pl _ _) (lJ O hg) (O.bi _ (by decide)) rfl,rfl,rfl⟩
     ·split at h
      ·rename_i hx
       subst hx
       simp only[QJq,QJz]at h
       obtain⟨m1,h1,m2,h2,rfl⟩:=h
       have s1:=I.e C X _ m1 O h1
       have s2:=I.e C X _ m2 O h2
       exact⟨zU O.calm s1.ge s2.ge hgz (O.bi _ (by decide)) (by rw[bG s1.pl,bG s2.pl];rfl) (bG s2.pl _ _) (lJ O hg) (O.bi _ (by decide)) rfl,rfl,rfl⟩
      ·cases h
    ·exact IV I O hg h
   ·exact IV I O hg h
  ·exact IV I O hg h
 ·cases h
theorem gj{e:Expr}(ge:GE X W0 c m e)(hp:plain e=true)(hv:m.aC=none)(hi:m.jf=false)(ht:tame e=true):Sd X c m e:=
 ⟨ge,JX ge hp ht,hp,fun k z=>(by rw[hv]at z;cases z),hi⟩
theorem hu1(O:iU C X c):X.A.units+1<cLine:=by have:=O.hu;omega
theorem Qe{x:Str}{g:Nat}{fl:List Bool}(h:fnAt C x=some (g,fl)):C.fns[g]? =some (x,fl):=by
 unfold fnAt at h
 simp only[QJq,QJz]at h
 obtain⟨g',h1,⟨y,fl'⟩,h2,h3⟩:=h
 cases h3
 have:=iw h1
 rw[QFz,h2]at this
 simp at this
 rw[h2,this]
theorem lR{o:Expr}{name:Str}{env:Env}(h:isCall o=false):attributeBase o name env (eval o env)=eval o env:=by
 cases o<;>first|rfl|simp[isCall]at h
theorem TV(I:Ih c n)(O:iU C X c){e:Expr}(h:dq (n+1) C e=some m):Sd X c m e:=by
 have no:∀{P:Prop},(none:Option E)=some m->P:=fun z=>nomatch z
 unfold dq at h
 split at h
 ·simp only[QJz]at h
  obtain⟨d,h1,rfl⟩:=h
  exact gj (Wm (Ky h1)) rfl rfl rfl rfl
 ·exact Bm O h
 ·simp only[QJz]at h
  obtain⟨m1,h1,rfl⟩:=h
  exact gj (V8 (I.es C X _ m1 O h1).ga) rfl rfl rfl rfl
 ·simp only[QJz]at h
  obtain⟨m1,h1,rfl⟩:=h
  exact gj (Wf (I.es C X _ m1 O h1).ga) rfl rfl rfl rfl
 ·simp only[QJq,QJz]at h
  obtain⟨o,h0,m1,h1,m2,h2,rfl⟩:=h
  rw[Vb h0]
  exact gj (aa2 (I.e C X _ m1 O h1).ge (I.e C X _ m2 O h2).ge) rfl rfl rfl rfl
 ·split at h
  ·simp only[QJz]at h
   obtain⟨m1,h1,rfl⟩:=h
   exact gj (We (I.e C X _ m1 O h1).ge) rfl rfl rfl rfl
  ·simp only[QJz]at h
   obtain⟨m1,h1,rfl⟩:=h
   have s:=I.e C X _ m1 O h1
   exact⟨Wd s.ge,VN s.gt,rfl,fun k z=>(by cases z),rfl⟩
  ·exact no h
 ·simp only[QJq]at h
  obtain⟨m1,h1,h2⟩:=h
  have A:=I.es C X _ m1 O h1
  split at h2
  ·exact no h2
  ·rename_i hn
   cases A with
   |nil=>exact absurd rfl hn
   |cons s t=>
    split at h2
    ·cases h2
     exact⟨(Al.cons s t).and.1,(Al.cons s t).and.2.t,rfl,fun k z=>(by cases z),rfl⟩
    ·cases h2
     exact⟨(Al.cons s t).or.1,(Al.cons s t).or.2.t,rfl,fun k z=>(by cases z),rfl⟩
 ·split at h
  ·simp only[QJq,QJz]at h
   obtain⟨o,h0,m1,h1,m2,h2,rfl⟩:=h
   rw[Ac h0]
   have s1:=I.e C X _ m1 O h1
   have s2:=I.e C X _ m2 O h2
   exact⟨Wn (mF O.hu o) s1.ge s2.ge s2.va (pY s2.pl _),VR (mF O.hu o) s1.ge s2.ge s2.va (pY s2.pl _),rfl,fun k z=>(by cases z),rfl⟩
  ·simp only[QJq,QJz]at h
   obtain⟨o,h0,o2,h02,m1,h1,m2,h2,m3,h3,rfl⟩:=h
   rw[Ac h0,Ac h02]
   have s1:=I.e C X _ m1 O h1
   have s2:=I.e C X _ m2 O h2
   have s3:=I.e C X _ m3 O h3
   have hm:∀b,lastMarks [dX o,dX o2] [b,_]=false:=fun b=>pY s3.pl (dX o2)
   exact⟨J7 (mF O.hu o) (mF O.hu o2) s1.ge s2.ge s3.ge (hm _),JZ (mF O.hu o) (mF O.hu o2) s1.ge s2.ge s3.ge (hm _),rfl,fun k z=>(by cases z),rfl⟩
  ·exact no h
 ·simp only[QJq,QJz]at h
  obtain⟨m1,h1,m2,h2,m3,h3,rfl⟩:=h
  have s1:=I.e C X _ m1 O h1
  have s2:=I.e C X _ m2 O h2
  have s3:=I.e C X _ m3 O h3
  exact⟨Wg s1.gt s2.ge s3.ge,VP s1.gt s2.gt s3.gt,rfl,fun k z=>(by cases z),rfl⟩
 ·split at h
  ·split at h
   ·simp only[QJq,QJz]at h
    obtain⟨m1,h1,m2,h2,m3,h3,rfl⟩:=h
    exact gj (Wa (I.e C X _ m1 O h1).ge (I.o C X _ m2 O h2) (I.o C X _ m3 O h3)) rfl rfl rfl rfl
   ·exact no h
  ·simp only[QJq,QJz]at h
   obtain⟨m1,h1,m2,h2,rfl⟩:=h
   have s1:=I.e C X _ m1 O h1
   have s2:=I.e C X _ m2 O h2
   exact gj (Wj (by have:=O.hu;omega) s1.ge s2.ge s1.va (zu s2.pl)) rfl rfl rfl rfl
 ·split at h
  ·split at h
   ·split at h
    ·rename_i hx
     rw[QUq]at hx
     split at h
     ·rename_i g fl hf
      simp only[QJq]at h
      obtain⟨m1,h1,h2⟩:=h
      split at h2
      ·exact no h2
      ·rename_i hn
       cases h2
       have A:=I.a C X _ _ m1 O h1
       obtain⟨k,f,fd,ps,F,hr,hm,hk,hb,hl⟩:=O.fn g _ fl (Qe hf)
       cases A with
       |nil=>exact absurd rfl hn
       |cons ge pl t=>
        exact gj (Qa F hr (lJ O hx.2) hm hk hb (Bw hx.1).1 (Ar.cons ge pl t).ga (bG pl _ _) t.plain hl) rfl rfl rfl rfl
     ·obtain⟨ge,h1,h2⟩:=I.b C X _ _ m _ _ O hx.2 h
      exact gj ge rfl h1 h2 rfl
    ·exact no h
   ·split at h
    ·rename_i hl
     split at h
     ·split at h
      ·rename_i hx
       subst hx
       simp only[QJq,QJz]at h
       obtain⟨m1,h1,u,h0,m2,h2,rfl⟩:=h
       split at h0
       ·rename_i hp
        rw[QUq]at hp
        have s1:=I.e C X _ m1 O h1
        have s2:=I.e C X _ m2 O h2
        exact gj (J6 ⟨lR (by simpa using hp.2),hl,bG s2.pl _ _⟩ s1.ge s2.ge) rfl rfl rfl rfl
       ·cases h0
      ·split at h
       ·rename_i hx
        subst hx
        split at h
        ·simp only[QJq]at h
         obtain⟨v,h1,h2⟩:=h
         split at h2
         ·simp only[QJz]at h2
          obtain⟨m2,h3,rfl⟩:=h2
          have s2:=I.e C X _ m2 O h3
          exact gj (J5 ⟨rfl,hl,bG s2.pl _ _⟩ (Bx O h1) s2.ge) rfl rfl rfl rfl
         ·exact no h2
        ·exact no h
       ·exact no h
     ·split at h
      ·rename_i hx
       subst hx
       simp only[QJq,QJz]at h
       obtain⟨m1,h1,u,h0,m2,h2,m3,h3,rfl⟩:=h
       split at h0
       ·rename_i hp
        rw[QUq]at hp
        have s1:=I.e C X _ m1 O h1
        have s2:=I.e C X _ m2 O h2
        have s3:=I.e C X _ m3 O h3
        exact gj (PQ (hu1 O) ⟨lR (by simpa using hp.2),by rw[bG s2.pl,bG s3.pl];rfl,hl,by rw[bG s2.pl,bG s3.pl];rfl⟩ s1.ge s2.ge s3.ge) rfl rfl rfl rfl
       ·cases h0
      ·exact no h
     ·exact no h
    ·exact no h
   ·exact no h
  ·exact no h
 ·split at h
  ·rename_i hx
   simp only[QUq,QUz]at hx
   simp only[QJz]at h
   obtain⟨m1,h1,rfl⟩:=h
   obtain⟨km,K,a⟩:=I.d C X _ _ m1 O h1
   exact gj (Wl (by have:=O.hu;omega) K a hx.1.1 (fun z=>by rw[z]at hx;simp at hx) hx.1.2) rfl rfl rfl rfl
  ·exact no h
 ·split at h
  ·rename_i elt sc pos g
   obtain⟨tgs,tg,it,cond,m',rfl,B,gi,gp,ha⟩:=I.k C X _ _ _ m O h
   obtain⟨ta,ti,tf,tn⟩:=g
   simp only at ha
   subst ha
   exact gj (P0 B gi O.calm (fun x=>vI gp _ _)) rfl rfl rfl rfl
  ·exact no h
 ·exact no h
end
theorem ih(c:Cf):∀n,Ih c n
 |0=>ih0 c
 |n+1=>let I:=ih c n
  ⟨fun C X e m O h=>TV I O h,fun C X es m O h=>M3 I O h,fun C X fl es m O h=>T3 I O h,fun C X o m O h=>TF I O h,fun C X x args m p pos O hg h=>TY I O hg h,fun C X tg e m O h=>TQ I O h,fun C X elt g sc m O h=>TJ I O h,fun C X ks vs m O h=>TX I O h⟩
end Mini
end
section
namespace Mini
open PySem L2
def NE{α:Type}(r:Out α):Prop:=∀k σ,r≠ .exc k σ
section
variable{α β:Type}
theorem NE.ok(a:α)(σ:Ev):NE (.ok a σ):=fun _ _ z=>nomatch z
theorem NE.bad:NE (.bad:Out α):=fun _ _ z=>nomatch z
theorem NE.lift(σ:Ev)(o:Option α):NE (lift σ o):=by cases o<;>(intro _ _ z;cases z)
theorem NE.bind{r:Out α}{f:α->Ev->Out β}(h:NE r)(g:∀a σ,NE (f a σ)):NE (r.bind f):=by
 cases r with
 |ok a σ=>exact g a σ
 |exc k σ=>exact absurd rfl (h k σ)
 |bad=>exact NE.bad
theorem NE.ao{r:Out Rv}{f:D->Ev->Out β}(h:NE r)(g:∀a σ,NE (f a σ)):NE (r.ao f):=by
 cases r with
 |ok a σ=>cases a<;>first|exact g _ _|exact NE.bad
 |exc k σ=>exact absurd rfl (h k σ)
 |bad=>exact NE.bad
theorem NE.cu{tr:D->Option Bool}{r:Out Rv}{f:Bool->Ev->Out β}(h:NE r)(g:∀a σ,NE (f a σ)):NE (r.cu tr f):=
 NE.ao h fun d σ=>by
  cases tr d with
  |none=>exact NE.bad
  |some b=>exact g b σ
theorem NE.ite{p:Prop}[Decidable p]{a b:Out α}(h:NE a)(g:NE b):NE (if p then a else b):=by split<;>assumption
end
theorem O7(c:Cf)(f:Nat)(as:List Rv)(σ:Ev):NE (qN c f as σ):=by
 unfold qN
 split
 ·exact NE.bad
 ·split
  ·split
   ·exact NE.ok _ _
   ·exact NE.bad
  ·exact NE.bad
theorem Jf(c:Cf)(f:Nat)(hs:List (Nat×D))(as:List Rv)(σ:Ev):NE (ph c f hs as σ):=by
 unfold ph
 split
 ·exact NE.bad
 ·split
  ·split
   ·exact NE.ok _ _
   ·exact NE.bad
  ·split
   ·exact NE.ok _ _
   ·exact NE.bad
  ·exact NE.bad
theorem Vc(k:Nat)(y:D)(σ:Ev):NE (pQ k y σ):=by
 unfold pQ
 split
 ·refine NE.ite NE.bad ?_
  split
  ·split
   ·exact NE.ok _ _
   ·exact NE.bad
  ·exact NE.bad
 ·exact NE.bad
theorem O6(k:Nat)(σ:Ev):NE (pM k σ):=by
 unfold pM
 split<;>first|exact NE.ok _ _|exact NE.bad
theorem zE(c:Cf):∀(m:E)(σ:Ev),NE (ev c m σ)/\NE (evs c m σ)/\NE (eZ c m σ)/\NE (jy c m σ):=by
 have k3:∀{m:E},(∀σ,NE (ev c m σ))->(∀σ,evs c m σ=.bad)->(∀σ,eZ c m σ=.bad)->(∀σ,jy c m σ=.bad)->∀σ,NE (ev c m σ)/\NE (evs c m σ)/\NE (eZ c m σ)/\NE (jy c m σ):=fun h a b d σ=>by
  rw[a,b,d]
  exact⟨h σ,NE.bad,NE.bad,NE.bad⟩
 intro m
 induction m with
 |var i=>exact k3 (fun σ=>O6 i σ) (fun _=>rfl) (fun _=>rfl) fun _=>rfl
 |con d=>exact k3 (fun σ=>NE.ok _ _) (fun _=>rfl) (fun _=>rfl) fun _=>rfl
 |glob k=>exact k3 (fun σ=>by rw[Yz];split<;>first|exact NE.ok _ _|exact NE.bad) (fun _=>rfl) (fun _=>rfl) fun _=>rfl
 |nil=>exact fun σ=>⟨NE.bad,NE.ok _ _,NE.bad,NE.bad⟩
 |cons h t ih jh=>
  intro σ
  refine⟨NE.bad,NE.bind (ih σ).1 fun x σ=>NE.bind (jh σ).2.1 fun _ _=>NE.ok _ _,?_,?_⟩
  ·cases t with
   |nil=>exact(ih σ).1
   |_=>exact NE.ao (ih σ).1 fun x σ=>(by split<;>first|exact(jh σ).2.2.1|exact NE.ok _ _|exact NE.bad)
  ·cases t with
   |nil=>exact(ih σ).1
   |_=>exact NE.ao (ih σ).1 fun x σ=>(by split<;>first|exact(jh σ).2.2.2|exact NE.ok _ _|exact NE.bad)
 |tup es ih=>exact k3 (fun σ=>NE.bind (ih σ).2.1 fun _ _=>NE.lift _ _) (fun _=>rfl) (fun _=>rfl) fun _=>rfl
 |lis es ih=>exact k3 (fun σ=>NE.bind (ih σ).2.1 fun _ _=>NE.lift _ _) (fun _=>rfl) (fun _=>rfl) fun _=>rfl
 |op o a b ih jh=>exact k3 (fun σ=>NE.ao (ih σ).1 fun _ σ=>NE.ao (jh σ).1 fun _ _=>NE.lift _ _) (fun _=>rfl) (fun _=>rfl) fun _=>rfl
 |neg a ih=>exact k3 (fun σ=>NE.ao (ih σ).1 fun _ σ=>NE.lift _ _) (fun _=>rfl) (fun _=>rfl) fun _=>rfl
 |cmp o a b ih jh=>exact k3 (fun σ=>NE.ao (ih σ).1 fun _ σ=>by split<;>first|exact NE.lift _ _|exact NE.ao (jh σ).1 fun _ _=>NE.lift _ _) (fun _=>rfl) (fun _=>rfl) fun _=>rfl
 |chain o p a b d ih jh kh=>exact k3 (fun σ=>NE.ao (ih σ).1 fun _ σ=>NE.ao (jh σ).1 fun _ σ=>NE.bind (NE.lift _ _) fun _ σ=>NE.ite (NE.ao (kh σ).1 fun _ _=>NE.lift _ _) (NE.ok _ _)) (fun _=>rfl) (fun _=>rfl) fun _=>rfl
 |and es ih=>exact k3 (fun σ=>(ih σ).2.2.1) (fun _=>rfl) (fun _=>rfl) fun _=>rfl
 |or es ih=>exact k3 (fun σ=>(ih σ).2.2.2) (fun _=>rfl) (fun _=>rfl) fun _=>rfl
 |not a ih=>exact k3 (fun σ=>NE.cu (ih σ).1 fun _ _=>NE.ok _ _) (fun _=>rfl) (fun _=>rfl) fun _=>rfl
 |ite t a b ih jh kh=>exact k3 (fun σ=>NE.cu (ih σ).1 fun _ σ=>NE.ite (jh σ).1 (kh σ).1) (fun _=>rfl) (fun _=>rfl) fun _=>rfl
 |idx a i ih jh=>exact k3 (fun σ=>by rw[DG];split<;>first|exact NE.ite NE.bad (NE.ao (jh σ).1 fun _ _=>NE.lift _ _)|exact NE.ao (ih σ).1 fun _ σ=>NE.ao (jh σ).1 fun _ _=>NE.lift _ _) (fun _=>rfl) (fun _=>rfl) fun _=>rfl
 |slc a lo hi ih jh kh=>exact k3 (fun σ=>NE.ao (ih σ).1 fun _ σ=>NE.ao (jh σ).1 fun _ σ=>by split<;>first|exact NE.bad|exact NE.ao (kh σ).1 fun _ _=>NE.lift _ _) (fun _=>rfl) (fun _=>rfl) fun _=>rfl
 |noneE=>exact k3 (fun σ=>NE.ok _ _) (fun _=>rfl) (fun _=>rfl) fun _=>rfl
 |call f as ih=>exact k3 (fun σ=>NE.bind (ih σ).2.1 fun _ _=>O7 _ _ _ _) (fun _=>rfl) (fun _=>rfl) fun _=>rfl
 |ref i=>exact k3 (fun σ=>by rw[G3];split<;>first|exact NE.ok _ _|exact NE.bad) (fun _=>rfl) (fun _=>rfl) fun _=>rfl
 |tmp e ih=>exact k3 (fun σ=>NE.bind (ih σ).1 fun _ _=>NE.lift _ _) (fun _=>rfl) (fun _=>rfl) fun _=>rfl
 |rd e ih=>exact k3 (fun σ=>(ih σ).1) (fun _=>rfl) (fun _=>rfl) fun _=>rfl
 |isi a t ih=>exact k3 (fun σ=>NE.ao (ih σ).1 fun _ _=>NE.ok _ _) (fun _=>rfl) (fun _=>rfl) fun _=>rfl
 |bi b a ih=>exact k3 (fun σ=>by rw[mj];split<;>first|exact NE.lift _ _|exact NE.ao (ih σ).1 fun _ _=>NE.lift _ _) (fun _=>rfl) (fun _=>rfl) fun _=>rfl
 |range1 a ih=>exact k3 (fun σ=>NE.ao (ih σ).1 fun _ _=>NE.lift _ _) (fun _=>rfl) (fun _=>rfl) fun _=>rfl
 |range2 a b ih jh=>exact k3 (fun σ=>NE.ao (ih σ).1 fun _ σ=>NE.ao (jh σ).1 fun _ _=>NE.lift _ _) (fun _=>rfl) (fun _=>rfl) fun _=>rfl
 |zip a b ih jh=>exact k3 (fun σ=>NE.ao (ih σ).1 fun _ σ=>NE.ao (jh σ).1 fun _ _=>NE.lift _ _) (fun _=>rfl) (fun _=>rfl) fun _=>rfl
 |count a b ih jh=>exact k3 (fun σ=>NE.ao (ih σ).1 fun _ σ=>NE.ite NE.bad (NE.ao (jh σ).1 fun _ _=>NE.lift _ _)) (fun _=>rfl) (fun _=>rfl) fun _=>rfl
 |popAt i a ih=>exact k3 (fun σ=>NE.ite NE.bad (NE.ao (ih σ).1 fun _ _=>Vc _ _ _)) (fun _=>rfl) (fun _=>rfl) fun _=>rfl
 |index a b ih jh=>exact k3 (fun σ=>NE.ao (ih σ).1 fun _ σ=>NE.ite NE.bad (NE.ao (jh σ).1 fun _ _=>NE.lift _ _)) (fun _=>rfl) (fun _=>rfl) fun _=>rfl
 |get2 a b d ih jh kh=>exact k3 (fun σ=>NE.ao (ih σ).1 fun _ σ=>NE.ite NE.bad (NE.ao (jh σ).1 fun _ σ=>NE.ao (kh σ).1 fun _ _=>NE.lift _ _)) (fun _=>rfl) (fun _=>rfl) fun _=>rfl
 |dsp es ih=>exact k3 (fun σ=>NE.bind (ih σ).2.1 fun _ _=>NE.lift _ _) (fun _=>rfl) (fun _=>rfl) fun _=>rfl
 |tcall f as hs ih=>exact k3 (fun σ=>NE.bind (ih σ).2.1 fun _ _=>Jf _ _ _ _ _) (fun _=>rfl) (fun _=>rfl) fun _=>rfl
 |comp nl tg it cond elt ih _ _=>
  refine k3 (fun σ=>?_) (fun _=>rfl) (fun _=>rfl) fun _=>rfl
  rw[jZ]
  refine NE.ao (ih σ).1 fun _ σ=>?_
  split
  ·split
   ·exact NE.ok _ _
   ·exact NE.bad
  ·exact NE.bad
section
variable{X:Cx}{W:Wi}{c:Cf}{m:E}{e tg:Expr}
theorem GE.w(h:GE X W0 c m e):GE X W c m e:=fun env=>PE.imp (h env) fun σ H Q⟨S,q⟩=>by
 refine⟨S,?_⟩
 cases r:ev c m env with
 |exc k σ'=>exact absurd r ((zE c m env).1 k σ')
 |_=>rw[r]at q;exact q
theorem GT.w(h:GT X W0 c m e):GT X W c m e:=PT.imp h fun σ H Q⟨env,S,q⟩=>by
 refine⟨env,S,?_⟩
 cases r:ev c m env with
 |exc k σ'=>exact absurd r ((zE c m env).1 k σ')
 |_=>rw[r]at q;exact q
theorem GI.w(h:GI X W0 c m tg e):GI X W c m tg e:=fun env QLq s σ H R I q=>h env QLq s σ H R I (by
 unfold tI at q⊢
 obtain⟨S,q⟩:=q
 refine⟨S,?_⟩
 cases r:ev c m env with
 |exc k σ'=>exact absurd r ((zE c m env).1 k σ')
 |_=>rw[r]at q;exact q)
end
end Mini
end
section
namespace Mini
open PySem L2
structure Top(C:Ct)(X:Cx)(W:Wi)(c:Cf):Prop where
 fn:∀x,X.fn x=true
 po:PassesOwn (model X.prog X.w) X.A X.env X.xe
 ra:∀e f p n m,QW (n+1) C (.Raise e f p)=some m->GS X W c m (.Raise e f p)
section
variable{c:Cf}{n:Nat}{C:Ct}{X:Cx}{W:Wi}{m:E}
theorem Qi(O:iU C X c):∀{n:Nat}{elt:Expr}{gens:List Comprehension}{sc:Scope}{pos:Pos},dq n C (.ListComp elt gens sc pos)=some m->∃g,gens=[g]/\Az X c m elt g sc
 |0,_,_,_,_,h=>by rw[dq]at h;cases h
 |n+1,elt,gens,sc,pos,h=>by
  unfold dq at h
  simp only at h
  split at h
  ·exact⟨_,rfl,(ih c n).k C X _ _ _ m O h⟩
  ·cases h
theorem pZ(O:iU C X c){x:Str}(h:Fj C.sc x=true):Loc X.env.scope x:=by
 unfold Fj at h
 rw[O.sc]
 rw[Bool.or_eq_true]at h
 rcases h with h|h
 ·exact .inl (by simpa using h)
 ·exact .inr (by simpa using h)
theorem kW{e:Expr}{t:Option Expr}{l:Nat}{env:Env}(hp:plain e=true)(hc:mZ e=false):swapsWith e t l env=pure false:=by
 cases e<;>first|rfl|exact absurd (show false=true from hp) Qjz|exact absurd (show true=false from hc) (fun h=>Qjz h.symm)
theorem yP{e:Expr}{es:List Expr}{k:Nat}{q:Pos}{env:Env}(h:isTup e=false):swappedStores [.Tuple es k q] e env=pure none:=by
 cases e<;>first|rfl|exact absurd (show true=false from h) (fun h=>Qjz h.symm)
theorem wK{e o i:Expr}{q:Pos}{env:Env}:swappedStores [.Subscript o i q] e env=pure none:=by
 cases e<;>rfl
theorem Bk{t e:Expr}{l:Nat}{env:Env}:swapsWithSole [t] e l env=swapsWith e (some t) l env:=rfl
theorem Qq{o i:Expr}{tp:Pos}{env:Env}{v:Value}(h:isSlice i=false):assign (.Subscript o i tp) env v=(do
   let ov<-holding [v] (eval o env)
   let iv<-holding [v,ov] (eval i env)
   standAt tp
   holding [v,ov,iv] (setItem ov iv v)
   release [v,ov,iv] []):=by
 rw[assign]
 cases i<;>first|rfl|(simp[isSlice]at h;done)
theorem pG(O:iU C X c)(T:Top C X W c):∀{es:List Expr}{is:List Nat},slotsOf C es=some is->rD X is es/\(assignEach es X.env).length=is.length/\(assignEach es X.env).findIdx? (·.1)=none
 |[],is,h=>by cases h;exact⟨.nil,rfl,rfl⟩
 |e::es,is,h=>by
  cases e<;>simp only[slotsOf]at h<;>try (cases h;done)
  rename_i x q
  split at h
  ·rename_i hl
   simp only[QJq,QJz]at h
   obtain⟨i,h1,js,h2,rfl⟩:=h
   obtain⟨a1,a2,a3⟩:=pG O T h2
   refine⟨.cons (by rw[O.N];exact iw h1) (pZ O hl) (.inl (T.fn x)) a1,?_,?_⟩
   ·show(_::assignEach es X.env).length=_
    simp[a2]
   ·show(List.findIdx? (·.1) ((false,_)::assignEach es X.env))=none
    rw[List.findIdx?_cons]
    simp[a3]
  ·cases h
theorem tU(O:iU C X c):X.N.Nodup:=by rw[O.N];exact O.nd
theorem Hb(O:iU C X c)(T:Top C X W c){tg:Tg}{e:Expr}(h:Hc C e=some tg):GG X tg e:=by
 cases e<;>simp only[Hc]at h<;>try (cases h;done)
 ·rename_i x q
  split at h
  ·rename_i hl
   simp only[QJz]at h
   obtain⟨i,h1,rfl⟩:=h
   exact vG (tU O) (by rw[O.N];exact iw h1) (pZ O hl) (.inl (T.fn x))
  ·cases h
 ·simp only[QJz]at h
  obtain⟨is,h1,rfl⟩:=h
  obtain⟨a1,a2,a3⟩:=pG O T h1
  exact zT (tU O) O.calm a1 a2 a3
theorem FZ(O:iU C X c)(T:Top C X W c){scope:Scope}{tgs:List Str}{tg:Tg}{it cond elt:E}{tgE iterE eltE:Expr}{ifs:List Expr}{cp sp np:Pos}{i:Nat}{x:Str}(B:yD X c scope tgs tg cond elt tgE eltE ifs)(hi:GI X W c it tgE iterE)(gp:plain iterE=true)
  (ge:GE X W c (.comp tgs.length tg it cond elt) (.ListComp eltE [⟨tgE,iterE,ifs,0⟩] scope cp))(hN:X.N[i]? =some x)(hl:Fj C.sc x=true):
  GS X W c (.set i (.comp tgs.length tg it cond elt)) (.Assign [.Name x np] (.ListComp eltE [⟨tgE,iterE,ifs,0⟩] scope cp) sp):=by
 have key:∃b:Bool,swapsWith (.ListComp eltE [⟨tgE,iterE,ifs,0⟩] scope cp) (some (.Name x np)) sp.line X.env=pure b:=⟨_,rfl⟩
 obtain⟨b,hb⟩:=key
 cases b with
 |false=>exact J3 ge (tU O) hN (pZ O hl) (.inl (T.fn x)) hb
 |true=>exact zQ B hi O.calm (fun x=>vI gp _ _) (tU O) hN (pZ O hl) (.inl (T.fn x)) hb
structure IhS(c:Cf)(n:Nat):Prop where
 s:∀C X W st m,iU C X c->Top C X W c->QW n C st=some m->GS X W c m st
 ss:∀C X W st m,iU C X c->Top C X W c->o9 n C st=some m->Mf X W c m st
theorem aeE(c:Cf):IhS c 0:=by
 constructor
 all_goals (intros;rename_i h;first|(rw[QW]at h;cases h)|(rw[o9]at h;cases h))
theorem MT(I:IhS c n)(O:iU C X c)(T:Top C X W c){st:List Stmt}{m:S}(h:o9 (n+1) C st=some m):Mf X W c m st:=by
 cases st with
 |nil=>rw[o9]at h;cases h;exact PB
 |cons s st=>
  rw[o9]at h
  simp only[QJq,QJz]at h
  obtain⟨m1,h1,m2,h2,rfl⟩:=h
  exact J0 (I.s C X W s m1 O T h1) (I.ss C X W st m2 O T h2)
theorem Tz(I:IhS c n)(O:iU C X c)(T:Top C X W c){st:Stmt}{m:S}(h0:QW (n+1) C st=some m):GS X W c m st:=by
 have J:=ih c n
 have no:∀{P:Prop},(none:Option S)=some m->P:=fun z=>nomatch z
 have h:=h0
 unfold QW at h
 split at h
 ·split at h
  ·cases h;exact PK
  ·simp only[QJz]at h
   obtain⟨m1,h1,rfl⟩:=h
   have s:=J.e C X _ m1 O h1
   exact V1 s.ge.w s.va
 ·split at h
  ·split at h
   ·rename_i e _ _ _ x _
    split at h
    ·rename_i hl
     simp only[QJq,QJz]at h
     obtain⟨i,h1,m1,h2,rfl⟩:=h
     have s:=J.e C X _ m1 O h2
     have hN:X.N[i]? =some x:=by rw[O.N];exact iw h1
     cases hc:mZ e with
     |false=>exact J3 s.ge.w (tU O) hN (pZ O hl) (.inl (T.fn x)) (kW s.pl hc)
     |true=>
      cases e<;>simp[mZ]at hc
      rename_i elt gens sc cp
      obtain⟨g,rfl,tgs,tg,it,cond,m',rfl,B,gi,gp,ha⟩:=Qi O h2
      obtain⟨ta,ti,tf,tn⟩:=g
      simp only at ha
      subst ha
      exact FZ O T B gi.w gp s.ge.w hN hl
    ·exact no h
   ·split at h
    ·exact no h
    ·rename_i hx
     rw[Bool.not_eq_true,Bool.or_eq_false_iff]at hx
     simp only[QJq,QJz]at h
     obtain⟨is,h1,m1,h2,rfl⟩:=h
     have s:=J.e C X _ m1 O h2
     obtain⟨a1,a2,a3⟩:=pG O T h1
     exact PJ s.ge.w (zT (tU O) O.calm a1 a2 a3) (by rw[Bk];exact kW s.pl hx.2) (yP hx.1) rfl
   ·split at h
    ·split at h
     ·exact no h
     ·rename_i hx
      rw[Bool.not_eq_true,Bool.or_eq_false_iff]at hx
      simp only[QJq]at h
      obtain⟨v,h1,h⟩:=h
      split at h
      ·simp only[QJq,QJz]at h
       obtain⟨i,h2,m1,h3,rfl⟩:=h
       have s1:=J.e C X _ i O h2
       have s:=J.e C X _ m1 O h3
       exact J2 (Bx O h1) s.ge.w s1.ge.w (fun v=>Qq hx.2) (by rw[Bk];exact kW s.pl hx.1) wK (by have:=O.hu;omega) rfl
      ·exact no h
    ·exact no h
   ·exact no h
  ·exact no h
 ·--an expression alone
  split at h
  ·have dflt:∀(e:Expr)(q:Pos),mZ e=false->(dq n C e).map S.expr=some m->GS X W c m (.Expr e q):=fun e q hc z=>by
    simp only[QJz]at z
    obtain⟨m1,h1,rfl⟩:=z
    have s:=J.e C X _ m1 O h1
    exact PL s.ge.w (kW s.pl hc)
   split at h
   ·split at h
    ·split at h
     ·rename_i hx
      simp only[QUq,QUz]at hx
      obtain⟨hl,rfl⟩:=hx
      simp only[QJq]at h
      obtain⟨v,h1,h⟩:=h
      split at h
      ·simp only[QJz]at h
       obtain⟨m1,h2,rfl⟩:=h
       have s:=J.e C X _ m1 O h2
       exact Ga ⟨rfl,hl,bG s.pl _ _⟩ (Bx O h1) s.ge.w
      ·exact no h
     ·exact dflt _ _ rfl h
    ·exact no h
   ·exact dflt _ _ rfl h
  ·exact no h
 ·simp only[QJq,QJz]at h
  obtain⟨t,h1,a,h2,b,h3,rfl⟩:=h
  exact aaX (J.e C X _ t O h1).gt.w (I.ss C X W _ a O T h2) (I.ss C X W _ b O T h3)
 ·split at h
  ·simp only[QJq,QJz]at h
   obtain⟨tg,h1,it,h2,b,h3,rfl⟩:=h
   obtain⟨gi,gp⟩:=J.i C X _ _ it O h2
   exact V2 T.po O.calm gi.w (Hb O T h1) (I.ss C X W _ b O T h3) (fun x=>vI gp _ _)
  ·exact no h
 ·split at h
  ·simp only[QJq,QJz]at h
   obtain⟨t,h1,b,h3,rfl⟩:=h
   exact J1 T.po (J.e C X _ t O h1).gt.w (I.ss C X W _ b O T h3)
  ·exact no h
 ·exact T.ra _ _ _ _ _ h0
 ·exact no h
end
theorem NB{C:Ct}{e f:Option Expr}{p:Pos}{n:Nat}{m:S}(h:QW (n+1) C (.Raise e f p)=some m):m=.raise (HN C e f):=by
 unfold QW at h
 simp only at h
 cases h
 rfl
theorem Top.plain{C:Ct}{X:Cx}{c:Cf}(hf:∀x,X.fn x=true)(hp:PassesOwn (model X.prog X.w) X.A X.env X.xe):Top C X W0 c:=
 ⟨hf,hp,fun e f p n m h=>by rw[NB h];exact J4⟩
theorem ihS(c:Cf):∀n,IhS c n
 |0=>aeE c
 |n+1=>let I:=ihS c n
  ⟨fun C X W st m O T h=>Tz I O T h,fun C X W st m O T h=>MT I O T h⟩
end Mini
end
section
namespace Mini
open PySem L2
structure Df where
 x:Str
 st:Stmt
 N:List Str
 ps:List Str
 fl:List Bool
 exs:List Str:=[]
def adm(ds:List Df):List (Str×List Bool):=ds.map fun d=>(d.x,d.fl)
def abd(ds:List Df)(jx:List Str)(d:Df):Ct:={N:=d.N,sc:=aX d.st,fns:=adm ds,jx:=jx,exs:=d.exs}
def fnOf(ds:List Df)(jx:List Str)(d:Df):Option Fn:=(o9 60 (abd ds jx d) (dD d.st)).map fun b=>{pars:=d.ps.length,names:=d.N.length,body:=b}
structure uO(K:QQq)(mg:QZz)(d:Df)(f:Addr)(fd:FuncData):Prop where
 fu:W3 K d.x d.x d.st f fd
 bi:Binds K fd d.ps []
 at_:mg d.x=some (.ref f)
section
variable{P:Program}{w:World}{K:QQq}{mg:QZz}{base:Heap}{ds:List Df}{jx:List Str}{p:Pg}{fa:Nat->Addr}{fd:Nat->FuncData}
theorem Bs(hfn:∀i d,ds[i]? =some d->uO K mg d (fa i) (fd i))(hsc:∀d∈ds,jN d.N d.ps (aX d.st))(htr:∀(i:Nat)d,ds[i]? =some d->∃g,p.fns[i]? =some g/\fnOf ds jx d=some g)
  (hbi:∀x∈lQ,mg x=none)(hgl:∀(k:Nat)x,jx[k]? =some x->∃d v u,p.gl k=some d/\mg x=some u/\RelV v u/\∀H,bF K H d v):
  ∀(n i:Nat)d,ds[i]? =some d->nA P w K mg base GD n (fa i) (fd i) d.ps (rH K d.ps.length (p.fn n i))
 |0,i,d,e=>by
  have no:∀vs H Q E,¬rH K d.ps.length (p.fn 0 i) vs H Q E:=fun vs H Q E h=>by
   obtain⟨_,_,_,_,z⟩:=h
   exact z
  exact⟨fun vs H Q E h=>absurd h (no vs H Q E),fun A outer s H args us vs Q E _ _ _ _ h=>absurd h (no vs H Q E)⟩
 |n+1,i,d,e=>by
  have IH:=Bs hfn hsc htr hbi hgl n
  have D:=hfn i d e
  obtain⟨g,hg,ht⟩:=htr i d e
  unfold fnOf at ht
  simp only[QJz]at ht
  obtain⟨b,hb,rfl⟩:=ht
  have S:=hsc d (QBz e)
  have hp:p.fn (n+1) i=gk (p.cf n) {pars:=d.ps.length,names:=d.N.length,body:=b}:=by
   funext sl
   show(match p.fns[i]? with|some g=>gk (p.cf n) g sl|none=>.bad)=_
   rw[hg]
  rw[hp]
  refine Qd D.fu S rfl rfl fun cdv A outer s H E hr=>?_
  refine(ihS (p.cf n) 60).ss (abd ds jx d) _ W0 _ b ⟨rfl,rfl,S.nd,rfl,?_,hbi,fun k x hk=>?_,fun g x fl hk=>?_⟩ (.plain (fun _=>rfl) PassesOwn.never) hb
  ·have:=hr.un
   show(A.deeper _).units+60<cLine
   omega
  ·obtain⟨dd,v,u,h1,h2,h3,h4⟩:=hgl k x hk
   exact⟨dd,h1,v,u,h2,h3,h4⟩
  ·have hk':(ds.map fun d=>(d.x,d.fl))[g]? =some (x,fl):=hk
   rw[QFz]at hk'
   cases q:ds[g]? with
   |none=>rw[q]at hk';cases hk'
   |some d2=>
    rw[q]at hk'
    simp at hk'
    obtain⟨rfl,rfl⟩:=hk'
    have D2:=hfn g d2 q
    refine⟨n,fa g,fd g,d2.ps,IH g d2 q,hr,D2.at_,D2.fu.kp,D2.bi,fun sl=>?_⟩
    show p.fn n g sl=.bad\/_
    cases n with
    |zero=>exact .inl rfl
    |succ n=>
     obtain⟨g2,hg2,ht2⟩:=htr g d2 q
     unfold fnOf at ht2
     simp only[QJz]at ht2
     obtain⟨b2,hb2,rfl⟩:=ht2
     have:p.fn (n+1) g sl=gk (p.cf n) {pars:=d2.ps.length,names:=d2.N.length,body:=b2} sl:=by
      show(match p.fns[g]? with|some g=>gk (p.cf n) g sl|none=>.bad)=_
      rw[hg2]
     rw[this]
     exact Eh (p.cf n) _ sl
end
theorem T5{K:QQq}{f:List Sl->Res}{H:Hp}{a:Addr}{ns:List Int}(hO:Only H)(hS:iH K H a (ns.map V.int))(hf:∃qs,f [.val (.lst (ns.map D.int))]=.ok (.val (.bl true)) qs)(E:XK):
  rH K 1 f [.ref a] H (fun v _=>v=.bl true) E:=by
 have den:bF K H (.lst (ns.map D.int)) (.ref a):=by
  have fr:Lw K H a (ns.map V.int):=by
   rcases hS with (h|⟨o,h⟩)|h
   ·rcases hO a with z|⟨o,xs,z⟩
    ·rw[z]at h;cases h
    ·rw[z]at h;cases h
   ·exact .inl ⟨o,h⟩
   ·exact .inr h
  have l:∀(ns:List Int),aq K H (ns.map D.int) (ns.map V.int):=fun ns=>by
   induction ns with
   |nil=>exact aq.eY
   |cons i r ih=>exact aq.cZ rfl ih
  unfold bF
  exact⟨a,_,rfl,fr,l ns⟩
 obtain⟨qs,hf⟩:=hf
 refine⟨[.val (.lst (ns.map D.int))],rfl,⟨rfl,fun i s e=>?_,fun i j b h1=>?_⟩,fun i o e=>?_,?_⟩
 ·cases i with
  |zero=>simp at e;subst e;exact⟨.ref a,rfl,den⟩
  |succ i=>simp at e
 ·obtain⟨⟨s,o,e1,e2⟩,_⟩:=h1
  cases i with
  |zero=>simp at e1;subst e1;cases e2
  |succ i=>simp at e1
 ·cases i with
  |zero=>simp at e
  |succ i=>simp at e
 ·rw[hf]
  exact fun v H' _ z=>z
end Mini
end
section
namespace Mini
open PySem L2
def UT(a:Arguments):List Str:=a.args.map (·.arg)
def namesOf(st:Stmt):List Str:=UT (dF st)++(((aX st).names.filter fun p=>(p.2== .local||p.2== .cell)&& !(UT (dF st)).contains p.1).map (·.1))
def bV(x:Str)(st:Stmt)(fl:List Bool):Df:={x:=x,st:=st,N:=namesOf st,ps:=UT (dF st),fl:=fl}
def Ht(d:Df):Bool:=
 decide ((aX d.st).kind=.function)&& !(aX d.st).isCoroutine&& !(aX d.st).isGenerator&&decide d.N.Nodup&&decide (d.N.take d.ps.length=d.ps)
 &&(d.ps.all fun x=>(aX d.st).names.lookup x==some .local||(aX d.st).names.lookup x==some .cell)&&((aX d.st).names.all fun y=>y.2 != .free)
theorem Nb{d:Df}(h:Ht d=true):jN d.N d.ps (aX d.st):=by
 unfold Ht at h
 simp only[QUq,QUz,Bool.not_eq_true',List.all_eq_true,Bool.or_eq_true,beq_iff_eq,bne_iff_ne,ne_eq]at h
 obtain⟨⟨⟨⟨⟨⟨h1,h2⟩,h3⟩,h4⟩,h5⟩,h6⟩,h7⟩:=h
 exact⟨h1,h2,h3,h4,h5,h6,h7⟩
def YB:Value->D->Bool
 |.none,.non=>true
 |.bool a,.bl b=>a==b
 |.int i _,.int j=>i==j
 |.str x _,.str y=>decide (x=y)
 |_,_=>false
def Dz:List Value->List D->Bool
 |[],[]=>true
 |u::us,d::ds=>YB u d&&Dz us ds
 |_,_=>false
def G9(o:Obj)(ds:List D):Bool:=o.cls== .type "tuple"&&o.dict.isNone&&match o.data with
 |.seq its _=>Dz its.toList ds&&decide (its.size<=1000)
 |_=>false
def Qz(K:QQq)(mg:QZz)(x:Str)(d:D):Prop:=∃v u,mg x=some u/\RelV v u/\∀H,bF K H d v
theorem G6{K:QQq}{u:Value}{d:D}(h:YB u d=true):∃v,RelV v u/\∀H,bF K H d v:=by
 cases u<;>cases d<;>simp[YB]at h
 ·exact⟨.non,rfl,fun H=>rfl⟩
 ·subst h;exact⟨.bl _,rfl,fun H=>rfl⟩
 ·subst h;exact⟨.int _,⟨_,rfl⟩,fun H=>rfl⟩
 ·subst h;exact⟨.str _,⟨_,rfl⟩,fun H=>rfl⟩
theorem Bc{K:QQq}:∀{us:List Value}{ds:List D},Dz us ds=true->∃vs,Vals vs us/\∀H,aq K H ds vs
 |[],[]=>fun _=>⟨[],.nil,fun H=>aq.eY⟩
 |u::us,d::ds=>fun h=>by
  unfold Dz at h
  rw[QUq]at h
  obtain⟨v,r,e⟩:=G6 (K:=K) h.1
  obtain⟨vs,rs,es⟩:=Bc (K:=K) h.2
  exact⟨v::vs,.cons r rs,fun H=>aq.cZ (e H) (es H)⟩
 |[],_::_=>fun h=>by simp[Dz]at h
 |_::_,[]=>fun h=>by simp[Dz]at h
section
variable{K:QQq}{mg:QZz}{h:Heap}{x:Str}{d:D}{u:Value}{a:Addr}{o:Obj}{ds:List D}
theorem V3(X:K.In h)(G:h.Ns mainGlobals mg)(e:PySem.W.nsIn K mainGlobals x=some (some u))(hv:YB u d=true):Qz K mg x d:=by
 obtain⟨v,r,q⟩:=G6 (K:=K) hv
 exact⟨v,u,PySem.W.mg_of X G e,r,q⟩
theorem V4(X:K.In h)(G:h.Ns mainGlobals mg)(e:PySem.W.nsIn K mainGlobals x=some (some (.ref a)))(l:K.lookup a=some o)(hv:G9 o ds=true):Qz K mg x (.tup ds):=by
 unfold G9 at hv
 simp only[QUq,beq_iff_eq,Option.isNone_iff_eq_none]at hv
 obtain⟨⟨hc,hd⟩,hv⟩:=hv
 split at hv
 ·rename_i its n hs
  rw[QUq,QUz]at hv
  obtain⟨vs,r,q⟩:=Bc (K:=K) hv.1
  exact⟨.ref a,_,PySem.W.mg_of X G e,rfl,fun H=>dW (.inr ⟨o,its,n,l,hc,hd,hs,Nat.le_of_lt (Ec hv.2),r⟩) (q H)⟩
 ·cases hv
end
def yF(K:QQq)(mg:QZz):List Df->List (Addr×FuncData)->Prop
 |[],[]=>True
 |d::ds,(f,fd)::r=>uO K mg d f fd/\yF K mg ds r
 |_,_=>False
theorem yF.at{K:QQq}{mg:QZz}:∀{ds:List Df}{fs:List (Addr×FuncData)},yF K mg ds fs->∀(i:Nat)d,ds[i]? =some d->∃q,fs[i]? =some q/\uO K mg d q.1 q.2
 |[],_,_,i=>fun d e=>by simp at e
 |_::_,[],h,_=>fun _ _=>h.elim
 |d::ds,(f,fd)::r,h,0=>fun d' e=>by cases e;exact⟨(f,fd),rfl,h.1⟩
 |d::ds,(f,fd)::r,h,i+1=>fun d' e=>h.2.at i d' e
def yE(K:QQq)(mg:QZz):List Str->List D->Prop
 |[],[]=>True
 |x::xs,d::ds=>Qz K mg x d/\yE K mg xs ds
 |_,_=>False
theorem yE.at{K:QQq}{mg:QZz}:∀{xs:List Str}{ds:List D},yE K mg xs ds->∀(k:Nat)x,xs[k]? =some x->∃d,ds[k]? =some d/\Qz K mg x d
 |[],_,_,k=>fun x e=>by simp at e
 |_::_,[],h,_=>fun _ _=>h.elim
 |x::xs,d::ds,h,0=>fun x' e=>by cases e;exact⟨d,rfl,h.1⟩
 |x::xs,d::ds,h,k+1=>fun x' e=>h.2.at k x' e
def Ey(ds:List Df)(jx:List Str)(vals:List D)(turns:Nat):Pg:=
 {fns:=ds.map fun d=>(fnOf ds jx d).getD {pars:=0,names:=0,body:=.nil},gl:=fun k=>vals[k]?,turns:=turns}
theorem MK{P:Program}{w:World}{K:QQq}{mg:QZz}{base:Heap}{ds:List Df}{jx:List Str}{vals:List D}{turns:Nat}{fs:List (Addr×FuncData)}(hD:yF K mg ds fs)(hG:yE K mg jx vals)
  (hS:ds.all Ht=true)(hT:ds.all (fun d=>(fnOf ds jx d).isSome)=true)(hB:∀x∈lQ,mg x=none)(n i:Nat)(d:Df)(f:Addr)(fd:FuncData)(hd:ds[i]? =some d)(hf:fs[i]? =some (f,fd)):
  nA P w K mg base GD n f fd d.ps (rH K d.ps.length ((Ey ds jx vals turns).fn n i)):=by
 have z1:∀(i:Nat)d,ds[i]? =some d->uO K mg d (((fs[i]?).map (·.1)).getD 0) (((fs[i]?).map (·.2)).getD fd):=fun i d e=>by
  obtain⟨q,e1,e2⟩:=hD.at i d e
  simp only[e1,Option.map_some,Option.getD_some]
  exact e2
 have z2:∀(i:Nat)d,ds[i]? =some d->∃g,(Ey ds jx vals turns).fns[i]? =some g/\fnOf ds jx d=some g:=fun i d e=>by
  have hs:=List.all_eq_true.mp hT d (QBz e)
  obtain⟨g,hg⟩:=Option.isSome_iff_exists.mp hs
  refine⟨g,?_,hg⟩
  show(ds.map fun d=>(fnOf ds jx d).getD {pars:=0,names:=0,body:=.nil})[i]? =some g
  rw[QFz,e]
  simp[hg]
 have z3:∀(k:Nat)x,jx[k]? =some x->∃d v u,(Ey ds jx vals turns).gl k=some d/\mg x=some u/\RelV v u/\∀H,bF K H d v:=fun k x e=>by
  obtain⟨dd,e1,v,u,z1,z2,z3⟩:=hG.at k x e
  exact⟨dd,v,u,e1,z1,z2,z3⟩
 have Z:=Bs (P:=P) (w:=w) (K:=K) (base:=base) (p:=Ey ds jx vals turns) (ds:=ds) (jx:=jx) (fa:=fun i=>((fs[i]?).map (·.1)).getD 0) (fd:=fun i=>((fs[i]?).map (·.2)).getD fd)
  z1 (fun d hd=>Nb (List.all_eq_true.mp hS d hd)) z2 hB z3 n i d hd
 simp only[hf,Option.map_some,Option.getD_some]at Z
 exact Z
end Mini
end
section
namespace Mini
open PySem L2
def Lx(K:QQq)(x:Str)(st:Stmt):Prop:=∃(f:Addr)(od an:Option Addr)(sl:Array (Option Value))(oc kV dc pm cd ct:Value),
 PySem.W.nsIn K mainGlobals x=some (some (.ref f))/\K.lookup f=some ⟨oc,od,.func (PySem.W.fnOf x x (dF st) (dD st) (aX st) .none kV dc pm an cd ct),sl⟩/\PySem.W.codeIn K cd x=true/\PySem.W.keepIn K (.ref f)=true
theorem dIn{K:QQq}{x:Str}{st:Stmt}{f:Addr}{od an:Option Addr}{sl:Array (Option Value)}{oc kV dc pm cd ct:Value}(a:PySem.W.nsIn K mainGlobals x=some (some (.ref f)))
  (l:K.lookup f=some ⟨oc,od,.func (PySem.W.fnOf x x (dF st) (dD st) (aX st) .none kV dc pm an cd ct),sl⟩)(c:PySem.W.codeIn K cd x=true)(p:PySem.W.keepIn K (.ref f)=true):Lx K x st:=⟨f,od,an,sl,oc,kV,dc,pm,cd,ct,a,l,c,p⟩
def AllIn(K:QQq):List (Str×Stmt)->Prop
 |[]=>True
 |(x,s)::r=>Lx K x s/\AllIn K r
def Bd(d:Df):Prop:=∀(kV dc pm:Value)(an:Option Addr)(cd ct:Value)(us:List Value),us.length=d.ps.length->bindArgs (PySem.W.fnOf d.x d.x (dF d.st) (dD d.st) (aX d.st) .none kV dc pm an cd ct) ⟨us,[]⟩=pure (d.ps.zip us)
theorem rQ{us:List Value}(h:us.length=1):∃a,us=[a]:=List.length_eq_one_iff.mp h
theorem Ph{us:List Value}{n:Nat}(h:us.length=n+1):∃a r,us=a::r/\r.length=n:=by
 cases us with
 |nil=>simp at h
 |cons a r=>exact⟨a,r,rfl,by simpa using h⟩
theorem j9{us:List Value}(h:us.length=2):∃a b,us=[a,b]:=by
 obtain⟨a,r,rfl,h2⟩:=Ph h;obtain⟨b,rfl⟩:=rQ h2;exact⟨a,b,rfl⟩
theorem iY{us:List Value}(h:us.length=3):∃a b c,us=[a,b,c]:=by
 obtain⟨a,r,rfl,h2⟩:=Ph h;obtain⟨b,c,rfl⟩:=j9 h2;exact⟨a,b,c,rfl⟩
theorem xM{us:List Value}(h:us.length=4):∃a b c d,us=[a,b,c,d]:=by
 obtain⟨a,r,rfl,h2⟩:=Ph h;obtain⟨b,c,d,rfl⟩:=iY h2;exact⟨a,b,c,d,rfl⟩
theorem aeh{us:List Value}(h:us.length=5):∃a b c d e,us=[a,b,c,d,e]:=by
 obtain⟨a,r,rfl,h2⟩:=Ph h;obtain⟨b,c,d,e,rfl⟩:=xM h2;exact⟨a,b,c,d,e,rfl⟩
def Dt:List Df->Prop
 |[]=>True
 |d::r=>Bd d/\Dt r
inductive W2(K:QQq)(x:Str):D->Prop
 |v {u:Value} {d:D}:PySem.W.nsIn K mainGlobals x=some (some u)->YB u d=true->W2 K x d
 |t {a:Addr} {o:Obj} {ds:List D}:PySem.W.nsIn K mainGlobals x=some (some (.ref a))->K.lookup a=some o->G9 o ds=true->W2 K x (.tup ds)
def wg(K:QQq):List Str->List D->Prop
 |[],[]=>True
 |x::xs,d::ds=>W2 K x d/\wg K xs ds
 |_,_=>False
def Lz(K:QQq):List Str->Prop
 |[]=>True
 |x::r=>PySem.W.nsIn K mainGlobals x=some none/\Lz K r
section
variable{K:QQq}{h:Heap}{mg:QZz}
theorem Ld(X:K.In h)(G:h.Ns mainGlobals mg):∀(ds:List Df),Dt ds->AllIn K (ds.map fun d=>(d.x,d.st))->
  ∃fs,yF K mg ds fs/\∀(i:Nat)d,ds[i]? =some d->∃q,fs[i]? =some q/\uO K mg d q.1 q.2/\∀(s:Shared)(us:List Value),us.length=d.ps.length->BindsTo s q.2 ⟨us,[]⟩ (d.ps.zip us)
 |[],_,_=>⟨[],trivial,fun i d e=>by simp at e⟩
 |d::ds,⟨b,bs⟩,⟨⟨f,od,an,sl,oc,kV,dc,pm,cd,ct,a,l,c,p⟩,is⟩=>by
  obtain⟨fs,A,B⟩:=Ld X G ds bs is
  have F:=Wq l c p
  have D:uO K mg d f (PySem.W.fnOf d.x d.x (dF d.st) (dD d.st) (aX d.st) .none kV dc pm an cd ct):=⟨F,F.binds b,PySem.W.mg_of X G a⟩
  refine⟨(f,_)::fs,⟨D,A⟩,fun i e he=>?_⟩
  cases i with
  |zero=>cases he;exact⟨_,rfl,D,fun s us hl=>.of_eq (b kV dc pm an cd ct us hl)⟩
  |succ i=>exact B i e he
theorem Lb(X:K.In h)(G:h.Ns mainGlobals mg):∀(xs:List Str)(ds:List D),wg K xs ds->yE K mg xs ds
 |[],[],_=>trivial
 |_::xs,_::ds,⟨g,r⟩=>⟨by cases g with
  |v e hv=>exact V3 X G e hv
  |t e l hv=>exact V4 X G e l hv,Lb X G xs ds r⟩
 |[],_::_,h=>h.elim
 |_::_,[],h=>h.elim
theorem La(X:K.In h)(G:h.Ns mainGlobals mg):∀(xs:List Str),Lz K xs->∀x∈xs,mg x=none
 |[],_=>fun x hx=>by cases hx
 |_::r,⟨e,es⟩=>fun x hx=>by
  rcases QCq.mp hx with rfl|hx
  ·exact PySem.W.mg_none_of X G e
  ·exact La X G r es x hx
theorem Qu{l:PySem.W.OpenLaw}{w:World}{fa:Addr}{ds:List Df}{jx:List Str}{vals:List D}{L n:Nat}{dL:Df}{y:Str}(X:K.In h)(G:h.Ns mainGlobals mg)(hfa:mg "law"=some (.ref fa))(hx:dL.x="law")(hy:dL.ps=[y])(hL:ds[L]? =some dL)(b:Dt ds)
  (scp:ds.all Ht=true)(km:ds.all (fun d=>(fnOf ds jx d).isSome)=true)(A:AllIn K (ds.map fun d=>(d.x,d.st)))(B:wg K jx vals)(Z:Lz K lQ):
  ∃fd:FuncData,(∀(s:Shared)(v:Value),BindsTo s fd ⟨[v],[]⟩ [(y,v)])/\∀base:Heap,K.In base->base.Ns mainGlobals mg->nA l.prog w K mg base GD n fa fd [y] (rH K 1 ((Ey ds jx vals 1000).fn n L)):=by
 obtain⟨fs,A,C⟩:=Ld X G ds b A
 obtain⟨q,e1,e2,e3⟩:=C L dL hL
 have e:=hfa.symm.trans (hx▸e2.at_)
 cases e
 refine⟨q.2,fun s v=>?_,fun base _ _=>?_⟩
 ·have:=e3 s [v] (by rw[hy];rfl)
  rw[hy]at this
  exact this
 ·have:=MK (P:=l.prog) (w:=w) (base:=base) (turns:=1000) A (Lb X G jx vals B) scp km (La X G _ Z) n L dL q.1 q.2 hL e1
  rw[hy]at this
  exact this
end
theorem GP{l:PySem.W.OpenLaw}{q:Program}{loose:List Str}{XP:QZz->Heap->Prop}{YP:World->Heap->Prop}{d:DefRec}{K:Params->QQq}{p:Pg}{L:Nat}{y:Str}(hn:l.most=some 63)(hdf:d.params.defaults=[])
  (hY:∀(w:World)(h:Heap),YP w h->(K w.params).In h)(math:∀ns:List Int,ns.length<=63->∃qs,p.fn 60 L [.val (.lst (ns.map D.int))]=.ok (.val (.bl true)) qs)
  (F:∀(w:World)(mg:QZz)(fa:Addr)(h:Heap),(K w.params).In h->h.Ns mainGlobals mg->mg d.name=some (.ref fa)->
   ∃fd:FuncData,(∀(s:Shared)(u:Value),BindsTo s fd ⟨[u],[]⟩ [(y,u)])/\∀base:Heap,(K w.params).In base->base.Ns mainGlobals mg->nA l.prog w (K w.params) mg base GD 60 fa fd [y] (rH (K w.params) 1 (p.fn 60 L))):
  PySem.W.WalkO q loose XP YP l.row.toRowW d [] (fun f vs=>PySem.call f vs):=
 L2.Mi (n:=63) (k:=60) (x:=y) (CX:=fun _=>GD) (sp:=fun w=>rH (K w.params) 1 (p.fn 60 L)) hn (by decide) hdf ⟨rfl,by decide,by decide⟩ hY F (fun _ _ a ns hl hO hS=>T5 hO hS (math ns hl) _) fun _ _ _ _ _ z=>z
end Mini
end
section
namespace Mini
section
variable{α β:Type}{σ:Ev}{d:D}{o:Ob}{b:Bool}{i:Int}{k:Nat}{xs:List D}
@[simp]theorem acP{a:α}{f:α->Ev->Out β}:(Out.ok a σ).bind f=f a σ:=rfl
@[simp]theorem abj{f:α->Ev->Out β}:(Out.exc k σ).bind f=.exc k σ:=rfl
@[simp]theorem abk{f:α->Ev->Out β}:(Out.bad:Out α).bind f=.bad:=rfl
@[simp]theorem bO{f:D->Ev->Out β}:(Out.ok (.val d) σ).ao f=f d σ:=rfl
@[simp]theorem jM{f:D->Ev->Out β}:(Out.ok (.new o) σ).ao f=f o.d σ:=rfl
@[simp]theorem X6{f:D->Ev->Out β}:(Out.exc k σ).ao f=.exc k σ:=rfl
@[simp]theorem X7{f:D->Ev->Out β}:(Out.bad).ao f=.bad:=rfl
@[simp]theorem dj{f:Bool->Ev->Out β}:(Out.ok (.val (.bl b)) σ).cu gC f=f b σ:=rfl
@[simp]theorem X3{f:Bool->Ev->Out β}:(Out.ok (.val (.int i)) σ).cu gC f=f (i !=0) σ:=rfl
@[simp]theorem XS{f:Bool->Ev->Out β}:(Out.ok (.val (.tup xs)) σ).cu gC f=f (!xs.isEmpty) σ:=rfl
@[simp]theorem XX{f:Bool->Ev->Out β}:(Out.ok (.val (.lst xs)) σ).cu gC f=f (!xs.isEmpty) σ:=rfl
@[simp]theorem X4{f:Bool->Ev->Out β}:(Out.exc k σ).cu gC f=.exc k σ:=rfl
@[simp]theorem X5{f:Bool->Ev->Out β}:(Out.bad).cu gC f=.bad:=rfl
@[simp]theorem afT{a:α}{f:α->Ev->Fl}:(Out.ok a σ).fl f=f a σ:=rfl
@[simp]theorem aeM{f:α->Ev->Fl}:(Out.exc k σ:Out α).fl f=.exc k σ:=rfl
@[simp]theorem aeN{f:α->Ev->Fl}:(Out.bad:Out α).fl f=.bad:=rfl
@[simp]theorem acy{f:D->Ev->Fl}:(Out.ok (.val d) σ).jg f=f d σ:=rfl
@[simp]theorem acz{f:D->Ev->Fl}:(Out.ok (.new o) σ).jg f=f o.d σ:=rfl
@[simp]theorem acA{f:D->Ev->Fl}:(Out.exc k σ).jg f=.exc k σ:=rfl
@[simp]theorem acB{f:D->Ev->Fl}:(Out.bad).jg f=.bad:=rfl
@[simp]theorem aeO{f:Bool->Ev->Fl}:(Out.ok (.val (.bl b)) σ).CK f=f b σ:=rfl
@[simp]theorem acw{f:Bool->Ev->Fl}:(Out.exc k σ).CK f=.exc k σ:=rfl
@[simp]theorem acx{f:Bool->Ev->Fl}:(Out.bad).CK f=.bad:=rfl
@[simp]theorem tZ{a:α}:Mini.lift σ (some a)=.ok a σ:=rfl
@[simp]theorem XD:Mini.lift σ (none:Option α)=.bad:=rfl
@[simp]theorem Zj{f:Ev->Fl}:(Fl.next σ).seq f=f σ:=rfl
@[simp]theorem abU{r:Rv}{f:Ev->Fl}:(Fl.ret r σ).seq f=.ret r σ:=rfl
@[simp]theorem abV{f:Ev->Fl}:(Fl.exc k σ).seq f=.exc k σ:=rfl
@[simp]theorem abW{f:Ev->Fl}:(Fl.brk σ).seq f=.brk σ:=rfl
@[simp]theorem Zk{f:Ev->Fl}:(Fl.cont σ).seq f=.cont σ:=rfl
@[simp]theorem abX{f:Ev->Fl}:(Fl.bad).seq f=.bad:=rfl
@[simp]theorem mq{f:Ev->Fl}:(Fl.next σ).turn f=f σ:=rfl
@[simp]theorem Xg{f:Ev->Fl}:(Fl.cont σ).turn f=f σ:=rfl
@[simp]theorem YG{f:Ev->Fl}:(Fl.brk σ).turn f=.next σ:=rfl
@[simp]theorem YD{r:Rv}{f:Ev->Fl}:(Fl.ret r σ).turn f=.ret r σ:=rfl
@[simp]theorem YF{f:Ev->Fl}:(Fl.exc k σ).turn f=.exc k σ:=rfl
@[simp]theorem YH{f:Ev->Fl}:(Fl.bad).turn f=.bad:=rfl
@[simp]theorem Zn:mD (.val d) σ=.ret (.val d) σ:=rfl
@[simp]theorem Zo:mD (.new o) σ=.ret (.new o) σ:=rfl
@[simp]theorem aae{τ:Ev}:oH (some τ)=.next τ:=rfl
@[simp]theorem aaf:oH none=.bad:=rfl
@[simp]theorem abr:argv (.val d)=.val d:=rfl
@[simp]theorem abv:argv (.new o)=.val o.d:=rfl
@[simp]theorem abu:argv (.ref k)=.ref k:=rfl
@[simp]theorem abt:argv (.tmp o)=.tmp o:=rfl
@[simp]theorem Zd:Rv.wM (.val d)=some (.val d):=rfl
@[simp]theorem Ze:Rv.wM (.new o)=some (.own o):=rfl
@[simp]theorem acK:Rv.jb (.val d)=some d:=rfl
@[simp]theorem acL:Rv.jb (.new o)=some o.d:=rfl
@[simp]theorem Ku:Ob.d (.lst xs)=.lst xs:=rfl
@[simp]theorem agq{ys:List D}:Ob.d (.dct xs ys)=.cC xs ys:=rfl
@[simp]theorem ab3:Fq (.tup xs)=some xs.length:=rfl
@[simp]theorem ab4:Fq (.lst xs)=some xs.length:=rfl
@[simp]theorem acS:b1 .len (.tup xs)=some (.val (.int xs.length)):=rfl
@[simp]theorem acT:b1 .len (.lst xs)=some (.val (.int xs.length)):=rfl
@[simp]theorem acU:b1 .int (.int i)=some (.val (.int i)):=rfl
@[simp]theorem acV:b1 .int (.bl b)=some (.val (.int (b2i b))):=rfl
@[simp]theorem abl:b1 .tuple d=(bw d).bind fun xs=>some (.val (.tup xs)):=rfl
@[simp]theorem acR:b1 .list d=(Hr d).bind fun xs=>some (.new (.lst xs)):=rfl
@[simp]theorem adn(xs:List D):Hr (.tup xs)=some xs:=rfl
@[simp]theorem adp(xs:List D):Hr (.lst xs)=some xs:=rfl
@[simp]theorem ado(ks vs:List D):Hr (.iJ ks vs)=some ks:=rfl
@[simp]theorem K7:b1 .all d=(bw d).bind fun xs=>(bools xs).map fun bs=>.val (.bl (bs.all id)):=rfl
@[simp]theorem ae8:b1 .any d=(bw d).bind fun xs=>(bools xs).map fun bs=>.val (.bl (bs.any id)):=rfl
@[simp]theorem acW:b1 .dict d=(bw d).bind fun xs=>(dictOf [] [] xs).map fun p=>.new (.dct p.1 p.2):=rfl
@[simp]theorem Yb:b1 .sorted d=(iM d).bind fun xs=>(nG xs).map fun ys=>.new (.lst ys):=rfl
@[simp]theorem Xm:bw (.tup xs)=some xs:=rfl
@[simp]theorem sS:bw (.lst xs)=some xs:=rfl
@[simp]theorem Xx:iM (.lst xs)=some xs:=rfl
@[simp]theorem acs:getD (.tup xs) (.int i)=at? xs i:=rfl
@[simp]theorem acu:getD (.lst xs) (.int i)=at? xs i:=rfl
@[simp]theorem add_int{j:Int}:binop .add (.int i) (.int j)=some (.val (.int (i+j))):=rfl
@[simp]theorem sub_int{j:Int}:binop .sub (.int i) (.int j)=some (.val (.int (i-j))):=rfl
@[simp]theorem mul_int{j:Int}:binop .mul (.int i) (.int j)=if small i||small j then some (.val (.int (i*j)))else none:=rfl
@[simp]theorem mod_int{j:Int}:binop .mod (.int i) (.int j)=if 0<j then some (.val (.int (i%j)))else none:=rfl
@[simp]theorem lt_int{j:Int}:aL .lt (.int i) (.int j)=some (decide (i<j)):=rfl
@[simp]theorem gt_int{j:Int}:aL .gt (.int i) (.int j)=some (decide (j<i)):=rfl
@[simp]theorem le_int{j:Int}:aL .le (.int i) (.int j)=some (decide (i<=j)):=rfl
@[simp]theorem ge_int{j:Int}:aL .ge (.int i) (.int j)=some (decide (j<=i)):=rfl
@[simp]theorem afN{d:D}:aL .jf d .non=some (nM d):=rfl
@[simp]theorem aec{d:D}:aL .notN d .non=some (!nM d):=rfl
@[simp]theorem XJ{xs:List D}:nM (.tup xs)=false:=rfl
@[simp]theorem XM:nM .non=true:=rfl
@[simp]theorem eq_int{j:Int}:aL .eq (.int i) (.int j)=some (i==j):=rfl
@[simp]theorem ne_int{j:Int}:aL .ne (.int i) (.int j)=some (!(i==j)):=rfl
@[simp]theorem agp{c:Bool}:aL .eq (.bl b) (.bl c)=some (b==c):=rfl
@[simp]theorem afE{c:Bool}:aL .ne (.bl b) (.bl c)=some (!(b==c)):=rfl
@[simp]theorem eq_str{x y:PySem.Str}:aL .eq (.str x) (.str y)=some (decide (x=y)):=rfl
@[simp]theorem ne_str{x y:PySem.Str}:aL .ne (.str x) (.str y)=some (!decide (x=y)):=rfl
@[simp]theorem Yd:E.aC (.var k)=some k:=rfl
@[simp]theorem Yn(d:D):E.aC (.con d)=none:=rfl
@[simp]theorem WQ(k:Nat):E.aC (.glob k)=none:=rfl
@[simp]theorem Ye(a:E):E.aC (.tup a)=none:=rfl
@[simp]theorem Yj(a:E):E.aC (.lis a)=none:=rfl
@[simp]theorem abp(o:Ma)(a b:E):E.aC (.op o a b)=none:=rfl
@[simp]theorem Yi(a:E):E.aC (.neg a)=none:=rfl
@[simp]theorem Yo(o:Cm)(a b:E):E.aC (.cmp o a b)=none:=rfl
@[simp]theorem Sh(o p:Cm)(a b c:E):E.aC (.chain o p a b c)=none:=rfl
@[simp]theorem Yp(a:E):E.aC (.and a)=none:=rfl
@[simp]theorem abo(a:E):E.aC (.or a)=none:=rfl
@[simp]theorem Yh(a:E):E.aC (.not a)=none:=rfl
@[simp]theorem Yk(a b c:E):E.aC (.ite a b c)=none:=rfl
@[simp]theorem Ym(a b:E):E.aC (.idx a b)=none:=rfl
@[simp]theorem Yg(a b c:E):E.aC (.slc a b c)=none:=rfl
@[simp]theorem WR(f:Nat)(a:E):E.aC (.call f a)=none:=rfl
@[simp]theorem abq(b:Bi)(a:E):E.aC (.bi b a)=none:=rfl
@[simp]theorem Yl(a:E)(t:Ty):E.aC (.isi a t)=none:=rfl
@[simp]theorem Yc(a b:E):E.aC (.zip a b)=none:=rfl
@[simp]theorem Qt(a:E):E.aC (.range1 a)=none:=rfl
@[simp]theorem Qs(a b:E):E.aC (.range2 a b)=none:=rfl
@[simp]theorem Sg(a b:E):E.aC (.count a b)=none:=rfl
@[simp]theorem R9(i:Nat)(a:E):E.aC (.popAt i a)=none:=rfl
@[simp]theorem rA(n:Nat)(tg:Tg)(a b c:E):E.aC (.comp n tg a b c)=none:=rfl
@[simp]theorem abn(a:E):E.aC (.rd a)=none:=rfl
theorem gK(xs:List D)(j:Nat)(h:j<xs.length):at? xs (j:Int)=xs[j]? :=by
 unfold at? ix?
 rw[if_neg (by omega:¬(j:Int)<0),if_pos ⟨by omega,by omega⟩]
 simp
@[simp]theorem at0{a:D}:at? (a::xs) 0=some a:=(gK (a::xs) 0 (by simp)).trans rfl
@[simp]theorem at1{a b:D}:at? (a::b::xs) 1=some b:=(gK (a::b::xs) 1 (by simp)).trans rfl
@[simp]theorem at2{a b c:D}:at? (a::b::c::xs) 2=some c:=(gK (a::b::c::xs) 2 (by simp)).trans rfl
@[simp]theorem at3{a b c e:D}:at? (a::b::c::e::xs) 3=some e:=(gK (a::b::c::e::xs) 3 (by simp)).trans rfl
end
end Mini
end
section
namespace Mini
def aH(bs:List Bool):D:=.tup (bs.map .bl)
def cY:Nat->List (List Bool)
 |0=>[[]]
 |k+1=>(cY k).map (· ++[false])++(cY k).map (· ++[true])
def masks:Nat->List (List Bool)
 |0=>[[]]
 |k+1=>(masks k).map (false:: ·)++(masks k).map (true:: ·)
theorem tX:∀(bs:List Bool),bs∈masks bs.length
 |[]=>by simp[masks]
 |b::bs=>by
  have:=tX bs
  cases b<;>simp[masks,this]
def jR{α:Type}:List Bool->List α->List α
 |b::bs,x::xs=>if b then x::jR bs xs else jR bs xs
 |_,_=>[]
def xV:List (List Bool)->Bool
 |a::b::r=>iW a b&&xV (b::r)
 |_=>true
def pD(k:Nat)(bs:List Bool):Bool:=match nG (jR bs ((cY k).map aH))with
 |some ws=>if ws.isEmpty then true else match iK ws with
  |some rs=>(rs.all fun r=>r.length==k)&&xV rs
  |none=>false
 |none=>false
theorem Zc:(masks 2).all (pD 1)=true:=by decide+kernel
theorem Zb:(masks 4).all (pD 2)=true:=by decide+kernel
theorem Za:(masks 8).all (pD 3)=true:=by decide+kernel
theorem uC:∀{ys:List D}{bs:List Bool},bools ys=some bs->ys=bs.map .bl
 |[],bs,e=>by cases e;rfl
 |y::ys,bs,e=>by
  cases y with
  |bl b=>
   simp only[bools]at e
   cases q:bools ys with
   |none=>rw[q]at e;cases e
   |some r=>rw[q]at e;cases e;rw[uC q];rfl
  |_=>cases e
theorem sW:∀{xs:List D}{rs:List (List Bool)},iK xs=some rs->xs=rs.map aH
 |[],rs,e=>by cases e;rfl
 |y::ys,rs,e=>by
  cases y with
  |tup zs=>
   simp only[iK]at e
   cases q:bools zs with
   |none=>rw[q]at e;cases e
   |some bs=>
    cases bs with
    |nil=>rw[q]at e;cases e
    |cons b bs=>
     rw[q]at e
     simp only at e
     cases q2:iK ys with
     |none=>rw[q2]at e;cases e
     |some rs'=>
      rw[q2]at e
      cases e
      rw[sW q2,uC q]
      rfl
  |_=>cases e
theorem mC:∀k,(cY k).length=2 ^k
 |0=>rfl
 |k+1=>by simp[cY,mC k];omega
theorem Ea(k:Nat)(h1:1<=k)(h3:k<=3)(bs:List Bool)(hl:bs.length=2 ^k):∃rs,nG (jR bs ((cY k).map aH))=some (rs.map aH)/\(∀r∈rs,r.length=k)/\xV rs=true:=by
 have ok:pD k bs=true:=by
  have hm:=tX bs
  rw[hl]at hm
  rcases (by omega:k=1\/k=2\/k=3)with rfl|rfl|rfl
  ·exact List.all_eq_true.mp Zc bs hm
  ·exact List.all_eq_true.mp Zb bs hm
  ·exact List.all_eq_true.mp Za bs hm
 unfold pD at ok
 cases q:nG (jR bs ((cY k).map aH))with
 |none=>rw[q]at ok;cases ok
 |some ws=>
  rw[q]at ok
  simp only at ok
  split at ok
  ·rename_i he
   have:ws=[]:=by simpa using he
   subst this
   exact⟨[],rfl,fun r h=>(by cases h),rfl⟩
  ·cases q2:iK ws with
   |none=>rw[q2]at ok;cases ok
   |some rs=>
    rw[q2]at ok
    simp only[QUq,List.all_eq_true,beq_iff_eq]at ok
    exact⟨rs,by rw[sW q2],ok.1,ok.2⟩
end Mini
end
section
namespace Mini
theorem filter_tt{α:Type}:∀(xs:List α),xs.filter (fun _=>true)=xs
 |[]=>rfl
 |x::xs=>by rw[List.filter_cons_of_pos rfl,filter_tt xs]
def cG(s:Sl):Prop:=s=.un\/∃d,s=.val d
theorem mz{s:Sl}(h:cG s)(d:D)(r:Ev):bT (.name 0) d (s::r)=some (.val d::r):=by
 rcases h with rfl|⟨e,rfl⟩<;>rfl
theorem sO{s t:Sl}(h:cG s)(h':cG t)(a b:D)(r:Ev):bT (.tup [0,1]) (.tup [a,b]) (s::t::r)=some (.val a:: .val b::r):=by
 rcases h with rfl|⟨e,rfl⟩<;>rcases h' with rfl|⟨e',rfl⟩<;>rfl
theorem Kw(c:Cf)(d:D)(σ:Ev):ev c (.con d) σ=.ok (.val d) σ:=rfl
section
variable{c:Cf}{τ:Ev}{cond elt:Ev->Out Rv}
theorem go1{f:D->D}{p:D->Bool}:∀(xs acc:List D)(s:Sl),cG s->(∀x∈xs,cond (.val x::τ)=.ok (.val (.bl (p x))) (.val x::τ))->(∀x∈xs,p x=true->elt (.val x::τ)=.ok (.val (f x)) (.val x::τ))->
  ∃s',cG s'/\aR (.name 0) cond elt xs acc (s::τ)=.ok (acc++(xs.filter p).map f) (s'::τ)
 |[]=>fun acc s hs _ _=>⟨s,hs,by simp[aR]⟩
 |x::xs=>fun acc s hs hc he=>by
  have c1:=hc x QYz
  rw[aR,mz hs]
  simp only
  rw[c1,dj]
  cases q:p x with
  |true=>
   obtain⟨s',a1,a2⟩:=go1 (f:=f) (p:=p) xs (acc++[f x]) (.val x) (.inr ⟨x,rfl⟩) (fun y hy=>hc y (QYq _ hy)) (fun y hy=>he y (QYq _ hy))
   refine⟨s',a1,?_⟩
   rw[if_pos rfl,he x QYz q,bO,a2]
   simp[q]
  |false=>
   obtain⟨s',a1,a2⟩:=go1 (f:=f) (p:=p) xs acc (.val x) (.inr ⟨x,rfl⟩) (fun y hy=>hc y (QYq _ hy)) (fun y hy=>he y (QYq _ hy))
   refine⟨s',a1,?_⟩
   rw[if_neg (by simp),a2]
   simp[q]
def pairD(p:D×D):D:=.tup [p.1,p.2]
theorem go2{f:D×D->D}{p:D×D->Bool}:∀(xs:List (D×D))(acc:List D)(s t:Sl),cG s->cG t->(∀x∈xs,cond (.val x.1:: .val x.2::τ)=.ok (.val (.bl (p x))) (.val x.1:: .val x.2::τ))->
  (∀x∈xs,p x=true->elt (.val x.1:: .val x.2::τ)=.ok (.val (f x)) (.val x.1:: .val x.2::τ))->
  ∃s' t',aR (.tup [0,1]) cond elt (xs.map pairD) acc (s::t::τ)=.ok (acc++(xs.filter p).map f) (s'::t'::τ)
 |[]=>fun acc s t hs ht _ _=>⟨s,t,by simp[aR]⟩
 |x::xs=>fun acc s t hs ht hc he=>by
  have c1:=hc x QYz
  rw[Qyz,aR,show pairD x=.tup [x.1,x.2]from rfl,sO hs ht]
  simp only
  rw[c1,dj]
  cases q:p x with
  |true=>
   obtain⟨s',t',a2⟩:=go2 (f:=f) (p:=p) xs (acc++[f x]) (.val x.1) (.val x.2) (.inr ⟨_,rfl⟩) (.inr ⟨_,rfl⟩) (fun y hy=>hc y (QYq _ hy)) (fun y hy=>he y (QYq _ hy))
   refine⟨s',t',?_⟩
   rw[if_pos rfl,he x QYz q,bO,a2]
   simp[q]
  |false=>
   obtain⟨s',t',a2⟩:=go2 (f:=f) (p:=p) xs acc (.val x.1) (.val x.2) (.inr ⟨_,rfl⟩) (.inr ⟨_,rfl⟩) (fun y hy=>hc y (QYq _ hy)) (fun y hy=>he y (QYq _ hy))
   refine⟨s',t',?_⟩
   rw[if_neg (by simp),a2]
   simp[q]
end
section
variable{c:Cf}{σ τ:Ev}{it co el:E}{r:Rv}{d:D}{xs:List D}
theorem vV(f:D->D)(p:D->Bool)(hi:ev c it σ=.ok r τ)(hr:r.jb=some d)(hd:items d=some xs)(hc:∀x∈xs,ev c co (.val x::τ)=.ok (.val (.bl (p x))) (.val x::τ))(he:∀x∈xs,p x=true->ev c el (.val x::τ)=.ok (.val (f x)) (.val x::τ)):
  ev c (.comp 1 (.name 0) it co el) σ=.ok (.new (.lst ((xs.filter p).map f))) τ:=by
 obtain⟨s',_,a⟩:=go1 (f:=f) (p:=p) xs [] .un (.inl rfl) hc he
 rw[jZ,hi]
 have b:∀{β:Type}(g:D->Ev->Out β),(Out.ok r τ).ao g=g d τ:=fun g=>by cases r<;>simp[Rv.jb]at hr<;>subst hr<;>rfl
 rw[b]
 simp only[hd]
 rw[show List.replicate 1 Sl.un++τ=.un::τ from rfl,a]
 simp
theorem uz(f:D->D)(hi:ev c it σ=.ok r τ)(hr:r.jb=some d)(hd:items d=some xs)(he:∀x∈xs,ev c el (.val x::τ)=.ok (.val (f x)) (.val x::τ)):
  ev c (.comp 1 (.name 0) it AAL el) σ=.ok (.new (.lst (xs.map f))) τ:=by
 have:=vV (co:=.con (.bl true)) f (fun _=>true) hi hr hd (fun x _=>Kw c _ _) (fun x hx _=>he x hx)
 rw[filter_tt]at this
 exact this
theorem WF{ps:List (D×D)}(f:D×D->D)(p:D×D->Bool)(hi:ev c it σ=.ok r τ)(hr:r.jb=some d)(hd:items d=some (ps.map pairD))(hc:∀x∈ps,ev c co (.val x.1:: .val x.2::τ)=.ok (.val (.bl (p x))) (.val x.1:: .val x.2::τ))
  (he:∀x∈ps,p x=true->ev c el (.val x.1:: .val x.2::τ)=.ok (.val (f x)) (.val x.1:: .val x.2::τ)):
  ev c (.comp 2 (.tup [0,1]) it co el) σ=.ok (.new (.lst ((ps.filter p).map f))) τ:=by
 obtain⟨s',t',a⟩:=go2 (f:=f) (p:=p) ps [] .un .un (.inl rfl) (.inl rfl) hc he
 rw[jZ,hi]
 have b:∀{β:Type}(g:D->Ev->Out β),(Out.ok r τ).ao g=g d τ:=fun g=>by cases r<;>simp[Rv.jb]at hr<;>subst hr<;>rfl
 rw[b]
 simp only[hd]
 rw[show List.replicate 2 Sl.un++τ=.un:: .un::τ from rfl,a]
 simp
theorem R3{ps:List (D×D)}(f:D×D->D)(hi:ev c it σ=.ok r τ)(hr:r.jb=some d)(hd:items d=some (ps.map pairD))(he:∀x∈ps,ev c el (.val x.1:: .val x.2::τ)=.ok (.val (f x)) (.val x.1:: .val x.2::τ)):
  ev c (.comp 2 (.tup [0,1]) it AAL el) σ=.ok (.new (.lst (ps.map f))) τ:=by
 have:=WF (co:=.con (.bl true)) f (fun _=>true) hi hr hd (fun x _=>Kw c _ _) (fun x hx _=>he x hx)
 rw[filter_tt]at this
 exact this
end
section
variable{c:Cf}{σ τ0 τ:Ev}{it co el:E}{r:Rv}{d:D}
theorem WK{x0:D}{xs:List D}(f:D->D)(p:D->Bool)(hi:ev c it σ=.ok r τ0)(hr:r.jb=some d)(hd:items d=some (x0::xs))(hc0:ev c co (.val x0::τ0)=.ok (.val (.bl (p x0))) (.val x0::τ))(hc:∀x∈xs,ev c co (.val x::τ)=.ok (.val (.bl (p x))) (.val x::τ))
  (he:∀x∈x0::xs,p x=true->ev c el (.val x::τ)=.ok (.val (f x)) (.val x::τ)):ev c (.comp 1 (.name 0) it co el) σ=.ok (.new (.lst (((x0::xs).filter p).map f))) τ:=by
 rw[jZ,hi]
 have b:∀{β:Type}(g:D->Ev->Out β),(Out.ok r τ0).ao g=g d τ0:=fun g=>by cases r<;>simp[Rv.jb]at hr<;>subst hr<;>rfl
 rw[b]
 simp only[hd]
 rw[show List.replicate 1 Sl.un++τ0=.un::τ0 from rfl,aR,mz (.inl rfl)]
 simp only
 rw[hc0,dj]
 cases q:p x0 with
 |true=>
  obtain⟨s',_,a⟩:=go1 (cond:=ev c co) (elt:=ev c el) (f:=f) (p:=p) (τ:=τ) xs ([]++[f x0]) (.val x0) (.inr ⟨_,rfl⟩) hc (fun x hx=>he x (QYq _ hx))
  rw[if_pos rfl,he x0 QYz q,bO,a]
  simp[q]
 |false=>
  obtain⟨s',_,a⟩:=go1 (cond:=ev c co) (elt:=ev c el) (f:=f) (p:=p) (τ:=τ) xs [] (.val x0) (.inr ⟨_,rfl⟩) hc (fun x hx=>he x (QYq _ hx))
  rw[if_neg (by simp),a]
  simp[q]
theorem WD{x0:D×D}{ps:List (D×D)}(f:D×D->D)(p:D×D->Bool)(hi:ev c it σ=.ok r τ0)(hr:r.jb=some d)(hd:items d=some ((x0::ps).map pairD))(hc0:ev c co (.val x0.1:: .val x0.2::τ0)=.ok (.val (.bl (p x0))) (.val x0.1:: .val x0.2::τ))
  (hc:∀x∈ps,ev c co (.val x.1:: .val x.2::τ)=.ok (.val (.bl (p x))) (.val x.1:: .val x.2::τ))
  (he:∀x∈x0::ps,p x=true->ev c el (.val x.1:: .val x.2::τ)=.ok (.val (f x)) (.val x.1:: .val x.2::τ)):ev c (.comp 2 (.tup [0,1]) it co el) σ=.ok (.new (.lst (((x0::ps).filter p).map f))) τ:=by
 rw[jZ,hi]
 have b:∀{β:Type}(g:D->Ev->Out β),(Out.ok r τ0).ao g=g d τ0:=fun g=>by cases r<;>simp[Rv.jb]at hr<;>subst hr<;>rfl
 rw[b]
 simp only[hd]
 rw[show List.replicate 2 Sl.un++τ0=.un:: .un::τ0 from rfl,Qyz,aR,show pairD x0=.tup [x0.1,x0.2]from rfl,sO (.inl rfl) (.inl rfl)]
 simp only
 rw[hc0,dj]
 cases q:p x0 with
 |true=>
  obtain⟨s',t',a⟩:=go2 (cond:=ev c co) (elt:=ev c el) (f:=f) (p:=p) (τ:=τ) ps ([]++[f x0]) (.val x0.1) (.val x0.2) (.inr ⟨_,rfl⟩) (.inr ⟨_,rfl⟩) hc (fun x hx=>he x (QYq _ hx))
  rw[if_pos rfl,he x0 QYz q,bO,a]
  simp[q]
 |false=>
  obtain⟨s',t',a⟩:=go2 (cond:=ev c co) (elt:=ev c el) (f:=f) (p:=p) (τ:=τ) ps [] (.val x0.1) (.val x0.2) (.inr ⟨_,rfl⟩) (.inr ⟨_,rfl⟩) hc (fun x hx=>he x (QYq _ hx))
  rw[if_neg (by simp),a]
  simp[q]
end
theorem jA:∀(bs:List Bool),bools (bs.map D.bl)=some bs
 |[]=>rfl
 |b::bs=>by simp[bools,jA bs]
theorem qP:∀{α:Type}(xs:List α),bools (xs.map fun _=>D.bl true)=some (xs.map fun _=>true)
 |_,[]=>rfl
 |_,x::xs=>by simp[bools,qP xs]
theorem Ao:∀{α:Type}(xs:List α),(xs.map fun _=>true).all id=true
 |_,[]=>rfl
 |_,x::xs=>by simpa using Ao xs
section
variable{c:Cf}{σ τ:Ev}{it el:E}{r:Rv}{d:D}
theorem all1{xs:List D}(hi:ev c it σ=.ok r τ)(hr:r.jb=some d)(hd:items d=some xs)(he:∀x∈xs,ev c el (.val x::τ)=.ok (.val (.bl true)) (.val x::τ)):
  ev c (.bi .all (.comp 1 (.name 0) it AAL el)) σ=.ok (.val (.bl true)) τ:=by
 have e:=uz (fun _=>.bl true) hi hr hd he
 rw[mj]
 simp only[rA]
 rw[e,jM]
 simp only[Ku,K7,sS,QHq]
 rw[qP]
 simp only[Option.map_some,tZ,Ao]
theorem all2{ps:List (D×D)}(hi:ev c it σ=.ok r τ)(hr:r.jb=some d)(hd:items d=some (ps.map pairD))(he:∀x∈ps,ev c el (.val x.1:: .val x.2::τ)=.ok (.val (.bl true)) (.val x.1:: .val x.2::τ)):
  ev c (.bi .all (.comp 2 (.tup [0,1]) it AAL el)) σ=.ok (.val (.bl true)) τ:=by
 have e:=R3 (fun _=>.bl true) hi hr hd he
 rw[mj]
 simp only[rA]
 rw[e,jM]
 simp only[Ku,K7,sS,QHq]
 rw[qP]
 simp only[Option.map_some,tZ,Ao]
end
theorem cP:∀(xs ys:List D),aO xs ys=(xs.zip ys).map pairD
 |[],_=>by simp[aO]
 |_::_,[]=>by simp[aO]
 |x::xs,y::ys=>by simp[aO,cP xs ys,pairD]
end Mini
end
section
namespace Mini
open PySem
def fin(k:Nat):Fl->Res
 |.next σ=>.ok (.val .non) (σ.take k)
 |.ret r σ=>.ok r (σ.take k)
 |.exc c σ=>.exc c (σ.take k)
 |_=>.bad
theorem aJ(c:Cf)(f:Fn)(ps:List Sl)(h:ps.length=f.pars):gk c f ps=fin f.pars (ex c f.body (ps++List.replicate (f.names-f.pars) .un)):=by
 unfold gk
 rw[if_pos h]
 cases ex c f.body (ps++List.replicate (f.names-f.pars) .un)<;>rfl
@[simp]theorem aa5(k σ):fin k (.next σ)=.ok (.val .non) (σ.take k):=rfl
@[simp]theorem acC(k r σ):fin k (.ret r σ)=.ok r (σ.take k):=rfl
@[simp]theorem acD(k c σ):fin k (.exc c σ)=.exc c (σ.take k):=rfl
def jV{α:Type}(b:Bool)(r:Out α):Out α:=if b then .bad else r
def K5(b:Bool)(r:Fl):Fl:=if b then .bad else r
def vm{α:Type}(b:Bool)(r:Option α):Option α:=if b then none else r
@[simp]theorem acQ{α:Type}(r:Out α):jV false r=r:=rfl
@[simp]theorem ae7(r:Fl):K5 false r=r:=rfl
@[simp]theorem aai{α:Type}(r:Option α):vm false r=r:=rfl
@[simp]theorem aah{α:Type}(r:Option α):vm true r=none:=rfl
def wO(i:Nat)(σ:Ev):Option Sl->Out Rv
 |some (.val d)=>.ok (.val d) σ
 |some (.own o)=>.ok (.val o.d) (σ.set i (.val o.d))
 |_=>.bad
@[simp]theorem HF(i:Nat)(σ:Ev):pM i σ=wO i σ σ[i]? :=rfl
@[simp]theorem Xn(i σ d):wO i σ (some (.val d))=.ok (.val d) σ:=rfl
@[simp]theorem Xo(i σ o):wO i σ (some (.own o))=.ok (.val o.d) (σ.set i (.val o.d)):=rfl
@[simp]theorem Xp(i σ o):wO i σ (some (.bor o))=.bad:=rfl
@[simp]theorem Zw(i σ):wO i σ (some .un)=.bad:=rfl
def xG:Option Sl->Option D
 |some (.val d)=>some d
 |some (.own o)=>some o.d
 |some (.bor o)=>some o.d
 |_=>none
@[simp]theorem aam(i:Nat)(σ:Ev):aZ i σ=xG σ[i]? :=rfl
@[simp]theorem Xy(d):xG (some (.val d))=some d:=rfl
@[simp]theorem Xz(o):xG (some (.own o))=some o.d:=rfl
@[simp]theorem XC(o):xG (some (.bor o))=some o.d:=rfl
@[simp]theorem aan:xG (some .un)=none:=rfl
def yV(i:Nat)(σ:Ev)(s:Sl):Option Sl->Option Ev
 |some (.bor _)=>none
 |some _=>some (σ.set i s)
 |none=>none
@[simp]theorem Zf(i:Nat)(s:Sl)(σ:Ev):cQ i s σ=yV i σ s σ[i]? :=rfl
@[simp]theorem Zg(i σ s d):yV i σ s (some (.val d))=some (σ.set i s):=rfl
@[simp]theorem Zh(i σ s o):yV i σ s (some (.own o))=some (σ.set i s):=rfl
@[simp]theorem abT(i σ s):yV i σ s (some .un)=some (σ.set i s):=rfl
@[simp]theorem Zi(i σ s o):yV i σ s (some (.bor o))=none:=rfl
def G8(i:Nat)(f:Ob->Option Ob)(σ:Ev):Option Sl->Option Ev
 |some (.own o)=>(f o).map fun q=>σ.set i (.own q)
 |some (.bor o)=>(f o).map fun q=>σ.set i (.bor q)
 |_=>none
def u9(i:Nat)(σ:Ev)(q:Ob):Ev:=σ.set i (.own q)
def Ia(i:Nat)(σ:Ev)(q:Ob):Ev:=σ.set i (.bor q)
@[simp]theorem Xr(i σ q):u9 i σ q=σ.set i (.own q):=rfl
@[simp]theorem Xu(i σ q):Ia i σ q=σ.set i (.bor q):=rfl
@[simp]theorem YJ(i:Nat)(f:Ob->Option Ob)(σ:Ev):cg i f σ=G8 i f σ σ[i]? :=rfl
@[simp]theorem Xh(i f σ o):G8 i f σ (some (.own o))=(f o).map (u9 i σ):=rfl
@[simp]theorem Xi(i f σ o):G8 i f σ (some (.bor o))=(f o).map (Ia i σ):=rfl
def okB(r:Rv):Option Ev->Out Rv
 |some σ=>.ok r σ
 |none=>.bad
def KR(as:List Rv)(σ:Ev):Res->Out Rv
 |.ok r qs=>okB r (giveBack as qs σ)
 |_=>.bad
def R5(c:Cf)(f:Nat)(as:List Rv)(σ:Ev):Option (List Sl)->Out Rv
 |none=>.bad
 |some ps=>KR as σ (c.fn f ps)
@[simp]theorem afC(r σ):okB r (some σ)=.ok r σ:=rfl
@[simp]theorem abh(as σ r qs):KR as σ (.ok r qs)=okB r (giveBack as qs σ):=rfl
@[simp]theorem acO(c f as σ ps):R5 c f as σ (some ps)=KR as σ (c.fn f ps):=rfl
@[simp]theorem abi(c:Cf)(f:Nat)(as:List Rv)(σ:Ev):qN c f as σ=R5 c f as σ (enter as σ):=rfl
@[simp]theorem acJ(σ):enter [] σ=some []:=rfl
@[simp]theorem acI(d as σ):enter (.val d::as) σ=(enter as σ).map (.val d:: ·):=rfl
@[simp]theorem acH(o as σ):enter (.tmp o::as) σ=vm (as.any xU) ((enter as σ).map (.bor o:: ·)):=rfl
def Wv(r:Option (List Sl)):Option Sl->Option (List Sl)
 |some (.own o)=>r.map (.bor o:: ·)
 |some (.bor o)=>r.map (.bor o:: ·)
 |_=>none
@[simp]theorem aa8(r o):Wv r (some (.own o))=r.map (.bor o:: ·):=rfl
@[simp]theorem aa9(r o):Wv r (some (.bor o))=r.map (.bor o:: ·):=rfl
@[simp]theorem acG(i as σ):enter (.ref i::as) σ=vm (as.any (iz i)) (Wv (enter as σ) σ[i]?):=rfl
@[simp]theorem aeZ(c:Cf)(i σ):ev c (.var i) σ=pM i σ:=rfl
@[simp]theorem ah2(c:Cf)(d σ):ev c (.con d) σ=.ok (.val d) σ:=rfl
@[simp]theorem ah1(c:Cf)(k σ):ev c (.glob k) σ=match c.gl k with|some d=>.ok (.val d) σ|none=>.bad:=rfl
def Tq(ds:List D):Option Rv:=if fits ds.length then some (.val (.tup ds))else none
def Vi(ds:List D):Option Rv:=if fits ds.length then some (.new (.lst ds))else none
def aar(rs:List Rv)(σ:Ev):Out Rv:=lift σ ((aY rs).bind Tq)
def aaC(rs:List Rv)(σ:Ev):Out Rv:=lift σ ((aY rs).bind Vi)
@[simp]theorem abQ(ds):Tq ds=if fits ds.length then some (.val (.tup ds))else none:=rfl
@[simp]theorem ab2(ds):Vi ds=if fits ds.length then some (.new (.lst ds))else none:=rfl
@[simp]theorem ab7(rs σ):aar rs σ=lift σ ((aY rs).bind Tq):=rfl
@[simp]theorem ace(rs σ):aaC rs σ=lift σ ((aY rs).bind Vi):=rfl
@[simp]theorem ah0(c:Cf)(es σ):ev c (.tup es) σ=(evs c es σ).bind aar:=rfl
@[simp]theorem ahZ(c:Cf)(es σ):ev c (.lis es) σ=(evs c es σ).bind aaC:=rfl
def Vr(o:Ma)(x y:D)(σ:Ev):Out Rv:=lift σ (binop o x y)
def kOp(c:Cf)(o:Ma)(b:E)(x:D)(σ:Ev):Out Rv:=(ev c b σ).ao (Vr o x)
@[simp]theorem acb(o x y σ):Vr o x y σ=lift σ (binop o x y):=rfl
@[simp]theorem ael(c o b x σ):kOp c o b x σ=(ev c b σ).ao (Vr o x):=rfl
@[simp]theorem ahY(c:Cf)(o a b σ):ev c (.op o a b) σ=(ev c a σ).ao (kOp c o b):=rfl
@[simp]theorem ahX(c:Cf)(a σ):ev c (.neg a) σ=(ev c a σ).ao fun x σ=>lift σ (match x with|.int i=>some (.val (.int (-i)))|_=>none):=rfl
def qV(q:Bool):Rv:=.val (.bl q)
@[simp]theorem afA(q):qV q=.val (.bl q):=rfl
def WM(o:Cm)(x d:D):Option Rv:=(aL o x d).map qV
@[simp]theorem acM(o x d):WM o x d=(aL o x d).map qV:=rfl
def xP(o:Cm)(x y:D)(σ:Ev):Out Rv:=lift σ ((aL o x y).map qV)
@[simp]theorem aaQ(o x y σ):xP o x y σ=lift σ ((aL o x y).map qV):=rfl
def Pk(c:Cf)(o:Cm)(b:E)(x:D)(σ:Ev):Option Nat->Out Rv
 |some k=>lift σ ((aZ k σ).bind (WM o x))
 |none=>(ev c b σ).ao (xP o x)
@[simp]theorem aeq(c o b x σ k):Pk c o b x σ (some k)=lift σ ((aZ k σ).bind (WM o x)):=rfl
@[simp]theorem aer(c o b x σ):Pk c o b x σ none=(ev c b σ).ao (xP o x):=rfl
def RL(c:Cf)(o:Cm)(b:E)(x:D)(σ:Ev):Out Rv:=Pk c o b x σ b.aC
@[simp]theorem aaR(c o b x σ):RL c o b x σ=Pk c o b x σ b.aC:=rfl
@[simp]theorem ahW(c:Cf)(o a b σ):ev c (.cmp o a b) σ=(ev c a σ).ao (RL c o b):=rfl
def Pn(c:Cf)(o:Cm)(d:E)(y:D)(q:Bool)(σ:Ev):Out Rv:=if q then(ev c d σ).ao (xP o y)else .ok (.val (.bl false)) σ
@[simp]theorem aet(c o d y σ):Pn c o d y true σ=(ev c d σ).ao (xP o y):=rfl
@[simp]theorem aeu(c o d y σ):Pn c o d y false σ=.ok (.val (.bl false)) σ:=rfl
def Vv(c:Cf)(o p:Cm)(d:E)(x y:D)(σ:Ev):Out Rv:=(lift σ (aL o x y)).bind (Pn c p d y)
@[simp]theorem acp(c o p d x y σ):Vv c o p d x y σ=(lift σ (aL o x y)).bind (Pn c p d y):=rfl
def kCh(c:Cf)(o p:Cm)(b d:E)(x:D)(σ:Ev):Out Rv:=(ev c b σ).ao (Vv c o p d x)
@[simp]theorem aes(c o p b d x σ):kCh c o p b d x σ=(ev c b σ).ao (Vv c o p d x):=rfl
@[simp]theorem ahV(c:Cf)(o₁ o₂ a b d σ):ev c (.chain o₁ o₂ a b d) σ=(ev c a σ).ao (kCh c o₁ o₂ b d):=rfl
@[simp]theorem ahU(c:Cf)(es σ):ev c (.and es) σ=eZ c es σ:=rfl
@[simp]theorem ago(c:Cf)(es σ):ev c (.or es) σ=jy c es σ:=rfl
def aay(b:Bool)(σ:Ev):Out Rv:=.ok (.val (.bl (!b))) σ
@[simp]theorem acd(b σ):aay b σ=.ok (.val (.bl (!b))) σ:=rfl
@[simp]theorem agn(c:Cf)(a σ):ev c (.not a) σ=(ev c a σ).cu gC aay:=rfl
def Jx(c:Cf)(a b:E)(q:Bool)(σ:Ev):Out Rv:=if q then ev c a σ else ev c b σ
@[simp]theorem acg(c a b σ):Jx c a b true σ=ev c a σ:=rfl
@[simp]theorem ach(c a b σ):Jx c a b false σ=ev c b σ:=rfl
@[simp]theorem agm(c:Cf)(t a b σ):ev c (.ite t a b) σ=(ev c t σ).cu gC (Jx c a b):=rfl
def V6(y d:D):Option Rv:=(getD d y).map Rv.val
@[simp]theorem acv(y d):V6 y d=(getD d y).map Rv.val:=rfl
def Vu(k:Nat)(y:D)(σ:Ev):Out Rv:=lift σ ((aZ k σ).bind (V6 y))
@[simp]theorem acj(k y σ):Vu k y σ=lift σ ((aZ k σ).bind (V6 y)):=rfl
def Jy(x y:D)(σ:Ev):Out Rv:=lift σ ((getD x y).map Rv.val)
@[simp]theorem aaE(x y σ):Jy x y σ=lift σ ((getD x y).map Rv.val):=rfl
def Jz(c:Cf)(i:E)(x:D)(σ:Ev):Out Rv:=(ev c i σ).ao (Jy x)
@[simp]theorem aaF(c i x σ):Jz c i x σ=(ev c i σ).ao (Jy x):=rfl
def VD(c:Cf)(a i:E)(σ:Ev):Option Nat->Out Rv
 |some k=>jV (aZ k σ).isNone ((ev c i σ).ao (Vu k))
 |none=>(ev c a σ).ao (Jz c i)
@[simp]theorem aeF(c a i σ k):VD c a i σ (some k)=jV (aZ k σ).isNone ((ev c i σ).ao (Vu k)):=rfl
@[simp]theorem aeG(c a i σ):VD c a i σ none=(ev c a σ).ao (Jz c i):=rfl
@[simp]theorem agl(c:Cf)(a i σ):ev c (.idx a i) σ=VD c a i σ a.aC:=rfl
def Vp(hi:E)(x:D)(l:Option Int)(h:D)(σ:Ev):Out Rv:=lift σ ((cI hi.jf h).bind (fP x l))
@[simp]theorem ab8(hi x l h σ):Vp hi x l h σ=lift σ ((cI hi.jf h).bind (fP x l)):=rfl
def slM(c:Cf)(hi:E)(x:D)(σ:Ev):Option (Option Int)->Out Rv
 |none=>.bad
 |some l=>(ev c hi σ).ao (Vp hi x l)
@[simp]theorem afq(c hi x σ l):slM c hi x σ (some l)=(ev c hi σ).ao (Vp hi x l):=rfl
def Vq(c:Cf)(lo hi:E)(x l:D)(σ:Ev):Out Rv:=slM c hi x σ (cI lo.jf l)
@[simp]theorem ab9(c lo hi x l σ):Vq c lo hi x l σ=slM c hi x σ (cI lo.jf l):=rfl
def kSl(c:Cf)(lo hi:E)(x:D)(σ:Ev):Out Rv:=(ev c lo σ).ao (Vq c lo hi x)
@[simp]theorem aek(c lo hi x σ):kSl c lo hi x σ=(ev c lo σ).ao (Vq c lo hi x):=rfl
@[simp]theorem agk(c:Cf)(a lo hi σ):ev c (.slc a lo hi) σ=(ev c a σ).ao (kSl c lo hi):=rfl
@[simp]theorem agj(c:Cf)(σ):ev c .noneE σ=.ok (.val .non) σ:=rfl
@[simp]theorem agi(c:Cf)(f as σ):ev c (.call f as) σ=(evs c as σ).bind (qN c f):=rfl
def Ue(i:Nat)(σ:Ev):Option Sl->Out Rv
 |some (.own _)=>.ok (.ref i) σ
 |some (.bor _)=>.ok (.ref i) σ
 |_=>.bad
@[simp]theorem Zu(i σ o):Ue i σ (some (.own o))=.ok (.ref i) σ:=rfl
@[simp]theorem Zv(i σ o):Ue i σ (some (.bor o))=.ok (.ref i) σ:=rfl
@[simp]theorem agh(c:Cf)(i σ):ev c (.ref i) σ=Ue i σ σ[i]? :=rfl
@[simp]theorem agg(c:Cf)(e σ):ev c (.rd e) σ=ev c e σ:=rfl
def aat(x:Rv)(σ:Ev):Out Rv:=lift σ (match x with|.new o=>some (.tmp o)|_=>none)
@[simp]theorem aas(o σ):aat (.new o) σ=.ok (.tmp o) σ:=rfl
@[simp]theorem agf(c:Cf)(e σ):ev c (.tmp e) σ=(ev c e σ).bind aat:=rfl
def aaD(t:Ty)(x:D)(σ:Ev):Out Rv:=.ok (.val (.bl (qg t x))) σ
@[simp]theorem aci(t x σ):aaD t x σ=.ok (.val (.bl (qg t x))) σ:=rfl
@[simp]theorem age(c:Cf)(a t σ):ev c (.isi a t) σ=(ev c a σ).ao (aaD t):=rfl
def kBi(b:Bi)(x:D)(σ:Ev):Out Rv:=lift σ (b1 b x)
@[simp]theorem aev(b x σ):kBi b x σ=lift σ (b1 b x):=rfl
def biM(c:Cf)(b:Bi)(a:E)(σ:Ev):Option Nat->Out Rv
 |some k=>lift σ ((aZ k σ).bind (b1 b))
 |none=>(ev c a σ).ao (kBi b)
@[simp]theorem agu(c b a σ k):biM c b a σ (some k)=lift σ ((aZ k σ).bind (b1 b)):=rfl
@[simp]theorem agv(c b a σ):biM c b a σ none=(ev c a σ).ao (kBi b):=rfl
@[simp]theorem agd(c:Cf)(b a σ):ev c (.bi b a) σ=biM c b a σ a.aC:=rfl
def aax(x:D)(σ:Ev):Out Rv:=lift σ (match x with|.int n=>if fits n.toNat&&tY n then some (.val (.lst (bI 0 n.toNat)))else none|_=>none)
@[simp]theorem aaw(n:Int)(σ):aax (.int n) σ=lift σ (if fits n.toNat&&tY n then some (.val (.lst (bI 0 n.toNat)))else none):=rfl
@[simp]theorem agc(c:Cf)(a σ):ev c (.range1 a) σ=(ev c a σ).ao aax:=rfl
@[simp]theorem agb(c:Cf)(a b σ):ev c (.range2 a b) σ=(ev c a σ).ao fun x σ=>(ev c b σ).ao fun y σ=>lift σ (match x,y with|.int m,.int n=>if fits (n-m).toNat&&tY m&&tY n then some (.val (.lst (bI m (n-m).toNat)))else none|_,_=>none):=rfl
def Ss(xs ys:List D):Rv:=.val (.lst (aO xs ys))
@[simp]theorem abF(xs ys):Ss xs ys=.val (.lst (aO xs ys)):=rfl
def Su(y:D)(xs:List D):Option Rv:=(bw y).map (Ss xs)
@[simp]theorem abG(y xs):Su y xs=(bw y).map (Ss xs):=rfl
def Jv(x y:D)(σ:Ev):Out Rv:=lift σ ((bw x).bind (Su y))
@[simp]theorem aao(x y σ):Jv x y σ=lift σ ((bw x).bind (Su y)):=rfl
def aap(c:Cf)(b:E)(x:D)(σ:Ev):Out Rv:=(ev c b σ).ao (Jv x)
@[simp]theorem ab5(c b x σ):aap c b x σ=(ev c b σ).ao (Jv x):=rfl
@[simp]theorem aga(c:Cf)(a b σ):ev c (.zip a b) σ=(ev c a σ).ao (aap c b):=rfl
def JF(x y:D)(σ:Ev):Out Rv:=lift σ (vX x y)
@[simp]theorem aaO(x y σ):JF x y σ=lift σ (vX x y):=rfl
def aaP(c:Cf)(b:E)(x:D)(σ:Ev):Out Rv:=jV (bw x).isNone ((ev c b σ).ao (JF x))
@[simp]theorem aco(c b x σ):aaP c b x σ=jV (bw x).isNone ((ev c b σ).ao (JF x)):=rfl
@[simp]theorem af9(c:Cf)(a b σ):ev c (.count a b) σ=(ev c a σ).ao (aaP c b):=rfl
@[simp]theorem af8(c:Cf)(k a σ):ev c (.popAt k a) σ=jV (!dg (aZ k σ)) ((ev c a σ).ao (pQ k)):=rfl
def RK(c:Cf)(nl:Nat)(tg:Tg)(cond elt:E)(x:D)(σ:Ev):Out Rv:=match items x with
  |some xs=>match aR tg (ev c cond) (ev c elt) xs [] (List.replicate nl .un++σ)with
   |.ok ys τ=>.ok (.new (.lst ys)) (τ.drop nl)
   |_=>.bad
  |none=>.bad
@[simp]theorem aaN(c nl tg cond elt x σ):RK c nl tg cond elt x σ=match items x with
  |some xs=>match aR tg (ev c cond) (ev c elt) xs [] (List.replicate nl .un++σ)with
   |.ok ys τ=>.ok (.new (.lst ys)) (τ.drop nl)
   |_=>.bad
  |none=>.bad:=rfl
@[simp]theorem af7(c:Cf)(nl tg it cond elt σ):ev c (.comp nl tg it cond elt) σ=(ev c it σ).ao (RK c nl tg cond elt):=rfl
def JD(x:Rv)(xs:List Rv)(σ:Ev):Out (List Rv):=.ok (argv x::xs) σ
@[simp]theorem aaK(x xs σ):JD x xs σ=.ok (argv x::xs) σ:=rfl
def aaL(c:Cf)(t:E)(x:Rv)(σ:Ev):Out (List Rv):=(evs c t σ).bind (JD x)
@[simp]theorem ack(c t x σ):aaL c t x σ=(evs c t σ).bind (JD x):=rfl
@[simp]theorem af2(c:Cf)(σ):evs c .nil σ=.ok [] σ:=rfl
@[simp]theorem af1(c:Cf)(h t σ):evs c (.cons h t) σ=(ev c h σ).bind (aaL c t):=rfl
@[simp]theorem ahT(c:Cf)(σ):ex c .nil σ=.next σ:=rfl
@[simp]theorem ahS(c:Cf)(h t σ):ex c (.cons h t) σ=(ex c h σ).seq (ex c t):=rfl
@[simp]theorem ahR(c:Cf)(σ):ex c .pass σ=.next σ:=rfl
@[simp]theorem ahQ(c:Cf)(σ):ex c .brk σ=.brk σ:=rfl
@[simp]theorem ahP(c:Cf)(σ):ex c .cont σ=.cont σ:=rfl
def yU(i:Nat)(σ:Ev)(s:Sl):Option Ev:=cQ i s σ
@[simp]theorem Xl(i σ s):yU i σ s=cQ i s σ:=rfl
def aav(i:Nat)(x:Rv)(σ:Ev):Fl:=oH (x.wM.bind (yU i σ))
@[simp]theorem aca(i x σ):aav i x σ=oH (x.wM.bind (yU i σ)):=rfl
@[simp]theorem ahO(c:Cf)(i e σ):ex c (.set i e) σ=(ev c e σ).fl (aav i):=rfl
def RB(is:List Nat)(x:D)(σ:Ev):Fl:=oH (bT (.tup is) x σ)
@[simp]theorem aau(is x σ):RB is x σ=oH (bT (.tup is) x σ):=rfl
@[simp]theorem ahN(c:Cf)(is e σ):ex c (.setT is e) σ=(ev c e σ).jg (RB is):=rfl
def Vs(k:Nat)(x y:D)(σ:Ev):Fl:=oH (cg k (pP y x) σ)
@[simp]theorem acf(k x y σ):Vs k x y σ=oH (cg k (pP y x) σ):=rfl
def kIx(c:Cf)(k:Nat)(ix:E)(x:D)(σ:Ev):Fl:=K5 (aZ k σ).isNone ((ev c ix σ).jg (Vs k x))
@[simp]theorem aem(c k ix x σ):kIx c k ix x σ=K5 (aZ k σ).isNone ((ev c ix σ).jg (Vs k x)):=rfl
@[simp]theorem ahM(c:Cf)(k ix e σ):ex c (.setIx k ix e) σ=(ev c e σ).jg (kIx c k ix):=rfl
def RC(_:D)(σ:Ev):Fl:=.next σ
@[simp]theorem aaz(d σ):RC d σ=.next σ:=rfl
@[simp]theorem ahL(c:Cf)(e σ):ex c (.expr e) σ=(ev c e σ).jg RC:=rfl
def WT(x:D)(xs:List D):Option (List D):=if fits (xs.length+1)then some (xs++[x])else none
@[simp]theorem acY(x xs):WT x xs=if fits (xs.length+1)then some (xs++[x])else none:=rfl
def aaS(k:Nat)(x:D)(σ:Ev):Fl:=oH (cg k (rG (WT x)) σ)
@[simp]theorem acq(k x σ):aaS k x σ=oH (cg k (rG (WT x)) σ):=rfl
@[simp]theorem ahK(c:Cf)(k e σ):ex c (.append k e) σ=K5 (!dg (aZ k σ)) ((ev c e σ).jg (aaS k)):=rfl
@[simp]theorem af0(c:Cf)(k e σ):ex c (.extend k e) σ=if !dg (aZ k σ)then .bad else(ev c e σ).jg fun x σ=>oH ((iM x).bind fun ys=>cg k (rG fun xs=>if fits (xs.length+ys.length)then some (xs++ys)else none) σ):=rfl
def HD(c:Cf)(e:E)(i:Nat)(σ:Ev):Option Sl->Fl
 |some (.own o)=>.ret (.new o) (σ.set i .un)
 |_=>(ev c e σ).fl mD
@[simp]theorem Zr(c e i σ o):HD c e i σ (some (.own o))=.ret (.new o) (σ.set i .un):=rfl
@[simp]theorem Zq(c e i σ d):HD c e i σ (some (.val d))=(ev c e σ).fl mD:=rfl
@[simp]theorem Zt(c e i σ o):HD c e i σ (some (.bor o))=(ev c e σ).fl mD:=rfl
def Uc(c:Cf)(e:E)(σ:Ev):Option Nat->Fl
 |some i=>HD c e i σ σ[i]?
 |none=>(ev c e σ).fl mD
@[simp]theorem ad5(c e σ i):Uc c e σ (some i)=HD c e i σ σ[i]? :=rfl
@[simp]theorem ad6(c e σ):Uc c e σ none=(ev c e σ).fl mD:=rfl
@[simp]theorem afZ(c:Cf)(e σ):ex c (.ret e) σ=Uc c e σ e.aC:=rfl
def Vt(c:Cf)(a b:S)(q:Bool)(σ:Ev):Fl:=if q then ex c a σ else ex c b σ
@[simp]theorem aen(c a b σ):Vt c a b true σ=ex c a σ:=rfl
@[simp]theorem aeo(c a b σ):Vt c a b false σ=ex c b σ:=rfl
@[simp]theorem afY(c:Cf)(t a b σ):ex c (.ite t a b) σ=(ev c t σ).CK (Vt c a b):=rfl
def kFor(c:Cf)(tg:Tg)(b:S)(σ:Ev):Option (List D)->Fl
 |some xs=>bH tg (ex c b) xs σ
 |none=>.bad
@[simp]theorem aep(c tg b σ xs):kFor c tg b σ (some xs)=bH tg (ex c b) xs σ:=rfl
def RJ(c:Cf)(tg:Tg)(b:S)(x:D)(σ:Ev):Fl:=kFor c tg b σ (items x)
@[simp]theorem aaJ(c tg b x σ):RJ c tg b x σ=kFor c tg b σ (items x):=rfl
@[simp]theorem afX(c:Cf)(tg it b σ):ex c (.for_ tg it b) σ=(ev c it σ).jg (RJ c tg b):=rfl
@[simp]theorem afW(c:Cf)(t b σ):ex c (.while_ t b) σ=bK (ev c t) (ex c b) c.turns σ:=rfl
@[simp]theorem afV(c:Cf)(k σ):ex c (.raise k) σ=.exc k σ:=rfl
def Vw(c:Cf)(e:E)(x:D)(σ:Ev):Out Rv:=match x with|.bl true=>eZ c e σ|.bl false=>.ok (.val (.bl false)) σ|_=>.bad
@[simp]theorem aex(c e σ):Vw c e (.bl true) σ=eZ c e σ:=rfl
@[simp]theorem aey(c e σ):Vw c e (.bl false) σ=.ok (.val (.bl false)) σ:=rfl
def kOr(c:Cf)(e:E)(x:D)(σ:Ev):Out Rv:=match x with|.bl true=>.ok (.val (.bl true)) σ|.bl false=>jy c e σ|_=>.bad
@[simp]theorem afH(c e σ):kOr c e (.bl true) σ=.ok (.val (.bl true)) σ:=rfl
@[simp]theorem afI(c e σ):kOr c e (.bl false) σ=jy c e σ:=rfl
@[simp]theorem acF(c:Cf)(h σ):eZ c (.cons h .nil) σ=ev c h σ:=rfl
@[simp]theorem acE(c:Cf)(h a b σ):eZ c (.cons h (.cons a b)) σ=(ev c h σ).ao (Vw c (.cons a b)):=rfl
@[simp]theorem ae1(c:Cf)(h σ):jy c (.cons h .nil) σ=ev c h σ:=rfl
@[simp]theorem ae0(c:Cf)(h a b σ):jy c (.cons h (.cons a b)) σ=(ev c h σ).ao (kOr c (.cons a b)):=rfl
@[simp high]theorem aiR(x0:D):at? [x0] 0=some x0:=rfl
@[simp high]theorem aiQ(x0 x1:D):at? [x0,x1] 0=some x0:=rfl
@[simp high]theorem aiP(x0 x1:D):at? [x0,x1] 1=some x1:=rfl
@[simp high]theorem aiO(x0 x1 x2:D):at? [x0,x1,x2] 0=some x0:=rfl
@[simp high]theorem aiN(x0 x1 x2:D):at? [x0,x1,x2] 1=some x1:=rfl
@[simp high]theorem aiM(x0 x1 x2:D):at? [x0,x1,x2] 2=some x2:=rfl
@[simp high]theorem aiL(x0 x1 x2 x3:D):at? [x0,x1,x2,x3] 0=some x0:=rfl
@[simp high]theorem aiK(x0 x1 x2 x3:D):at? [x0,x1,x2,x3] 1=some x1:=rfl
@[simp high]theorem aiJ(x0 x1 x2 x3:D):at? [x0,x1,x2,x3] 2=some x2:=rfl
@[simp high]theorem aiI(x0 x1 x2 x3:D):at? [x0,x1,x2,x3] 3=some x3:=rfl
@[simp]theorem ahJ(σ):giveBack [] [] σ=some σ:=rfl
@[simp]theorem ahI(i as o ps σ):giveBack (.ref i::as) (.bor o::ps) σ=(cg i (fun _=>some o) σ).bind (giveBack as ps):=rfl
@[simp]theorem ahH(d as p ps σ):giveBack (.val d::as) (p::ps) σ=giveBack as ps σ:=rfl
@[simp]theorem ahG(o as p ps σ):giveBack (.tmp o::as) (p::ps) σ=giveBack as ps σ:=rfl
@[simp]theorem ag8(i j):iz i (.ref j)=(i==j):=rfl
@[simp]theorem ag7(i d):iz i (.val d)=false:=rfl
@[simp]theorem ag6(i o):iz i (.tmp o)=false:=rfl
@[simp]theorem ag5(i o):iz i (.new o)=false:=rfl
@[simp]theorem ahp(o):xU (.tmp o)=true:=rfl
@[simp]theorem aho(d):xU (.val d)=false:=rfl
@[simp]theorem ahn(i):xU (.ref i)=false:=rfl
@[simp]theorem agP(xs):qg .tup (.tup xs)=true:=rfl
@[simp]theorem agO(xs):qg .lst (.lst xs)=true:=rfl
@[simp]theorem agN(x):qg .str (.str x)=true:=rfl
@[simp]theorem agM(b):qg .bool (.bl b)=true:=rfl
theorem ada(i):qg .bool (.int i)=false:=rfl
@[simp]theorem agL(i):qg .int (.int i)=true:=rfl
@[simp]theorem aeX:fits 0=true:=rfl
@[simp]theorem aeW:fits 1=true:=rfl
@[simp]theorem aeV:fits 2=true:=rfl
@[simp]theorem aeU:fits 3=true:=rfl
@[simp]theorem aeT:fits 4=true:=rfl
@[simp]theorem aeS:fits 5=true:=rfl
@[simp]theorem aeR:fits 6=true:=rfl
@[simp]theorem aeQ:fits 7=true:=rfl
@[simp]theorem aeP:fits 8=true:=rfl
@[simp]theorem aa6(i j:Int):binop .fdiv (.int i) (.int j)=if 0<j/\j<1073741824 then some (.val (.int (i/j)))else none:=rfl
@[simp]theorem pow_int(i j:Int):binop .pow (.int i) (.int j)=if 0<=j/\j<=64/\small i=true then some (.val (.int (i ^j.toNat)))else none:=rfl
@[simp↓]theorem ite_tt{α:Type}(a b:α):(if true=true then a else b)=a:=rfl
@[simp↓]theorem ite_ff{α:Type}(a b:α):(if false=true then a else b)=b:=rfl
@[simp]theorem acZ(xs ys:List D):binop .add (.tup xs) (.tup ys)=if fits (xs.length+ys.length)then some (.val (.tup (xs++ys)))else none:=rfl
@[simp]theorem ac0(xs ys:List D):binop .add (.lst xs) (.lst ys)=if fits (xs.length+ys.length)then some (.new (.lst (xs++ys)))else none:=rfl
def Jw(x y:D)(σ:Ev):Out Rv:=lift σ (Pu x y)
@[simp]theorem aaA(x y σ):Jw x y σ=lift σ (Pu x y):=rfl
def RD(c:Cf)(b:E)(x:D)(σ:Ev):Out Rv:=jV (iM x).isNone ((ev c b σ).ao (Jw x))
@[simp]theorem aaB(c b x σ):RD c b x σ=jV (iM x).isNone ((ev c b σ).ao (Jw x)):=rfl
@[simp]theorem af6(c:Cf)(a b σ):ev c (.index a b) σ=(ev c a σ).ao (RD c b):=rfl
def aaq(k:Nat)(x:D)(σ:Ev):Fl:=oH (cg k (MF x) σ)
@[simp]theorem ab6(k x σ):aaq k x σ=oH (cg k (MF x) σ):=rfl
@[simp]theorem afU(c:Cf)(k e σ):ex c (.update k e) σ=K5 (!jU (aZ k σ)) ((ev c e σ).jg (aaq k)):=rfl
@[simp]theorem acr(ks vs:List D):jU (some (.cC ks vs))=true:=rfl
@[simp]theorem acX(ks vs:List D):b1 .copy (.cC ks vs)=some (.new (.dct ks vs)):=rfl
def JB(y k x:D)(σ:Ev):Out Rv:=lift σ ((uw y k x).map Rv.val)
@[simp]theorem aaG(y k x σ):JB y k x σ=lift σ ((uw y k x).map Rv.val):=rfl
def JC(c:Cf)(x:E)(y k:D)(σ:Ev):Out Rv:=(ev c x σ).ao (JB y k)
@[simp]theorem aaH(c x y k σ):JC c x y k σ=(ev c x σ).ao (JB y k):=rfl
def RG(c:Cf)(k x:E)(y:D)(σ:Ev):Out Rv:=jV (!jU (some y)) ((ev c k σ).ao (JC c x y))
@[simp]theorem aaI(c k x y σ):RG c k x y σ=jV (!jU (some y)) ((ev c k σ).ao (JC c x y)):=rfl
@[simp]theorem af5(c:Cf)(d k x σ):ev c (.get2 d k x) σ=(ev c d σ).ao (RG c k x):=rfl
def aaM(rs:List Rv)(σ:Ev):Out Rv:=lift σ ((aY rs).bind vM)
@[simp]theorem acn(rs σ):aaM rs σ=lift σ ((aY rs).bind vM):=rfl
@[simp]theorem af4(c:Cf)(es σ):ev c (.dsp es) σ=(evs c es σ).bind aaM:=rfl
@[simp]theorem af3(c:Cf)(f as hs σ):ev c (.tcall f as hs) σ=(evs c as σ).bind (ph c f hs):=rfl
@[simp high]theorem ahF(a0:Sl)(r:Ev):(a0::r)[0]? =some a0:=rfl
@[simp high]theorem ag4(a0 v:Sl)(r:Ev):List.set (a0::r) 0 v=v::r:=rfl
@[simp high]theorem ahE(a0 a1:Sl)(r:Ev):(a0::a1::r)[1]? =some a1:=rfl
@[simp high]theorem ag3(a0 a1 v:Sl)(r:Ev):List.set (a0::a1::r) 1 v=a0::v::r:=rfl
@[simp high]theorem ahD(a0 a1 a2:Sl)(r:Ev):(a0::a1::a2::r)[2]? =some a2:=rfl
@[simp high]theorem ag2(a0 a1 a2 v:Sl)(r:Ev):List.set (a0::a1::a2::r) 2 v=a0::a1::v::r:=rfl
@[simp high]theorem ahC(a0 a1 a2 a3:Sl)(r:Ev):(a0::a1::a2::a3::r)[3]? =some a3:=rfl
@[simp high]theorem ag1(a0 a1 a2 a3 v:Sl)(r:Ev):List.set (a0::a1::a2::a3::r) 3 v=a0::a1::a2::v::r:=rfl
@[simp high]theorem ahB(a0 a1 a2 a3 a4:Sl)(r:Ev):(a0::a1::a2::a3::a4::r)[4]? =some a4:=rfl
@[simp high]theorem ag0(a0 a1 a2 a3 a4 v:Sl)(r:Ev):List.set (a0::a1::a2::a3::a4::r) 4 v=a0::a1::a2::a3::v::r:=rfl
@[simp high]theorem ahA(a0 a1 a2 a3 a4 a5:Sl)(r:Ev):(a0::a1::a2::a3::a4::a5::r)[5]? =some a5:=rfl
@[simp high]theorem agZ(a0 a1 a2 a3 a4 a5 v:Sl)(r:Ev):List.set (a0::a1::a2::a3::a4::a5::r) 5 v=a0::a1::a2::a3::a4::v::r:=rfl
@[simp high]theorem ahz(a0 a1 a2 a3 a4 a5 a6:Sl)(r:Ev):(a0::a1::a2::a3::a4::a5::a6::r)[6]? =some a6:=rfl
@[simp high]theorem agY(a0 a1 a2 a3 a4 a5 a6 v:Sl)(r:Ev):List.set (a0::a1::a2::a3::a4::a5::a6::r) 6 v=a0::a1::a2::a3::a4::a5::v::r:=rfl
@[simp high]theorem ahy(a0 a1 a2 a3 a4 a5 a6 a7:Sl)(r:Ev):(a0::a1::a2::a3::a4::a5::a6::a7::r)[7]? =some a7:=rfl
@[simp high]theorem agX(a0 a1 a2 a3 a4 a5 a6 a7 v:Sl)(r:Ev):List.set (a0::a1::a2::a3::a4::a5::a6::a7::r) 7 v=a0::a1::a2::a3::a4::a5::a6::v::r:=rfl
@[simp high]theorem ahx(a0 a1 a2 a3 a4 a5 a6 a7 a8:Sl)(r:Ev):(a0::a1::a2::a3::a4::a5::a6::a7::a8::r)[8]? =some a8:=rfl
@[simp high]theorem agW(a0 a1 a2 a3 a4 a5 a6 a7 a8 v:Sl)(r:Ev):List.set (a0::a1::a2::a3::a4::a5::a6::a7::a8::r) 8 v=a0::a1::a2::a3::a4::a5::a6::a7::v::r:=rfl
@[simp high]theorem ahw(a0 a1 a2 a3 a4 a5 a6 a7 a8 a9:Sl)(r:Ev):(a0::a1::a2::a3::a4::a5::a6::a7::a8::a9::r)[9]? =some a9:=rfl
@[simp high]theorem agV(a0 a1 a2 a3 a4 a5 a6 a7 a8 a9 v:Sl)(r:Ev):List.set (a0::a1::a2::a3::a4::a5::a6::a7::a8::a9::r) 9 v=a0::a1::a2::a3::a4::a5::a6::a7::a8::v::r:=rfl
@[simp high]theorem afS(a0 a1 a2 a3 a4 a5 a6 a7 a8 a9 a10:Sl)(r:Ev):(a0::a1::a2::a3::a4::a5::a6::a7::a8::a9::a10::r)[10]? =some a10:=rfl
@[simp high]theorem afp(a0 a1 a2 a3 a4 a5 a6 a7 a8 a9 a10 v:Sl)(r:Ev):List.set (a0::a1::a2::a3::a4::a5::a6::a7::a8::a9::a10::r) 10 v=a0::a1::a2::a3::a4::a5::a6::a7::a8::a9::v::r:=rfl
@[simp high]theorem afR(a0 a1 a2 a3 a4 a5 a6 a7 a8 a9 a10 a11:Sl)(r:Ev):(a0::a1::a2::a3::a4::a5::a6::a7::a8::a9::a10::a11::r)[11]? =some a11:=rfl
@[simp high]theorem afo(a0 a1 a2 a3 a4 a5 a6 a7 a8 a9 a10 a11 v:Sl)(r:Ev):List.set (a0::a1::a2::a3::a4::a5::a6::a7::a8::a9::a10::a11::r) 11 v=a0::a1::a2::a3::a4::a5::a6::a7::a8::a9::a10::v::r:=rfl
@[simp high]theorem afQ(a0 a1 a2 a3 a4 a5 a6 a7 a8 a9 a10 a11 a12:Sl)(r:Ev):(a0::a1::a2::a3::a4::a5::a6::a7::a8::a9::a10::a11::a12::r)[12]? =some a12:=rfl
@[simp high]theorem afn(a0 a1 a2 a3 a4 a5 a6 a7 a8 a9 a10 a11 a12 v:Sl)(r:Ev):List.set (a0::a1::a2::a3::a4::a5::a6::a7::a8::a9::a10::a11::a12::r) 12 v=a0::a1::a2::a3::a4::a5::a6::a7::a8::a9::a10::a11::v::r:=rfl
@[simp high]theorem afP(a0 a1 a2 a3 a4 a5 a6 a7 a8 a9 a10 a11 a12 a13:Sl)(r:Ev):(a0::a1::a2::a3::a4::a5::a6::a7::a8::a9::a10::a11::a12::a13::r)[13]? =some a13:=rfl
@[simp high]theorem afm(a0 a1 a2 a3 a4 a5 a6 a7 a8 a9 a10 a11 a12 a13 v:Sl)(r:Ev):List.set (a0::a1::a2::a3::a4::a5::a6::a7::a8::a9::a10::a11::a12::a13::r) 13 v=a0::a1::a2::a3::a4::a5::a6::a7::a8::a9::a10::a11::a12::v::r:=rfl
end Mini
end
section
namespace Mini
open PySem L2 PyProof.Rows
structure abA(fs:List Addr)(H H':Hp)(h0 B h:Heap):Prop where
 stays:B.StaysIn h
 keep:∀b o,h0.get? b=some o->H b=none->b∉fs->B.get? b=some o
 slot:∀b o,h0.get? b=some o->H b=none->b∈fs->∃sl,h.get? b=some {o with slots:=sl}
 free:∀b o,h0.get? b=some o->H b=none->H' b=none
 there:∀b o,h0.get? b=some o->b∉fs->∃u,B.get? b=some u
 tups:∀b xs,H b=some (.tup xs)->H' b=some (.tup xs)
 frzs:∀b o u,H b=some (.frz o u)->H' b=some (.frz o u)
 tbls:∀b ps,H b=some (.tbl ps)->∃more,H' b=some (.tbl (ps++more))
theorem abA.un{fs:List Addr}{H H':Hp}{h0 B h:Heap}(L:abA fs H H' h0 B h)(fr:∀b∈fs,H b=none):Un fs [] H H' h0 h:=
 ⟨fun b o q n nf _=>L.stays b o (L.keep b o q n nf),fun b o q n nf _=>L.slot b o q n nf,fun b o q n _=>L.free b o q n,fun b o q _=>by
  by_cases z:b∈fs
  ·obtain⟨sl,e⟩:=L.slot b o q (fr b z) z
   exact⟨_,e⟩
  ·obtain⟨u,e⟩:=L.there b o q z
   exact⟨_,L.stays b u e⟩,L.tups,L.frzs,L.tbls⟩
section
variable{X:Cx}{QLq:QQz}{σ:L2.St}{H:Hp}{s:Shared}
end
end Mini
end
section
namespace Mini
open PySem PyProof.Rows
section
variable{M:Model}{prog:Program}{w:World}{A:Around}{E:QZq}{h:Heap}{g:Array GenState}{d:Drawn}{t:Nat}{os:OsState}{a:Addr}{o:Obj}
 {nm q:Str}{C N:Addr}{bs bm:List Value}{hdct:Bool}{sn:List Str}{sub:List Value}{ab:Bool}{col:Option Bool}{dd:Option Addr}{k0 k1 k2 k3 k5:Option Value}{newId:String}{mN:QZz}
end
end Mini
end
section
namespace Mini
open PySem L2 PyProof.Rows
section
variable{X:Cx}{QLq:QQz}{σ:L2.St}{H:Hp}{s:Shared}{a:Addr}{oe:Obj}
end
section
variable{X:Cx}{a C W T:Addr}{oe:Obj}
end
section
variable{X:Cx}{a C W T:Addr}{oe:Obj}{en wx tx cx:Str}{i:Nat}{q1 q2 q3 q4 q5 q6 q7 q8 q9 r1 r2 r3 r4 r5:Pos}
end
end Mini
end
section
namespace Mini
open PySem L2 PyProof.Rows
section
variable{P:Program}{w:World}{K:QQq}{mg:QZz}{base:Heap}{cls:Nat->Option Addr}
end
end Mini
end
section
namespace Mini
open PySem L2 PyProof.Rows
section
variable{M:Model}{A:Around}{E:QZq}{nm q nm' q':Str}{C N D N':Addr}{bs bm bs' bm':List Value}{hdct hdct':Bool}{sn sn':List Str}{sub sub':List Value}{ab ab':Bool}{col col':Option Bool}{dd dd':Option Addr}{k0 k1 k2 k3 k5 k0' k1' k2' k3' k5':Option Value}{newId newId':String}
end
section
variable{prog:Program}{w:World}{A:Around}{E:QZq}{s:Shared}{env:Env}
end
section
variable{X:Cx}{a C W T:Addr}{oe:Obj}{en wx:Str}{k0 i:Nat}{word:Str}{q1 q2 q3 q4 q5 q6 q7 q8 q9 r1 r2 r3 r4:Pos}
end
end Mini
end
section
namespace Mini
open PySem L2 PyProof.Rows
section
variable{X:Cx}{QLq:QQz}{σ:L2.St}{H:Hp}{s:Shared}
end
end Mini
end
section
namespace Mini
open PySem L2 PyProof.Rows
section
variable{X:Cx}{c:Cf}{m:E}{e:Expr}{es:List Expr}{k g:Nat}{fc:Addr}{fdc:FuncData}{ps:List Str}{fx:Str}{cls:Nat->Option Addr}{ws:List (Nat×D)}{h0:ExceptHandler}{hs:List ExceptHandler}{p1 p3 p4 p9:Pos}
end
end Mini
end
section
namespace Mini
open PySem L2
section
variable{P:Program}{w:World}{K:QQq}{mg:QZz}{base:Heap}{cls:Nat->Option Addr}
variable{ds:List Df}{jx:List Str}{p:Pg}{fa:Nat->Addr}{fd:Nat->FuncData}{t r:Nat}{dr:Df}
end
end Mini
end
section
namespace Mini
open PySem L2
section
variable{K:QQq}{h:Heap}{mg:QZz}
end
end Mini
end
section
namespace Tx
open PySem L2 Mini
abbrev d0:Df:=bV "checked" s0 [false]
abbrev d1:Df:=bV "is_net" s1 [false]
abbrev d2:Df:=bV "has_parts" s2 [false]
abbrev d3:Df:=bV "is_tuple" s3 [false,false,false]
abbrev d4:Df:=bV "is_number" s4 [false,false,false]
abbrev d5:Df:=bV "is_name" s5 [false]
abbrev d6:Df:=bV "are_unlike" s6 [false]
abbrev d7:Df:=bV "is_row" s7 [false,false]
abbrev d8:Df:=bV "is_wire" s8 [false,false]
abbrev d9:Df:=bV "are_wires" s9 [false,false,false,false]
abbrev d10:Df:=bV "are_rows" s10 [false,false]
abbrev d11:Df:=bV "is_kind" s11 [false,false,false]
abbrev d12:Df:=bV "is_held" s12 [false,false,false]
abbrev d13:Df:=bV "wire_names" s13 [false]
abbrev d14:Df:=bV "waiting_gates" s14 [false,false]
abbrev d15:Df:=bV "told" s15 [false,false,false]
abbrev d16:Df:=bV "told_held" s16 [false,false,false]
abbrev d17:Df:=bV "checked_talk" s17 [false,false]
abbrev d18:Df:=bV "is_talk" s18 [false,false]
abbrev d19:Df:=bV "is_state" s19 [false,false,false]
abbrev d20:Df:=bV "steps" s20 [false,false,false]
abbrev d21:Df:=bV "stands" s21 [false,false]
abbrev d22:Df:=bV "first_stand" s22 [false]
abbrev d23:Df:=bV "steps_at" s23 [false,false,false]
abbrev d24:Df:=bV "is_unasked" s24 [false,false,false]
abbrev d25:Df:=bV "led_to" s25 [false,false,false,false]
abbrev d26:Df:=bV "changed" s26 [false,false,false]
abbrev d27:Df:=bV "newly_met" s27 [false,false,false,true]
abbrev d28:Df:=bV "_law_cell_at" s28 [false,false]
abbrev d29:Df:=bV "_law_mixed" s29 [false,false,false]
abbrev d30:Df:=bV "_law_next" s30 [false,true,false]
abbrev d31:Df:=bV "_law_some" s31 [false,true,false,false,false]
abbrev d32:Df:=bV "_law_table" s32 [false,true,false]
abbrev d33:Df:=bV "_law_kind" s33 [false,true,false,false]
abbrev d34:Df:=bV "_law_net" s34 [false,true,false,false]
abbrev d35:Df:=bV "_law_talk" s35 [false,true,false,false]
abbrev d36:Df:=bV "_law_ring" s36 [false,true]
abbrev d37:Df:=bV "_law_chain" s37 [false,true]
abbrev d38:Df:=bV "_law_meeting" s38 [false,true]
abbrev d39:Df:=bV "_law_spoilt_kind" s39 [false,true,false]
abbrev d40:Df:=bV "_law_case" s40 [false,false]
abbrev d41:Df:=bV "_law_names" s41 [false]
abbrev d42:Df:=bV "_law_tells" s42 [false,false,false]
abbrev d43:Df:=bV "_law_waiting" s43 [false,false]
abbrev d44:Df:=bV "_law_steps" s44 [false,false,false]
abbrev d45:Df:=bV "_law_led" s45 [false,false,false,false]
abbrev d46:Df:=bV "_law_stands" s46 [false,false]
abbrev d47:Df:=bV "law" s47 [false]
def ds:List Df:=[d0,d1,d2,d3,d4,d5,d6,d7,d8,d9,d10,d11,d12,d13,d14,d15,d16,d17,d18,d19,d20,d21,d22,d23,d24,d25,d26,d27,d28,d29,d30,d31,d32,d33,d34,d35,d36,d37,d38,d39,d40,d41,d42,d43,d44,d45,d46,d47]
def jx:List Str:=["LETTERS","LONGEST_NAME","WORDS","MOST_INPUTS","MOST_GATES","MOST_WIRES","MOST_TABLE_WIRES","DEEPEST_HELD","MOST_STATES"]
def vals:List D:=[.str "abcdefghijklmnopqrstuvwxyz",.int 6,.tup [.str "input",.str "gate",.str "start",.str "out",.str "state",.str "same",.str "not",.str "and",.str "or",.str "both",.str "held",.str "table",.str "on",.str "off"],.int 3,.int 5,.int 4,.int 8,.int 3,.int 12]
def pg:Pg:=Ey ds jx vals 1000
theorem scp:ds.all Ht=true:=by decide+kernel
theorem km:ds.all (fun d=>(fnOf ds jx d).isSome)=true:=by decide+kernel
theorem bd:Dt ds:=⟨fun _ _ _ _ _ _ us hl=>by obtain⟨_,rfl⟩:=rQ hl;rfl,fun _ _ _ _ _ _ us hl=>by obtain⟨_,rfl⟩:=rQ hl;rfl,fun _ _ _ _ _ _ us hl=>by obtain⟨_,rfl⟩:=rQ hl;rfl,fun _ _ _ _ _ _ us hl=>by obtain⟨_,_,_,rfl⟩:=iY hl;rfl,fun _ _ _ _ _ _ us hl=>by obtain⟨_,_,_,rfl⟩:=iY hl;rfl,fun _ _ _ _ _ _ us hl=>by obtain⟨_,rfl⟩:=rQ hl;rfl,fun _ _ _ _ _ _ us hl=>by obtain⟨_,rfl⟩:=rQ hl;rfl,fun _ _ _ _ _ _ us hl=>by obtain⟨_,_,rfl⟩:=j9 hl;rfl,fun _ _ _ _ _ _ us hl=>by obtain⟨_,_,rfl⟩:=j9 hl;rfl,fun _ _ _ _ _ _ us hl=>by obtain⟨_,_,_,_,rfl⟩:=xM hl;rfl,fun _ _ _ _ _ _ us hl=>by obtain⟨_,_,rfl⟩:=j9 hl;rfl,fun _ _ _ _ _ _ us hl=>by obtain⟨_,_,_,rfl⟩:=iY hl;rfl,fun _ _ _ _ _ _ us hl=>by obtain⟨_,_,_,rfl⟩:=iY hl;rfl,fun _ _ _ _ _ _ us hl=>by obtain⟨_,rfl⟩:=rQ hl;rfl,fun _ _ _ _ _ _ us hl=>by obtain⟨_,_,rfl⟩:=j9 hl;rfl,fun _ _ _ _ _ _ us hl=>by obtain⟨_,_,_,rfl⟩:=iY hl;rfl,fun _ _ _ _ _ _ us hl=>by obtain⟨_,_,_,rfl⟩:=iY hl;rfl,fun _ _ _ _ _ _ us hl=>by obtain⟨_,_,rfl⟩:=j9 hl;rfl,fun _ _ _ _ _ _ us hl=>by obtain⟨_,_,rfl⟩:=j9 hl;rfl,fun _ _ _ _ _ _ us hl=>by obtain⟨_,_,_,rfl⟩:=iY hl;rfl,fun _ _ _ _ _ _ us hl=>by obtain⟨_,_,_,rfl⟩:=iY hl;rfl,fun _ _ _ _ _ _ us hl=>by obtain⟨_,_,rfl⟩:=j9 hl;rfl,fun _ _ _ _ _ _ us hl=>by obtain⟨_,rfl⟩:=rQ hl;rfl,fun _ _ _ _ _ _ us hl=>by obtain⟨_,_,_,rfl⟩:=iY hl;rfl,fun _ _ _ _ _ _ us hl=>by obtain⟨_,_,_,rfl⟩:=iY hl;rfl,fun _ _ _ _ _ _ us hl=>by obtain⟨_,_,_,_,rfl⟩:=xM hl;rfl,fun _ _ _ _ _ _ us hl=>by obtain⟨_,_,_,rfl⟩:=iY hl;rfl,fun _ _ _ _ _ _ us hl=>by obtain⟨_,_,_,_,rfl⟩:=xM hl;rfl,fun _ _ _ _ _ _ us hl=>by obtain⟨_,_,rfl⟩:=j9 hl;rfl,fun _ _ _ _ _ _ us hl=>by obtain⟨_,_,_,rfl⟩:=iY hl;rfl,fun _ _ _ _ _ _ us hl=>by obtain⟨_,_,_,rfl⟩:=iY hl;rfl,fun _ _ _ _ _ _ us hl=>by obtain⟨_,_,_,_,_,rfl⟩:=aeh hl;rfl,fun _ _ _ _ _ _ us hl=>by obtain⟨_,_,_,rfl⟩:=iY hl;rfl,fun _ _ _ _ _ _ us hl=>by obtain⟨_,_,_,_,rfl⟩:=xM hl;rfl,fun _ _ _ _ _ _ us hl=>by obtain⟨_,_,_,_,rfl⟩:=xM hl;rfl,fun _ _ _ _ _ _ us hl=>by obtain⟨_,_,_,_,rfl⟩:=xM hl;rfl,fun _ _ _ _ _ _ us hl=>by obtain⟨_,_,rfl⟩:=j9 hl;rfl,fun _ _ _ _ _ _ us hl=>by obtain⟨_,_,rfl⟩:=j9 hl;rfl,fun _ _ _ _ _ _ us hl=>by obtain⟨_,_,rfl⟩:=j9 hl;rfl,fun _ _ _ _ _ _ us hl=>by obtain⟨_,_,_,rfl⟩:=iY hl;rfl,fun _ _ _ _ _ _ us hl=>by obtain⟨_,_,rfl⟩:=j9 hl;rfl,fun _ _ _ _ _ _ us hl=>by obtain⟨_,rfl⟩:=rQ hl;rfl,fun _ _ _ _ _ _ us hl=>by obtain⟨_,_,_,rfl⟩:=iY hl;rfl,fun _ _ _ _ _ _ us hl=>by obtain⟨_,_,rfl⟩:=j9 hl;rfl,fun _ _ _ _ _ _ us hl=>by obtain⟨_,_,_,rfl⟩:=iY hl;rfl,fun _ _ _ _ _ _ us hl=>by obtain⟨_,_,_,_,rfl⟩:=xM hl;rfl,fun _ _ _ _ _ _ us hl=>by obtain⟨_,_,rfl⟩:=j9 hl;rfl,fun _ _ _ _ _ _ us hl=>by obtain⟨_,rfl⟩:=rQ hl;rfl,trivial⟩
def nms:List (Str×Stmt):=("checked",s0)::("is_net",s1)::("has_parts",s2)::("is_tuple",s3)::("is_number",s4)::("is_name",s5)::("are_unlike",s6)::("is_row",s7)::("is_wire",s8)::("are_wires",s9)::("are_rows",s10)::("is_kind",s11)::("is_held",s12)::("wire_names",s13)::("waiting_gates",s14)::("told",s15)::("told_held",s16)::("checked_talk",s17)::("is_talk",s18)::("is_state",s19)::("steps",s20)::("stands",s21)::("first_stand",s22)::("steps_at",s23)::("is_unasked",s24)::("led_to",s25)::("changed",s26)::("newly_met",s27)::("_law_cell_at",s28)::("_law_mixed",s29)::("_law_next",s30)::("_law_some",s31)::("_law_table",s32)::("_law_kind",s33)::("_law_net",s34)::("_law_talk",s35)::("_law_ring",s36)::("_law_chain",s37)::("_law_meeting",s38)::("_law_spoilt_kind",s39)::("_law_case",s40)::("_law_names",s41)::("_law_tells",s42)::("_law_waiting",s43)::("_law_steps",s44)::("_law_led",s45)::("_law_stands",s46)::("law",s47)::[]
end Tx
end
section
open PySem
section
open Mini
namespace Tx
theorem bu{n i:Nat}{g:Fn}(h:pg.fns[i]? =some g)(ps:List Sl):pg.fn (n+1) i ps=gk (pg.cf n) g ps:=by
 show(match pg.fns[i]? with|some g=>gk (pg.cf n) g ps|none=>.bad)=_
 rw[h]
def uM:Fn:=⟨1,1,(.cons (.ite (.not (.call 1 AAR)) (.cons (.raise 0) .nil) .nil) (.cons (.ret (.var 0)) .nil))⟩
theorem Et(n:Nat)(p0:Sl):pg.fn (n+1) 0 [p0]=fin 1 (ex (pg.cf n) uM.body [p0]):=(bu (by kernel_rfl) _).trans (aJ _ _ _ rfl)
def yt:Fn:=⟨1,2,(.cons (.ite ABQ AAP .nil) (.cons (.set 1 (.call 13 AAR)) (.cons (.ite (.or (.cons (.not (.bi .all ACh)) ADR)) AAP .nil) (.cons (.ret (.and (.cons (.bi .all ABp) ACz))) .nil))))⟩
theorem HW(n:Nat)(p0:Sl):pg.fn (n+1) 1 [p0]=fin 1 (ex (pg.cf n) yt.body [p0,.un]):=(bu (by kernel_rfl) _).trans (aJ _ _ _ rfl)
def oh:Fn:=⟨1,1,(.cons (.ite AAu AAP .nil) (.cons (.ret (.bi .all (.comp 1 (.name 0) AAc AAL AAt))) .nil))⟩
theorem w5(n:Nat)(p0:Sl):pg.fn (n+1) 2 [p0]=fin 1 (ex (pg.cf n) oh.body [p0]):=(bu (by kernel_rfl) _).trans (aJ _ _ _ rfl)
def qY:Fn:=⟨3,3,(.cons (.ret (.and (.cons ADK (.cons (.chain .le .le (.var 1) ABy (.var 2)) .nil)))) .nil)⟩
theorem zm(n:Nat)(p0 p1 p2:Sl):pg.fn (n+1) 3 [p0,p1,p2]=fin 3 (ex (pg.cf n) qY.body [p0,p1,p2]):=(bu (by kernel_rfl) _).trans (aJ _ _ _ rfl)
def n8:Fn:=⟨3,3,(.cons (.ret (.and (.cons (.isi (.var 0) .int) (.cons (.not (.isi (.var 0) .bool)) (.cons (.chain .le .le (.var 1) (.var 0) (.var 2)) .nil))))) .nil)⟩
theorem wZ(n:Nat)(p0 p1 p2:Sl):pg.fn (n+1) 4 [p0,p1,p2]=fin 3 (ex (pg.cf n) n8.body [p0,p1,p2]):=(bu (by kernel_rfl) _).trans (aJ _ _ _ rfl)
def Gv:Fn:=⟨1,1,(.cons (.ite (.or (.cons (.not (.isi (.var 0) .str)) (.cons (.not (.chain .le .le AAG ABy (.glob 1))) .nil))) AAP .nil) (.cons (.ret (.and (.cons (.bi .all (.comp 1 (.name 0) (.var 0) AAL (.cmp .isin (.var 0) (.glob 0)))) (.cons (.cmp .notin (.var 0) (.glob 2)) .nil)))) .nil))⟩
theorem Er(n:Nat)(p0:Sl):pg.fn (n+1) 5 [p0]=fin 1 (ex (pg.cf n) Gv.body [p0]):=(bu (by kernel_rfl) _).trans (aJ _ _ _ rfl)
def lX:Fn:=⟨1,1,(.cons (.ret (.bi .all ABv)) .nil)⟩
theorem u5(n:Nat)(p0:Sl):pg.fn (n+1) 6 [p0]=fin 1 (ex (pg.cf n) lX.body [p0]):=(bu (by kernel_rfl) _).trans (aJ _ _ _ rfl)
def yr:Fn:=⟨2,2,(.cons (.ret (.and (.cons ACf (.cons (.bi .all ACV) .nil)))) .nil)⟩
theorem HS(n:Nat)(p0 p1:Sl):pg.fn (n+1) 7 [p0,p1]=fin 2 (ex (pg.cf n) yr.body [p0,p1]):=(bu (by kernel_rfl) _).trans (aJ _ _ _ rfl)
def uJ:Fn:=⟨2,2,(.cons (.ret (.and (.cons (.isi (.var 0) .str) (.cons (.cmp .isin (.var 0) (.var 1)) .nil)))) .nil)⟩
theorem Eo(n:Nat)(p0 p1:Sl):pg.fn (n+1) 8 [p0,p1]=fin 2 (ex (pg.cf n) uJ.body [p0,p1]):=(bu (by kernel_rfl) _).trans (aJ _ _ _ rfl)
def oA:Fn:=⟨4,4,(.cons (.ite ADJ AAP .nil) (.cons (.ret (.and (.cons (.bi .all ACI) (.cons (.call 6 AAR) .nil)))) .nil))⟩
theorem w6(n:Nat)(p0 p1 p2 p3:Sl):pg.fn (n+1) 9 [p0,p1,p2,p3]=fin 4 (ex (pg.cf n) oA.body [p0,p1,p2,p3]):=(bu (by kernel_rfl) _).trans (aJ _ _ _ rfl)
def rn:Fn:=⟨2,2,(.cons (.ite (.or (.cons (.not ADK) (.cons (.not (.bi .all ACJ)) .nil))) AAP .nil) (.cons (.ret (.bi .all ABZ)) .nil))⟩
theorem zq(n:Nat)(p0 p1:Sl):pg.fn (n+1) 10 [p0,p1]=fin 2 (ex (pg.cf n) rn.body [p0,p1]):=(bu (by kernel_rfl) _).trans (aJ _ _ _ rfl)
def dM:Fn:=⟨3,5,(.cons (.ite (.or (.cons (.not (.call 3 (.cons (.var 0) (.cons AAQ ABs)))) (.cons (.not (.isi AAb .str)) .nil))) AAP .nil) (.cons (.set 3 AAb) (.cons (.set 4 ABy) (.cons (.ite (.cmp .isin (.var 3) (.tup AAa)) (.cons (.ret (.and (.cons ACq (.cons (.call 8 (.cons AAc AAm)) .nil)))) .nil) .nil) (.cons (.ite (.cmp .isin (.var 3) (.tup (.cons ABY (.cons ABe .nil)))) (.cons (.ret (.and (.cons ACq (.cons (.call 9 (.cons AAc (.cons (.var 1) (.cons AAG (.cons (.glob 5) .nil))))) .nil)))) .nil) .nil) (.cons (.ite (.cmp .eq (.var 3) ABh) (.cons (.ret (.and (.cons ACq (.cons (.call 9 (.cons AAc (.cons (.var 1) (.cons AAQ (.cons (.glob 5) .nil))))) .nil)))) .nil) .nil) (.cons (.ite ACs (.cons (.ret (.and (.cons (.cmp .eq (.var 4) ACd) (.cons (.call 9 (.cons AAc (.cons (.var 1) (.cons AAG (.cons (.glob 6) .nil))))) (.cons (.call 10 (.cons AAl (.cons (.bi .len AAc) .nil))) .nil))))) .nil) .nil) (.cons (.ite ACr (.cons (.ret (.and (.cons (.cmp .eq (.var 4) (.con (.int 4))) (.cons (.cmp .lt (.var 2) (.glob 7)) (.cons (.call 12 (.cons (.var 0) (.cons (.var 1) (.cons (.op .add (.var 2) AAG) .nil)))) .nil))))) .nil) .nil) AAP))))))))⟩
theorem eE(n:Nat)(p0 p1 p2:Sl):pg.fn (n+1) 11 [p0,p1,p2]=fin 3 (ex (pg.cf n) dM.body [p0,p1,p2,.un,.un]):=(bu (by kernel_rfl) _).trans (aJ _ _ _ rfl)
def uL:Fn:=⟨3,3,(.cons (.ret (.and (.cons (.call 11 (.cons AAc AAT)) (.cons (.call 8 (.cons AAl AAm)) (.cons (.isi (.idx (.var 0) ACd) .bool) .nil))))) .nil)⟩
theorem Es(n:Nat)(p0 p1 p2:Sl):pg.fn (n+1) 12 [p0,p1,p2]=fin 3 (ex (pg.cf n) uL.body [p0,p1,p2]):=(bu (by kernel_rfl) _).trans (aJ _ _ _ rfl)
def lU:Fn:=⟨1,1,ABr⟩
theorem lu(n:Nat)(p0:Sl):pg.fn (n+1) 13 [p0]=fin 1 (ex (pg.cf n) lU.body [p0]):=(bu (by kernel_rfl) _).trans (aJ _ _ _ rfl)
def iT:Fn:=⟨2,3,(.cons (.set 2 (.bi .dict ABk)) (.cons (.ret (.comp 2 (.tup [0,1]) AAc AAh (.var 0))) .nil))⟩
theorem oF(n:Nat)(p0 p1:Sl):pg.fn (n+1) 14 [p0,p1]=fin 2 (ex (pg.cf n) iT.body [p0,p1,.un]):=(bu (by kernel_rfl) _).trans (aJ _ _ _ rfl)
def K6:Fn:=⟨3,5,(.cons (.set 3 AAb) (.cons (.ite (.cmp .eq (.var 3) ABg) (.cons (.ret ACa) .nil) .nil) (.cons (.ite (.cmp .eq (.var 3) ACc) (.cons (.ret (.not ACa)) .nil) .nil) (.cons (.ite ACr ADQ .nil) (.cons (.set 4 (.bi .tuple (.comp 1 (.name 0) AAc AAL (.idx (.var 3) (.var 0))))) (.cons (.ite (.cmp .eq (.var 3) ABY) ACy .nil) (.cons (.ite (.cmp .eq (.var 3) ABe) ACx .nil) (.cons (.ite ACs ACk .nil) ABK))))))))⟩
theorem j6(n:Nat)(p0 p1 p2:Sl):pg.fn (n+1) 15 [p0,p1,p2]=fin 3 (ex (pg.cf n) K6.body [p0,p1,p2,.un,.un]):=(bu (by kernel_rfl) _).trans (aJ _ _ _ rfl)
def nR:Fn:=⟨3,5,(.cons (.set 3 (.call 15 (.cons AAc AAT))) (.cons (.set 4 (.cmp .eq (.idx (.var 2) AAl) (.var 3))) (.cons (.ret (.ite (.cmp .eq (.var 4) (.idx (.var 0) ACd)) (.var 3) (.var 1))) .nil)))⟩
theorem wQ(n:Nat)(p0 p1 p2:Sl):pg.fn (n+1) 16 [p0,p1,p2]=fin 3 (ex (pg.cf n) nR.body [p0,p1,p2,.un,.un]):=(bu (by kernel_rfl) _).trans (aJ _ _ _ rfl)
def jB:Fn:=⟨2,2,(.cons (.ite (.not (.call 18 (.cons (.call 0 AAR) AAm))) (.cons (.raise 0) .nil) .nil) (.cons (.ret (.var 1)) .nil))⟩
theorem pN(n:Nat)(p0 p1:Sl):pg.fn (n+1) 17 [p0,p1]=fin 2 (ex (pg.cf n) jB.body [p0,p1]):=(bu (by kernel_rfl) _).trans (aJ _ _ _ rfl)
def uK:Fn:=⟨2,4,(.cons (.ite ACM AAP .nil) (.cons (.set 2 (.comp 1 (.name 0) AAc AAL AAb)) (.cons (.ite AAk AAP .nil) (.cons (.set 3 (.op .add AAb ABH)) (.cons (.ret (.bi .all ABM)) .nil)))))⟩
theorem Ep(n:Nat)(p0 p1:Sl):pg.fn (n+1) 18 [p0,p1]=fin 2 (ex (pg.cf n) uK.body [p0,p1,.un,.un]):=(bu (by kernel_rfl) _).trans (aJ _ _ _ rfl)
def rm:Fn:=⟨3,3,(.cons (.ite (.or (.cons ACe (.cons (.not (.bi .all ADL)) .nil))) AAP .nil) (.cons (.ite (.not (.call 9 (.cons (.bi .tuple (.comp 1 (.name 0) (.var 0) AAL AAb)) (.cons (.var 1) (.cons AAH AAx))))) AAP .nil) (.cons (.ret (.bi .all ABW)) .nil)))⟩
theorem zp(n:Nat)(p0 p1 p2:Sl):pg.fn (n+1) 19 [p0,p1,p2]=fin 3 (ex (pg.cf n) rm.body [p0,p1,p2]):=(bu (by kernel_rfl) _).trans (aJ _ _ _ rfl)
def Dr:Fn:=⟨3,3,(.cons (.ret (.call 23 (.cons (.var 0) (.cons ACQ ABN)))) .nil)⟩
theorem NK(n:Nat)(p0 p1 p2:Sl):pg.fn (n+1) 20 [p0,p1,p2]=fin 3 (ex (pg.cf n) Dr.body [p0,p1,p2]):=(bu (by kernel_rfl) _).trans (aJ _ _ _ rfl)
def yp:Fn:=⟨2,4,(.cons (.expr ACQ) (.cons ACT (.cons (.set 3 ABi) (.cons (.while_ (.var 3) AAv) (.cons (.ret ABi) .nil)))))⟩
theorem HQ(n:Nat)(p0 p1:Sl):pg.fn (n+1) 21 [p0,p1]=fin 2 (ex (pg.cf n) yp.body [p0,p1,.un,.un]):=(bu (by kernel_rfl) _).trans (aJ _ _ _ rfl)
def jX:Fn:=⟨1,1,(.cons (.ret (.tup (.cons AAl ABG))) .nil)⟩
theorem rM(n:Nat)(p0:Sl):pg.fn (n+1) 22 [p0]=fin 1 (ex (pg.cf n) jX.body [p0]):=(bu (by kernel_rfl) _).trans (aJ _ _ _ rfl)
def qQ:Fn:=⟨3,4,(.cons (.set 3 (.bi .dict AAs)) (.cons (.ret (.op .add (.comp 1 (.name 0) AAb ABl (.var 0)) (.call 14 ABd))) .nil))⟩
theorem zb(n:Nat)(p0 p1 p2:Sl):pg.fn (n+1) 23 [p0,p1,p2]=fin 3 (ex (pg.cf n) qQ.body [p0,p1,p2,.un]):=(bu (by kernel_rfl) _).trans (aJ _ _ _ rfl)
def lW:Fn:=⟨3,3,(.cons (.ret (.and (.cons (.cmp .isin (.var 2) AAb) (.cons (.cmp .notin (.var 2) (.bi .dict (.idx AAc (.idx (.var 1) AAG)))) .nil)))) .nil)⟩
theorem u0(n:Nat)(p0 p1 p2:Sl):pg.fn (n+1) 24 [p0,p1,p2]=fin 3 (ex (pg.cf n) lW.body [p0,p1,p2]):=(bu (by kernel_rfl) _).trans (aJ _ _ _ rfl)
def qR:Fn:=⟨4,5,(.cons (.ite (.call 24 (.cons (.var 1) ABx)) (.cons ACH .nil) .nil) (.cons (.set 4 (.bi .dict AAs)) (.cons (.ret (.tup (.cons (.call 26 (.cons (.var 0) (.cons AAp AAZ))) (.cons (.get2 (.var 4) (.var 3) AAf) .nil)))) .nil)))⟩
theorem HR(n:Nat)(p0 p1 p2 p3:Sl):pg.fn (n+1) 25 [p0,p1,p2,p3]=fin 4 (ex (pg.cf n) qR.body [p0,p1,p2,p3,.un]):=(bu (by kernel_rfl) _).trans (aJ _ _ _ rfl)
def uN:Fn:=⟨3,3,(.cons (.ret (.bi .tuple (.comp 2 (.tup [0,1]) ABk AAL (.ite ACX (.not (.var 1)) (.var 1))))) .nil)⟩
theorem Eu(n:Nat)(p0 p1 p2:Sl):pg.fn (n+1) 26 [p0,p1,p2]=fin 3 (ex (pg.cf n) uN.body [p0,p1,p2]):=(bu (by kernel_rfl) _).trans (aJ _ _ _ rfl)
def nT:Fn:=⟨4,7,(.cons (.set 4 ABX) (.cons (.for_ (.name 5) (.call 23 ACU) (.cons ACt (.cons (.ite ACY ABI .nil) .nil))) (.cons (.ret (.var 4)) .nil)))⟩
theorem wR(n:Nat)(p0 p1 p2 p3:Sl):pg.fn (n+1) 27 [p0,p1,p2,p3]=fin 4 (ex (pg.cf n) nT.body [p0,p1,p2,p3,.un,.un,.un]):=(bu (by kernel_rfl) _).trans (aJ _ _ _ rfl)
def eU:Fn:=⟨2,2,(.cons (.ite (.cmp .lt (.var 1) ABy) (.cons (.ret (.idx (.var 0) (.var 1))) .nil) .nil) (.cons (.ite (.cmp .eq (.var 0) ABX) (.cons (.ret AAH) .nil) .nil) (.cons (.ret (.op .add (.op .mul (.idx (.var 0) (.op .mod (.var 1) ABy)) (.con (.int 31))) (.var 1))) .nil)))⟩
theorem gH(n:Nat)(p0 p1:Sl):pg.fn (n+1) 28 [p0,p1]=fin 2 (ex (pg.cf n) eU.body [p0,p1]):=(bu (by kernel_rfl) _).trans (aJ _ _ _ rfl)
def nZ:Fn:=⟨3,4,(.cons (.set 3 (.op .mod (.op .mul (.op .add (.op .add (.call 28 (.cons (.var 0) AAm)) (.op .mul (.con (.int 7919)) (.var 1))) AAG) (.con (.int 48271))) (.con (.int 2147483647)))) (.cons (.ret (.op .mod (.op .mod (.op .add (.op .add (.op .mul (.var 3) (.var 3)) (.op .mul (.con (.int 7)) (.var 3))) (.var 1)) (.con (.int 2147483629))) (.var 2))) .nil))⟩
theorem wX(n:Nat)(p0 p1 p2:Sl):pg.fn (n+1) 29 [p0,p1,p2]=fin 3 (ex (pg.cf n) nZ.body [p0,p1,p2,.un]):=(bu (by kernel_rfl) _).trans (aJ _ _ _ rfl)
def qX:Fn:=⟨3,3,(.cons (.setIx 1 AAH (.op .add ABH AAG)) (.cons (.ret (.call 29 (.cons (.var 0) (.cons ABH ABN)))) .nil))⟩
theorem zj(n:Nat)(p0 p1 p2:Sl):pg.fn (n+1) 30 [p0,p1,p2]=fin 3 (ex (pg.cf n) qX.body [p0,p1,p2]):=(bu (by kernel_rfl) _).trans (aJ _ _ _ rfl)
def qU:Fn:=⟨5,6,(.cons (.set 5 ABi) (.cons (.while_ AAw ABS) (.cons (.ret ACS) .nil)))⟩
theorem zf(n:Nat)(p0 p1 p2 p3 p4:Sl):pg.fn (n+1) 31 [p0,p1,p2,p3,p4]=fin 5 (ex (pg.cf n) qU.body [p0,p1,p2,p3,p4,.un]):=(bu (by kernel_rfl) _).trans (aJ _ _ _ rfl)
def nW:Fn:=⟨3,6,(.cons ABj (.cons ACu (.cons (.for_ (.name 5) (.var 3) (.cons (.set 4 (.op .add (.comp 1 (.name 0) (.var 4) AAL (.op .add (.var 0) (.tup (.cons (.con (.bl false)) .nil)))) (.comp 1 (.name 0) (.var 4) AAL (.op .add (.var 0) (.tup (.cons AAL .nil)))))) .nil)) (.cons (.ret (.tup (.cons ABO (.cons (.var 3) (.cons (.bi .tuple (.bi .sorted (.comp 1 (.name 0) (.var 4) AAg (.var 0)))) .nil))))) .nil))))⟩
theorem wU(n:Nat)(p0 p1 p2:Sl):pg.fn (n+1) 32 [p0,p1,p2]=fin 3 (ex (pg.cf n) nW.body [p0,p1,p2,.un,.un,.un]):=(bu (by kernel_rfl) _).trans (aJ _ _ _ rfl)
def dI:Fn:=⟨4,6,(.cons (.set 4 (.call 30 (.cons (.var 0) (.cons (.ref 1) (.cons (.con (.int 9)) .nil))))) (.cons (.ite (.or (.cons (.cmp .lt (.var 4) (.con (.int 4))) (.cons (.cmp .lt ABa AAQ) .nil))) (.cons (.ret (.tup (.cons (.idx (.lis AAa) (.op .mod (.var 4) AAQ)) (.cons ABt .nil)))) .nil) .nil) (.cons (.ite (.cmp .lt (.var 4) (.con (.int 7))) (.cons (.ret (.tup (.cons (.idx (.lis (.cons ABY (.cons ABe (.cons ABh .nil)))) (.op .sub (.var 4) (.con (.int 4)))) (.cons (.call 31 (.cons (.var 0) (.cons (.ref 1) (.cons (.var 2) (.cons AAQ AAV))))) .nil)))) .nil) .nil) (.cons (.ite (.or (.cons (.cmp .eq (.var 4) (.con (.int 7))) (.cons (.cmp .eq (.var 3) AAH) .nil))) (.cons (.ret (.call 32 (.cons (.var 0) (.cons (.ref 1) ABN)))) .nil) .nil) (.cons (.set 5 (.call 33 (.cons (.var 0) (.cons (.ref 1) (.cons (.var 2) (.cons (.op .sub (.var 3) AAG) .nil)))))) (.cons (.ret (.tup (.cons ABV (.cons (.var 5) (.cons ABt (.cons ACL .nil)))))) .nil))))))⟩
theorem ig(n:Nat)(p0 p1 p2 p3:Sl):pg.fn (n+1) 33 [p0,p1,p2,p3]=fin 4 (ex (pg.cf n) dI.body [p0,p1,p2,p3,.un,.un]):=(bu (by kernel_rfl) _).trans (aJ _ _ _ rfl)
def uH:Fn:=⟨4,8,(.cons AAo (.cons ADH (.cons ADG (.cons (.set 7 (.bi .tuple (.comp 1 (.name 0) (.var 5) AAL (.tup ABU)))) (.cons (.ret (.tup (.cons (.var 4) (.cons (.var 7) (.cons (.bi .tuple (.comp 1 (.name 0) (.var 6) AAL AAg)) .nil))))) .nil)))))⟩
theorem El(n:Nat)(p0 p1 p2 p3:Sl):pg.fn (n+1) 34 [p0,p1,p2,p3]=fin 4 (ex (pg.cf n) uH.body [p0,p1,p2,p3,.un,.un,.un,.un]):=(bu (by kernel_rfl) _).trans (aJ _ _ _ rfl)
def qT:Fn:=⟨4,9,(.cons (.set 4 (.bi .tuple (.comp 1 (.name 0) AAf ABL AAb))) (.cons (.set 5 AAr) (.cons (.set 6 ABX) (.cons (.for_ (.name 7) (.range1 (.var 5)) (.cons (.set 8 (.comp 1 (.name 0) ACp AAg (.var 0))) (.cons (.append 6 (.bi .tuple (.comp 1 (.name 0) (.var 8) AAL (.tup ABb)))) .nil))) ABq))))⟩
theorem zc(n:Nat)(p0 p1 p2 p3:Sl):pg.fn (n+1) 35 [p0,p1,p2,p3]=fin 4 (ex (pg.cf n) qT.body [p0,p1,p2,p3,.un,.un,.un,.un,.un]):=(bu (by kernel_rfl) _).trans (aJ _ _ _ rfl)
def qW:Fn:=⟨2,5,(.cons ABP (.cons (.set 3 ABX) (.cons (.for_ (.name 4) (.range1 ABa) AAe) (.cons (.ret (.tup (.cons (.tup .nil) (.cons (.bi .tuple (.var 3)) (.cons (.bi .tuple (.comp 1 (.name 0) (.var 2) AAL AAg)) .nil))))) .nil))))⟩
theorem zg(n:Nat)(p0 p1:Sl):pg.fn (n+1) 36 [p0,p1]=fin 2 (ex (pg.cf n) qW.body [p0,p1,.un,.un,.un]):=(bu (by kernel_rfl) _).trans (aJ _ _ _ rfl)
def n6:Fn:=⟨2,8,(.cons AAi (.cons (.set 3 AAz) (.cons (.set 4 (.lis (.cons ACL .nil))) (.cons (.set 5 ABX) (.cons (.for_ (.name 6) (.var 2) (.cons (.set 7 AAd) AAj)) ABR)))))⟩
theorem wY(n:Nat)(p0 p1:Sl):pg.fn (n+1) 37 [p0,p1]=fin 2 (ex (pg.cf n) n6.body [p0,p1,.un,.un,.un,.un,.un,.un]):=(bu (by kernel_rfl) _).trans (aJ _ _ _ rfl)
def aP:Fn:=⟨2,8,(.cons (.set 2 (.call 30 (.cons (.var 0) (.cons (.ref 1) (.cons (.con (.int 6)) .nil))))) (.cons (.set 3 (.tup (.cons (.idx (.lis (.cons ABh (.cons ABh (.cons ABY (.cons ABe (.cons ABh (.cons ABh .nil))))))) (.var 2)) (.cons (.tup (.cons AAz (.cons ACP .nil))) .nil)))) (.cons (.ite (.cmp .gt (.var 2) ACd) (.cons (.set 3 (.tup (.cons ABV (.cons (.tup (.cons ABg (.cons AAz .nil))) (.cons ACP (.cons AAL .nil)))))) .nil) .nil) (.cons (.set 4 (.tup (.cons (.tup (.cons (.tup (.cons AAz (.cons AAG .nil))) (.cons (.tup (.cons ACP (.cons AAQ .nil))) .nil))) (.cons (.tup (.cons (.tup (.cons ACP AAV)) .nil)) (.cons (.tup (.cons (.tup (.cons AAz AAV)) .nil)) (.cons (.tup (.cons (.tup (.cons ACm ABG)) .nil)) .nil)))))) (.cons (.set 5 (.lis (.cons (.tup (.cons ACm AAZ)) .nil))) (.cons (.ite ACL (.cons (.append 5 (.tup (.cons ACl (.cons (.tup (.cons (.idx (.lis AAa) AAd) (.cons ACm .nil))) .nil)))) .nil) .nil) (.cons (.set 6 ACL) (.cons (.set 7 (.lis (.cons (.var 6) (.cons (.var 6) (.cons (.var 6) .nil))))) (.cons (.ite (.cmp .gt (.bi .len (.var 5)) AAG) (.cons (.append 7 (.cmp .eq (.var 6) (.cmp .eq (.idx (.idx (.idx (.var 5) AAG) AAG) AAH) ABg))) .nil) .nil) (.cons (.ret (.tup (.cons (.tup (.cons (.tup (.cons AAz (.cons ACP .nil))) (.cons ACS (.cons (.bi .tuple (.var 7)) .nil)))) (.cons (.tup (.cons (.tup (.cons ACm .nil)) (.cons (.var 4) .nil))) .nil)))) .nil))))))))))⟩
theorem gG(n:Nat)(p0 p1:Sl):pg.fn (n+1) 38 [p0,p1]=fin 2 (ex (pg.cf n) aP.body [p0,p1,.un,.un,.un,.un,.un,.un]):=(bu (by kernel_rfl) _).trans (aJ _ _ _ rfl)
def cT:Fn:=⟨3,6,(.cons (.set 3 (.op .add AAp (.bi .tuple (.comp 1 (.name 0) AAf AAL AAb)))) (.cons (.set 4 (.call 30 (.cons (.var 0) (.cons (.ref 1) (.cons (.bi .len AAf) .nil))))) (.cons (.set 5 (.bi .list AAf)) (.cons (.setIx 5 (.var 4) (.tup (.cons (.idx (.idx (.var 5) (.var 4)) AAH) (.cons (.call 33 (.cons (.var 0) (.cons (.ref 1) (.cons (.var 3) (.cons AAG .nil))))) .nil)))) (.cons (.ret (.tup (.cons AAp (.cons ACS (.cons (.idx (.var 2) AAQ) .nil))))) .nil)))))⟩
theorem lA(n:Nat)(p0 p1 p2:Sl):pg.fn (n+1) 39 [p0,p1,p2]=fin 3 (ex (pg.cf n) cT.body [p0,p1,p2,.un,.un,.un]):=(bu (by kernel_rfl) _).trans (aJ _ _ _ rfl)
def bf:Fn:=⟨2,6,(.cons (.set 2 (.lis AAm)) (.cons (.set 3 (.call 30 (.cons (.var 0) (.cons (.ref 2) (.cons (.con (.int 8)) .nil))))) (.cons (.ite (.cmp .lt (.var 3) AAQ) (.cons (.set 4 (.call 34 (.cons (.var 0) (.cons (.ref 2) (.cons AAQ ABs))))) (.cons (.ret (.tup (.cons (.var 4) (.cons (.call 35 (.cons (.var 0) (.cons (.ref 2) (.cons (.var 4) ABs)))) .nil)))) .nil)) .nil) (.cons (.ite (.cmp .eq (.var 3) AAQ) (.cons (.ret (.tup (.cons (.call 34 (.cons (.var 0) (.cons (.ref 2) (.cons AAH ABs)))) (.cons (.tup (.cons (.tup .nil) (.cons (.tup (.cons (.tup .nil) .nil)) .nil))) .nil)))) .nil) .nil) (.cons (.ite (.cmp .eq (.var 3) ACd) (.cons (.set 4 (.call 36 ABw)) (.cons (.ite ABu (.cons (.ret (.tup (.cons (.var 4) (.cons (.tup (.cons (.tup .nil) (.cons (.tup (.cons (.tup .nil) .nil)) .nil))) .nil)))) .nil) .nil) (.cons (.ret (.tup (.cons (.var 4) (.cons (.tup (.cons (.tup (.cons ACl .nil)) (.cons (.tup (.cons (.tup (.cons (.tup (.cons ACl (.cons AAG .nil))) .nil)) (.cons (.tup (.cons (.tup (.cons ACl ABG)) .nil)) .nil))) .nil))) .nil)))) .nil))) .nil) (.cons (.ite (.cmp .lt (.var 3) (.con (.int 6))) (.cons (.setT [4,5] (.call 37 ABw)) .nil) (.cons (.setT [4,5] (.call 38 ABw)) .nil)) (.cons (.ite (.and (.cons (.cmp .eq (.op .mod (.var 3) AAQ) AAG) (.cons ABu .nil))) (.cons (.set 4 (.call 39 (.cons (.var 0) (.cons (.ref 2) (.cons (.var 4) .nil))))) .nil) .nil) (.cons (.ret (.tup (.cons (.var 4) (.cons (.var 5) .nil)))) .nil))))))))⟩
theorem dH(n:Nat)(p0 p1:Sl):pg.fn (n+1) 40 [p0,p1]=fin 2 (ex (pg.cf n) bf.body [p0,p1,.un,.un,.un,.un]):=(bu (by kernel_rfl) _).trans (aJ _ _ _ rfl)
def yq:Fn:=⟨1,1,ABr⟩
theorem wW(n:Nat)(p0:Sl):pg.fn (n+1) 41 [p0]=fin 1 (ex (pg.cf n) yq.body [p0]):=(bu (by kernel_rfl) _).trans (aJ _ _ _ rfl)
def nU:Fn:=⟨3,5,(.cons (.ite (.cmp .eq AAb ABg) (.cons (.ret ACb) .nil) .nil) (.cons (.ite (.cmp .eq AAb ACc) (.cons (.ret (.not ACb)) .nil) .nil) (.cons (.ite (.cmp .eq AAb ABV) AAq .nil) (.cons (.set 4 (.comp 1 (.name 0) AAc AAL (.idx (.var 2) (.var 0)))) (.cons (.ite (.cmp .eq AAb ABO) ACR .nil) (.cons (.ite (.cmp .eq AAb ABY) ACN .nil) (.cons (.ite (.cmp .eq AAb ABe) ACj .nil) (.cons (.ite ABc (.cons (.ret (.var 2)) .nil) .nil) ACw))))))))⟩
theorem cU(n:Nat)(p0 p1 p2:Sl):pg.fn (n+1) 42 [p0,p1,p2]=fin 3 (ex (pg.cf n) nU.body [p0,p1,p2,.un,.un]):=(bu (by kernel_rfl) _).trans (aJ _ _ _ rfl)
def jW:Fn:=⟨2,3,(.cons ACG (.cons (.ret (.comp 1 (.name 0) AAc AAn AAb)) .nil))⟩
theorem rK(n:Nat)(p0 p1:Sl):pg.fn (n+1) 43 [p0,p1]=fin 2 (ex (pg.cf n) jW.body [p0,p1,.un]):=(bu (by kernel_rfl) _).trans (aJ _ _ _ rfl)
def nY:Fn:=⟨3,4,(.cons (.set 3 (.comp 1 (.name 0) AAs (.cmp .isin AAb ABH) AAb)) (.cons ACo (.cons (.ret (.comp 1 (.name 0) ADM ABl (.var 0))) .nil)))⟩
theorem wV(n:Nat)(p0 p1 p2:Sl):pg.fn (n+1) 44 [p0,p1,p2]=fin 3 (ex (pg.cf n) nY.body [p0,p1,p2,.un]):=(bu (by kernel_rfl) _).trans (aJ _ _ _ rfl)
def uI:Fn:=⟨4,8,(.cons (.set 4 ADM) (.cons (.set 5 (.bi .tuple (.comp 1 (.name 0) (.range1 ADN) AAL ABf))) (.cons (.ite ABo ACO .nil) (.cons (.for_ (.tup [6,7]) AAs (.cons (.ite (.cmp .eq (.var 6) (.var 3)) ABz .nil) .nil)) (.cons ACH .nil)))))⟩
theorem Em(n:Nat)(p0 p1 p2 p3:Sl):pg.fn (n+1) 45 [p0,p1,p2,p3]=fin 4 (ex (pg.cf n) uI.body [p0,p1,p2,p3,.un,.un,.un,.un]):=(bu (by kernel_rfl) _).trans (aJ _ _ _ rfl)
def lV:Fn:=⟨2,7,(.cons ACZ (.cons ACn (.cons (.set 4 AAH) (.cons (.while_ (.cmp .lt (.var 4) ABa) (.cons (.for_ (.name 5) ABn (.cons ABT (.cons (.ite ACY AAy .nil) .nil))) ACi)) (.cons (.ret (.tup ABx)) .nil)))))⟩
theorem uZ(n:Nat)(p0 p1:Sl):pg.fn (n+1) 46 [p0,p1]=fin 2 (ex (pg.cf n) lV.body [p0,p1,.un,.un,.un,.un,.un]):=(bu (by kernel_rfl) _).trans (aJ _ _ _ rfl)
def R7:Fn:=⟨1,6,(.cons ACg (.cons (.set 3 (.call 21 AAT)) (.cons ADP (.cons (.ite ABm AAP .nil) (.cons (.for_ (.name 5) (.var 4) (.cons (.ite ACv AAP .nil) .nil)) (.cons (.ret AAL) .nil))))))⟩
theorem ZJ(n:Nat)(p0:Sl):pg.fn (n+1) 47 [p0]=fin 1 (ex (pg.cf n) R7.body [p0,.un,.un,.un,.un,.un]):=(bu (by kernel_rfl) _).trans (aJ _ _ _ rfl)
end Tx
end
end
section
open PySem Mini
namespace Tx
abbrev sc(ns:List Int):D:=.lst (ns.map .int)
theorem K9(ns:List Int)(i:Int)(h0:0<=i)(h:i<ns.length):∃r:Int,at? (ns.map D.int) i=some (.int r):=by
 unfold at? ix?
 rw[QAq,if_neg (by omega:¬i<0)]
 rw[if_pos ⟨h0,h⟩]
 have:i.toNat<ns.length:=by omega
 exact⟨ns[i.toNat],by simp[this]⟩
theorem Jj(ns:List Int):jQ (ns.map D.int)=true:=by
 induction ns with
 |nil=>rfl
 |cons i r ih=>simp[jQ,nd,ih]
theorem Gh(ns:List Int):gY (ns.map D.int)=0:=by
 induction ns with
 |nil=>rfl
 |cons i r ih=>simp[gY,dep,ih]
theorem Kg(ns:List Int):aL .eq (.lst (ns.map .int)) (.lst [])=some ns.isEmpty:=by
 cases ns with
 |nil=>rfl
 |cons i ns=>simp[aL,m9,flat,nd,jQ,dep,gY,cH,iZ,Jj,Gh]
theorem Ah(n:Nat)(ns:List Int)(k:Int)(hk:0<=k):∃r:Int,pg.fn (n+1) 28 [.val (sc ns),.val (.int k)]=.ok (.val (.int r)) [.val (sc ns),.val (.int k)]:=by
 by_cases h:k<ns.length
 ·obtain⟨r,e⟩:=K9 ns k hk h
  exact⟨r,by rw[gH];simp[eU,h,e]⟩
 ·by_cases hn:ns=[]
  ·subst hn
   have h0:¬k<0:=by omega
   exact⟨0,by rw[gH];simp[eU,h0,aY,fits,Kg []]⟩
  ·have hl':0<ns.length:=List.length_pos_iff.mpr hn
   have hl:(0:Int)<ns.length:=by omega
   obtain⟨r,e⟩:=K9 ns (k%ns.length) (Int.emod_nonneg _ (by omega)) (Int.emod_lt_of_pos _ hl)
   have he:ns.isEmpty=false:=by simpa using hn
   exact⟨r*31+k,by rw[gH];simp[eU,h,e,aY,fits,Kg,he,hl,hl',small]⟩
@[simp]theorem agt(n:Nat):(pg.cf n).fn=pg.fn n:=rfl
@[simp]theorem ags(n:Nat):(pg.cf n).gl=pg.gl:=rfl
@[simp]theorem abg(n:Nat):(pg.cf n).turns=1000:=rfl
theorem Jm(n:Nat)(ns:List Int)(k many:Int)(hk:0<=k)(hm:0<many):∃r:Int,0<=r/\r<many/\
  pg.fn (n+2) 29 [.val (sc ns),.val (.int k),.val (.int many)]=.ok (.val (.int r)) [.val (sc ns),.val (.int k),.val (.int many)]:=by
 obtain⟨c,e⟩:=Ah n ns k hk
 have b:∀x:Int,small (x%2147483647)=true:=fun x=>by
  have h1:=Int.emod_nonneg x (by omega:(2147483647:Int)≠0)
  have h2:=Int.emod_lt_of_pos x (by omega:(0:Int)<2147483647)
  simp[small]
  omega
 have s1:small 7919=true:=by decide
 have s2:small 48271=true:=by decide
 have s3:small 7=true:=by decide
 refine⟨_,?_,?_,by rw[wX];simp[nZ,e,s1,s2,s3,b,hm];rfl⟩
 ·exact Int.emod_nonneg _ (by omega)
 ·exact Int.emod_lt_of_pos _ hm
theorem LK{k:Int}(h:0<=k):0<=k+1:=Int.le_trans h (Int.le_add_one (Int.le_refl k))
theorem bC(n:Nat)(ns:List Int)(k many:Int)(hk:0<=k)(hm:0<many):∃r:Int,0<=r/\r<many/\
  pg.fn (n+3) 30 [.val (sc ns),.bor (.lst [.int k]),.val (.int many)]=.ok (.val (.int r)) [.val (sc ns),.bor (.lst [.int (k+1)]),.val (.int many)]:=by
 obtain⟨r,h1,h2,e⟩:=Jm n ns (k+1) many (LK hk) hm
 refine⟨r,h1,h2,?_⟩
 rw[zj]
 simp[qX,at?,ix?,pP,e]
end Tx
end
section
open PySem Mini
namespace Tx
def nH:E:=AAw
def sJ:S:=ABS
abbrev someσ(ns:List Int)(k:Int)(xs:List D)(least most:Int)(row:List D):Ev:=[.val (sc ns),.bor (.lst [.int k]),.val (.tup xs),.val (.int least),.val (.int most),.own (.lst row)]
theorem Hn(n:Nat)(ns:List Int)(k:Int)(hk:0<=k)(xs row:List D)(least most:Int)(h0:0<row.length)(hf:row.length<=1000):
  ∃j:Nat,j<row.length/\ex (pg.cf (n+3)) sJ (someσ ns k xs least most row)=.next (someσ ns (k+1) xs least most (row.eraseIdx j)):=by
 obtain⟨r,h1,h2,e⟩:=bC n ns k row.length hk (by omega)
 refine⟨r.toNat,by omega,?_⟩
 have f:fits row.length=true:=by simp[fits];omega
 have hx:ix? row.length r=some r.toNat:=by
  unfold ix?
  rw[if_neg (by omega:¬r<0),if_pos ⟨h1,h2⟩]
 have hr:row[r.toNat]? =some (row[r.toNat]'(by omega)):=QXq (by omega)
 simp[sJ,e,dg,pQ,f,hx,hr,rG]
theorem Eb(n:Nat)(ns:List Int)(xs:List D)(least most:Int)(hx:xs.length<=1000)(hl:0<=least)(hlm:least<=most):∀(L:Nat)(row:List D)(k:Int)(fuel:Nat),row.length=L->L<fuel->0<=k->row.Sublist xs->least<=row.length->
  ∃ys k',ys.Sublist xs/\least<=ys.length/\ys.length<=most/\0<=k'/\bK (ev (pg.cf (n+3)) nH) (ex (pg.cf (n+3)) sJ) fuel (someσ ns k xs least most row)=.next (someσ ns k' xs least most ys):=by
 intro L
 induction L with
 |zero=>
  intro row k fuel hL hf hk hs hr
  obtain⟨fuel,rfl⟩:∃f,fuel=f+1:=⟨fuel-1,by omega⟩
  have:¬least<row.length:=by omega
  exact⟨row,k,hs,hr,by omega,hk,by simp[bK,nH,this]⟩
 |succ L ih=>
  intro row k fuel hL hf hk hs hr
  obtain⟨fuel,rfl⟩:∃f,fuel=f+1:=⟨fuel-1,by omega⟩
  have hrl:=hs.length_le
  by_cases h1:least<row.length
  ·--the row is longer than the least
   have cont:∀k1:Int,0<=k1->∃ys k',ys.Sublist xs/\least<=ys.length/\ys.length<=most/\0<=k'/\
     (ex (pg.cf (n+3)) sJ (someσ ns k1 xs least most row)).turn (bK (ev (pg.cf (n+3)) nH) (ex (pg.cf (n+3)) sJ) fuel)=.next (someσ ns k' xs least most ys):=fun k1 hk1=>by
    obtain⟨j,hj,e⟩:=Hn n ns k1 hk1 xs row least most (by omega) (by omega)
    have el:(row.eraseIdx j).length=L:=by rw[List.length_eraseIdx_of_lt hj];omega
    obtain⟨ys,k',a1,a2,a3,a4,a5⟩:=ih (row.eraseIdx j) (k1+1) fuel el (by omega) (by omega) ((List.eraseIdx_sublist row j).trans hs) (by omega)
    exact⟨ys,k',a1,a2,a3,a4,by rw[e];exact a5⟩
   by_cases h2:most<row.length
   ·obtain⟨ys,k',a1,a2,a3,a4,a5⟩:=cont k hk
    refine⟨ys,k',a1,a2,a3,a4,?_⟩
    rw[<-a5]
    simp[bK,nH,h1,h2]
   ·obtain⟨r,b1,b2,e⟩:=bC n ns k 2 hk (by omega)
    by_cases h3:r=1
    ·subst h3
     obtain⟨ys,k',a1,a2,a3,a4,a5⟩:=cont (k+1) (by omega)
     refine⟨ys,k',a1,a2,a3,a4,?_⟩
     rw[<-a5]
     simp[bK,nH,h1,h2,e]
    ·exact⟨row,k+1,hs,by omega,by omega,by omega,by simp[bK,nH,h1,h2,e,h3]⟩
  ·exact⟨row,k,hs,by omega,by omega,hk,by simp[bK,nH,h1]⟩
theorem Bj(n:Nat)(ns:List Int)(k:Int)(hk:0<=k)(xs:List D)(least most:Int)(hx:xs.length<=900)(hl:0<=least)(hlm:least<=most)(hxl:least<=xs.length):
  ∃ys k',ys.Sublist xs/\least<=ys.length/\ys.length<=most/\0<=k'/\
   pg.fn (n+4) 31 [.val (sc ns),.bor (.lst [.int k]),.val (.tup xs),.val (.int least),.val (.int most)]=.ok (.val (.tup ys)) [.val (sc ns),.bor (.lst [.int k']),.val (.tup xs),.val (.int least),.val (.int most)]:=by
 obtain⟨ys,k',a1,a2,a3,a4,a5⟩:=Eb n ns xs least most (by omega) hl hlm xs.length xs k 1000 rfl (by omega) hk (List.Sublist.refl _) hxl
 refine⟨ys,k',a1,a2,a3,a4,?_⟩
 rw[zf]
 have hb:qU.body=.cons (.set 5 ABi) (.cons (.while_ nH sJ) (.cons (.ret ACS) .nil)):=rfl
 rw[hb]
 simp[a5]
end Tx
end
section
open PySem Mini
namespace Tx
def rE(s:Sl):Prop:=s=.un\/∃d,s=.val d
theorem jq{s:Sl}(h:rE s)(d:D)(r:Ev):bT (.name 0) d (s::r)=some (.val d::r):=by
 rcases h with rfl|⟨e,rfl⟩<;>simp[bT]
def lM:E:=AAg
theorem vW(n:Nat)(ns:List Int)(k:Int)(hk:0<=k)(d:D)(rest:Ev):∃b:Bool,ev (pg.cf (n+3)) lM (.val d:: .val (sc ns):: .bor (.lst [.int k])::rest)=.ok (.val (.bl b)) (.val d:: .val (sc ns):: .bor (.lst [.int (k+1)])::rest):=by
 obtain⟨r,h1,h2,e⟩:=bC n ns k 2 hk (by omega)
 exact⟨r==1,by simp[lM,e]⟩
theorem KD(n:Nat)(ns:List Int)(rest:Ev):∀(xs acc:List D)(k:Int)(s:Sl),0<=k->rE s->∃bs k' s',bs.length=xs.length/\0<=k'/\rE s'/\
  aR (.name 0) (ev (pg.cf (n+3)) lM) (ev (pg.cf (n+3)) (.var 0)) xs acc (s:: .val (sc ns):: .bor (.lst [.int k])::rest)=.ok (acc++jR bs xs) (s':: .val (sc ns):: .bor (.lst [.int k'])::rest)
 |[]=>fun acc k s hk hs=>⟨[],k,s,rfl,hk,hs,by simp[aR,jR]⟩
 |x::xs=>fun acc k s hk hs=>by
  obtain⟨b,e⟩:=vW n ns k hk x rest
  cases b with
  |true=>
   obtain⟨bs,k',s',a1,a2,a3,a4⟩:=KD n ns rest xs (acc++[x]) (k+1) (.val x) (by omega) (.inr ⟨x,rfl⟩)
   refine⟨true::bs,k',s',by simp[a1],a2,a3,?_⟩
   rw[aR,jq hs]
   simp only[e,dj,if_true]
   have e0:ev (pg.cf (n+3)) (.var 0) (.val x:: .val (sc ns):: .bor (.lst [.int (k+1)])::rest)=.ok (.val x) (.val x:: .val (sc ns):: .bor (.lst [.int (k+1)])::rest):=by simp
   rw[e0,bO,a4]
   simp[jR]
  |false=>
   obtain⟨bs,k',s',a1,a2,a3,a4⟩:=KD n ns rest xs acc (k+1) (.val x) (by omega) (.inr ⟨x,rfl⟩)
   refine⟨false::bs,k',s',by simp[a1],a2,a3,?_⟩
   rw[aR,jq hs]
   simp only[e,dj,Qxq,if_false]
   rw[a4]
   simp[jR]
def Qw(b:Bool):E:=(.comp 1 (.name 0) (.var 4) AAL (.op .add (.var 0) (.tup (.cons (.con (.bl b)) .nil))))
def uY:S:=(.cons (.set 4 (.op .add (Qw false) (Qw true))) .nil)
theorem Lh(c:Cf)(b:Bool)(rest:Ev):∀(rs:List (List Bool))(acc:List D)(s:Sl),rE s->(∀r∈rs,r.length<=1000)->∃s',rE s'/\
  aR (.name 0) (ev c AAL) (ev c (.op .add (.var 0) (.tup (.cons (.con (.bl b)) .nil)))) (rs.map aH) acc (s::rest)=.ok (acc++(rs.map (· ++[b])).map aH) (s'::rest)
 |[]=>fun acc s hs _=>⟨s,hs,by simp[aR]⟩
 |r::rs=>fun acc s hs hl=>by
  obtain⟨s',a1,a2⟩:=Lh c b rest rs (acc++[aH (r++[b])]) (.val (aH r)) (.inr ⟨_,rfl⟩) fun q hq=>hl q (QYq _ hq)
  have h1:=hl r QYz
  refine⟨s',a1,?_⟩
  rw[Qyz,aR,jq hs]
  have e0:ev c (.op .add (.var 0) (.tup (.cons (.con (.bl b)) .nil))) (.val (aH r)::rest)=.ok (.val (aH (r++[b]))) (.val (aH r)::rest):=by
   have f:fits (r.length+1)=true:=by simp[fits];omega
   simp[aY,aH,f]
  have e1:ev c AAL (.val (aH r)::rest)=.ok (.val (.bl true)) (.val (aH r)::rest):=by simp
  simp only[e1,dj,if_true]
  rw[e0,bO,a2]
  simp
theorem Li(c:Cf)(b:Bool)(rs:List (List Bool))(hl:∀r∈rs,r.length<=1000){s:Sl}(hs:s=.own (.lst (rs.map aH))\/s=.val (.lst (rs.map aH)))(s0 s1 s2 s3 s5:Sl):ev c (Qw b) [s0,s1,s2,s3,s,s5]=.ok (.new (.lst ((rs.map (· ++[b])).map aH))) [s0,s1,s2,s3,.val (.lst (rs.map aH)),s5]:=by
 obtain⟨s',_,a⟩:=Lh c b [s0,s1,s2,s3,.val (.lst (rs.map aH)),s5] rs [] .un (.inl rfl) hl
 have h:ev c (.var 4) [s0,s1,s2,s3,s,s5]=.ok (.val (.lst (rs.map aH))) [s0,s1,s2,s3,.val (.lst (rs.map aH)),s5]:=by
  rcases hs with rfl|rfl<;>simp
 unfold Qw
 rw[jZ,h,bO]
 simp only[items]
 rw[show List.replicate 1 Sl.un++[s0,s1,s2,s3,.val (.lst (rs.map aH)),s5]=Sl.un::[s0,s1,s2,s3,.val (.lst (rs.map aH)),s5]from rfl,a]
 simp
theorem Ej(c:Cf)(rs:List (List Bool))(hl:∀r∈rs,r.length<=1000)(hn:rs.length<=1000){s:Sl}(hs:s=.own (.lst (rs.map aH)))(s0 s1 s2 s3 s5:Sl):
  ex c uY [s0,s1,s2,s3,s,s5]=.next [s0,s1,s2,s3,.own (.lst ((rs.map (· ++[false])++rs.map (· ++[true])).map aH)),s5]:=by
 have f:fits (rs.length+rs.length)=true:=by simp[fits];omega
 unfold uY
 simp only[x_0,x_1,x_5,Yy]
 rw[Li c false rs hl (.inl hs),jM]
 simp only[Ku]
 rw[Li c true rs hl (.inr rfl),jM]
 simp[f]
theorem sV(c:Cf)(s0 s1 s2 s3:Sl):∀(ys:List D)(k:Nat)(s5:Sl),rE s5->k+ys.length<=9->∃s5',rE s5'/\bH (.name 5) (ex c uY) ys [s0,s1,s2,s3,.own (.lst ((cY k).map aH)),s5]=.next [s0,s1,s2,s3,.own (.lst ((cY (k+ys.length)).map aH)),s5']
 |[]=>fun k s5 h5 _=>⟨s5,h5,by simp[bH]⟩
 |y::ys=>fun k s5 h5 hk=>by
  simp only[QBq]at hk
  obtain⟨s5',a1,a2⟩:=sV c s0 s1 s2 s3 ys (k+1) (.val y) (.inr ⟨y,rfl⟩) (by omega)
  refine⟨s5',a1,?_⟩
  have st:bT (.name 5) y [s0,s1,s2,s3,.own (.lst ((cY k).map aH)),s5]=some [s0,s1,s2,s3,.own (.lst ((cY k).map aH)),.val y]:=by
   rcases h5 with rfl|⟨e,rfl⟩<;>simp[bT]
  have lens:∀k,∀r∈cY k,r.length=k:=by
   intro k
   induction k with
   |zero=>intro r hr;simp[cY]at hr;subst hr;rfl
   |succ k ih=>
    intro r hr
    simp only[cY,QXz,QDq]at hr
    rcases hr with ⟨q,hq,rfl⟩|⟨q,hq,rfl⟩<;>simp[ih q hq]
  have hn:(cY k).length<=1000:=by
   rw[mC]
   have:2 ^k<=2 ^9:=Nat.pow_le_pow_right (by omega) (by omega)
   omega
  rw[bH,st]
  simp only
  rw[Ej c (cY k) (fun r hr=>by rw[lens k r hr];omega) hn rfl,mq]
  rw[show(cY k).map (· ++[false])++(cY k).map (· ++[true])=cY (k+1)from rfl,a2]
  rw[show k+1+ys.length=k+(y::ys).length by simp;omega]
def oX:E:=.comp 1 (.name 0) (.var 4) lM (.var 0)
theorem Ab(n:Nat)(ns:List Int)(k:Int)(hk:0<=k)(zs:List D)(s2 s3 s5:Sl):∃bs k',bs.length=zs.length/\0<=k'/\
  ev (pg.cf (n+3)) oX [.val (sc ns),.bor (.lst [.int k]),s2,s3,.own (.lst zs),s5]=.ok (.new (.lst (jR bs zs))) [.val (sc ns),.bor (.lst [.int k']),s2,s3,.val (.lst zs),s5]:=by
 obtain⟨bs,k',s',c1,c2,c3,c4⟩:=KD n ns [s2,s3,.val (.lst zs),s5] zs [] k .un hk (.inl rfl)
 refine⟨bs,k',c1,c2,?_⟩
 have h:ev (pg.cf (n+3)) (.var 4) [.val (sc ns),.bor (.lst [.int k]),s2,s3,.own (.lst zs),s5]=.ok (.val (.lst zs)) [.val (sc ns),.bor (.lst [.int k]),s2,s3,.val (.lst zs),s5]:=by simp
 unfold oX
 rw[jZ,h,bO]
 simp only[items]
 rw[show List.replicate 1 Sl.un++[.val (sc ns),.bor (.lst [.int k]),s2,s3,.val (.lst zs),s5]=Sl.un:: .val (sc ns):: .bor (.lst [.int k])::[s2,s3,.val (.lst zs),s5]from rfl,c4]
 simp
theorem Hf(n:Nat)(ns:List Int)(k:Int)(hk:0<=k)(xs:List D)(hx:xs.length<=900)(h1:1<=xs.length):
  ∃ys rs k',ys.Sublist xs/\1<=ys.length/\ys.length<=3/\(∀r∈rs,r.length=ys.length)/\xV rs=true/\0<=k'/\
   pg.fn (n+5) 32 [.val (sc ns),.bor (.lst [.int k]),.val (.tup xs)]=.ok (.val (.tup [.str "table",.tup ys,.tup (rs.map aH)])) [.val (sc ns),.bor (.lst [.int k']),.val (.tup xs)]:=by
 obtain⟨ys,k1,a1,a2,a3,a4,a5⟩:=Bj n ns k hk xs 1 3 hx (by omega) (by omega) (by omega)
 obtain⟨s5,b1,b2⟩:=sV (pg.cf (n+4)) (.val (sc ns)) (.bor (.lst [.int k1])) (.val (.tup xs)) (.val (.tup ys)) ys 0 .un (.inl rfl) (by omega)
 obtain⟨bs,k2,c1,c2,c4⟩:=Ab (n+1) ns k1 a4 ((cY ys.length).map aH) (.val (.tup xs)) (.val (.tup ys)) s5
 rw[QAq,mC]at c1
 obtain⟨rs,d1,d2,d3⟩:=Ea ys.length (by omega) (by omega) bs c1
 refine⟨ys,rs,k2,a1,by omega,by omega,d2,d3,c2,?_⟩
 rw[wU]
 have hb:nW=⟨3,6,.cons ABj (.cons ACu (.cons (.for_ (.name 5) (.var 3) uY)
  (.cons (.ret (.tup (.cons ABO (.cons (.var 3) (.cons (.bi .tuple (.bi .sorted oX)) .nil))))) .nil)))⟩:=rfl
 rw[hb]
 have e1:([D.tup []]:List D)=(cY 0).map aH:=rfl
 simp only[Nat.zero_add]at b2
 have e2:(cY 0).length=1:=rfl
 have q:oX.aC=none:=rfl
 simp[a5,aY,items,e1,e2,b2,c4,d1,q]
end Tx
end
section
open PySem Mini
namespace Tx
inductive bM(xs:List D):Nat->D->Prop
 |same {n:Nat} {x:D}:x∈xs->bM xs n (.tup [.str "same",x])
 |not {n:Nat} {x:D}:x∈xs->bM xs n (.tup [.str "not",x])
 |and {n:Nat} {ys:List D}:ys.Sublist xs->2<=ys.length->ys.length<=3->bM xs n (.tup [.str "and",.tup ys])
 |or {n:Nat} {ys:List D}:ys.Sublist xs->2<=ys.length->ys.length<=3->bM xs n (.tup [.str "or",.tup ys])
 |both {n:Nat} {ys:List D}:ys.Sublist xs->2<=ys.length->ys.length<=3->bM xs n (.tup [.str "both",.tup ys])
 |table {n:Nat} {ys:List D} {rs:List (List Bool)}:ys.Sublist xs->1<=ys.length->ys.length<=3->(∀r∈rs,r.length=ys.length)->xV rs=true->bM xs n (.tup [.str "table",.tup ys,.tup (rs.map aH)])
 |held {n:Nat} {k x:D} {b:Bool}:bM xs n k->x∈xs->bM xs (n+1) (.tup [.str "held",k,x,.bl b])
theorem K8(xs:List D)(r:Int)(h1:0<=r)(h2:r<xs.length):∃d,at? xs r=some d/\d∈xs:=by
 unfold at? ix?
 rw[if_neg (Int.not_lt.mpr h1),if_pos ⟨h1,h2⟩]
 have:r.toNat<xs.length:=(Int.toNat_lt h1).mpr h2
 exact⟨xs[r.toNat],by simp[this],List.getElem_mem this⟩
theorem Pa(r:Int):r%2=0\/r%2=1:=by omega
theorem J9{r:Int}(h1:¬r<4)(h2:r<7):r-4=0\/r-4=1\/r-4=2:=by omega
theorem eight{r:Int}(h1:¬r<7)(h2:r<9)(h3:¬r=7):r=8:=by omega
theorem Ww(n:Nat):¬((n:Int)+1=0):=by omega
theorem uf(m:Nat)(ns:List Int)(xs:List D)(hx:xs.length<=900)(h1:1<=xs.length)(deep:Nat)
  (rec:∀dp,deep=dp+1->∀k:Int,0<=k->∃d k',bM xs dp d/\0<=k'/\pg.fn (m+5) 33 [.val (sc ns),.bor (.lst [.int k]),.val (.tup xs),.val (.int dp)]=.ok (.val d) [.val (sc ns),.bor (.lst [.int k']),.val (.tup xs),.val (.int dp)])
  (k:Int)(hk:0<=k):∃d k',bM xs deep d/\0<=k'/\
  pg.fn (m+6) 33 [.val (sc ns),.bor (.lst [.int k]),.val (.tup xs),.val (.int deep)]=.ok (.val d) [.val (sc ns),.bor (.lst [.int k']),.val (.tup xs),.val (.int deep)]:=by
 obtain⟨r,r1,r2,er⟩:=bC (m+2) ns k 9 hk (by decide)
 have hk1:=LK hk
 by_cases c1:r<4\/xs.length<2
 ·obtain⟨q,q1,q2,eq⟩:=bC (m+2) ns (k+1) xs.length hk1 (Int.ofNat_lt.mpr h1)
  obtain⟨x,ex,mx⟩:=K8 xs q q1 q2
  obtain⟨w,ew,kw⟩:∃w,at? [.str "same",.str "not"] (r%2)=some (.str w)/\bM xs deep (.tup [.str w,x]):=by
   rcases Pa r with h|h<;>rw[h]
   ·exact⟨_,rfl,.same mx⟩
   ·exact⟨_,rfl,.not mx⟩
  refine⟨_,k+1+1,kw,LK hk1,?_⟩
  rw[ig]
  by_cases c4:r<4
  ·simp[dI,er,c4,eq,ex,aY,ew]
  ·have c6:=c1.resolve_left c4
   have c5:(xs.length:Int)<2:=Int.ofNat_lt.mpr c6
   simp[dI,er,c4,c5,c6,eq,ex,aY,ew]
 ·have c2:¬r<4:=fun h=>c1 (.inl h)
  have c3':¬xs.length<2:=fun h=>c1 (.inr h)
  have c3:¬(xs.length:Int)<2:=fun h=>c3' (Int.ofNat_lt.mp h)
  by_cases c7:r<7
  ·obtain⟨ys,k',a1,a2,a3,a4,a5⟩:=Bj (m+1) ns (k+1) hk1 xs 2 3 hx (by decide) (by decide) (Int.not_lt.mp c3)
   have a2:2<=ys.length:=Int.ofNat_le.mp a2
   have a3:ys.length<=3:=Int.ofNat_le.mp a3
   obtain⟨w,ew,kw⟩:∃w,at? [.str "and",.str "or",.str "both"] (r-4)=some (.str w)/\bM xs deep (.tup [.str w,.tup ys]):=by
    rcases J9 c2 c7 with h|h|h<;>rw[h]
    ·exact⟨_,rfl,.and a1 a2 a3⟩
    ·exact⟨_,rfl,.or a1 a2 a3⟩
    ·exact⟨_,rfl,.both a1 a2 a3⟩
   exact⟨_,k',kw,a4,by rw[ig];simp[dI,er,c2,c3,c3',c7,a5,aY,ew]⟩
  ·by_cases c8:r=7\/deep=0
   ·obtain⟨ys,rs,k',a1,a2,a3,a4,a5,a6,a7⟩:=Hf m ns (k+1) hk1 xs hx h1
    refine⟨_,k',.table a1 a2 a3 a4 a5,a6,?_⟩
    rw[ig]
    by_cases c9:r=7
    ·subst c9
     simp[dI,er,c3,c3',a7]
    ·have c10:deep=0:=c8.resolve_left c9
     subst c10
     have c9b:(r==7)=false:=beq_false_of_ne c9
     simp[dI,er,c2,c3,c3',c7,c9,c9b,a7]
   ·obtain⟨dp,rfl⟩:=Nat.exists_eq_succ_of_ne_zero (fun h=>c8 (.inr h))
    have c9:r=8:=eight c7 r2 fun h=>c8 (.inl h)
    subst c9
    obtain⟨d,k1,b1,b2,b3⟩:=rec dp rfl (k+1) hk1
    obtain⟨q,q1,q2,eq⟩:=bC (m+2) ns k1 xs.length b2 (Int.ofNat_lt.mpr h1)
    obtain⟨x,ex,mx⟩:=K8 xs q q1 q2
    obtain⟨z,z1,z2,ez⟩:=bC (m+2) ns (k1+1) 2 (LK b2) (by decide)
    refine⟨_,k1+1+1,.held (b:=z==1) b1 mx,LK (LK b2),?_⟩
    rw[ig]
    have e1:¬((dp:Int)+1=0):=Ww dp
    have e0:((dp:Int)+1==0)=false:=beq_false_of_ne e1
    have e2:(dp:Int)+1-1=dp:=Int.add_sub_cancel _ _
    simp[dI,er,c3,c3',e0,e1,e2,b3,eq,ex,ez,aY]
theorem aeD(m deep:Nat):m+deep+1+5=m+6+deep:=by omega
theorem aeC(m deep:Nat):m+6+(deep+1)=m+deep+1+6:=by omega
theorem vq(ns:List Int)(xs:List D)(hx:xs.length<=900)(h1:1<=xs.length):∀(deep m:Nat)(k:Int),0<=k->∃d k',bM xs deep d/\0<=k'/\
  pg.fn (m+6+deep) 33 [.val (sc ns),.bor (.lst [.int k]),.val (.tup xs),.val (.int deep)]=.ok (.val d) [.val (sc ns),.bor (.lst [.int k']),.val (.tup xs),.val (.int deep)]
 |0=>fun m k hk=>uf m ns xs hx h1 0 (fun dp h=>nomatch h) k hk
 |deep+1=>fun m k hk=>by
  have:=uf (m+deep+1) ns xs hx h1 (deep+1) (fun dp h k hk=>by
   cases h
   have q:=vq ns xs hx h1 deep m k hk
   rw[aeD m deep]
   exact q) k hk
  rw[aeC m deep]
  exact this
end Tx
end
section
open PySem Mini
namespace Tx
def Cp:E:=(.tup ABU)
theorem Ju(n:Nat)(ns:List Int)(k:Int)(hk:0<=k)(xs:List D)(hx:xs.length<=900)(h1:1<=xs.length)(x:D)(s3 s4 s5 s6 s8:Sl):∃d k',bM xs 1 d/\0<=k'/\
  ev (pg.cf (n+7)) Cp [.val x,.val (sc ns),.bor (.lst [.int k]),s3,s4,s5,s6,.val (.tup xs),s8]=.ok (.val (.tup [x,d])) [.val x,.val (sc ns),.bor (.lst [.int k']),s3,s4,s5,s6,.val (.tup xs),s8]:=by
 obtain⟨d,k',a1,a2,a3⟩:=vq ns xs hx h1 1 n k hk
 refine⟨d,k',a1,a2,?_⟩
 simp only[Int.natCast_one,show n+6+1=n+7 from rfl]at a3
 simp[Cp,a3,aY]
theorem xN(n:Nat)(ns:List Int)(xs:List D)(hx:xs.length<=900)(h1:1<=xs.length)(s3 s4 s5 s6 s8:Sl):∀(row acc:List D)(k:Int)(s:Sl),0<=k->rE s->∃ks k' s',ks.length=row.length/\(∀d∈ks,bM xs 1 d)/\0<=k'/\rE s'/\
  aR (.name 0) (ev (pg.cf (n+7)) AAL) (ev (pg.cf (n+7)) Cp) row acc [s,.val (sc ns),.bor (.lst [.int k]),s3,s4,s5,s6,.val (.tup xs),s8]
   =.ok (acc++aO row ks) [s',.val (sc ns),.bor (.lst [.int k']),s3,s4,s5,s6,.val (.tup xs),s8]
 |[]=>fun acc k s hk hs=>⟨[],k,s,rfl,fun d h=>(by cases h),hk,hs,by simp[aR,aO]⟩
 |x::row=>fun acc k s hk hs=>by
  obtain⟨d,k1,a1,a2,a3⟩:=Ju n ns k hk xs hx h1 x s3 s4 s5 s6 s8
  obtain⟨ks,k',s',b1,b2,b3,b4,b5⟩:=xN n ns xs hx h1 s3 s4 s5 s6 s8 row (acc++[.tup [x,d]]) k1 (.val x) a2 (.inr ⟨x,rfl⟩)
  refine⟨d::ks,k',s',by simp[b1],fun e h=>?_,b3,b4,?_⟩
  ·rcases QCq.mp h with rfl|h
   ·exact a1
   ·exact b2 e h
  ·rw[aR,jq hs]
   have e1:∀σ,ev (pg.cf (n+7)) AAL σ=.ok (.val (.bl true)) σ:=fun σ=>by simp
   simp only[e1,dj,if_true]
   rw[a3,bO,b5]
   simp[aO]
theorem qw(n:Nat)(ns:List Int)(rest:Ev):∀(xs acc:List D)(k:Int)(s:Sl),0<=k->rE s->∃(bs:List Bool)(k':Int)(s':Sl),bs.length=xs.length/\0<=k'/\rE s'/\
  aR (.name 0) (ev (pg.cf (n+3)) AAL) (ev (pg.cf (n+3)) lM) xs acc (s:: .val (sc ns):: .bor (.lst [.int k])::rest)=.ok (acc++bs.map .bl) (s':: .val (sc ns):: .bor (.lst [.int k'])::rest)
 |[]=>fun acc k s hk hs=>⟨[],k,s,rfl,hk,hs,by simp[aR]⟩
 |x::xs=>fun acc k s hk hs=>by
  obtain⟨b,e⟩:=vW n ns k hk x rest
  obtain⟨bs,k',s',a1,a2,a3,a4⟩:=qw n ns rest xs (acc++[.bl b]) (k+1) (.val x) (LK hk) (.inr ⟨x,rfl⟩)
  refine⟨b::bs,k',s',by simp[a1],a2,a3,?_⟩
  rw[aR,jq hs]
  have e1:∀σ,ev (pg.cf (n+3)) AAL σ=.ok (.val (.bl true)) σ:=fun σ=>by simp
  simp only[e1,dj,if_true]
  rw[e,bO,a4]
  simp
def BK:E:=(.comp 1 (.name 0) (.var 5) AAL Cp)
def Ck:E:=(.comp 1 (.name 0) (.var 6) AAL lM)
def vo:S:=(.cons ADG (.cons (.set 7 (.bi .tuple BK)) (.cons (.ret (.tup (.cons (.var 4) (.cons (.var 7) (.cons (.bi .tuple Ck) .nil))))) .nil)))
theorem Jd(n:Nat)(ns:List Int)(k:Int)(hk:0<=k)(heard row:List D)(hx:heard.length+row.length<=900)(h1:1<=row.length)(s2 s3:Sl):∃(ks:List D)(ls:List Bool)(k':Int),ks.length=row.length/\(∀d∈ks,bM (heard++row) 1 d)/\ls.length=(heard++row).length/\0<=k'/\
  ex (pg.cf (n+7)) vo [.val (sc ns),.bor (.lst [.int k]),s2,s3,.val (.tup heard),.val (.tup row),.un,.un]
   =.ret (.val (.tup [.tup heard,.tup (aO row ks),.tup (ls.map .bl)])) [.val (sc ns),.bor (.lst [.int k']),s2,s3,.val (.tup heard),.val (.tup row),.val (.tup (heard++row)),.val (.tup (aO row ks))]:=by
 obtain⟨ks,k1,s',a1,a2,a3,a4,a5⟩:=xN n ns (heard++row) (by simpa using hx) (by simp;omega) s2 s3 (.val (.tup heard)) (.val (.tup row)) .un row [] k .un hk (.inl rfl)
 obtain⟨ls,k',s'',b1,b2,b3,b4⟩:=qw (n+4) ns [s2,s3,.val (.tup heard),.val (.tup row),.val (.tup (heard++row)),.val (.tup (aO row ks))] (heard++row) [] k1 .un a3 (.inl rfl)
 refine⟨ks,ls,k',a1,a2,b1,b2,?_⟩
 have f:fits (heard.length+row.length)=true:=by simp[fits];omega
 have em:ev (pg.cf (n+7)) BK [.val (sc ns),.bor (.lst [.int k]),s2,s3,.val (.tup heard),.val (.tup row),.val (.tup (heard++row)),.un]=.ok (.new (.lst (aO row ks))) [.val (sc ns),.bor (.lst [.int k1]),s2,s3,.val (.tup heard),.val (.tup row),.val (.tup (heard++row)),.un]:=by
  have h:ev (pg.cf (n+7)) (.var 5) [.val (sc ns),.bor (.lst [.int k]),s2,s3,.val (.tup heard),.val (.tup row),.val (.tup (heard++row)),.un]=.ok (.val (.tup row)) [.val (sc ns),.bor (.lst [.int k]),s2,s3,.val (.tup heard),.val (.tup row),.val (.tup (heard++row)),.un]:=by simp
  unfold BK
  rw[jZ,h,bO]
  simp only[items]
  rw[show List.replicate 1 Sl.un++[.val (sc ns),.bor (.lst [.int k]),s2,s3,.val (.tup heard),.val (.tup row),.val (.tup (heard++row)),.un]=[.un,.val (sc ns),.bor (.lst [.int k]),s2,s3,.val (.tup heard),.val (.tup row),.val (.tup (heard++row)),.un]from rfl,a5]
  simp
 have el:ev (pg.cf (n+7)) Ck [.val (sc ns),.bor (.lst [.int k1]),s2,s3,.val (.tup heard),.val (.tup row),.val (.tup (heard++row)),.val (.tup (aO row ks))]=.ok (.new (.lst (ls.map .bl))) [.val (sc ns),.bor (.lst [.int k']),s2,s3,.val (.tup heard),.val (.tup row),.val (.tup (heard++row)),.val (.tup (aO row ks))]:=by
  have h:ev (pg.cf (n+7)) (.var 6) [.val (sc ns),.bor (.lst [.int k1]),s2,s3,.val (.tup heard),.val (.tup row),.val (.tup (heard++row)),.val (.tup (aO row ks))]=.ok (.val (.tup (heard++row))) [.val (sc ns),.bor (.lst [.int k1]),s2,s3,.val (.tup heard),.val (.tup row),.val (.tup (heard++row)),.val (.tup (aO row ks))]:=by simp
  unfold Ck
  rw[jZ,h,bO]
  simp only[items]
  rw[show List.replicate 1 Sl.un++[.val (sc ns),.bor (.lst [.int k1]),s2,s3,.val (.tup heard),.val (.tup row),.val (.tup (heard++row)),.val (.tup (aO row ks))]=.un:: .val (sc ns):: .bor (.lst [.int k1])::[s2,s3,.val (.tup heard),.val (.tup row),.val (.tup (heard++row)),.val (.tup (aO row ks))]from rfl,b4]
  simp
 have q1:BK.aC=none:=rfl
 have q2:Ck.aC=none:=rfl
 simp[vo,f,em,el,q1,q2,aY]
def hd(h:Nat):List D:=([.str "a",.str "b",.str "come"]:List D).take h
def bZ(g:Nat):List D:=([.str "p",.str "q",.str "rr",.str "go",.str "abcdef"]:List D).take g
theorem gJ{h:Nat}(h2:h<=2):(hd h).length=h:=List.length_take_of_le (Nat.le_succ_of_le h2)
theorem dG{g:Nat}(g4:g<=5):(bZ g).length=g:=List.length_take_of_le g4
def aB(h g:Nat)(ks:List D)(ls:List Bool):D:=.tup [.tup (hd h),.tup (aO (bZ g) ks),.tup (ls.map .bl)]
structure bD(h g:Nat)(ks:List D)(ls:List Bool):Prop where
 h2:h<=2
 g1:1<=g
 g5:g<=5
 kl:ks.length=g
 kk:∀d∈ks,bM (hd h++bZ g) 1 d
 ll:ls.length=h+g
theorem Vj{ni:Int}{h:Nat}(i2:ni<=2)(r2:(h:Int)<ni+1):h<=2:=by omega
theorem Je(n:Nat)(ns:List Int)(k:Int)(hk:0<=k)(ni:Int)(i0:0<=ni)(i2:ni<=2):∃h g ks ls k',bD h g ks ls/\0<=k'/\
  pg.fn (n+8) 34 [.val (sc ns),.bor (.lst [.int k]),.val (.int ni),.val (.int 4)]=.ok (.val (aB h g ks ls)) [.val (sc ns),.bor (.lst [.int k']),.val (.int ni),.val (.int 4)]:=by
 obtain⟨r,r1,r2,er⟩:=bC (n+4) ns k (ni+1) hk (Int.lt_add_one_of_le i0)
 obtain⟨q,q1,q2,eq⟩:=bC (n+4) ns (k+1) 4 (LK hk) (by decide)
 obtain⟨h,rfl⟩:=Int.eq_ofNat_of_zero_le r1
 obtain⟨g,rfl⟩:=Int.eq_ofNat_of_zero_le q1
 have h2:h<=2:=Vj i2 r2
 have g3:g<4:=Int.ofNat_lt.mp q2
 have g1:1<=1+g:=Nat.le_add_right 1 g
 have g5:1+g<=5:=Nat.add_le_add_left (Nat.le_of_lt g3) 1
 have lh:=gJ h2
 have lg:=dG g5
 obtain⟨ks,ls,k',a1,a2,a3,a4,a5⟩:=Jd n ns (k+1+1) (LK (LK hk)) (hd h) (bZ (1+g)) (by rw[lh,lg];exact Nat.le_trans (Nat.add_le_add h2 g5) (by decide)) (by rw[lg];exact g1) (.val (.int ni)) (.val (.int 4))
 refine⟨h,1+g,ks,ls,k',⟨h2,g1,g5,a1.trans lg,a2,by rw[a3,QTq,lh,lg]⟩,a4,?_⟩
 rw[El]
 have hb:uH=⟨4,8,(.cons AAo (.cons ADH vo))⟩:=rfl
 rw[hb]
 have c1:fP (.tup [.str "a",.str "b",.str "come"]) none (some (h:Int))=some (.val (.tup (hd h))):=by
  rcases h with _|_|_|h
  ·rfl
  ·rfl
  ·rfl
  ·exact absurd h2 (by simp)
 have c2:fP (.tup [.str "p",.str "q",.str "rr",.str "go",.str "abcdef"]) none (some (1+(g:Int)))=some (.val (.tup (bZ (1+g)))):=by
  rcases g with _|_|_|_|g
  ·rfl
  ·rfl
  ·rfl
  ·rfl
  ·exact absurd g3 (by simp)
 simp[er,eq,aY,cI,E.jf,c1,c2,a5,aB]
end Tx
end
section
open PySem Mini
namespace Tx
theorem aV(n:Nat)(xs:List D)(a b:Int)(h1:a<=xs.length)(h2:xs.length<=b):pg.fn (n+1) 3 [.val (.tup xs),.val (.int a),.val (.int b)]=.ok (.val (.bl true)) [.val (.tup xs),.val (.int a),.val (.int b)]:=by
 rw[zm]
 simp[qY,h1,h2]
def R6:E:=.bi .all ACV
theorem um(n:Nat)(bs:List Bool)(m:Int)(h:m=bs.length):pg.fn (n+2) 7 [.val (aH bs),.val (.int m)]=.ok (.val (.bl true)) [.val (aH bs),.val (.int m)]:=by
 subst h
 have e:ev (pg.cf (n+1)) R6 [.val (aH bs),.val (.int bs.length)]=.ok (.val (.bl true)) [.val (aH bs),.val (.int bs.length)]:=by
  refine all1 (d:=aH bs) (xs:=bs.map .bl) (r:=.val (aH bs)) (by simp) rfl rfl fun x hx=>?_
  obtain⟨b,_,rfl⟩:=QDq.mp hx
  simp
 have t:pg.fn (n+1) 3 [.val (aH bs),.val (.int bs.length),.val (.int bs.length)]=.ok (.val (.bl true)) [.val (aH bs),.val (.int bs.length),.val (.int bs.length)]:=aV n (bs.map .bl) bs.length bs.length (by simp) (by simp)
 rw[HS]
 have hb:yr=⟨2,2,(.cons (.ret (.and (.cons ACf (.cons R6 .nil)))) .nil)⟩:=rfl
 rw[hb]
 simp[t,e]
def cM(xs:List D):Prop:=∀x∈xs,∃s,x=.str s
theorem m8{xs:List D}(h:cM xs):xs.all flat=true:=by
 rw[List.all_eq_true]
 intro x hx
 obtain⟨s,rfl⟩:=h x hx
 rfl
theorem oV{xs:List D}{x:D}(hx:x∈xs)(h:cM xs):aW x xs=true:=by
 induction xs with
 |nil=>cases hx
 |cons y ys ih=>
  unfold aW
  rcases QCq.mp hx with rfl|hx
  ·obtain⟨s,rfl⟩:=h x QYz
   simp[cH]
  ·simp[ih hx fun z hz=>h z (QYq _ hz)]
theorem Aa{xs:List D}(h:cM xs)(nd:xs.Nodup){x:D}(hx:x∈xs):eO x xs=1:=by
 induction xs with
 |nil=>cases hx
 |cons y ys ih=>
  have hys:cM ys:=fun z hz=>h z (QYq _ hz)
  obtain⟨s,rfl⟩:=h y QYz
  rw[List.nodup_cons]at nd
  have zero:∀{zs:List D},cM zs->D.str s∉zs->eO (.str s) zs=0:=by
   intro zs
   induction zs with
   |nil=>intro _ _;rfl
   |cons z zs ihz=>
    intro hz hn
    obtain⟨q,rfl⟩:=hz z QYz
    have ne:q≠s:=fun e=>hn (by rw[e];exact QYz)
    simp[eO,cH,ne,ihz (fun w hw=>hz w (QYq _ hw)) fun hw=>hn (QYq _ hw)]
  rcases QCq.mp hx with rfl|hx
  ·simp[eO,cH,zero hys nd.1]
  ·obtain⟨q,rfl⟩:=hys x hx
   have ne:s≠q:=fun e=>nd.1 (by rw[e];exact hx)
   simp[eO,cH,ne,ih hys nd.2 hx]
theorem iy(n:Nat){xs:List D}{d:D}(dd:d=.tup xs\/d=.lst xs)(h:cM xs){x:D}(hx:x∈xs):pg.fn (n+1) 8 [.val x,.val d]=.ok (.val (.bl true)) [.val x,.val d]:=by
 obtain⟨s,rfl⟩:=h x hx
 rw[Eo]
 have o:fL (.str s) xs=true:=by
  unfold fL
  rw[m8 h]
  rfl
 have e:aL .isin (.str s) d=some true:=by
  rcases dd with rfl|rfl<;>(show(if fL (.str s) xs then some (aW (.str s) xs)else none)=_;rw[o,oV hx h];rfl)
 simp[uJ,e]
def uR:E:=.bi .all ABv
theorem jY(n:Nat){xs:List D}{d:D}(hd:d=.tup xs\/d=.lst xs)(h:cM xs)(nd:xs.Nodup):pg.fn (n+1) 6 [.val d]=.ok (.val (.bl true)) [.val d]:=by
 have f:=m8 h
 have e:ev (pg.cf n) uR [.val d]=.ok (.val (.bl true)) [.val d]:=by
  refine all1 (d:=d) (xs:=xs) (r:=.val d) (by simp) rfl (by rcases hd with rfl|rfl<;>rfl) fun x hx=>?_
  have c:=Aa h nd hx
  obtain⟨s,rfl⟩:=h x hx
  have e1:vX (.tup xs) (.str s)=some (.val (.int 1)):=by
   simp only[vX]
   rw[f,c]
   rfl
  have e2:vX (.lst xs) (.str s)=some (.val (.int 1)):=e1
  rcases hd with rfl|rfl<;>simp[e1,e2]
 have hb:lX=⟨1,1,(.cons (.ret uR) .nil)⟩:=rfl
 rw[u5,hb]
 have q:uR.aC=none:=rfl
 simp[e,q]
def m7:D->D
 |.tup (a::_)=>a
 |_=>.non
theorem uP:∀(gs ks:List D),ks.length=gs.length->(aO gs ks).map m7=gs
 |[],ks=>fun _=>by simp[aO]
 |g::gs,[]=>fun h=>by simp at h
 |g::gs,k::ks=>fun h=>by simp[aO,m7,uP gs ks (by simpa using h)]
def yc(it:E):E:=.comp 1 (.name 0) it AAL AAb
theorem qu{c:Cf}{σ:Ev}{it:E}(gs ks:List D)(hl:ks.length=gs.length)(hi:ev c it σ=.ok (.val (.tup (aO gs ks))) σ):ev c (yc it) σ=.ok (.new (.lst gs)) σ:=by
 have:=uz (el:=.idx (.var 0) AAH) m7 hi rfl rfl fun y hy=>by
  rw[cP]at hy
  obtain⟨p,_,rfl⟩:=QDq.mp hy
  simp[pairD,m7]
 rw[uP gs ks hl]at this
 exact this
theorem eQ(n:Nat)(hs gs:List D)(ks:List D)(x:D)(hl:ks.length=gs.length)(hf:hs.length+gs.length<=1000):
  pg.fn (n+1) 13 [.val (.tup [.tup hs,.tup (aO gs ks),x])]=.ok (.new (.lst (hs++gs))) [.val (.tup [.tup hs,.tup (aO gs ks),x])]:=by
 have e:=qu (c:=pg.cf n) (it:=.idx (.var 0) AAG) (σ:=[.val (.tup [.tup hs,.tup (aO gs ks),x])]) gs ks hl (by simp)
 have f:fits (hs.length+gs.length)=true:=by simp[fits];omega
 have hb:lU=⟨1,1,.cons (.ret (.op .add (.bi .list AAb) (yc AAc))) .nil⟩:=rfl
 rw[lu,hb]
 simp[e,f]
end Tx
end
section
open PySem Mini
namespace Tx
@[simp↓]theorem QG:decide (Str.ofString "same"=Str.ofString "same")=true:=rfl
@[simp↓]theorem W9:decide (Str.ofString "not"=Str.ofString "not")=true:=rfl
@[simp↓]theorem Xe:decide (Str.ofString "and"=Str.ofString "and")=true:=rfl
@[simp↓]theorem abL:decide (Str.ofString "or"=Str.ofString "or")=true:=rfl
@[simp↓]theorem QT:decide (Str.ofString "both"=Str.ofString "both")=true:=rfl
@[simp↓]theorem LC:decide (Str.ofString "table"=Str.ofString "table")=true:=rfl
@[simp↓]theorem QM:decide (Str.ofString "held"=Str.ofString "held")=true:=rfl
@[simp]theorem Sw:decide (Str.ofString "same"=Str.ofString "not")=false:=rfl
@[simp]theorem Sx:decide (Str.ofString "same"=Str.ofString "and")=false:=rfl
@[simp]theorem W5:decide (Str.ofString "same"=Str.ofString "or")=false:=rfl
@[simp]theorem QJ:decide (Str.ofString "same"=Str.ofString "both")=false:=rfl
@[simp]theorem Mp:decide (Str.ofString "same"=Str.ofString "table")=false:=rfl
@[simp]theorem QH:decide (Str.ofString "same"=Str.ofString "held")=false:=rfl
@[simp]theorem SJ:decide (Str.ofString "not"=Str.ofString "same")=false:=rfl
@[simp]theorem Xa:decide (Str.ofString "not"=Str.ofString "and")=false:=rfl
@[simp]theorem Yv:decide (Str.ofString "not"=Str.ofString "or")=false:=rfl
@[simp]theorem SN:decide (Str.ofString "not"=Str.ofString "both")=false:=rfl
@[simp]theorem QK:decide (Str.ofString "not"=Str.ofString "table")=false:=rfl
@[simp]theorem SM:decide (Str.ofString "not"=Str.ofString "held")=false:=rfl
@[simp]theorem S7:decide (Str.ofString "and"=Str.ofString "same")=false:=rfl
@[simp]theorem Xd:decide (Str.ofString "and"=Str.ofString "not")=false:=rfl
@[simp]theorem Yw:decide (Str.ofString "and"=Str.ofString "or")=false:=rfl
@[simp]theorem S9:decide (Str.ofString "and"=Str.ofString "both")=false:=rfl
@[simp]theorem QV:decide (Str.ofString "and"=Str.ofString "table")=false:=rfl
@[simp]theorem S8:decide (Str.ofString "and"=Str.ofString "held")=false:=rfl
@[simp]theorem W6:decide (Str.ofString "or"=Str.ofString "same")=false:=rfl
@[simp]theorem Yt:decide (Str.ofString "or"=Str.ofString "not")=false:=rfl
@[simp]theorem Yu:decide (Str.ofString "or"=Str.ofString "and")=false:=rfl
@[simp]theorem W8:decide (Str.ofString "or"=Str.ofString "both")=false:=rfl
@[simp]theorem Sy:decide (Str.ofString "or"=Str.ofString "table")=false:=rfl
@[simp]theorem W7:decide (Str.ofString "or"=Str.ofString "held")=false:=rfl
@[simp]theorem QR:decide (Str.ofString "both"=Str.ofString "same")=false:=rfl
@[simp]theorem S5:decide (Str.ofString "both"=Str.ofString "not")=false:=rfl
@[simp]theorem S6:decide (Str.ofString "both"=Str.ofString "and")=false:=rfl
@[simp]theorem Xc:decide (Str.ofString "both"=Str.ofString "or")=false:=rfl
@[simp]theorem Mr:decide (Str.ofString "both"=Str.ofString "table")=false:=rfl
@[simp]theorem QS:decide (Str.ofString "both"=Str.ofString "held")=false:=rfl
@[simp]theorem Mj:decide (Str.ofString "table"=Str.ofString "same")=false:=rfl
@[simp]theorem QD:decide (Str.ofString "table"=Str.ofString "not")=false:=rfl
@[simp]theorem QF:decide (Str.ofString "table"=Str.ofString "and")=false:=rfl
@[simp]theorem Sv:decide (Str.ofString "table"=Str.ofString "or")=false:=rfl
@[simp]theorem Mm:decide (Str.ofString "table"=Str.ofString "both")=false:=rfl
@[simp]theorem Ml:decide (Str.ofString "table"=Str.ofString "held")=false:=rfl
@[simp]theorem QL:decide (Str.ofString "held"=Str.ofString "same")=false:=rfl
@[simp]theorem SQ:decide (Str.ofString "held"=Str.ofString "not")=false:=rfl
@[simp]theorem SX:decide (Str.ofString "held"=Str.ofString "and")=false:=rfl
@[simp]theorem Xb:decide (Str.ofString "held"=Str.ofString "or")=false:=rfl
@[simp]theorem QQ:decide (Str.ofString "held"=Str.ofString "both")=false:=rfl
@[simp]theorem Mq:decide (Str.ofString "held"=Str.ofString "table")=false:=rfl
@[simp]theorem RP:aL .isin (.str "same") (.tup [.str "same",.str "not"])=some true:=rfl
@[simp]theorem VG:aL .isin (.str "not") (.tup [.str "same",.str "not"])=some true:=rfl
@[simp]theorem VL:aL .isin (.str "and") (.tup [.str "same",.str "not"])=some false:=rfl
@[simp]theorem XN:aL .isin (.str "or") (.tup [.str "same",.str "not"])=some false:=rfl
@[simp]theorem RT:aL .isin (.str "both") (.tup [.str "same",.str "not"])=some false:=rfl
@[simp]theorem Px:aL .isin (.str "table") (.tup [.str "same",.str "not"])=some false:=rfl
@[simp]theorem RQ:aL .isin (.str "held") (.tup [.str "same",.str "not"])=some false:=rfl
@[simp]theorem VF:aL .isin (.str "same") (.tup [.str "and",.str "or"])=some false:=rfl
@[simp]theorem XQ:aL .isin (.str "not") (.tup [.str "and",.str "or"])=some false:=rfl
@[simp]theorem XR:aL .isin (.str "and") (.tup [.str "and",.str "or"])=some true:=rfl
@[simp]theorem aaU:aL .isin (.str "or") (.tup [.str "and",.str "or"])=some true:=rfl
@[simp]theorem VJ:aL .isin (.str "both") (.tup [.str "and",.str "or"])=some false:=rfl
@[simp]theorem RN:aL .isin (.str "table") (.tup [.str "and",.str "or"])=some false:=rfl
@[simp]theorem VH:aL .isin (.str "held") (.tup [.str "and",.str "or"])=some false:=rfl
theorem gl5:pg.gl 5=some (.int 4):=rfl
theorem gl6:pg.gl 6=some (.int 8):=rfl
theorem gl7:pg.gl 7=some (.int 3):=rfl
def GK:E:=.bi .all ACI
theorem cV(n:Nat){xs ys:List D}{d:D}(dd:d=.tup xs\/d=.lst xs)(h:cM xs)(nd:xs.Nodup)(hs:ys.Sublist xs)(a b:Int)(h1:a<=ys.length)(h2:ys.length<=b):
  pg.fn (n+2) 9 [.val (.tup ys),.val d,.val (.int a),.val (.int b)]=.ok (.val (.bl true)) [.val (.tup ys),.val d,.val (.int a),.val (.int b)]:=by
 have hy:cM ys:=fun z hz=>h z (hs.subset hz)
 have e:ev (pg.cf (n+1)) GK [.val (.tup ys),.val d,.val (.int a),.val (.int b)]=.ok (.val (.bl true)) [.val (.tup ys),.val d,.val (.int a),.val (.int b)]:=by
  refine all1 (d:=.tup ys) (xs:=ys) (r:=.val (.tup ys)) (by simp) rfl rfl fun x hx=>?_
  have w:=iy n dd h (hs.subset hx)
  simp[w]
 have u:=jY n (.inl rfl) hy (hs.nodup nd)
 have t:=aV n ys a b h1 h2
 have hb:oA=⟨4,4,(.cons (.ite ADJ AAP .nil) (.cons (.ret (.and (.cons GK (.cons (.call 6 AAR) .nil)))) .nil))⟩:=rfl
 rw[w6,hb]
 simp[t,e,u]
theorem ae3(xs:List D):cut xs (some 1) none=xs.tail:=by
 cases xs with
 |nil=>rfl
 |cons x xs=>
  have:clip (xs.length+1) 1=1:=by simp[clip];omega
  simp[cut,this]
theorem uo:∀(rs:List (List Bool)),xV rs=true->∀p∈rs.zip rs.tail,iW p.1 p.2=true
 |[]=>fun _ p h=>by simp at h
 |[a]=>fun _ p h=>by simp at h
 |a::b::r=>fun hi p h=>by
  simp only[xV,QUq]at hi
  simp only[List.tail_cons,List.zip_cons_cons,QCq]at h
  rcases h with rfl|h
  ·exact hi.1
  ·exact uo (b::r) hi.2 p (by simpa using h)
def Q8:E:=.bi .all ACJ
def upC:E:=.bi .all ABZ
theorem yw(n:Nat)(rs:List (List Bool))(m:Nat)(h:∀r∈rs,r.length=m)(hi:xV rs=true):
  pg.fn (n+3) 10 [.val (.tup (rs.map aH)),.val (.int m)]=.ok (.val (.bl true)) [.val (.tup (rs.map aH)),.val (.int m)]:=by
 have e1:ev (pg.cf (n+2)) Q8 [.val (.tup (rs.map aH)),.val (.int m)]=.ok (.val (.bl true)) [.val (.tup (rs.map aH)),.val (.int m)]:=by
  refine all1 (d:=.tup (rs.map aH)) (xs:=rs.map aH) (r:=.val (.tup (rs.map aH))) (by simp) rfl rfl fun x hx=>?_
  obtain⟨r,hr,rfl⟩:=QDq.mp hx
  have w:=um n r m (by rw[h r hr])
  simp[w]
 have e2:ev (pg.cf (n+2)) upC [.val (.tup (rs.map aH)),.val (.int m)]=.ok (.val (.bl true)) [.val (.tup (rs.map aH)),.val (.int m)]:=by
  have hz:aO (rs.map aH) (rs.map aH).tail=((rs.zip rs.tail).map fun p=>(aH p.1,aH p.2)).map pairD:=by
   rw[cP,<-List.map_tail,List.zip_map]
   rfl
  refine all2 (d:=.lst (aO (rs.map aH) (rs.map aH).tail)) (ps:=(rs.zip rs.tail).map fun p=>(aH p.1,aH p.2)) (r:=.val (.lst (aO (rs.map aH) (rs.map aH).tail))) ?_ rfl (by show some _=some _;rw[hz]) fun x hx=>?_
  ·simp[cI,E.jf,fP,ae3]
  ·obtain⟨p,hp,rfl⟩:=QDq.mp hx
   have l:=uo rs hi p hp
   have lt:aL .lt (aH p.1) (aH p.2)=some true:=by
    simp[aL,ltD,aH,jA,l]
   simp[lt]
 have hb:rn=⟨2,2,(.cons (.ite (.or (.cons (.not ADK) (.cons (.not Q8) .nil))) AAP .nil) (.cons (.ret upC) .nil))⟩:=rfl
 have q:upC.aC=none:=rfl
 rw[zq,hb]
 simp[e1,e2,q]
theorem FN(n k:Nat):n+4+2*k=n+2+2*k+1+1:=by omega
theorem Pq(n k:Nat):n+1+2*k+2=n+2+2*k+1:=by omega
theorem aeB(n k:Nat):n+2*k+3=n+2+2*k+1:=by omega
theorem aeA(n k:Nat):n+3+2*k+1=n+4+2*k:=by omega
theorem aez(n k:Nat):n+4+2*(k+1)=n+4+2*k+1+1:=by omega
theorem Ce{a:Nat}{c d:Nat}(h1:c<=a)(h2:d<=c):(d:Int)<=a:=Int.ofNat_le.mpr (Nat.le_trans h2 h1)
theorem Cg{a:Nat}{c d:Nat}(h1:a<=c)(h2:c<=d):(a:Int)<=d:=Int.ofNat_le.mpr (Nat.le_trans h1 h2)
theorem zO{xs:List D}(h:cM xs)(nd:xs.Nodup):∀{k:Nat}{d:D},bM xs k d->∀(n:Nat)(dp:Int),dp+k<=3->
  pg.fn (n+4+2*k) 11 [.val d,.val (.lst xs),.val (.int dp)]=.ok (.val (.bl true)) [.val d,.val (.lst xs),.val (.int dp)]:=by
 intro k d hk
 induction hk with
 | @same k x hx=>
  intro n dp _
  have t:=aV (n+2+2*k) [.str "same",x] 2 4 (by simp) (by simp)
  have w:=iy (n+2+2*k) (.inr rfl) h hx
  rw[FN,eE]
  simp[dM,t,w,aY]
 | @not k x hx=>
  intro n dp _
  have t:=aV (n+2+2*k) [.str "not",x] 2 4 (by simp) (by simp)
  have w:=iy (n+2+2*k) (.inr rfl) h hx
  rw[FN,eE]
  simp[dM,t,w,aY]
 | @and k ys hs h1 h2=>
  intro n dp _
  have t:=aV (n+2+2*k) [.str "and",.tup ys] 2 4 (by simp) (by simp)
  have w:=cV (n+1+2*k) (.inr rfl) h nd hs 1 4 (Ce h1 (by decide)) (Cg h2 (by decide))
  rw[Pq]at w
  rw[FN,eE]
  simp[dM,t,w,aY,gl5]
 | @or k ys hs h1 h2=>
  intro n dp _
  have t:=aV (n+2+2*k) [.str "or",.tup ys] 2 4 (by simp) (by simp)
  have w:=cV (n+1+2*k) (.inr rfl) h nd hs 1 4 (Ce h1 (by decide)) (Cg h2 (by decide))
  rw[Pq]at w
  rw[FN,eE]
  simp[dM,t,w,aY,gl5]
 | @both k ys hs h1 h2=>
  intro n dp _
  have t:=aV (n+2+2*k) [.str "both",.tup ys] 2 4 (by simp) (by simp)
  have w:=cV (n+1+2*k) (.inr rfl) h nd hs 2 4 (Ce h1 (by decide)) (Cg h2 (by decide))
  rw[Pq]at w
  rw[FN,eE]
  simp[dM,t,w,aY,gl5]
 | @table k ys rs hs h1 h2 hr hi=>
  intro n dp _
  have t:=aV (n+2+2*k) [.str "table",.tup ys,.tup (rs.map aH)] 2 4 (by simp) (by simp)
  have w:=cV (n+1+2*k) (.inr rfl) h nd hs 1 8 (Ce h1 (by decide)) (Cg h2 (by decide))
  rw[Pq]at w
  have z:=yw (n+2*k) rs ys.length hr hi
  rw[aeB]at z
  rw[FN,eE]
  simp[dM,t,w,z,aY,gl6]
 | @held k d x b hk hx ih=>
  intro n dp hd
  have t:=aV (n+4+2*k) [.str "held",d,x,.bl b] 2 4 (by simp) (by simp)
  have i:=ih n (dp+1) (by omega)
  have w:=iy (n+3+2*k) (.inr rfl) h hx
  rw[aeA]at w
  have hl:pg.fn (n+4+2*k+1) 12 [.val (.tup [.str "held",d,x,.bl b]),.val (.lst xs),.val (.int (dp+1))]=.ok (.val (.bl true)) [.val (.tup [.str "held",d,x,.bl b]),.val (.lst xs),.val (.int (dp+1))]:=by
   rw[Es]
   simp[uL,i,w]
  have lt:dp<3:=by omega
  rw[aez,eE]
  simp[dM,t,hl,aY,gl7,lt]
end Tx
end
section
open PySem Mini
namespace Tx
def Rq(h g:Nat):List Str:=(["a","b","come"]:List Str).take h++(["p","q","rr","go","abcdef"]:List Str).take g
def names(h g:Nat):List D:=hd h++bZ g
theorem lD(h g:Nat):names h g=(Rq h g).map .str:=by
 simp[names,Rq,hd,bZ,List.map_take]
theorem rO{ss:List Str}(h:ss.Nodup):(ss.map D.str).Nodup:=by
 induction ss with
 |nil=>simp
 |cons s ss ih=>
  rw[List.nodup_cons]at h
  rw[Qyz,List.nodup_cons]
  exact⟨fun z=>h.1 (by simpa using z),ih h.2⟩
theorem names_nodup{h g:Nat}(h2:h<=2)(g1:1<=g)(g4:g<=5):(names h g).Nodup:=by
 rw[lD]
 refine rO ?_
 exact((List.take_sublist h _).append (List.take_sublist g _)).nodup (by decide)
theorem b7(h g:Nat):cM (names h g):=fun x hx=>by
 rw[lD]at hx
 obtain⟨s,_,rfl⟩:=QDq.mp hx
 exact⟨s,rfl⟩
theorem eG{h g:Nat}(h2:h<=2)(g4:g<=5):(names h g).length=h+g:=by
 rw[names,QTq,gJ h2,dG g4]
theorem O8(n:Nat)(s:Str)(hs:s∈Rq 3 5):pg.fn (n+1) 5 [.val (.str s)]=.ok (.val (.bl true)) [.val (.str s)]:=by
 have:Rq 3 5=(["a","b","come","p","q","rr","go","abcdef"]:List Str):=by rfl
 rw[this]at hs
 rw[Er]
 simp only[QCq,QAz,or_false]at hs
 rcases hs with rfl|rfl|rfl|rfl|rfl|rfl|rfl|rfl<;>kernel_rfl
theorem BJ{h g:Nat}{s:Str}(hs:s∈Rq h g):s∈Rq 3 5:=by
 unfold Rq at*
 rw[QXz]at*
 rcases hs with hs|hs
 ·exact .inl (by have:=List.mem_of_mem_take hs;simpa using this)
 ·exact .inr (by have:=List.mem_of_mem_take hs;simpa using this)
theorem gl3:pg.gl 3=some (.int 3):=rfl
theorem gl4:pg.gl 4=some (.int 5):=rfl
def zy:E:=.bi .all (.comp 1 (.name 0) AAc AAL AAt)
theorem Bb{xs ys:List D}(h:ys.length=xs.length):(aO xs ys).length=xs.length:=by
 rw[cP];simp[h]
section
variable{h g:Nat}{ks:List D}{ls:List Bool}
def il(h g:Nat)(ks:List D)(X:D):D:=.tup [.tup (hd h),.tup (aO (bZ g) ks),X]
theorem xX(n:Nat)(O:bD h g ks ls)(X:D):pg.fn (n+2) 2 [.val (il h g ks X)]=.ok (.val (.bl true)) [.val (il h g ks X)]:=by
 have lg:=dG O.g5
 have lh:=gJ O.h2
 have lz:(aO (bZ g) ks).length=g:=by rw[Bb (by rw[lg,O.kl]),lg]
 have e:ev (pg.cf (n+1)) zy [.val (il h g ks X)]=.ok (.val (.bl true)) [.val (il h g ks X)]:=by
  refine all1 (d:=.tup (aO (bZ g) ks)) (xs:=aO (bZ g) ks) (r:=.val (.tup (aO (bZ g) ks))) (by simp[il]) rfl rfl fun x hx=>?_
  rw[cP]at hx
  obtain⟨p,_,rfl⟩:=QDq.mp hx
  have t:=aV n [p.1,p.2] 2 2 (by simp) (by simp)
  simp[pairD,t]
 have t1:=aV n (hd h) 0 3 (by omega) (by have:=O.h2;omega)
 have t2:=aV n (aO (bZ g) ks) 1 5 (by have:=O.g1;omega) (by have:=O.g5;omega)
 have hb:oh=⟨1,1,(.cons (.ite AAu AAP .nil) (.cons (.ret zy) .nil))⟩:=rfl
 have q:zy.aC=none:=rfl
 rw[w5,hb]
 simp only[il]at*
 simp[t1,t2,gl3,gl4,e,q]
def Rr:E:=.bi .all ACh
def Rz:E:=.bi .all ABp
theorem JN(n:Nat)(O:bD h g ks ls)(X:D)(b:Bool)(t5:pg.fn (n+6) 7 [.val X,.val (.int (names h g).length)]=.ok (.val (.bl b)) [.val X,.val (.int (names h g).length)]):pg.fn (n+7) 1 [.val (il h g ks X)]=.ok (.val (.bl b)) [.val (il h g ks X)]:=by
 have lg:=dG O.g5
 have lh:=gJ O.h2
 have T:=b7 h g
 have Nd:=names_nodup O.h2 O.g1 O.g5
 have L:=eG (g:=g) O.h2 O.g5
 have t1:=aV (n+5) [.tup (hd h),.tup (aO (bZ g) ks),X] 3 3 (by simp) (by simp)
 have t2:=xX (n+4) O X
 have t3:=eQ (n+5) (hd h) (bZ g) ks X (by rw[O.kl,lg]) (by have:=O.h2;have:=O.g5;omega)
 have t4:=jY (n+5) (d:=.lst (names h g)) (.inr rfl) T Nd
 have e1:ev (pg.cf (n+6)) Rr [.val (il h g ks X),.own (.lst (names h g))]=.ok (.val (.bl true)) [.val (il h g ks X),.val (.lst (names h g))]:=by
  refine all1 (d:=.lst (names h g)) (xs:=names h g) (r:=.val (.lst (names h g))) (by simp) rfl rfl fun x hx=>?_
  rw[lD]at hx
  obtain⟨s,hs,rfl⟩:=QDq.mp hx
  have w:=O8 (n+5) s (BJ hs)
  simp[w]
 have e2:ev (pg.cf (n+6)) Rz [.val (il h g ks X),.val (.lst (names h g))]=.ok (.val (.bl true)) [.val (il h g ks X),.val (.lst (names h g))]:=by
  refine all2 (d:=.tup (aO (bZ g) ks)) (ps:=(bZ g).zip ks) (r:=.val (.tup (aO (bZ g) ks))) (by simp[il]) rfl (by show some _=some _;rw[cP]) fun x hx=>?_
  have hk:=O.kk x.2 (List.of_mem_zip hx).2
  have w:=zO T Nd hk n 0 (by decide)
  rw[show n+4+2*1=n+6 from rfl]at w
  simp[w]
 have hb:yt=⟨1,2,(.cons (.ite ABQ AAP .nil) (.cons (.set 1 (.call 13 AAR)) (.cons (.ite (.or (.cons (.not Rr) ADR)) AAP .nil) (.cons (.ret (.and (.cons Rz ACz))) .nil))))⟩:=rfl
 rw[HW,hb]
 have nn:hd h++bZ g=names h g:=rfl
 rw[nn]at t3
 have g2:getD (il h g ks X) (.int 2)=some X:=by simp[il]
 have t1':pg.fn (n+6) 3 [.val (il h g ks X),.val (.int 3),.val (.int 3)]=.ok (.val (.bl true)) [.val (il h g ks X),.val (.int 3),.val (.int 3)]:=t1
 have t3':pg.fn (n+6) 13 [.val (il h g ks X)]=.ok (.new (.lst (names h g))) [.val (il h g ks X)]:=t3
 simp[t1',t2,t3',e1,t4,e2,g2,t5]
theorem FP(n:Nat)(O:bD h g ks ls):pg.fn (n+7) 1 [.val (aB h g ks ls)]=.ok (.val (.bl true)) [.val (aB h g ks ls)]:=
 JN n O (aH ls) true (um (n+4) ls (names h g).length (by rw[eG O.h2 O.g5,O.ll]))
theorem Ae(n:Nat)(O:bD h g ks ls):pg.fn (n+8) 0 [.val (aB h g ks ls)]=.ok (.val (aB h g ks ls)) [.val (aB h g ks ls)]:=by
 have t:=FP n O
 rw[Et]
 simp[uM,t]
end
end Tx
end
section
open PySem Mini
namespace Tx
theorem goD(τ:Int->Ev){cond elt:Ev->Out Rv}(P:D->D->Prop)(all:Bool):∀(xs acc:List D)(k:Int)(s:Sl),0<=k->cG s->
  (∀x∈xs,∀k,0<=k->∃b k',0<=k'/\(all=true->b=true)/\cond (.val x::τ k)=.ok (.val (.bl b)) (.val x::τ k'))->
  (∀x∈xs,∀k,0<=k->∃y k',0<=k'/\P x y/\elt (.val x::τ k)=.ok (.val y) (.val x::τ k'))->
  ∃(zs:List (D×D))(k':Int)(s':Sl),(zs.map (·.1)).Sublist xs/\(all=true->zs.map (·.1)=xs)/\(∀p∈zs,P p.1 p.2)/\0<=k'/\aR (.name 0) cond elt xs acc (s::τ k)=.ok (acc++zs.map (·.2)) (s'::τ k')
 |[]=>fun acc k s hk _ _ _=>⟨[],k,s,List.Sublist.refl _,fun _=>rfl,fun p h=>(by cases h),hk,by simp[aR]⟩
 |x::xs=>fun acc k s hk hs hc he=>by
  obtain⟨b,k1,a1,a2,a3⟩:=hc x QYz k hk
  rw[aR,mz hs]
  simp only[a3,dj]
  cases b with
  |true=>
   obtain⟨y,k2,b1,b2,b3⟩:=he x QYz k1 a1
   obtain⟨zs,k',s',c1,c2,c3,c4,c5⟩:=goD τ (cond:=cond) (elt:=elt) P all xs (acc++[y]) k2 (.val x) b1 (.inr ⟨_,rfl⟩) (fun z hz=>hc z (QYq _ hz)) fun z hz=>he z (QYq _ hz)
   refine⟨(x,y)::zs,k',s',c1.cons_cons x,fun h=>by simp[c2 h],fun p hp=>?_,c4,?_⟩
   ·rcases QCq.mp hp with rfl|hp
    ·exact b2
    ·exact c3 p hp
   ·rw[if_pos rfl,b3,bO,c5]
    simp
  |false=>
   obtain⟨zs,k',s',c1,c2,c3,c4,c5⟩:=goD τ (cond:=cond) (elt:=elt) P all xs acc k1 (.val x) a1 (.inr ⟨_,rfl⟩) (fun z hz=>hc z (QYq _ hz)) fun z hz=>he z (QYq _ hz)
   exact⟨zs,k',s',c1.cons x,fun h=>by simpa using a2 h,c3,c4,by rw[if_neg (by simp),c5]⟩
theorem KC{c:Cf}{σ:Ev}{it co el:E}{r:Rv}{d:D}{xs:List D}(τ:Int->Ev)(P:D->D->Prop)(all:Bool){k:Int}(hk:0<=k)(hi:ev c it σ=.ok r (τ k))(hr:r.jb=some d)(hd:items d=some xs)
  (hc:∀x∈xs,∀k,0<=k->∃b k',0<=k'/\(all=true->b=true)/\ev c co (.val x::τ k)=.ok (.val (.bl b)) (.val x::τ k'))
  (he:∀x∈xs,∀k,0<=k->∃y k',0<=k'/\P x y/\ev c el (.val x::τ k)=.ok (.val y) (.val x::τ k')):
  ∃(zs:List (D×D))(k':Int),(zs.map (·.1)).Sublist xs/\(all=true->zs.map (·.1)=xs)/\(∀p∈zs,P p.1 p.2)/\0<=k'/\ev c (.comp 1 (.name 0) it co el) σ=.ok (.new (.lst (zs.map (·.2)))) (τ k'):=by
 obtain⟨zs,k',s',a1,a2,a3,a4,a5⟩:=goD τ (cond:=ev c co) (elt:=ev c el) P all xs [] k .un hk (.inl rfl) hc he
 refine⟨zs,k',a1,a2,a3,a4,?_⟩
 rw[jZ,hi]
 have b:∀{β:Type}(g:D->Ev->Out β),(Out.ok r (τ k)).ao g=g d (τ k):=fun g=>by cases r<;>simp[Rv.jb]at hr<;>subst hr<;>rfl
 rw[b]
 simp only[hd]
 rw[show List.replicate 1 Sl.un++τ k=.un::τ k from rfl,a5]
 simp
def kE(m:D×Nat):D:=.tup [m.1,.int m.2]
def dZ(st:List (D×Nat)):D:=.tup (st.map kE)
def au(os:List D)(sts:List (List (D×Nat))):D:=.tup [.tup os,.tup (sts.map dZ)]
structure bj(h g:Nat)(os:List D)(sts:List (List (D×Nat))):Prop where
 ou:os.Sublist (bZ g)
 s1:1<=sts.length
 s4:sts.length<=4
 mv:∀st∈sts,(st.map (·.1)).Sublist (hd h++os)/\∀m∈st,m.2<sts.length
def Ou:E:=.comp 1 (.name 0) AAf ABL AAb
def Q6:E:=.comp 1 (.name 0) ACp lM (.var 0)
def Vd:E:=(.tup ABb)
def Ve:E:=.comp 1 (.name 0) (.var 8) AAL Vd
def wB:S:=(.cons (.set 8 Q6) (.cons (.append 6 (.bi .tuple Ve)) .nil))
theorem Tw{zs:List (D×D)}{xs:List D}(h:(zs.map (·.1)).Sublist xs)(e:∀p∈zs,p.2=p.1):(zs.map (·.2)).Sublist xs:=by
 rw[show zs.map (·.2)=zs.map (·.1)from List.map_congr_left e];exact h
section
variable(n:Nat)(ns:List Int)(hs os gs:List D)(x:D)(s3 s5 s6 s7 s8:Sl)
theorem Ho(k:Int)(hk:0<=k)(hl:hs.length+os.length<=900):∃(ys:List D)(k':Int),ys.Sublist (hs++os)/\0<=k'/\
  ev (pg.cf (n+3)) Q6 [.val (sc ns),.bor (.lst [.int k]),.val (.tup [.tup hs,.tup gs,x]),s3,.val (.tup os),s5,s6,s7,s8]=.ok (.new (.lst ys)) [.val (sc ns),.bor (.lst [.int k']),.val (.tup [.tup hs,.tup gs,x]),s3,.val (.tup os),s5,s6,s7,s8]:=by
 have f:fits (hs.length+os.length)=true:=by simp[fits];omega
 obtain⟨zs,k',a1,a2,a3,a4,a5⟩:=KC (c:=pg.cf (n+3)) (it:=ACp) (co:=lM) (el:=.var 0) (σ:=[.val (sc ns),.bor (.lst [.int k]),.val (.tup [.tup hs,.tup gs,x]),s3,.val (.tup os),s5,s6,s7,s8]) (k:=k) (fun k=>[.val (sc ns),.bor (.lst [.int k]),.val (.tup [.tup hs,.tup gs,x]),s3,.val (.tup os),s5,s6,s7,s8])
  (fun x y=>y=x) false hk (r:=.val (.tup (hs++os))) (d:=.tup (hs++os)) (xs:=hs++os) (by simp[f]) rfl rfl
  (fun x _ k hk=>by obtain⟨b,e⟩:=vW n ns k hk x [.val (.tup [.tup hs,.tup gs,_]),s3,.val (.tup os),s5,s6,s7,s8];exact⟨b,k+1,by omega,by simp,e⟩) fun x _ k hk=>⟨x,k,hk,rfl,by simp⟩
 exact⟨_,k',Tw a1 a3,a4,a5⟩
theorem O9(k:Int)(hk:0<=k)(ys:List D)(many:Nat)(h1:1<=many)(net:D)(s4:Sl):∃(st:List (D×Nat))(k':Int),st.map (·.1)=ys/\(∀m∈st,m.2<many)/\0<=k'/\
  ev (pg.cf (n+3)) Ve [.val (sc ns),.bor (.lst [.int k]),.val net,s3,s4,.val (.int many),s6,s7,.own (.lst ys)]=.ok (.new (.lst (st.map kE))) [.val (sc ns),.bor (.lst [.int k']),.val net,s3,s4,.val (.int many),s6,s7,.val (.lst ys)]:=by
 obtain⟨zs,k',a1,a2,a3,a4,a5⟩:=KC (c:=pg.cf (n+3)) (it:=.var 8) (co:=.con (.bl true)) (el:=Vd) (σ:=[.val (sc ns),.bor (.lst [.int k]),.val net,s3,s4,.val (.int many),s6,s7,.own (.lst ys)]) (k:=k) (fun k=>[.val (sc ns),.bor (.lst [.int k]),.val net,s3,s4,.val (.int many),s6,s7,.val (.lst ys)])
  (fun x y=>∃j:Nat,j<many/\y=kE (x,j)) true hk (r:=.val (.lst ys)) (d:=.lst ys) (xs:=ys) (by simp) rfl rfl
  (fun x _ k hk=>⟨true,k,hk,fun _=>rfl,by simp⟩) fun x _ k hk=>by
   obtain⟨q,q1,q2,e⟩:=bC n ns k many hk (by omega)
   obtain⟨j,rfl⟩:∃j:Nat,q=j:=⟨q.toNat,by omega⟩
   exact⟨_,k+1,by omega,⟨j,by omega,rfl⟩,by simp[Vd,e,aY,kE]⟩
 have pick:∀(zs:List (D×D)),(∀p∈zs,∃j:Nat,j<many/\p.2=kE (p.1,j))->∃st:List (D×Nat),st.map (·.1)=zs.map (·.1)/\(∀m∈st,m.2<many)/\st.map kE=zs.map (·.2):=by
  intro zs
  induction zs with
  |nil=>exact fun _=>⟨[],rfl,fun m h=>(by cases h),rfl⟩
  |cons z zs ih=>
   intro h
   obtain⟨j,j1,j2⟩:=h z QYz
   obtain⟨st,b1,b2,b3⟩:=ih fun p hp=>h p (QYq _ hp)
   refine⟨(z.1,j)::st,by simp[b1],fun m hm=>?_,by simp[b3,j2]⟩
   rcases QCq.mp hm with rfl|hm
   ·exact j1
   ·exact b2 m hm
 obtain⟨st,b1,b2,b3⟩:=pick zs a3
 exact⟨st,k',by rw[b1,a2 rfl],b2,a4,by rw[b3];exact a5⟩
theorem DQ(k:Int)(hk:0<=k)(hl:hs.length+os.length<=900)(many:Nat)(h1:1<=many)(acc:List D)(ha:acc.length<=1000)(h8:cG s8):∃(st:List (D×Nat))(k':Int)(s':Sl),(st.map (·.1)).Sublist (hs++os)/\(∀m∈st,m.2<many)/\0<=k'/\cG s'/\
  ex (pg.cf (n+3)) wB [.val (sc ns),.bor (.lst [.int k]),.val (.tup [.tup hs,.tup gs,x]),s3,.val (.tup os),.val (.int many),.own (.lst acc),s7,s8]=.next [.val (sc ns),.bor (.lst [.int k']),.val (.tup [.tup hs,.tup gs,x]),s3,.val (.tup os),.val (.int many),.own (.lst (acc++[dZ st])),s7,s']:=by
 obtain⟨ys,k1,a1,a2,a3⟩:=Ho n ns hs os gs x s3 (.val (.int many)) (.own (.lst acc)) s7 s8 k hk hl
 obtain⟨st,k',b1,b2,b3,b4⟩:=O9 n ns s3 (.own (.lst acc)) s7 k1 a2 ys many h1 (.tup [.tup hs,.tup gs,x]) (.val (.tup os))
 have f:fits (acc.length+1)=true:=by simp[fits];omega
 have q:Ve.aC=none:=rfl
 refine⟨st,k',.val (.lst ys),by rw[b1];exact a1,b2,b3,.inr ⟨_,rfl⟩,?_⟩
 rcases h8 with rfl|⟨e,rfl⟩<;>simp[wB,a3,b4,dg,rG,f,q,dZ]
theorem sE(hl:hs.length+os.length<=900)(many:Nat)(h1:1<=many):∀(xs:List D)(acc:List (List (D×Nat)))(k:Int)(s7 s8:Sl),0<=k->cG s7->cG s8->acc.length+xs.length<=1000->∃(sts:List (List (D×Nat)))(k':Int)(t7 t8:Sl),sts.length=xs.length/\(∀st∈sts,(st.map (·.1)).Sublist (hs++os)/\∀m∈st,m.2<many)/\0<=k'/\
  bH (.name 7) (ex (pg.cf (n+3)) wB) xs [.val (sc ns),.bor (.lst [.int k]),.val (.tup [.tup hs,.tup gs,x]),s3,.val (.tup os),.val (.int many),.own (.lst (acc.map dZ)),s7,s8]=.next [.val (sc ns),.bor (.lst [.int k']),.val (.tup [.tup hs,.tup gs,x]),s3,.val (.tup os),.val (.int many),.own (.lst ((acc++sts).map dZ)),t7,t8]
 |[]=>fun acc k s7 s8 hk _ _ _=>⟨[],k,s7,s8,rfl,fun st h=>(by cases h),hk,by simp[bH]⟩
 |y::xs=>fun acc k s7 s8 hk h7 h8 hx=>by
  simp only[QBq]at hx
  obtain⟨st,k1,s',a1,a2,a3,a4,a5⟩:=DQ n ns hs os gs x s3 (.val y) s8 k hk hl many h1 (acc.map dZ) (by simp;omega) h8
  obtain⟨sts,k',t7,t8,b1,b2,b3,b4⟩:=sE hl many h1 xs (acc++[st]) k1 (.val y) s' a3 (.inr ⟨_,rfl⟩) a4 (by simp;omega)
  refine⟨st::sts,k',t7,t8,by simp[b1],fun q hq=>?_,b3,?_⟩
  ·rcases QCq.mp hq with rfl|hq
   ·exact⟨a1,a2⟩
   ·exact b2 q hq
  ·rw[bH]
   have st1:bT (.name 7) y [.val (sc ns),.bor (.lst [.int k]),.val (.tup [.tup hs,.tup gs,x]),s3,.val (.tup os),.val (.int many),.own (.lst (acc.map dZ)),s7,s8]=some [.val (sc ns),.bor (.lst [.int k]),.val (.tup [.tup hs,.tup gs,x]),s3,.val (.tup os),.val (.int many),.own (.lst (acc.map dZ)),.val y,s8]:=by
    rcases h7 with rfl|⟨e,rfl⟩<;>simp[bT]
   rw[st1]
   simp only
   rw[a5,mq]
   rw[show acc.map dZ++[dZ st]=(acc++[st]).map dZ by simp,b4]
   simp
end
theorem mG:∀(m:Nat)(lo:Int),(bI lo m).length=m
 |0=>fun _=>rfl
 |m+1=>fun lo=>by simp[bI,mG m]
theorem Ot(n:Nat)(ns:List Int)(k:Int)(hk:0<=k)(hs gs ks:List D)(x:D)(hl:ks.length=gs.length)(s3 s4 s5 s6 s7 s8:Sl):∃(os:List D)(k':Int),os.Sublist gs/\0<=k'/\
  ev (pg.cf (n+3)) Ou [.val (sc ns),.bor (.lst [.int k]),.val (.tup [.tup hs,.tup (aO gs ks),x]),s3,s4,s5,s6,s7,s8]=.ok (.new (.lst os)) [.val (sc ns),.bor (.lst [.int k']),.val (.tup [.tup hs,.tup (aO gs ks),x]),s3,s4,s5,s6,s7,s8]:=by
 obtain⟨zs,k',a1,a2,a3,a4,a5⟩:=KC (c:=pg.cf (n+3)) (it:=AAf) (co:=ABL) (el:=AAb) (σ:=[.val (sc ns),.bor (.lst [.int k]),.val (.tup [.tup hs,.tup (aO gs ks),x]),s3,s4,s5,s6,s7,s8]) (k:=k) (fun k=>[.val (sc ns),.bor (.lst [.int k]),.val (.tup [.tup hs,.tup (aO gs ks),x]),s3,s4,s5,s6,s7,s8])
  (fun x y=>y=m7 x) false hk (r:=.val (.tup (aO gs ks))) (d:=.tup (aO gs ks)) (xs:=aO gs ks) (by simp) rfl rfl
  (fun x _ k hk=>by
   obtain⟨q,_,_,e⟩:=bC n ns k 3 hk (by omega)
   exact⟨decide (0<q),k+1,by omega,by simp,by simp[e]⟩) fun x hx k hk=>by
   rw[cP]at hx
   obtain⟨p,_,rfl⟩:=QDq.mp hx
   exact⟨_,k,hk,rfl,by simp[pairD,m7]⟩
 refine⟨_,k',?_,a4,a5⟩
 have:=a1.map m7
 rw[uP gs ks hl]at this
 rw[show zs.map (·.2)=(zs.map (·.1)).map m7 by rw[List.map_map];exact List.map_congr_left a3]
 exact this
theorem MN(n:Nat)(ns:List Int)(k:Int)(hk:0<=k){h g:Nat}{ks:List D}{ls:List Bool}(O:bD h g ks ls):∃os sts k',bj h g os sts/\0<=k'/\
  pg.fn (n+4) 35 [.val (sc ns),.bor (.lst [.int k]),.val (aB h g ks ls),.val (.int 4)]=.ok (.val (au os sts)) [.val (sc ns),.bor (.lst [.int k']),.val (aB h g ks ls),.val (.int 4)]:=by
 have lg:=dG O.g5
 have lh:=gJ O.h2
 obtain⟨os,k1,a1,a2,a3⟩:=Ot n ns k hk (hd h) (bZ g) ks (.tup (ls.map .bl)) (by rw[O.kl,lg]) (.val (.int 4)) .un .un .un .un .un
 obtain⟨q,q1,q2,eq⟩:=bC n ns k1 4 a2 (by omega)
 obtain⟨m,rfl⟩:∃m:Nat,q=m:=⟨q.toNat,by omega⟩
 have lo:=a1.length_le
 have:=O.h2
 have:=O.g5
 obtain⟨sts,k',t7,t8,b1,b2,b3,b4⟩:=sE n ns (hd h) os (aO (bZ g) ks) (.tup (ls.map .bl)) (.val (.int 4)) (by omega) (1+m) (by omega) (bI 0 (1+m)) [] (k1+1) .un .un (by omega) (.inl rfl) (.inl rfl) (by simp[mG];omega)
 rw[mG]at b1
 refine⟨os,sts,k',⟨a1,by omega,by omega,fun st hst=>?_⟩,b3,?_⟩
 ·rw[b1];exact b2 st hst
 ·have hb:qT=⟨4,9,.cons (.set 4 (.bi .tuple Ou)) (.cons (.set 5 AAr) (.cons (.set 6 ABX) (.cons (.for_ (.name 7) (.range1 (.var 5)) wB) ABq)))⟩:=rfl
  rw[zc,hb]
  have q0:Ou.aC=none:=rfl
  have fm:fits (1+m)=true:=by simp[fits];omega
  have md:tY (1+(m:Int))=true:=by simp[tY];omega
  have tn:(1+(m:Int)).toNat=1+m:=by omega
  have b4':bH (.name 7) (ex (pg.cf (n+3)) wB) (bI 0 (1+m)) [.val (sc ns),.bor (.lst [.int (k1+1)]),.val (aB h g ks ls),.val (.int 4),.val (.tup os),.val (.int (1+(m:Int))),.own (.lst []),.un,.un]=.next [.val (sc ns),.bor (.lst [.int k']),.val (aB h g ks ls),.val (.int 4),.val (.tup os),.val (.int (1+(m:Int))),.own (.lst (sts.map dZ)),t7,t8]:=by simpa[aB]using b4
  have a3':ev (pg.cf (n+3)) Ou [.val (sc ns),.bor (.lst [.int k]),.val (aB h g ks ls),.val (.int 4),.un,.un,.un,.un,.un]=.ok (.new (.lst os)) [.val (sc ns),.bor (.lst [.int k1]),.val (aB h g ks ls),.val (.int 4),.un,.un,.un,.un,.un]:=a3
  simp[a3',q0,eq,aY,fm,md,tn,b4',items,au]
end Tx
end
section
open PySem Mini
namespace Tx
def Cj:E:=(.comp 1 (.name 0) (.var 2) AAL lM)
theorem Jt(n:Nat)(ns:List Int)(k:Int)(hk:0<=k)(xs:List D)(s3 s4:Sl):∃(bs:List Bool)(k':Int),bs.length=xs.length/\0<=k'/\
  ev (pg.cf (n+3)) Cj [.val (sc ns),.bor (.lst [.int k]),.own (.lst xs),s3,s4]=.ok (.new (.lst (bs.map .bl))) [.val (sc ns),.bor (.lst [.int k']),.val (.lst xs),s3,s4]:=by
 obtain⟨bs,k',s',a1,a2,a3,a4⟩:=qw n ns [.val (.lst xs),s3,s4] xs [] k .un hk (.inl rfl)
 refine⟨bs,k',a1,a2,?_⟩
 have h:ev (pg.cf (n+3)) (.var 2) [.val (sc ns),.bor (.lst [.int k]),.own (.lst xs),s3,s4]=.ok (.val (.lst xs)) [.val (sc ns),.bor (.lst [.int k]),.val (.lst xs),s3,s4]:=by simp
 unfold Cj
 rw[jZ,h,bO]
 simp only[items]
 rw[show List.replicate 1 Sl.un++[.val (sc ns),.bor (.lst [.int k]),.val (.lst xs),s3,s4]=.un:: .val (sc ns):: .bor (.lst [.int k])::[.val (.lst xs),s3,s4]from rfl,a4]
 simp
def HB:S:=AAe
def rk(a b:String):D:=.tup [.str "held",.tup [.str "same",.str a],.str b,.bl false]
def sX:Nat->List D
 |3=>[rk "rr" "q",rk "p" "rr",rk "q" "p"]
 |4=>[rk "go" "q",rk "p" "rr",rk "q" "go",rk "rr" "p"]
 |_=>[rk "abcdef" "q",rk "p" "rr",rk "q" "go",rk "rr" "abcdef",rk "go" "p"]
theorem Ek(c:Cf)(s0 s1:Sl)(g:Nat)(hg:g=3\/g=4\/g=5):∃s4,bH (.name 4) (ex c HB) (bI 0 g) [s0,s1,.own (.lst (bZ g)),.own (.lst []),.un]=.next [s0,s1,.own (.lst (bZ g)),.own (.lst (aO (bZ g) (sX g))),s4]:=by
 refine⟨.val (.int (g-1)),?_⟩
 rcases hg with rfl|rfl|rfl
 all_goals
  simp[HB,bH,bI,bT,cQ,bZ,at?,ix?,aY,dg,rG,sX,rk,aO]
  try rfl
theorem yX(g:Nat)(hg:g=3\/g=4\/g=5):∀d∈sX g,bM (hd 0++bZ g) 1 d:=by
 intro d h
 rcases hg with rfl|rfl|rfl<;>simp only[sX,QCq,QAz,or_false]at h<;>rcases h with rfl|rfl|rfl|rfl|rfl<;>exact .held (.same (by simp[hd,bZ])) (by simp[hd,bZ])
theorem Nu(n:Nat)(ns:List Int)(k:Int)(hk:0<=k):∃g ks ls k',bD 0 g ks ls/\3<=g/\0<=k'/\pg.fn (n+4) 36 [.val (sc ns),.bor (.lst [.int k])]=.ok (.val (aB 0 g ks ls)) [.val (sc ns),.bor (.lst [.int k'])]:=by
 obtain⟨r,r1,r2,er⟩:=bC n ns k 3 hk (by omega)
 obtain⟨g,hg,hr⟩:∃g:Nat,(g=3\/g=4\/g=5)/\3+r=g:=⟨(3+r).toNat,by omega,by omega⟩
 have lg:(bZ g).length=g:=dG (by omega)
 obtain⟨s4,a⟩:=Ek (pg.cf (n+3)) (.val (sc ns)) (.bor (.lst [.int (k+1)])) g hg
 obtain⟨bs,k',b1,b2,b3⟩:=Jt n ns (k+1) (by omega) (bZ g) (.own (.lst (aO (bZ g) (sX g)))) s4
 refine⟨g,sX g,bs,k',⟨by omega,by omega,by omega,?_,yX g hg,by omega⟩,by omega,b2,?_⟩
 ·rcases hg with rfl|rfl|rfl<;>rfl
 ·have hb:qW=⟨2,5,(.cons ABP (.cons (.set 3 ABX) (.cons (.for_ (.name 4) (.range1 ABa) HB) (.cons (.ret (.tup (.cons (.tup .nil) (.cons (.bi .tuple (.var 3)) (.cons (.bi .tuple Cj) .nil))))) .nil))))⟩:=rfl
  rw[zg,hb]
  have sl:fP (.lst [.str "p",.str "q",.str "rr",.str "go",.str "abcdef"]) none (some (g:Int))=some (.new (.lst (bZ g))):=by
   rcases hg with rfl|rfl|rfl<;>rfl
  have fg:fits g=true:=by simp[fits];omega
  have md:tY (g:Int)=true:=by simp[tY];omega
  have q:Cj.aC=none:=rfl
  simp[er,hr,sl,aY,cI,E.jf,lg,fg,md,items,a,b3,q,aB,hd]
def nq:S:=(.cons (.set 7 AAd) AAj)
theorem Qo(xs:List D)(b:D):at? (xs++[b]) (-1)=some b:=by
 unfold at? ix?
 have e:(-1+((xs.length:Int)+1)).toNat=xs.length:=by omega
 have e2:(0:Int)<= -1+((xs.length:Int)+1):=by omega
 have e3: -1+((xs.length:Int)+1)< (xs.length:Int)+1:=by omega
 simp[e,e2,e3]
theorem Ag(n:Nat)(ns:List Int)(k:Int)(hk:0<=k)(s2 s7:Sl)(h7:cG s7)(a x:D)(ls:List Bool)(l:Bool)(acc:List D)(hl:ls.length<=1000)(ha:acc.length<=1000):
  ∃(w:Str)(b:Bool)(t7:Sl),(w="same"\/w="not")/\cG t7/\ex (pg.cf (n+3)) nq [.val (sc ns),.bor (.lst [.int k]),s2,.val a,.own (.lst ((ls++[l]).map .bl)),.own (.lst acc),.val x,s7]
   =.next [.val (sc ns),.bor (.lst [.int (k+1)]),s2,.val x,.own (.lst ((ls++[l]++[b]).map .bl)),.own (.lst (acc++[.tup [x,.tup [.str w,a]]])),.val x,t7]:=by
 obtain⟨r,r1,r2,er⟩:=bC n ns k 2 hk (by omega)
 have fa:fits (acc.length+1)=true:=by simp[fits];omega
 have fb:fits (ls.length+1+1)=true:=by simp[fits];omega
 have al:at? (ls.map D.bl++[.bl l]) (-1)=some (.bl l):=Qo _ _
 rcases (by omega:r=0\/r=1)with rfl|rfl
 ·refine⟨"same",l==true,.val (.int 0),.inl rfl,.inr ⟨_,rfl⟩,?_⟩
  rcases h7 with rfl|⟨e,rfl⟩<;>simp[nq,er,aY,fa,fb,dg,rG,al]
 ·refine⟨"not",l==false,.val (.int 1),.inr rfl,.inr ⟨_,rfl⟩,?_⟩
  rcases h7 with rfl|⟨e,rfl⟩<;>simp[nq,er,aY,fa,fb,dg,rG,al]
theorem qI(n:Nat)(ns:List Int)(s2:Sl):∀(xs acc:List D)(k:Int)(s6 s7:Sl)(a:D)(ls:List Bool)(l:Bool),0<=k->cG s6->cG s7->ls.length+xs.length<=1000->acc.length+xs.length<=1000->
  ∃(ks:List D)(bs:List Bool)(k':Int)(t3 t6 t7:Sl),ks.length=xs.length/\bs.length=xs.length/\0<=k'/\(∀d∈ks,∃y∈a::xs,d=.tup [.str "same",y]\/d=.tup [.str "not",y])/\
   bH (.name 6) (ex (pg.cf (n+3)) nq) xs [.val (sc ns),.bor (.lst [.int k]),s2,.val a,.own (.lst ((ls++[l]).map .bl)),.own (.lst acc),s6,s7]=.next [.val (sc ns),.bor (.lst [.int k']),s2,t3,.own (.lst ((ls++[l]++bs).map .bl)),.own (.lst (acc++aO xs ks)),t6,t7]
 |[]=>fun acc k s6 s7 a ls l hk _ _ _ _=>⟨[],[],k,.val a,s6,s7,rfl,rfl,hk,fun d h=>(by cases h),by simp[bH,aO]⟩
 |x::xs=>fun acc k s6 s7 a ls l hk h6 h7 hl ha=>by
  simp only[QBq]at hl ha
  obtain⟨w,b,t,a1,a2,a3⟩:=Ag n ns k hk s2 s7 h7 a x ls l acc (by omega) (by omega)
  obtain⟨ks,bs,k',t3,t6,t7,b1,b2,b3,b4,b5⟩:=qI n ns s2 xs (acc++[.tup [x,.tup [.str w,a]]]) (k+1) (.val x) t x (ls++[l]) b (by omega) (.inr ⟨_,rfl⟩) a2 (by simp;omega) (by simp;omega)
  refine⟨.tup [.str w,a]::ks,b::bs,k',t3,t6,t7,by simp[b1],by simp[b2],b3,fun d hd=>?_,?_⟩
  ·rcases QCq.mp hd with rfl|hd
   ·exact⟨a,QYz,by rcases a1 with rfl|rfl<;>simp⟩
   ·obtain⟨y,hy,e⟩:=b4 d hd
    exact⟨y,QYq _ hy,e⟩
  ·have st:bT (.name 6) x [.val (sc ns),.bor (.lst [.int k]),s2,.val a,.own (.lst ((ls++[l]).map .bl)),.own (.lst acc),s6,s7]=some [.val (sc ns),.bor (.lst [.int k]),s2,.val a,.own (.lst ((ls++[l]).map .bl)),.own (.lst acc),.val x,s7]:=by
    rcases h6 with rfl|⟨e,rfl⟩<;>simp[bT]
   rw[bH,st]
   simp only
   rw[a3,mq,b5]
   simp[aO]
def afg(d:D):Prop:=∃h g ks ls os sts,bD h g ks ls/\bj h g os sts/\d=.tup [aB h g ks ls,au os sts]
theorem KJ(n:Nat)(ns:List Int)(k:Int)(hk:0<=k):∃h g ks ls os sts k',bD h g ks ls/\bj h g os sts/\0<=k'/\pg.fn (n+4) 37 [.val (sc ns),.bor (.lst [.int k])]=.ok (.val (.tup [aB h g ks ls,au os sts])) [.val (sc ns),.bor (.lst [.int k'])]:=by
 obtain⟨r,r1,r2,er⟩:=bC n ns k 4 hk (by omega)
 obtain⟨g,hg,hr⟩:∃g:Nat,(g=1\/g=2\/g=3\/g=4)/\1+r=g:=⟨(1+r).toNat,by omega,by omega⟩
 have lg:(bZ g).length=g:=dG (by omega)
 obtain⟨q,q1,q2,eq⟩:=bC n ns (k+1) 2 (by omega) (by omega)
 obtain⟨ks,bs,k',t3,t6,t7,b1,b2,b3,b4,b5⟩:=qI n ns (.val (.lst (bZ g))) (bZ g) [] (k+1+1) .un .un (.str "a") [] (q==1) (by omega) (.inl rfl) (.inl rfl) (by simp;omega) (by simp;omega)
 obtain⟨z,z1,z2⟩:∃z,at? (bZ g) (-1)=some z/\z∈bZ g:=by
  rcases hg with rfl|rfl|rfl|rfl
  ·exact⟨.str "p",rfl,by simp[bZ]⟩
  ·exact⟨.str "q",rfl,by simp[bZ]⟩
  ·exact⟨.str "rr",rfl,by simp[bZ]⟩
  ·exact⟨.str "go",rfl,by simp[bZ]⟩
 refine⟨1,g,ks,(q==1)::bs,[z],[[(.str "a",1)],[(z,0)]],k',⟨by omega,by omega,by omega,by omega,fun d dm=>?_,by simp[b2,lg];omega⟩,⟨by simpa using z2,by simp,by simp,fun st h=>?_⟩,b3,?_⟩
 ·obtain⟨y,hy,e⟩:=b4 d dm
  have hy':y∈hd 1++bZ g:=by simpa[hd]using hy
  rcases e with rfl|rfl
  ·exact .same hy'
  ·exact .not hy'
 ·simp only[QCq,QAz,or_false]at h
  rcases h with rfl|rfl<;>simp[hd]
 ·have hb:n6=⟨2,8,(.cons AAi (.cons (.set 3 AAz) (.cons (.set 4 (.lis (.cons ACL .nil))) (.cons (.set 5 ABX) (.cons (.for_ (.name 6) (.var 2) nq) ABR)))))⟩:=rfl
  rw[wY,hb]
  have sl:fP (.lst [.str "p",.str "q",.str "rr",.str "go"]) none (some (g:Int))=some (.new (.lst (bZ g))):=by
   rcases hg with rfl|rfl|rfl|rfl<;>rfl
  have b5':bH (.name 6) (ex (pg.cf (n+3)) nq) (bZ g) [.val (sc ns),.bor (.lst [.int (k+1+1)]),.val (.lst (bZ g)),.val (.str "a"),.own (.lst [.bl (q==1)]),.own (.lst []),.un,.un]=.next [.val (sc ns),.bor (.lst [.int k']),.val (.lst (bZ g)),t3,.own (.lst (.bl (q==1)::bs.map .bl)),.own (.lst (aO (bZ g) ks)),t6,t7]:=by simpa using b5
  simp[er,hr,eq,sl,aY,cI,E.jf,items,b5',z1,aB,au,dZ,kE,hd]
end Tx
end
section
open PySem Mini
namespace Tx
def iI:S->S
 |.cons _ t=>t
 |s=>s
def hdS:S->S
 |.cons t _=>t
 |s=>s
def xF:S:=iI (iI (iI aP.body))
theorem Fi(n:Nat)(ns:List Int)(k:Int)(hk:0<=k):∃(kd:D)(s2:Sl),(∀g,bM (hd 2++bZ g) 1 kd)/\
  ex (pg.cf (n+3)) aP.body [.val (sc ns),.bor (.lst [.int k]),.un,.un,.un,.un,.un,.un]=ex (pg.cf (n+3)) xF [.val (sc ns),.bor (.lst [.int (k+1)]),s2,.val kd,.un,.un,.un,.un]:=by
 obtain⟨r,r1,r2,er⟩:=bC n ns k 6 hk (by omega)
 have hb:aP.body=.cons (hdS aP.body) (.cons (hdS (iI aP.body)) (.cons (hdS (iI (iI aP.body))) xF)):=rfl
 have sb:∀g,([.str "a",.str "b"]:List D).Sublist (hd 2++bZ g):=fun g=>List.sublist_append_left _ _
 have at6:∀(xs:List D)(i:Nat),i<xs.length->at? xs (i:Int)=xs[i]? :=gK
 have hh:∀g,bM (hd 2++bZ g) 1 (.tup [.str "held",.tup [.str "same",.str "a"],.str "b",.bl true]):=fun g=>.held (.same (by simp[hd])) (by simp[hd])
 rcases (by omega:r=0\/r=1\/r=2\/r=3\/r=4\/r=5)with rfl|rfl|rfl|rfl|rfl|rfl
 ·refine⟨.tup [.str "both",.tup [.str "a",.str "b"]],.val (.int 0),fun g=>.both (sb g) (by simp) (by simp),?_⟩
  rw[hb];simp[aP,hdS,iI,er,aY,at?,ix?]
 ·refine⟨.tup [.str "both",.tup [.str "a",.str "b"]],.val (.int 1),fun g=>.both (sb g) (by simp) (by simp),?_⟩
  rw[hb];simp[aP,hdS,iI,er,aY,at?,ix?]
 ·refine⟨.tup [.str "and",.tup [.str "a",.str "b"]],.val (.int 2),fun g=>.and (sb g) (by simp) (by simp),?_⟩
  rw[hb];simp[aP,hdS,iI,er,aY,at?,ix?]
 ·refine⟨.tup [.str "or",.tup [.str "a",.str "b"]],.val (.int 3),fun g=>.or (sb g) (by simp) (by simp),?_⟩
  rw[hb];simp[aP,hdS,iI,er,aY,at?,ix?]
 ·refine⟨_,.val (.int 4),hh,?_⟩
  rw[hb];simp[aP,hdS,iI,er,aY,at?,ix?]
 ·refine⟨_,.val (.int 5),hh,?_⟩
  rw[hb];simp[aP,hdS,iI,er,aY,at?,ix?]
def dR:List (List (D×Nat)):=[[(.str "a",1),(.str "b",2)],[(.str "b",3)],[(.str "a",3)],[(.str "p",0)]]
theorem mQ(g:Nat)(h1:1<=g):bj 2 g [.str "p"] dR:=by
 refine⟨?_,by simp[dR],by simp[dR],fun st h=>?_⟩
 ·obtain⟨j,rfl⟩:∃j,g=j+1:=⟨g-1,by omega⟩
  simp[bZ]
 ·simp only[dR,QCq,QAz,or_false]at h
  rcases h with rfl|rfl|rfl|rfl<;>simp[hd,dR]
theorem zG(n:Nat)(ns:List Int)(k:Int)(hk:0<=k):∃h g ks ls os sts k',bD h g ks ls/\bj h g os sts/\0<=k'/\pg.fn (n+4) 38 [.val (sc ns),.bor (.lst [.int k])]=.ok (.val (.tup [aB h g ks ls,au os sts])) [.val (sc ns),.bor (.lst [.int k'])]:=by
 obtain⟨kd,s2,a1,a2⟩:=Fi n ns k hk
 obtain⟨q,q1,q2,eq⟩:=bC n ns (k+1) 2 (by omega) (by omega)
 rcases (by omega:q=0\/q=1)with rfl|rfl
 ·obtain⟨z,z1,z2,ez⟩:=bC n ns (k+1+1) 2 (by omega) (by omega)
  refine⟨2,1,[kd],[z==1,z==1,z==1],[.str "p"],dR,k+1+1+1,⟨by omega,by omega,by omega,rfl,fun d h=>?_,rfl⟩,mQ 1 (by omega),by omega,?_⟩
  ·cases QDz.mp h;exact a1 1
  ·rw[gG,a2]
   simp[xF,aP,iI,eq,ez,aY,aB,hd,bZ,aO,au,dZ,kE,dR]
 ·obtain⟨w,w1,w2,ew⟩:=bC n ns (k+1+1) 2 (by omega) (by omega)
  obtain⟨z,z1,z2,ez⟩:=bC n ns (k+1+1+1) 2 (by omega) (by omega)
  rcases (by omega:w=0\/w=1)with rfl|rfl
  ·refine⟨2,2,[kd,.tup [.str "same",.str "p"]],[z==1,z==1,z==1,z==1],[.str "p"],dR,k+1+1+1+1,⟨by omega,by omega,by omega,rfl,fun d h=>?_,rfl⟩,mQ 2 (by omega),by omega,?_⟩
   ·simp only[QCq,QAz,or_false]at h
    rcases h with rfl|rfl
    ·exact a1 2
    ·exact .same (by simp[hd,bZ])
   ·rw[gG,a2]
    simp[xF,aP,iI,eq,ew,ez,aY,aB,hd,bZ,aO,au,dZ,kE,dR,dg,rG]
  ·refine⟨2,2,[kd,.tup [.str "not",.str "p"]],[z==1,z==1,z==1, !(z==1)],[.str "p"],dR,k+1+1+1+1,⟨by omega,by omega,by omega,rfl,fun d h=>?_,rfl⟩,mQ 2 (by omega),by omega,?_⟩
   ·simp only[QCq,QAz,or_false]at h
    rcases h with rfl|rfl
    ·exact a1 2
    ·exact .not (by simp[hd,bZ])
   ·rw[gG,a2]
    simp[xF,aP,iI,eq,ew,ez,aY,aB,hd,bZ,aO,au,dZ,kE,dR,dg,rG]
end Tx
end
section
open PySem Mini
namespace Tx
theorem Ba:∀(gs ks:List D)(i:Nat)(x d:D),gs[i]? =some x->ks.length=gs.length->(aO gs ks).set i (.tup [x,d])=aO gs (ks.set i d)
 |[],_,_=>fun _ _ h _=>by simp at h
 |g::gs,[],_=>fun _ _ _ h=>by simp at h
 |g::gs,k::ks,0=>fun x d h _=>by simp at h;subst h;simp[aO]
 |g::gs,k::ks,i+1=>fun x d h hl=>by simp[aO,Ba gs ks i x d (by simpa using h) (by simpa using hl)]
theorem zip_get:∀(gs ks:List D)(i:Nat),i<gs.length->ks.length=gs.length->∃x d,(aO gs ks)[i]? =some (.tup [x,d])/\gs[i]? =some x
 |[],_,_=>fun h _=>by simp at h
 |g::gs,[],_=>fun _ h=>by simp at h
 |g::gs,k::ks,0=>fun _ _=>⟨g,k,by simp[aO],rfl⟩
 |g::gs,k::ks,i+1=>fun h hl=>by
  obtain⟨x,d,a,b⟩:=zip_get gs ks i (by simpa using h) (by simpa using hl)
  exact⟨x,d,by simp[aO,a],by simpa using b⟩
theorem DY(n:Nat)(ns:List Int)(k:Int)(hk:0<=k){h g:Nat}{ks:List D}{ls:List Bool}(O:bD h g ks ls):∃ks' k',bD h g ks' ls/\0<=k'/\
  pg.fn (n+8) 39 [.val (sc ns),.bor (.lst [.int k]),.val (aB h g ks ls)]=.ok (.val (aB h g ks' ls)) [.val (sc ns),.bor (.lst [.int k']),.val (aB h g ks ls)]:=by
 have lg:=dG O.g5
 have lh:=gJ O.h2
 have h2:=O.h2
 have g1:=O.g1
 have g5:=O.g5
 have kl:=O.kl
 have lz:(aO (bZ g) ks).length=g:=by rw[Bb (by rw[lg,kl]),lg]
 obtain⟨q,q1,q2,eq⟩:=bC (n+4) ns k g hk (by omega)
 obtain⟨i,rfl⟩:∃i:Nat,q=i:=⟨q.toNat,by omega⟩
 obtain⟨d,k',a1,a2,a3⟩:=vq ns (hd h++bZ g) (by simp;omega) (by simp;omega) 1 n (k+1) (by omega)
 simp only[Int.natCast_one,show n+6+1=n+7 from rfl]at a3
 obtain⟨x,y,b1,b2⟩:=zip_get (bZ g) ks i (by omega) (by omega)
 refine⟨ks.set i d,k',⟨h2,g1,g5,by simp[kl],fun e he=>?_,O.ll⟩,a2,?_⟩
 ·rcases List.mem_or_eq_of_mem_set he with he|rfl
  ·exact O.kk e he
  ·exact a1
 ·have gc:=qu (c:=pg.cf (n+7)) (it:=.idx (.var 2) AAG) (σ:=[.val (sc ns),.bor (.lst [.int k]),.val (aB h g ks ls),.un,.un,.un]) (bZ g) ks (by omega) (by simp[aB])
  have hb:cT=⟨3,6,.cons (.set 3 (.op .add AAp (.bi .tuple (yc AAf)))) (iI cT.body)⟩:=rfl
  have f:fits ((hd h).length+(bZ g).length)=true:=by simp[fits];omega
  have i1:at? (aO (bZ g) ks) (i:Int)=some (.tup [x,y]):=by rw[gK _ _ (by omega),b1]
  have i2:ix? g (i:Int)=some i:=by simp[ix?];omega
  have zs:=Ba (bZ g) ks i x d b2 (by omega)
  have q0:∀it,(yc it).aC=none:=fun _=>rfl
  have n0:getD (aB h g ks ls) (.int 0)=some (.tup (hd h)):=by simp[aB]
  have n1:getD (aB h g ks ls) (.int 1)=some (.tup (aO (bZ g) ks)):=by simp[aB]
  have n2:getD (aB h g ks ls) (.int 2)=some (.tup (ls.map .bl)):=by simp[aB]
  rw[lA,hb]
  simp[cT,iI,gc,q0,f,n0,n1,n2,lz,eq,a3,i1,i2,pP,zs,aY]
  simp[aB]
theorem tQ(h g:Nat):bj h g [] [[]]:=⟨by simp,by simp,by simp,fun st h=>by cases QDz.mp h;simp⟩
theorem Um(g:Nat)(h3:3<=g):bj 0 g [.str "q"] [[(.str "q",1)],[(.str "q",0)]]:=by
 refine⟨?_,by simp,by simp,fun st h=>?_⟩
 ·obtain⟨j,rfl⟩:∃j,g=j+2:=⟨g-2,by omega⟩
  simp[bZ]
 ·simp only[QCq,QAz,or_false]at h
  rcases h with rfl|rfl<;>simp[hd]
def qJ:S:=iI (iI (iI (iI (iI bf.body))))
def ym:S:=iI qJ
theorem Qk(n:Nat)(ns:List Int)(k:Int)(hk:0<=k):∃h g ks ls os sts,bD h g ks ls/\bj h g os sts/\pg.fn (n+9) 40 [.val (sc ns),.val (.int k)]=.ok (.val (.tup [aB h g ks ls,au os sts])) [.val (sc ns),.val (.int k)]:=by
 obtain⟨r,r1,r2,er⟩:=bC (n+5) ns k 8 hk (by omega)
 by_cases c2:r<2
 ·obtain⟨h,g,ks,ls,k1,O,a1,a2⟩:=Je n ns (k+1) (by omega) 2 (by omega) (by omega)
  obtain⟨os,sts,k2,T,b1,b2⟩:=MN (n+4) ns k1 a1 O
  exact⟨h,g,ks,ls,os,sts,O,T,by rw[dH];simp[bf,er,c2,a2,b2,aY]⟩
 have c2b:¬r<2:=c2
 by_cases c3:r=2
 ·subst c3
  obtain⟨h,g,ks,ls,k1,O,a1,a2⟩:=Je n ns (k+1) (by omega) 0 (by omega) (by omega)
  exact⟨h,g,ks,ls,[],[[]],O,tQ h g,by rw[dH];simp[bf,er,a2,aY,au,dZ]⟩
 by_cases c4:r=3
 ·subst c4
  obtain⟨g,ks,ls,k1,O,g3,a1,a2⟩:=Nu (n+4) ns (k+1) (by omega)
  obtain⟨q,q1,q2,eq⟩:=bC (n+5) ns k1 2 a1 (by omega)
  rcases (by omega:q=1\/q=0)with rfl|rfl
  ·exact⟨0,g,ks,ls,[],[[]],O,tQ 0 g,by rw[dH];simp[bf,er,a2,eq,aY,au,dZ]⟩
  ·exact⟨0,g,ks,ls,_,_,O,Um g g3,by rw[dH];simp[bf,er,a2,eq,aY,au,dZ,kE]⟩
 have e2:(r==2)=false:=by simpa using c3
 have e3:(r==3)=false:=by simpa using c4
 have main:∃h g ks ls os sts k1,bD h g ks ls/\bj h g os sts/\0<=k1/\ex (pg.cf (n+8)) bf.body [.val (sc ns),.val (.int k),.un,.un,.un,.un]=ex (pg.cf (n+8)) ym [.val (sc ns),.val (.int k),.own (.lst [.int k1]),.val (.int r),.val (aB h g ks ls),.val (au os sts)]:=by
  have hb:bf.body=.cons (hdS bf.body) (.cons (hdS (iI bf.body)) (.cons (hdS (iI (iI bf.body))) (.cons (hdS (iI (iI (iI bf.body)))) (.cons (hdS (iI (iI (iI (iI bf.body))))) (.cons (hdS qJ) ym))))):=rfl
  by_cases c6:r<6
  ·obtain⟨h,g,ks,ls,os,sts,k1,O,T,a1,a2⟩:=KJ (n+4) ns (k+1) (by omega)
   refine⟨h,g,ks,ls,os,sts,k1,O,T,a1,?_⟩
   rw[hb]
   simp[bf,hdS,iI,qJ,er,c2,e2,e3,c3,c4,c6,a2,aY,bT,gF,cQ]
  ·obtain⟨h,g,ks,ls,os,sts,k1,O,T,a1,a2⟩:=zG (n+4) ns (k+1) (by omega)
   refine⟨h,g,ks,ls,os,sts,k1,O,T,a1,?_⟩
   rw[hb]
   simp[bf,hdS,iI,qJ,er,c2,e2,e3,c3,c4,c6,a2,aY,bT,gF,cQ]
 obtain⟨h,g,ks,ls,os,sts,k1,O,T,a1,a2⟩:=main
 by_cases c7:r%2=1
 ·obtain⟨q,q1,q2,eq⟩:=bC (n+5) ns k1 2 a1 (by omega)
  rcases (by omega:q=1\/q=0)with rfl|rfl
  ·obtain⟨ks',k2,O',b1,b2⟩:=DY n ns (k1+1) (by omega) O
   refine⟨h,g,ks',ls,os,sts,O',T,?_⟩
   rw[dH,a2]
   simp[ym,qJ,bf,iI,c7,eq,b2,aY]
  ·refine⟨h,g,ks,ls,os,sts,O,T,?_⟩
   rw[dH,a2]
   simp[ym,qJ,bf,iI,c7,eq,aY]
 ·refine⟨h,g,ks,ls,os,sts,O,T,?_⟩
  have c8:r%2=0:=by omega
  rw[dH,a2]
  simp[ym,qJ,bf,iI,c8,aY]
end Tx
end
section
open PySem Mini
namespace Tx
def Rt:E:=.bi .all ADL
def Jl:E:=.bi .all ABW
def Wr:E:=.comp 1 (.name 0) (.var 0) AAL AAb
theorem xT(n:Nat){xs:List D}(h:cM xs)(nd:xs.Nodup)(st:List (D×Nat))(N:Nat)(hs:(st.map (·.1)).Sublist xs)(hn:∀m∈st,m.2<N):
  pg.fn (n+3) 19 [.val (dZ st),.val (.tup xs),.val (.int N)]=.ok (.val (.bl true)) [.val (dZ st),.val (.tup xs),.val (.int N)]:=by
 have ll:=hs.length_le
 rw[QAq]at ll
 have t1:=aV (n+1) (st.map kE) 0 xs.length (by omega) (by simpa using ll)
 have t2:=cV n (d:=.tup xs) (.inl rfl) h nd hs 0 xs.length (by omega) (by simpa using ll)
 have e1:ev (pg.cf (n+2)) Rt [.val (dZ st),.val (.tup xs),.val (.int N)]=.ok (.val (.bl true)) [.val (dZ st),.val (.tup xs),.val (.int N)]:=by
  refine all1 (d:=dZ st) (xs:=st.map kE) (r:=.val (dZ st)) (by simp) rfl rfl fun x hx=>?_
  obtain⟨m,_,rfl⟩:=QDq.mp hx
  have t:=aV (n+1) [m.1,.int m.2] 2 2 (by simp) (by simp)
  simp[kE,t]
 have e2:ev (pg.cf (n+2)) Jl [.val (dZ st),.val (.tup xs),.val (.int N)]=.ok (.val (.bl true)) [.val (dZ st),.val (.tup xs),.val (.int N)]:=by
  refine all1 (d:=dZ st) (xs:=st.map kE) (r:=.val (dZ st)) (by simp) rfl rfl fun x hx=>?_
  obtain⟨m,hm,rfl⟩:=QDq.mp hx
  have t:pg.fn (n+2) 4 [.val (.int m.2),.val (.int 0),.val (.int (N-1))]=.ok (.val (.bl true)) [.val (.int m.2),.val (.int 0),.val (.int (N-1))]:=by
   rw[wZ]
   have:(m.2:Int)<=N-1:=Int.le_sub_one_of_lt (Int.ofNat_lt.mpr (hn m hm))
   simp[n8,ada,this]
  simp[kE,t]
 have e3:ev (pg.cf (n+2)) Wr [.val (dZ st),.val (.tup xs),.val (.int N)]=.ok (.new (.lst (st.map (·.1)))) [.val (dZ st),.val (.tup xs),.val (.int N)]:=by
  have:=uz (c:=pg.cf (n+2)) (it:=.var 0) (σ:=[.val (dZ st),.val (.tup xs),.val (.int N)]) (el:=.idx (.var 0) AAH) m7 (d:=dZ st) (xs:=st.map kE) (r:=.val (dZ st)) (by simp;rfl) rfl rfl fun y hy=>by
   obtain⟨m,_,rfl⟩:=QDq.mp hy
   simp[kE,m7]
  rw[List.map_map]at this
  exact this
 have hb:rm=⟨3,3,(.cons (.ite (.or (.cons ACe (.cons (.not Rt) .nil))) AAP .nil) (.cons (.ite (.not (.call 9 (.cons (.bi .tuple Wr) (.cons (.var 1) (.cons AAH AAx))))) AAP .nil) (.cons (.ret Jl) .nil)))⟩:=rfl
 rw[zp,hb]
 have q1:Wr.aC=none:=rfl
 have q2:Jl.aC=none:=rfl
 have t1':pg.fn (n+2) 3 [.val (dZ st),.val (.int 0),.val (.int xs.length)]=.ok (.val (.bl true)) [.val (dZ st),.val (.int 0),.val (.int xs.length)]:=t1
 simp[t1',e1,e3,q1,t2,e2,q2]
theorem gl8:pg.gl 8=some (.int 12):=rfl
def uV:E:=.bi .all ABM
section
variable{h g:Nat}{ks:List D}{ls:List Bool}{os:List D}{sts:List (List (D×Nat))}
theorem bj.sub(T:bj h g os sts):(hd h++os).Sublist (names h g):=(List.Sublist.refl _).append T.ou
theorem Hw:(bZ g).Sublist (names h g):=List.sublist_append_right _ _
theorem zN(n:Nat)(O:bD h g ks ls)(T:bj h g os sts):pg.fn (n+4) 18 [.val (aB h g ks ls),.val (au os sts)]=.ok (.val (.bl true)) [.val (aB h g ks ls),.val (au os sts)]:=by
 have lg:=dG O.g5
 have lh:=gJ O.h2
 have h2:=O.h2
 have g5:=O.g5
 have s1:=T.s1
 have s4:=T.s4
 have lo:=T.ou.length_le
 have X:=b7 h g
 have Nd:=names_nodup O.h2 O.g1 O.g5
 have t1:pg.fn (n+3) 3 [.val (au os sts),.val (.int 2),.val (.int 2)]=.ok (.val (.bl true)) [.val (au os sts),.val (.int 2),.val (.int 2)]:=aV (n+2) [.tup os,.tup (sts.map dZ)] 2 2 (by simp) (by simp)
 have gc:=qu (c:=pg.cf (n+3)) (it:=.idx (.var 0) AAG) (σ:=[.val (aB h g ks ls),.val (au os sts),.un,.un]) (bZ g) ks (by rw[O.kl,lg]) (by simp[aB])
 have t2:=cV (n+1) (d:=.lst (bZ g)) (ys:=os) (.inr rfl) (fun x hx=>X x (Hw.subset hx)) (Hw.nodup Nd) T.ou 0 g (by omega) (by omega)
 have t3:=aV (n+2) (sts.map dZ) 1 12 (by simp;omega) (by simp;omega)
 have hb:uK=⟨2,4,(.cons (.ite ACM AAP .nil) (.cons (.set 2 (yc AAc)) (.cons (.ite AAk AAP .nil) (.cons (.set 3 (.op .add AAb ABH)) (.cons (.ret uV) .nil)))))⟩:=rfl
 have q:uV.aC=none:=rfl
 have f:fits ((hd h).length+os.length)=true:=by simp[fits];omega
 have n0:getD (aB h g ks ls) (.int 0)=some (.tup (hd h)):=by simp[aB]
 have m0:getD (au os sts) (.int 0)=some (.tup os):=by simp[au]
 have m1:getD (au os sts) (.int 1)=some (.tup (sts.map dZ)):=by simp[au]
 have e':ev (pg.cf (n+3)) uV [.val (aB h g ks ls),.val (au os sts),.val (.lst (bZ g)),.val (.tup (hd h++os))]=.ok (.val (.bl true)) [.val (aB h g ks ls),.val (au os sts),.val (.lst (bZ g)),.val (.tup (hd h++os))]:=by
  refine all1 (d:=.tup (sts.map dZ)) (xs:=sts.map dZ) (r:=.val (.tup (sts.map dZ))) (by simp[au]) rfl rfl fun x hx=>?_
  obtain⟨st,hst,rfl⟩:=QDq.mp hx
  have t:=xT n (xs:=hd h++os) (fun x hx=>X x (T.sub.subset hx)) (T.sub.nodup Nd) st sts.length (T.mv st hst).1 (T.mv st hst).2
  simp[au,t]
 rw[Ep,hb]
 simp[t1,gc,m0,m1,n0,lg,t2,t3,gl8,f,e',q]
theorem iR(n:Nat)(O:bD h g ks ls)(T:bj h g os sts):pg.fn (n+9) 17 [.val (aB h g ks ls),.val (au os sts)]=.ok (.val (au os sts)) [.val (aB h g ks ls),.val (au os sts)]:=by
 have t:=zN (n+4) O T
 have c:=Ae n O
 rw[pN]
 simp[jB,c,t]
end
end Tx
end
section
open PySem Mini
namespace Tx
def lk(x:D):List (D×Nat)->Option Nat
 |[]=>none
 |m::st=>if cH m.1 x then some m.2 else lk x st
abbrev fZ(st:List (D×Nat)):List D:=st.map (·.1)
abbrev o5(st:List (D×Nat)):List D:=st.map fun m=>.int m.2
def dcD(st:List (D×Nat)):D:=.cC (fZ st) (o5 st)
theorem BP(x:D):∀st,cN x (fZ st) (o5 st)=(lk x st).map fun j:Nat=>D.int j
 |[]=>rfl
 |m::st=>by
  simp only[Qyz,cN,lk]
  split
  ·rfl
  ·exact BP x st
theorem BR(x:D):∀st,aW x (fZ st)=(lk x st).isSome
 |[]=>rfl
 |m::st=>by
  simp only[Qyz,aW,lk,BR x st]
  cases cH m.1 x<;>simp
theorem iB:∀(st:List (D×Nat))(ks vs:List D),cM (ks++fZ st)->(ks++fZ st).Nodup->dictOf ks vs (st.map kE)=some (ks++fZ st,vs++o5 st)
 |[]=>fun ks vs _ _=>by simp[dictOf]
 |m::st=>fun ks vs h nd=>by
  obtain⟨s,e⟩:=h m.1 (by simp)
  have no:aW m.1 ks=false:=by
   rw[e]
   have hn:m.1∉ks:=fun hm=>by
    rw[show fZ (m::st)=m.1::fZ st from rfl,List.nodup_append]at nd
    exact nd.2.2 _ hm _ QYz rfl
   rw[e]at hn
   have hk:cM ks:=fun x hx=>h x (QWz _ hx)
   clear nd h
   induction ks with
   |nil=>rfl
   |cons y ys ih=>
    obtain⟨q,rfl⟩:=hk y QYz
    have ne:¬q=s:=fun c=>hn (by rw[c];exact QYz)
    simp[aW,cH,ne,ih (fun c=>hn (QYq _ c)) fun x hx=>hk x (QYq _ hx)]
  have r:=iB st (ks++[m.1]) (vs++[.int m.2]) (by simpa using h) (by simpa using nd)
  have kk:keyOk m.1=true:=by rw[e];rfl
  rw[Qyz,show kE m=.tup [m.1,.int m.2]from rfl,dictOf,if_pos kk]
  simp only[putD,no]
  rw[if_neg (by simp),r]
  simp
def bA(sts:List (List (D×Nat)))(i:Nat):List (D×Nat):=sts.getD i []
end Tx
end
section
open PySem Mini
namespace Tx
theorem lF(n:Nat)(hs gs:List D)(ks:List D)(x:D)(hl:ks.length=gs.length)(hf:hs.length+gs.length<=1000):
  pg.fn (n+1) 41 [.val (.tup [.tup hs,.tup (aO gs ks),x])]=.ok (.new (.lst (hs++gs))) [.val (.tup [.tup hs,.tup (aO gs ks),x])]:=
 (show pg.fn (n+1) 41 _=pg.fn (n+1) 13 _ from(wW n _).trans (lu n _).symm).trans (eQ n hs gs ks x hl hf)
theorem ql{s:Str}{xs:List D}(h:cM xs)(hn:D.str s∉xs):aW (.str s) xs=false:=by
 induction xs with
 |nil=>rfl
 |cons x xs ih=>
  obtain⟨q,rfl⟩:=h x QYz
  have ne:q≠s:=fun e=>hn (by rw[e];exact QYz)
  simp[aW,cH,ne,ih (fun z hz=>h z (QYq _ hz)) fun hz=>hn (QYq _ hz)]
theorem CV:∀(xs ys ks vs:List D),ys.length=xs.length->cM xs->cM ks->(ks++xs).Nodup->dictOf ks vs (aO xs ys)=some (ks++xs,vs++ys)
 |[],ys=>fun ks vs hl _ _ _=>by
  have:ys=[]:=by cases ys<;>simp_all
  subst this
  simp[aO,dictOf]
 |x::xs,[]=>fun ks vs hl _ _ _=>by simp at hl
 |x::xs,y::ys=>fun ks vs hl h hk nd=>by
  obtain⟨s,rfl⟩:=h x QYz
  have hn:D.str s∉ks:=fun z=>by
   have:=List.nodup_append.mp nd
   exact this.2.2 _ z _ QYz rfl
  have e:=ql hk hn
  have ih:=CV xs ys (ks++[.str s]) (vs++[y]) (by simpa using hl) (fun z hz=>h z (QYq _ hz)) (fun z hz=>by
   rcases QXz.mp hz with hz|hz
   ·exact hk z hz
   ·simp at hz;exact⟨s,hz⟩) (by simpa using nd)
  simp only[aO,dictOf,keyOk,if_true,putD,e,Qxq,if_false]
  rw[ih]
  simp
theorem Kq{xs ys:List D}(hl:ys.length=xs.length)(h:cM xs)(nd:xs.Nodup):dictOf [] [] (aO xs ys)=some (xs,ys):=by
 have:=CV xs ys [] [] hl h (fun z hz=>by cases hz) (by simpa using nd)
 simpa using this
def cR(xs:List D)(bs:List Bool)(x:D):Bool:=match cN x xs (bs.map .bl)with
 |some (.bl b)=>b
 |_=>false
theorem ue{x:D}:∀{xs:List D}{bs:List Bool},cM xs->bs.length=xs.length->x∈xs->cN x xs (bs.map .bl)=some (.bl (cR xs bs x))
 |[],_=>fun _ _ hx=>by cases hx
 |y::ys,[]=>fun _ hl _=>by simp at hl
 |y::ys,b::bs=>fun h hl hx=>by
  obtain⟨q,rfl⟩:=h x hx
  obtain⟨s,rfl⟩:=h y QYz
  by_cases e:s=q
  ·subst e
   simp[cR,cN,cH]
  ·have hx':D.str q∈ys:=by
    rcases QCq.mp hx with z|z
    ·cases z;exact absurd rfl e
    ·exact z
   have ih:=ue (bs:=bs) (fun z hz=>h z (QYq _ hz)) (by simpa using hl) hx'
   have l:cN (.str q) (.str s::ys) ((b::bs).map .bl)=cN (.str q) ys (bs.map .bl):=by simp[cN,cH,e]
   have v:cR (.str s::ys) (b::bs) (.str q)=cR ys bs (.str q):=by
    unfold cR
    rw[l]
   rw[l,v]
   exact ih
theorem fX{x:D}{xs:List D}{bs:List Bool}(h:cM xs)(hl:bs.length=xs.length)(hx:x∈xs):getD (.cC xs (bs.map .bl)) x=some (.bl (cR xs bs x)):=by
 have e:=ue h hl hx
 obtain⟨q,rfl⟩:=h x hx
 exact e
theorem qp:∀(bs:List Bool),aW (.bl false) (bs.map .bl)= !bs.all id
 |[]=>rfl
 |b::bs=>by cases b<;>simp[aW,cH,qp bs]
theorem vA:∀(bs:List Bool),aW (.bl true) (bs.map .bl)=bs.any id
 |[]=>rfl
 |b::bs=>by cases b<;>simp[aW,cH,vA bs]
theorem qy(bs:List Bool):(bs.map D.bl).all flat=true:=by
 rw[List.all_eq_true]
 intro x hx
 obtain⟨b,_,rfl⟩:=QDq.mp hx
 rfl
theorem vz(b:Bool)(bs:List Bool):aL .isin (.bl b) (.lst (bs.map .bl))=some (aW (.bl b) (bs.map .bl)):=by
 have o:fL (.bl b) (bs.map .bl)=true:=by
  unfold fL
  rw[qy]
  rfl
 show(if fL (.bl b) (bs.map .bl)then some (aW (.bl b) (bs.map .bl))else none)=_
 rw[o]
 rfl
theorem I9(b:Bool)(bs:List Bool):aL .notin (.bl b) (.lst (bs.map .bl))=some (!aW (.bl b) (bs.map .bl)):=by
 have o:fL (.bl b) (bs.map .bl)=true:=by
  unfold fL
  rw[qy]
  rfl
 show(if fL (.bl b) (bs.map .bl)then some (!aW (.bl b) (bs.map .bl))else none)=_
 rw[o]
 rfl
theorem tR(bs:List Bool):jQ (bs.map D.bl)=true:=by
 induction bs with
 |nil=>rfl
 |cons b bs ih=>simp[jQ,nd,ih]
theorem z8(bs:List Bool):gY (bs.map D.bl)=0:=by
 induction bs with
 |nil=>rfl
 |cons b bs ih=>simp[gY,dep,ih]
theorem Jh(rs:List (List Bool)):jQ (rs.map aH)=true:=by
 induction rs with
 |nil=>rfl
 |cons r rs ih=>simp[jQ,nd,aH,tR,ih]
theorem JM(bs:List Bool)(rs:List (List Bool)):∃b,aL .isin (.tup (bs.map .bl)) (.tup (rs.map aH))=some b:=by
 have o:fL (.tup (bs.map .bl)) (rs.map aH)=true:=by
  simp[fL,nd,dep,tR,z8,Jh]
 refine⟨aW (.tup (bs.map .bl)) (rs.map aH),?_⟩
 show(if fL (.tup (bs.map .bl)) (rs.map aH)then some (aW (.tup (bs.map .bl)) (rs.map aH))else none)=_
 rw[o]
 rfl
end Tx
end
section
open PySem Mini
namespace Tx
def qb:E:=.comp 1 (.name 0) AAc AAL (.idx (.var 3) (.var 0))
def p8:E:=.comp 1 (.name 0) AAc AAL (.idx (.var 2) (.var 0))
def nD:Fn:=⟨3,5,(.cons (.set 3 AAb) (.cons (.ite (.cmp .eq (.var 3) ABg) (.cons (.ret ACa) .nil) .nil) (.cons (.ite (.cmp .eq (.var 3) ACc) (.cons (.ret (.not ACa)) .nil) .nil) (.cons (.ite ACr ADQ .nil) (.cons (.set 4 (.bi .tuple qb)) (.cons (.ite (.cmp .eq (.var 3) ABY) ACy .nil) (.cons (.ite (.cmp .eq (.var 3) ABe) ACx .nil) (.cons (.ite ACs ACk .nil) ABK))))))))⟩
theorem g8:K6=nD:=rfl
def gD:Fn:=⟨3,5,(.cons (.ite (.cmp .eq AAb ABg) (.cons (.ret ACb) .nil) .nil) (.cons (.ite (.cmp .eq AAb ACc) (.cons (.ret (.not ACb)) .nil) .nil) (.cons (.ite (.cmp .eq AAb ABV) AAq .nil) (.cons (.set 4 p8) (.cons (.ite (.cmp .eq AAb ABO) ACR .nil) (.cons (.ite (.cmp .eq AAb ABY) ACN .nil) (.cons (.ite (.cmp .eq AAb ABe) ACj .nil) (.cons (.ite ABc (.cons (.ret (.var 2)) .nil) .nil) ACw))))))))⟩
theorem tells_eq:nU=gD:=rfl
section
variable{xs:List D}{bs:List Bool}
theorem Fw(n:Nat)(h:cM xs)(hl:bs.length=xs.length){ys:List D}(hs:ys.Sublist xs)(w:D)(r:List D)(s1 s3 s4:Sl):
  ev (pg.cf n) qb [.val (.tup (w:: .tup ys::r)),s1,.val (.cC xs (bs.map .bl)),s3,s4]=.ok (.new (.lst ((ys.map (cR xs bs)).map .bl))) [.val (.tup (w:: .tup ys::r)),s1,.val (.cC xs (bs.map .bl)),s3,s4]:=by
 have:=uz (c:=pg.cf n) (it:=.idx (.var 0) AAG) (el:=.idx (.var 3) (.var 0)) (σ:=[.val (.tup (w:: .tup ys::r)),s1,.val (.cC xs (bs.map .bl)),s3,s4]) (fun x=>.bl (cR xs bs x)) (d:=.tup ys) (xs:=ys) (r:=.val (.tup ys)) (τ:=[.val (.tup (w:: .tup ys::r)),s1,.val (.cC xs (bs.map .bl)),s3,s4]) (by simp) rfl rfl fun x hx=>by
  have e:=fX h hl (hs.subset hx)
  simp[e]
 rw[qb,this]
 simp
theorem Fv(n:Nat)(h:cM xs)(hl:bs.length=xs.length){ys:List D}(hs:ys.Sublist xs)(w:D)(r:List D)(s2 s3 s4:Sl):
  ev (pg.cf n) p8 [.val (.tup (w:: .tup ys::r)),.val (.cC xs (bs.map .bl)),s2,s3,s4]=.ok (.new (.lst ((ys.map (cR xs bs)).map .bl))) [.val (.tup (w:: .tup ys::r)),.val (.cC xs (bs.map .bl)),s2,s3,s4]:=by
 have:=uz (c:=pg.cf n) (it:=.idx (.var 0) AAG) (el:=.idx (.var 2) (.var 0)) (σ:=[.val (.tup (w:: .tup ys::r)),.val (.cC xs (bs.map .bl)),s2,s3,s4]) (fun x=>.bl (cR xs bs x)) (d:=.tup ys) (xs:=ys) (r:=.val (.tup ys)) (τ:=[.val (.tup (w:: .tup ys::r)),.val (.cC xs (bs.map .bl)),s2,s3,s4]) (by simp) rfl rfl fun x hx=>by
  have e:=fX h hl (hs.subset hx)
  simp[e]
 rw[p8,this]
 simp
theorem lG(h:cM xs)(hl:bs.length=xs.length){ys:List D}(hs:ys.Sublist xs)(w:D)(r:List D):∃row:List Bool,row.length=ys.length/\
  (∀(n:Nat)(s1 s3 s4:Sl),ev (pg.cf n) qb [.val (.tup (w:: .tup ys::r)),s1,.val (.cC xs (bs.map .bl)),s3,s4]=.ok (.new (.lst (row.map .bl))) [.val (.tup (w:: .tup ys::r)),s1,.val (.cC xs (bs.map .bl)),s3,s4])/\
  (∀(n:Nat)(s2 s3 s4:Sl),ev (pg.cf n) p8 [.val (.tup (w:: .tup ys::r)),.val (.cC xs (bs.map .bl)),s2,s3,s4]=.ok (.new (.lst (row.map .bl))) [.val (.tup (w:: .tup ys::r)),.val (.cC xs (bs.map .bl)),s2,s3,s4]):=
 ⟨ys.map (cR xs bs),by simp,fun n s1 s3 s4=>Fw n h hl hs w r s1 s3 s4,fun n s2 s3 s4=>Fv n h hl hs w r s2 s3 s4⟩
def Agree(xs:List D)(bs:List Bool)(i j:Nat)(d:D)(own b:Bool):Prop:=
 pg.fn i 15 [.val d,.val (.bl own),.val (.cC xs (bs.map .bl))]=.ok (.val (.bl b)) [.val d,.val (.bl own),.val (.cC xs (bs.map .bl))]/\
 pg.fn j 42 [.val d,.val (.cC xs (bs.map .bl)),.val (.bl own)]=.ok (.val (.bl b)) [.val d,.val (.cC xs (bs.map .bl)),.val (.bl own)]
theorem Fy(n k:Nat):n+1+2*k=n+2*k+1:=Nat.add_right_comm n 1 (2*k)
theorem Fx(m k:Nat):m+1+k=m+k+1:=Nat.add_right_comm m 1 k
theorem aei(n k:Nat):n+1+2*(k+1)=n+1+2*k+1+1:=rfl
theorem Hd(h:cM xs)(hl:bs.length=xs.length):∀{k:Nat}{d:D},bM xs k d->∀own:Bool,∃b,∀n m:Nat,Agree xs bs (n+1+2*k) (m+1+k) d own b:=by
 intro k d hk
 have q1:qb.aC=none:=rfl
 have q2:p8.aC=none:=rfl
 induction hk with
 | @same k x hx=>
  intro own
  have e:=fX h hl hx
  refine⟨cR xs bs x,fun n m=>⟨?_,?_⟩⟩
  ·rw[Fy,j6,g8]
   simp[nD,e]
  ·rw[Fx,cU,tells_eq]
   simp[gD,e]
 | @not k x hx=>
  intro own
  have e:=fX h hl hx
  refine⟨!cR xs bs x,fun n m=>⟨?_,?_⟩⟩
  ·rw[Fy,j6,g8]
   simp[nD,e]
  ·rw[Fx,cU,tells_eq]
   simp[gD,e]
 | @and k ys hs h1 h2=>
  intro own
  obtain⟨row,_,e1,e2⟩:=lG h hl hs (.str "and") []
  have bb:=jA row
  refine⟨row.all id,fun n m=>⟨?_,?_⟩⟩
  ·rw[Fy,j6,g8]
   simp[nD,e1,q1,bb]
  ·rw[Fx,cU,tells_eq]
   simp[gD,e2,q2,I9,qp]
 | @or k ys hs h1 h2=>
  intro own
  obtain⟨row,_,e1,e2⟩:=lG h hl hs (.str "or") []
  have bb:=jA row
  refine⟨row.any id,fun n m=>⟨?_,?_⟩⟩
  ·rw[Fy,j6,g8]
   simp[nD,e1,q1,bb]
  ·rw[Fx,cU,tells_eq]
   simp[gD,e2,q2,vz,vA]
 | @both k ys hs h1 h2=>
  intro own
  obtain⟨row,hr,e1,e2⟩:=lG h hl hs (.str "both") []
  have bb:=jA row
  refine⟨row.all id||(own&&row.any id),fun n m=>⟨?_,?_⟩⟩
  ·rw[Fy,j6,g8]
   cases ha:row.all id<;>cases own<;>simp[nD,e1,q1,bb,ha]
  ·obtain⟨b0,row',rfl⟩:∃b0 row',row=b0::row':=by
    cases row with
    |nil=>simp at hr;omega
    |cons b r=>exact⟨b,r,rfl⟩
   rw[Fx,cU,tells_eq]
   have i1:=vz true (b0::row')
   have i2:=vz false (b0::row')
   rw[vA]at i1
   rw[qp]at i2
   cases ha:(b0::row').all id with
   |true=>
    have hb0:b0=true:=by simp at ha;exact ha.1
    have hn:(b0::row').any id=true:=by simp[hb0]
    rw[hn]at i1
    rw[ha]at i2
    simp only[Qyz]at i1 i2 e2
    simp[gD,e2,q2,i1,i2,hb0]
    simp_all
   |false=>
    cases hn:(b0::row').any id with
    |true=>
     rw[hn]at i1
     rw[ha]at i2
     simp only[Qyz]at i1 i2 e2
     simp[gD,e2,q2,i1,i2]
    |false=>
     have hb0:b0=false:=by simp at hn;exact hn.1
     rw[hn]at i1
     rw[ha]at i2
     simp only[Qyz]at i1 i2 e2
     simp[gD,e2,q2,i1,i2,hb0]
     simp_all
 | @table k ys rs hs h1 h2 hr hi=>
  intro own
  obtain⟨row,_,e1,e2⟩:=lG h hl hs (.str "table") [.tup (rs.map aH)]
  obtain⟨b,eb⟩:=JM row rs
  refine⟨b,fun n m=>⟨?_,?_⟩⟩
  ·rw[Fy,j6,g8]
   simp[nD,e1,q1,eb]
  ·rw[Fx,cU,tells_eq]
   simp[gD,e2,q2,eb]
 | @held k d x bb hk hx ih=>
  intro own
  obtain⟨b,ib⟩:=ih own
  have i1:=fun n=>(ib n 0).1
  have i2:=fun m=>(ib 0 m).2
  have e:=fX h hl hx
  have hh:∀n,pg.fn (n+1+2*k+1) 16 [.val (.tup [.str "held",d,x,.bl bb]),.val (.bl own),.val (.cC xs (bs.map .bl))]=.ok (.val (.bl (if (cR xs bs x==b)==bb then b else own))) [.val (.tup [.str "held",d,x,.bl bb]),.val (.bl own),.val (.cC xs (bs.map .bl))]:=fun n=>by
   rw[wQ]
   cases hc:((cR xs bs x==b)==bb)<;>simp[nR,i1,e,hc]
  refine⟨if (cR xs bs x==b)==bb then b else own,fun n m=>⟨?_,?_⟩⟩
  ·rw[aei,j6,g8]
   simp[nD,hh]
  ·rw[<-Nat.add_assoc,cU,tells_eq]
   have hx2:(cR xs bs x==(b==bb))=((cR xs bs x==b)==bb):=by cases cR xs bs x<;>cases b<;>cases bb<;>rfl
   cases hc:((cR xs bs x==b)==bb)<;>rw[hc]at hx2<;>simp[gD,i2,e,hx2,aY,b2i]
end
end Tx
end
section
open PySem Mini
namespace Tx
section
variable{h g:Nat}{ks:List D}{ls bs:List Bool}
def GR:E:=.comp 2 (.tup [0,1]) AAc AAh (.var 0)
def GQ:E:=.comp 1 (.name 0) AAc AAn AAb
theorem Gr(O:bD h g ks ls)(hl:bs.length=(names h g).length):∃zs:List D,zs.Sublist (bZ g)/\∀n m:Nat,
  pg.fn (n+4) 14 [.val (aB h g ks ls),.val (aH bs)]=.ok (.new (.lst zs)) [.val (aB h g ks ls),.val (aH bs)]/\
  pg.fn (m+3) 43 [.val (aB h g ks ls),.val (aH bs)]=.ok (.new (.lst zs)) [.val (aB h g ks ls),.val (aH bs)]:=by
 have T:=b7 h g
 have Nd:=names_nodup O.h2 O.g1 O.g5
 have lg:=dG O.g5
 have lh:=gJ O.h2
 have ag:∀(k:D)(own:Bool),∃b,bM (names h g) 1 k->∀n m,Agree (names h g) bs (n+3) (m+2) k own b:=fun k own=>by
  by_cases hk:bM (names h g) 1 k
  ·obtain⟨b,z⟩:=Hd T hl hk own
   exact⟨b,fun _=>z⟩
  ·exact⟨true,fun z=>absurd z hk⟩
 have sk:∃F:D->Bool->Bool,∀k own,bM (names h g) 1 k->∀n m,Agree (names h g) bs (n+3) (m+2) k own (F k own):=
  ⟨fun k own=>Classical.choose (ag k own),fun k own=>Classical.choose_spec (ag k own)⟩
 obtain⟨F,hF⟩:=sk
 let p:D×D->Bool:=fun x=> !(F x.2 (cR (names h g) bs x.1)==cR (names h g) bs x.1)
 have mem:∀x∈(bZ g).zip ks,x.1∈names h g/\bM (names h g) 1 x.2:=fun x hx=>⟨QVq _ (List.of_mem_zip hx).1,O.kk x.2 (List.of_mem_zip hx).2⟩
 obtain⟨x0,ps,zeq⟩:∃x0 ps,(bZ g).zip ks=x0::ps:=by
  cases q:(bZ g).zip ks with
  |nil=>
   have:=congrArg List.length q
   rw[List.length_zip,lg,O.kl]at this
   have:=O.g1
   simp at*
   omega
  |cons x ps=>exact⟨x,ps,rfl⟩
 have dz:dictOf [] [] (aO (names h g) (bs.map .bl))=some (names h g,bs.map .bl):=Kq (by simpa using hl) T Nd
 refine⟨(((bZ g).zip ks).filter p).map (·.1),?_,fun n m=>?_⟩
 ·have s1:((((bZ g).zip ks).filter p).map (·.1)).Sublist (((bZ g).zip ks).map (·.1)):=(List.filter_sublist).map _
  have s2:((bZ g).zip ks).map (·.1)=bZ g:=List.map_fst_zip (by rw[lg,O.kl];exact QVz _)
  rw[s2]at s1
  exact s1
 have w1:pg.fn (n+3) 13 [.val (aB h g ks ls)]=.ok (.new (.lst (names h g))) [.val (aB h g ks ls)]:=
  eQ (n+2) (hd h) (bZ g) ks (.tup (ls.map .bl)) (by rw[O.kl,lg]) (by have:=O.h2;have:=O.g5;omega)
 have w2:pg.fn (m+2) 41 [.val (aB h g ks ls)]=.ok (.new (.lst (names h g))) [.val (aB h g ks ls)]:=
  lF (m+1) (hd h) (bZ g) ks (.tup (ls.map .bl)) (by rw[O.kl,lg]) (by have:=O.h2;have:=O.g5;omega)
 have e1:ev (pg.cf (n+3)) GR [.val (aB h g ks ls),.val (aH bs),.own (.dct (names h g) (bs.map .bl))]=.ok (.new (.lst ((((bZ g).zip ks).filter p).map (·.1)))) [.val (aB h g ks ls),.val (aH bs),.val (.cC (names h g) (bs.map .bl))]:=by
  rw[zeq]at mem⊢
  have c0:∀x,x∈x0::ps->∀s:Sl,(s=.own (.dct (names h g) (bs.map .bl))\/s=.val (.cC (names h g) (bs.map .bl)))->ev (pg.cf (n+3)) AAh [.val x.1,.val x.2,.val (aB h g ks ls),.val (aH bs),s]=.ok (.val (.bl (p x))) [.val x.1,.val x.2,.val (aB h g ks ls),.val (aH bs),.val (.cC (names h g) (bs.map .bl))]:=fun x hx s hs=>by
   obtain⟨m1,m2⟩:=mem x hx
   have gl:=fX T hl m1
   have a:=(hF x.2 (cR (names h g) bs x.1) m2 n m).1
   rcases hs with rfl|rfl<;>simp[gl,a,p]
  have it:items (.tup (aO (bZ g) ks))=some ((x0::ps).map pairD):=by show some _=some _;rw[cP,zeq]
  exact WD (·.1) p (r:=.val (.tup (aO (bZ g) ks))) (τ0:=[.val (aB h g ks ls),.val (aH bs),.own (.dct (names h g) (bs.map .bl))]) (by simp[aB]) rfl it (c0 x0 QYz _ (.inl rfl)) (fun x hx=>c0 x (QYq _ hx) _ (.inr rfl)) (fun x _ _=>by simp)
 have e2:ev (pg.cf (m+2)) GQ [.val (aB h g ks ls),.val (aH bs),.own (.dct (names h g) (bs.map .bl))]=.ok (.new (.lst ((((bZ g).zip ks).filter p).map (·.1)))) [.val (aB h g ks ls),.val (aH bs),.val (.cC (names h g) (bs.map .bl))]:=by
  rw[zeq]at mem⊢
  let p':D->Bool:=fun d=>match d with|.tup [a,k]=>p (a,k)|_=>false
  let f':D->D:=fun d=>match d with|.tup (a::_)=>a|_=>.non
  have fm:∀xs:List (D×D),((xs.map pairD).filter p').map f'=(xs.filter p).map (·.1):=by
   intro xs
   induction xs with
   |nil=>rfl
   |cons x xs ih=>
    have hp:p' (pairD x)=p x:=rfl
    rw[Qyz,List.filter_cons,List.filter_cons,hp]
    cases p x with
    |true=>simp only[if_true,Qyz,ih];rfl
    |false=>simp only[Qxq,if_false,ih]
  have c0:∀x,x∈x0::ps->∀s:Sl,(s=.own (.dct (names h g) (bs.map .bl))\/s=.val (.cC (names h g) (bs.map .bl)))->ev (pg.cf (m+2)) AAn [.val (pairD x),.val (aB h g ks ls),.val (aH bs),s]=.ok (.val (.bl (p' (pairD x)))) [.val (pairD x),.val (aB h g ks ls),.val (aH bs),.val (.cC (names h g) (bs.map .bl))]:=fun x hx s hs=>by
   obtain⟨m1,m2⟩:=mem x hx
   have gl:=fX T hl m1
   have a:=(hF x.2 (cR (names h g) bs x.1) m2 n m).2
   rcases hs with rfl|rfl<;>simp[gl,a,p',p,pairD]
  have it:items (.tup (aO (bZ g) ks))=some (pairD x0::ps.map pairD):=by show some _=some _;rw[cP,zeq];rfl
  have:=WK (c:=pg.cf (m+2)) (el:=.idx (.var 0) AAH) (it:=.idx (.var 0) AAG) (σ:=[.val (aB h g ks ls),.val (aH bs),.own (.dct (names h g) (bs.map .bl))]) (τ:=[.val (aB h g ks ls),.val (aH bs),.val (.cC (names h g) (bs.map .bl))]) f' p' (r:=.val (.tup (aO (bZ g) ks))) (τ0:=[.val (aB h g ks ls),.val (aH bs),.own (.dct (names h g) (bs.map .bl))]) (by simp[aB]) rfl it (c0 x0 QYz _ (.inl rfl)) (fun y hy=>by
   obtain⟨x,hx,rfl⟩:=QDq.mp hy
   exact c0 x (QYq _ hx) _ (.inr rfl)) (fun y hy _=>by
   rw[<-Qyz]at hy
   obtain⟨x,hx,rfl⟩:=QDq.mp hy
   simp[pairD,f'])
  rw[<-Qyz,fm]at this
  exact this
 refine⟨?_,?_⟩
 ·have hb:iT=⟨2,3,(.cons (.set 2 (.bi .dict ABk)) (.cons (.ret GR) .nil))⟩:=rfl
  have q:GR.aC=none:=rfl
  have z:bw (aH bs)=some (bs.map .bl):=rfl
  rw[oF,hb]
  simp[w1,z,dz,e1,q]
 ·have hb:jW=⟨2,3,(.cons ACG (.cons (.ret GQ) .nil))⟩:=rfl
  have q:GQ.aC=none:=rfl
  have z:bw (aH bs)=some (bs.map .bl):=rfl
  rw[rK,hb]
  simp[w2,z,dz,e2,q]
end
end Tx
end
section
open PySem Mini
namespace Tx
structure Wt(h g:Nat)(ks:List D)(ls:List Bool)(W:List Bool->List D):Prop where
 sub:∀bs,bs.length=(names h g).length->(W bs).Sublist (bZ g)
 pr:∀bs,bs.length=(names h g).length->∀n,pg.fn (n+4) 14 [.val (aB h g ks ls),.val (aH bs)]=.ok (.new (.lst (W bs))) [.val (aB h g ks ls),.val (aH bs)]
 lw:∀bs,bs.length=(names h g).length->∀n,pg.fn (n+3) 43 [.val (aB h g ks ls),.val (aH bs)]=.ok (.new (.lst (W bs))) [.val (aB h g ks ls),.val (aH bs)]
theorem Ys{h g:Nat}{ks:List D}{ls:List Bool}(O:bD h g ks ls):∃W,Wt h g ks ls W:=by
 have ag:∀bs:List Bool,∃zs:List D,bs.length=(names h g).length->zs.Sublist (bZ g)/\∀n m:Nat,pg.fn (n+4) 14 [.val (aB h g ks ls),.val (aH bs)]=.ok (.new (.lst zs)) [.val (aB h g ks ls),.val (aH bs)]/\pg.fn (m+3) 43 [.val (aB h g ks ls),.val (aH bs)]=.ok (.new (.lst zs)) [.val (aB h g ks ls),.val (aH bs)]:=fun bs=>by
  by_cases hl:bs.length=(names h g).length
  ·obtain⟨zs,z⟩:=Gr O hl
   exact⟨zs,fun _=>z⟩
  ·exact⟨[],fun z=>absurd z hl⟩
 exact⟨fun bs=>Classical.choose (ag bs),fun bs hl=>(Classical.choose_spec (ag bs) hl).1,fun bs hl n=>((Classical.choose_spec (ag bs) hl).2 n 0).1,fun bs hl n=>((Classical.choose_spec (ag bs) hl).2 0 n).2⟩
theorem m5{s:Str}{xs:List D}(h:cM xs):aW (.str s) xs=true↔D.str s∈xs:=by
 constructor
 ·intro z
  by_cases c:D.str s∈xs
  ·exact c
  ·rw[ql h c]at z;cases z
 ·intro z;exact oV z h
theorem zY{W L:List D}(s:W.Sublist L):cM L->L.Nodup->L.filter (fun x=>aW x W)=W:=by
 induction s with
 |slnil=>intro _ _;rfl
 | @cons l₁ l₂ a s ih=>
  intro t nd
  rw[List.nodup_cons]at nd
  obtain⟨q,rfl⟩:=t a QYz
  have t2:cM l₂:=fun x hx=>t x (QYq _ hx)
  have no:aW (.str q) l₁=false:=ql (fun x hx=>t2 x (s.subset hx)) fun z=>nd.1 (s.subset z)
  rw[List.filter_cons,no]
  exact ih t2 nd.2
 | @cons_cons l₁ l₂ a s ih=>
  intro t nd
  rw[List.nodup_cons]at nd
  obtain⟨q,rfl⟩:=t a QYz
  have t2:cM l₂:=fun x hx=>t x (QYq _ hx)
  have yes:aW (.str q) (D.str q::l₁)=true:=by simp[aW,cH]
  rw[List.filter_cons,yes,if_pos rfl]
  congr 1
  refine Eq.trans (List.filter_congr fun x hx=>?_) (ih t2 nd.2)
  obtain⟨u,rfl⟩:=t2 x hx
  have ne:¬q=u:=fun e=>nd.1 (by rw[e];exact hx)
  simp[aW,cH,ne]
abbrev St:=List Bool×Nat
def aF(s:St):D:=.tup [aH s.1,.int s.2]
section
variable{h g:Nat}{ks:List D}{ls:List Bool}{os:List D}{sts:List (List (D×Nat))}{W:List Bool->List D}
structure v7(h g:Nat)(sts:List (List (D×Nat)))(s:St):Prop where
 l:s.1.length=(names h g).length
 j:s.2<sts.length
def bR(h:Nat)(sts:List (List (D×Nat)))(W:List Bool->List D)(s:St):List D:=(hd h).filter (fun x=>(lk x (bA sts s.2)).isSome)++W s.1
theorem gw(h:Nat):cM (hd h):=fun x hx=>b7 h 0 x (QWz _ hx)
theorem lq(g:Nat):cM (bZ g):=fun x hx=>b7 0 g x (QVq _ hx)
theorem kY(hj:j<sts.length):bA sts j∈sts:=by simp[bA,hj]
theorem pB{j:Nat}(hj:j<sts.length):at? (sts.map dZ) (j:Int)=some (dZ (bA sts j)):=by
 rw[gK _ _ (by simpa using hj)]
 simp[bA,hj]
theorem eV(Wk:Wt h g ks ls W){s:St}(S:v7 h g sts s):(bR h sts W s).Sublist (names h g):=(List.filter_sublist).append (Wk.sub s.1 S.l)
theorem ie(T:bj h g os sts)(O:bD h g ks ls){j:Nat}(hj:j<sts.length):cM (fZ (bA sts j))/\(fZ (bA sts j)).Nodup:=by
 have:=(T.mv _ (kY hj)).1
 exact⟨fun x hx=>b7 h g x (T.sub.subset (this.subset hx)),this.nodup (T.sub.nodup (names_nodup O.h2 O.g1 O.g5))⟩
def stC:E:=.comp 1 (.name 0) AAb ABl (.var 0)
theorem nF(n:Nat)(O:bD h g ks ls)(T:bj h g os sts)(Wk:Wt h g ks ls W){s:St}(S:v7 h g sts s):
  pg.fn (n+5) 23 [.val (aB h g ks ls),.val (au os sts),.val (aF s)]=.ok (.new (.lst (bR h sts W s))) [.val (aB h g ks ls),.val (au os sts),.val (aF s)]:=by
 have K:=ie T O S.j
 have d:=iB (bA sts s.2) [] [] (by simpa using K.1) (by simpa using K.2)
 have e:ev (pg.cf (n+4)) stC [.val (aB h g ks ls),.val (au os sts),.val (aF s),.own (.dct (fZ (bA sts s.2)) (o5 (bA sts s.2)))]=.ok (.new (.lst ((hd h).filter fun x=>(lk x (bA sts s.2)).isSome))) [.val (aB h g ks ls),.val (au os sts),.val (aF s),.own (.dct (fZ (bA sts s.2)) (o5 (bA sts s.2)))]:=by
  have:=vV (c:=pg.cf (n+4)) (it:=.idx (.var 0) AAH) (co:=.cmp .isin (.var 0) (.var 4)) (el:=.var 0) (σ:=[.val (aB h g ks ls),.val (au os sts),.val (aF s),.own (.dct (fZ (bA sts s.2)) (o5 (bA sts s.2)))]) (τ:=[.val (aB h g ks ls),.val (au os sts),.val (aF s),.own (.dct (fZ (bA sts s.2)) (o5 (bA sts s.2)))]) (d:=.tup (hd h)) (xs:=hd h) (r:=.val (.tup (hd h))) (fun x=>x) (fun x=>(lk x (bA sts s.2)).isSome) (by simp[aB]) rfl rfl (fun x hx=>by
   obtain⟨q,rfl⟩:=gw h x hx
   have:aL .isin (.str q) (.cC (fZ (bA sts s.2)) (o5 (bA sts s.2)))=some (lk (.str q) (bA sts s.2)).isSome:=by rw[<-BR];rfl
   simp[this,Ob.d]) (fun x _ _=>by simp)
  rw[List.map_id']at this
  exact this
 have w:=Wk.pr s.1 S.l n
 have t1:getD (au os sts) (.int 1)=some (.tup (sts.map dZ)):=by simp[au]
 have s0:getD (aF s) (.int 0)=some (aH s.1):=by simp[aF]
 have s1:getD (aF s) (.int 1)=some (.int s.2):=by simp[aF]
 have st:=pB S.j
 have sl:=(eV Wk S).length_le
 have nl:=eG (g:=g) O.h2 O.g5
 have h2:=O.h2
 have g5:=O.g5
 have f:fits (((hd h).filter fun x=>(lk x (bA sts s.2)).isSome).length+(W s.1).length)=true:=by
  simp only[bR,QTq]at sl
  simp[fits]
  omega
 have hb:qQ=⟨3,4,(.cons (.set 3 (.bi .dict AAs)) (.cons (.ret (.op .add stC (.call 14 ABd))) .nil))⟩:=rfl
 rw[zb,hb]
 simp[t1,s0,s1,st,dZ,d,e,w,f,bR]
end
end Tx
end
section
open PySem Mini
namespace Tx
section
variable{h g:Nat}{ks:List D}{ls:List Bool}{os:List D}{sts:List (List (D×Nat))}{W:List Bool->List D}
theorem Jp{x:D}:∀{st:List (D×Nat)},cM (fZ st)->(∃s,x=.str s)->((lk x st).isSome=true↔x∈fZ st)
 |[],_,_=>by simp[lk]
 |m::st,t,⟨s,hs⟩=>by
  subst hs
  rw[<-BR,m5 t]
def lsM:E:=.comp 1 (.name 0) AAs (.cmp .isin AAb ABH) AAb
def lsN:E:=.comp 1 (.name 0) ADM ABl (.var 0)
def Cv(h:Nat)(st:List (D×Nat)):List D:=(st.filter fun m=>aW m.1 (hd h)).map (·.1)
theorem lN(n:Nat)(O:bD h g ks ls):pg.fn (n+1) 41 [.val (aB h g ks ls)]=.ok (.new (.lst (names h g))) [.val (aB h g ks ls)]:=
 lF n (hd h) (bZ g) ks (.tup (ls.map .bl)) (by rw[O.kl,dG O.g5]) (by rw[gJ O.h2,dG O.g5];have:=O.h2;have:=O.g5;omega)
theorem xW(O:bD h g ks ls){x:D}(hx:x∈hd h):x∉bZ g:=fun hs=>by
 have nd:=names_nodup O.h2 O.g1 O.g5
 rw[names,List.nodup_append]at nd
 exact nd.2.2 _ hx _ hs rfl
theorem Hm(O:bD h g ks ls)(T:bj h g os sts)(Wk:Wt h g ks ls W){s:St}(S:v7 h g sts s):(names h g).filter (fun x=>aW x (Cv h (bA sts s.2)++W s.1))=bR h sts W s:=by
 have K:=ie T O S.j
 have ws:=Wk.sub s.1 S.l
 have tW:cM (W s.1):=fun x hx=>lq g x (ws.subset hx)
 have iA:cM (Cv h (bA sts s.2)):=fun x hx=>by
  obtain⟨m,hm,rfl⟩:=QDq.mp hx
  exact K.1 m.1 (QTz (List.mem_filter.mp hm).1)
 have tI:cM (Cv h (bA sts s.2)++W s.1):=fun x hx=>by
  rcases QXz.mp hx with z|z
  ·exact iA x z
  ·exact tW x z
 have hI:∀q:Str,D.str q∈Cv h (bA sts s.2)↔D.str q∈hd h/\D.str q∈fZ (bA sts s.2):=fun q=>by
  constructor
  ·intro z
   obtain⟨m,hm,e⟩:=QDq.mp z
   obtain⟨a,b⟩:=List.mem_filter.mp hm
   rw[e]at b
   exact⟨(m5 (gw h)).mp b,by rw[<-e];exact QTz a⟩
  ·rintro ⟨a,b⟩
   obtain⟨m,hm,e⟩:=QDq.mp b
   refine QDq.mpr ⟨m,List.mem_filter.mpr ⟨hm,?_⟩,e⟩
   rw[show m.1=D.str q from e]
   exact(m5 (gw h)).mpr a
 rw[names,List.filter_append,bR]
 congr 1
 ·refine List.filter_congr fun x hx=>?_
  obtain⟨q,rfl⟩:=gw h x hx
  rw[Bool.eq_iff_iff,m5 tI,Jp K.1 ⟨q,rfl⟩,QXz,hI]
  exact⟨fun z=>z.elim (fun a=>a.2) fun a=>absurd (ws.subset a) (xW O hx),fun z=>.inl ⟨hx,z⟩⟩
 ·refine Eq.trans (List.filter_congr fun x hx=>?_) (zY ws (lq g) ((List.sublist_append_right (hd h) (bZ g)).nodup (names_nodup O.h2 O.g1 O.g5)))
  obtain⟨q,rfl⟩:=lq g x hx
  rw[Bool.eq_iff_iff,m5 tI,m5 tW,QXz,hI]
  exact⟨fun z=>z.elim (fun a=>absurd hx (xW O a.1)) fun a=>a,.inr⟩
theorem jt{q:Str}{xs:List D}(t:cM xs):aL .isin (.str q) (.lst xs)=some (aW (.str q) xs)/\aL .isin (.str q) (.tup xs)=some (aW (.str q) xs)/\aL .notin (.str q) (.tup xs)=some (!aW (.str q) xs):=by
 have o:fL (.str q) xs=true:=by unfold fL;rw[m8 t];rfl
 refine⟨?_,?_,?_⟩
 ·show(if fL (.str q) xs then some (aW (.str q) xs)else none)=_;rw[o];rfl
 ·show(if fL (.str q) xs then some (aW (.str q) xs)else none)=_;rw[o];rfl
 ·show(if fL (.str q) xs then some (!aW (.str q) xs)else none)=_;rw[o];rfl
theorem fY(p:D->Bool):∀st:List (D×Nat),((st.map kE).filter fun d=>match d with|.tup (a::_)=>p a|_=>false).map m7=(st.filter fun m=>p m.1).map (·.1)
 |[]=>rfl
 |m::st=>by
  rw[Qyz,List.filter_cons,List.filter_cons,show(match kE m with|.tup (a::_)=>p a|_=>false)=p m.1 from rfl]
  cases p m.1
  ·exact fY p st
  ·simp only[if_true,Qyz,fY p st];rfl
theorem lE(n:Nat)(O:bD h g ks ls)(T:bj h g os sts)(Wk:Wt h g ks ls W){s:St}(S:v7 h g sts s):
  pg.fn (n+4) 44 [.val (aB h g ks ls),.val (au os sts),.val (aF s)]=.ok (.new (.lst (bR h sts W s))) [.val (aB h g ks ls),.val (au os sts),.val (aF s)]:=by
 have K:=ie T O S.j
 have t1:getD (au os sts) (.int 1)=some (.tup (sts.map dZ)):=by simp[au]
 have n0:getD (aB h g ks ls) (.int 0)=some (.tup (hd h)):=by simp[aB]
 have s0:getD (aF s) (.int 0)=some (aH s.1):=by simp[aF]
 have s1:getD (aF s) (.int 1)=some (.int s.2):=by simp[aF]
 have st:=pB S.j
 have w:=Wk.lw s.1 S.l n
 have e1:ev (pg.cf (n+3)) lsM [.val (aB h g ks ls),.val (au os sts),.val (aF s),.un]=.ok (.new (.lst (Cv h (bA sts s.2)))) [.val (aB h g ks ls),.val (au os sts),.val (aF s),.un]:=by
  have:=vV (c:=pg.cf (n+3)) (it:=.idx (.idx (.var 1) AAG) AAf) (co:=.cmp .isin AAb ABH) (el:=.idx (.var 0) AAH) (σ:=[.val (aB h g ks ls),.val (au os sts),.val (aF s),.un]) (τ:=[.val (aB h g ks ls),.val (au os sts),.val (aF s),.un]) (d:=dZ (bA sts s.2)) (xs:=(bA sts s.2).map kE) (r:=.val (dZ (bA sts s.2))) m7 (fun d=>match d with|.tup (a::_)=>aW a (hd h)|_=>false) (by simp[t1,s1,st]) rfl rfl (fun x hx=>by
   obtain⟨m,hm,rfl⟩:=QDq.mp hx
   obtain⟨q,eq⟩:=K.1 m.1 (QTz hm)
   have i:=(jt (q:=q) (gw h)).2.1
   simp[kE,n0,eq,i]) (fun x hx _=>by
   obtain⟨m,hm,rfl⟩:=QDq.mp hx
   simp[kE,m7])
  rw[fY fun a=>aW a (hd h)]at this
  exact this
 have tI:cM (Cv h (bA sts s.2)++W s.1):=fun x hx=>by
  rcases QXz.mp hx with z|z
  ·obtain⟨m,hm,rfl⟩:=QDq.mp z
   exact K.1 m.1 (QTz (List.mem_filter.mp hm).1)
  ·exact lq g x ((Wk.sub s.1 S.l).subset z)
 have ln:=lN (n+2) O
 have e2:ev (pg.cf (n+3)) lsN [.val (aB h g ks ls),.val (au os sts),.val (aF s),.own (.lst (Cv h (bA sts s.2)++W s.1))]=.ok (.new (.lst (bR h sts W s))) [.val (aB h g ks ls),.val (au os sts),.val (aF s),.own (.lst (Cv h (bA sts s.2)++W s.1))]:=by
  have:=vV (c:=pg.cf (n+3)) (it:=.call 41 AAR) (co:=.cmp .isin (.var 0) (.var 4)) (el:=.var 0) (σ:=[.val (aB h g ks ls),.val (au os sts),.val (aF s),.own (.lst (Cv h (bA sts s.2)++W s.1))]) (τ:=[.val (aB h g ks ls),.val (au os sts),.val (aF s),.own (.lst (Cv h (bA sts s.2)++W s.1))]) (d:=.lst (names h g)) (xs:=names h g) (r:=.new (.lst (names h g))) (fun x=>x) (fun x=>aW x (Cv h (bA sts s.2)++W s.1)) (by simp[ln]) rfl rfl (fun x hx=>by
   obtain⟨q,rfl⟩:=b7 h g x hx
   have i:=(jt (q:=q) tI).1
   simp[i,Ob.d]) (fun x _ _=>by simp)
  rw[List.map_id',Hm O T Wk S]at this
  exact this
 have f:fits ((Cv h (bA sts s.2)).length+(W s.1).length)=true:=by
  have a:(Cv h (bA sts s.2)).length<=(bA sts s.2).length:=by rw[Cv,QAq];exact List.length_filter_le _ _
  have b:=(T.mv _ (kY S.j)).1.length_le
  have c:=(Wk.sub s.1 S.l).length_le
  have d:=T.sub.length_le
  have nl:=eG (g:=g) O.h2 O.g5
  have h2:=O.h2
  have g5:=O.g5
  have:=dG O.g5
  simp at b
  simp only[QTq]at d
  simp[fits]
  omega
 have hb:nY=⟨3,4,(.cons (.set 3 lsM) (.cons ACo (.cons (.ret lsN) .nil)))⟩:=rfl
 have q:lsN.aC=none:=rfl
 rw[wV,hb]
 simp[e1,w,s0,f,Ob.d,e2,q]
end
end Tx
end
section
open PySem Mini
namespace Tx
section
variable{h g:Nat}{ks:List D}{ls:List Bool}{os:List D}{sts:List (List (D×Nat))}{W:List Bool->List D}
def di(xs:List D)(bs:List Bool)(x:D):List Bool:=(xs.zip bs).map fun p=>if cH p.1 x then !p.2 else p.2
theorem qx{xs:List D}{bs:List Bool}(hl:bs.length=xs.length)(x:D):(di xs bs x).length=xs.length:=by simp[di,hl]
def chF(x:D)(p:D×D):D:=match p.2 with
 |.bl b=>.bl (if cH p.1 x then !b else b)
 |d=>d
theorem Dn(x:D):∀(xs:List D)(bs:List Bool),(xs.zip (bs.map D.bl)).map (chF x)=(di xs bs x).map .bl
 |[],bs=>by simp[di]
 |_::_,[]=>by simp[di]
 |y::xs,b::bs=>by
  have:=Dn x xs bs
  simp only[di]at this⊢
  simp[chF,this]
def chC:E:=.comp 2 (.tup [0,1]) ABk AAL (.ite ACX (.not (.var 1)) (.var 1))
theorem Af(n:Nat)(O:bD h g ks ls){bs:List Bool}(hl:bs.length=(names h g).length){x:D}(hx:∃s,x=.str s):
  pg.fn (n+2) 26 [.val (aB h g ks ls),.val (aH bs),.val x]=.ok (.val (aH (di (names h g) bs x))) [.val (aB h g ks ls),.val (aH bs),.val x]:=by
 obtain⟨q,rfl⟩:=hx
 have w:pg.fn (n+1) 13 [.val (aB h g ks ls)]=.ok (.new (.lst (names h g))) [.val (aB h g ks ls)]:=
  eQ n (hd h) (bZ g) ks (.tup (ls.map .bl)) (by rw[O.kl,dG O.g5]) (by rw[gJ O.h2,dG O.g5];have:=O.h2;have:=O.g5;omega)
 have e:ev (pg.cf (n+1)) chC [.val (aB h g ks ls),.val (aH bs),.val (.str q)]=.ok (.new (.lst ((di (names h g) bs (.str q)).map .bl))) [.val (aB h g ks ls),.val (aH bs),.val (.str q)]:=by
  have:=R3 (c:=pg.cf (n+1)) (it:=.zip (.call 13 AAR) (.var 1)) (el:=.ite ACX (.not (.var 1)) (.var 1)) (σ:=[.val (aB h g ks ls),.val (aH bs),.val (.str q)]) (τ:=[.val (aB h g ks ls),.val (aH bs),.val (.str q)]) (d:=.lst (aO (names h g) (bs.map .bl))) (ps:=(names h g).zip (bs.map .bl)) (r:=.val (.lst (aO (names h g) (bs.map .bl)))) (chF (.str q)) (by
    have z:bw (aH bs)=some (bs.map .bl):=rfl
    simp[w,z]) rfl (by show some _=some _;rw[cP]) (fun p hp=>by
    obtain⟨u,eu⟩:=b7 h g p.1 (List.of_mem_zip hp).1
    obtain⟨b,_,eb⟩:=QDq.mp (List.of_mem_zip hp).2
    rw[<-eb,eu]
    have e1:chF (.str q) p=.bl (if decide (u=q)then !b else b):=by
     unfold chF
     rw[<-eb,eu]
     rfl
    rw[e1]
    cases c:decide (u=q)<;>simp[c])
  rw[Dn]at this
  exact this
 have hb:uN=⟨3,3,(.cons (.ret (.bi .tuple chC)) .nil)⟩:=rfl
 have qv:chC.aC=none:=rfl
 rw[Eu,hb]
 simp[e,qv]
 rfl
theorem tE:∀(L pre:List D),(bI pre.length L.length).map (fun d=>match d with|.int i=>(pre++L).getD i.toNat .non|_=>.non)=L
 |[]=>fun pre=>rfl
 |x::L=>fun pre=>by
  have:=tE L (pre++[x])
  simp only[QTq,QBq,List.length_nil,List.append_assoc,List.cons_append,List.nil_append]at this
  simp only[QBq,bI,Qyz]
  rw[show((pre.length:Int)+1)=((pre.length+(0+1):Nat):Int) by simp,this]
  simp[List.getD]
def fgC:E:=.comp 1 (.name 0) (.range1 ADN) AAL ABf
theorem tB:∀(n:Nat)(lo:Int)(x:D),x∈bI lo n->∃j:Nat,j<n/\x=.int (lo+j)
 |0=>fun _ _ h=>by cases h
 |n+1=>fun lo x h=>by
  rcases QCq.mp h with rfl|h
  ·exact⟨0,by omega,by simp⟩
  ·obtain⟨j,hj,rfl⟩:=tB n (lo+1) x h
   exact⟨j+1,by omega,by congr 1;omega⟩
theorem Qf(n:Nat)(O:bD h g ks ls)(T:D){s:St}(S:v7 h g sts s){q:Str}(s5 s6 s7:Sl):
  ev (pg.cf n) fgC [.val (aB h g ks ls),.val T,.val (aF s),.val (.str q),.own (.lst (names h g)),s5,s6,s7]=.ok (.new (.lst ((di (names h g) s.1 (.str q)).map .bl))) [.val (aB h g ks ls),.val T,.val (aF s),.val (.str q),.own (.lst (names h g)),s5,s6,s7]:=by
 have nl:=eG (g:=g) O.h2 O.g5
 have h2:=O.h2
 have g5:=O.g5
 have fl:=qx S.l (.str q)
 have f1:fits (names h g).length=true:=by simp[fits];omega
 have f2:tY (names h g).length=true:=by simp[tY];omega
 have s0:getD (aF s) (.int 0)=some (aH s.1):=by simp[aF]
 have:=uz (c:=pg.cf n) (it:=.range1 ADN) (el:=.cmp .ne (.idx (.idx (.var 3) AAH) (.var 0)) (.cmp .eq (.idx (.var 5) (.var 0)) (.var 4))) (σ:=[.val (aB h g ks ls),.val T,.val (aF s),.val (.str q),.own (.lst (names h g)),s5,s6,s7]) (τ:=[.val (aB h g ks ls),.val T,.val (aF s),.val (.str q),.own (.lst (names h g)),s5,s6,s7]) (d:=.lst (bI 0 (names h g).length)) (xs:=bI 0 (names h g).length) (r:=.val (.lst (bI 0 (names h g).length))) (fun d=>match d with|.int i=>([]++(di (names h g) s.1 (.str q)).map D.bl).getD i.toNat .non|_=>.non) (by simp[f1,f2,Ob.d]) rfl rfl (fun x hx=>by
  obtain⟨j,hj,rfl⟩:=tB _ _ _ hx
  have hb:j<s.1.length:=by rw[S.l];exact hj
  obtain⟨u,eu⟩:=b7 h g _ (List.getElem_mem hj)
  have a1:at? (names h g) (j:Int)=some (.str u):=by rw[gK _ _ hj,QXq hj,eu]
  have a2:at? (s.1.map D.bl) (j:Int)=some (.bl s.1[j]):=by rw[gK _ _ (by simpa using hb)];simp[hb]
  have a3:getD (aH s.1) (.int j)=some (.bl s.1[j]):=by simpa[aH]using a2
  have fj:(di (names h g) s.1 (.str q)).length=(names h g).length:=fl
  have v:([]++(di (names h g) s.1 (.str q)).map D.bl).getD ((0:Int)+(j:Int)).toNat .non=.bl (!(s.1[j]==decide (u=q))):=by
   rw[List.nil_append,Int.zero_add,Int.toNat_natCast,List.getD_eq_getElem?_getD,QFz,QXq (by rw[fj];exact hj)]
   have e2:cH (names h g)[j] (.str q)=decide (u=q):=by rw[eu];rfl
   simp only[di,List.getElem_map,List.getElem_zip,Option.map_some,Option.getD_some,e2]
   cases decide (u=q)<;>cases s.1[j]<;>rfl
  simp only[v]
  simp[s0,a3,a1,Ob.d])
 have fl':((di (names h g) s.1 (.str q)).map D.bl).length=(names h g).length:=by rw[QAq,fl]
 have rg:=tE ((di (names h g) s.1 (.str q)).map D.bl) []
 rw[fl']at rg
 rw[show((([]:List D).length:Nat):Int)=0 from rfl]at rg
 rw[rg]at this
 exact this
end
end Tx
end
section
open PySem Mini
namespace Tx
section
variable{h g:Nat}{ks:List D}{ls:List Bool}{os:List D}{sts:List (List (D×Nat))}{W:List Bool->List D}
def p6(h g:Nat)(os:List D)(sts:List (List (D×Nat)))(s:St)(x:D):Option St:=
 if aW x (hd h)||aW x os then(lk x (bA sts s.2)).map fun j=>(di (names h g) s.1 x,j)else some (di (names h g) s.1 x,s.2)
def j7:Option St->D
 |none=>.non
 |some s=>aF s
theorem sdE(a:List Bool)(j:Nat):D.tup [aH a,.int j]=aF (a,j):=rfl
theorem oR(T:bj h g os sts):cM os:=fun x hx=>lq g x (T.ou.subset hx)
theorem Rw{x:D}{N:Nat}:∀{st:List (D×Nat)},(∀m∈st,m.2<N)->∀{j:Nat},lk x st=some j->j<N
 |[],_,_,e=>by cases e
 |m::st,hm,j,e=>by
  simp only[lk]at e
  split at e
  ·cases e;exact hm m QYz
  ·exact Rw (fun q hq=>hm q (QYq _ hq)) e
theorem zK(T:bj h g os sts){s s':St}(S:v7 h g sts s){x:D}(e:p6 h g os sts s x=some s'):v7 h g sts s':=by
 unfold p6 at e
 split at e
 ·obtain⟨j,hj,rfl⟩:=QJz.mp e
  exact⟨qx S.l x,Rw (T.mv _ (kY S.j)).2 hj⟩
 ·cases e
  exact⟨qx S.l x,S.j⟩
theorem yK(n:Nat)(O:bD h g ks ls)(T:bj h g os sts){s:St}(S:v7 h g sts s)(q:Str):
  pg.fn (n+1) 24 [.val (au os sts),.val (aF s),.val (.str q)]=.ok (.val (.bl (aW (.str q) os&& !(lk (.str q) (bA sts s.2)).isSome))) [.val (au os sts),.val (aF s),.val (.str q)]:=by
 have K:=ie T O S.j
 have d:=iB (bA sts s.2) [] [] (by simpa using K.1) (by simpa using K.2)
 have t0:getD (au os sts) (.int 0)=some (.tup os):=by simp[au]
 have t1:getD (au os sts) (.int 1)=some (.tup (sts.map dZ)):=by simp[au]
 have s1:getD (aF s) (.int 1)=some (.int s.2):=by simp[aF]
 have st:=pB S.j
 have i:=(jt (q:=q) (oR T)).2.1
 have i2:aL .notin (.str q) (.cC (fZ (bA sts s.2)) (o5 (bA sts s.2)))=some (!(lk (.str q) (bA sts s.2)).isSome):=by rw[<-BR];rfl
 rw[u0]
 cases c:aW (.str q) os<;>rw[c]at i<;>simp[lW,t0,i,t1,s1,st,dZ,d,Ob.d,i2]
theorem Pj(O:bD h g ks ls)(T:bj h g os sts)(Wk:Wt h g ks ls W){s:St}(S:v7 h g sts s){q:Str}(hx:D.str q∈bR h sts W s):(aW (.str q) os&& !(lk (.str q) (bA sts s.2)).isSome)=true/\p6 h g os sts s (.str q)=none\/(aW (.str q) os&& !(lk (.str q) (bA sts s.2)).isSome)=false/\p6 h g os sts s (.str q)=some (di (names h g) s.1 (.str q),(lk (.str q) (bA sts s.2)).getD s.2):=by
 have K:=ie T O S.j
 unfold p6
 rcases QXz.mp hx with z|z
 ·obtain⟨z1,z2⟩:=List.mem_filter.mp z
  have no:aW (.str q) os=false:=ql (oR T) fun w=>xW O z1 (T.ou.subset w)
  have yes:aW (.str q) (hd h)=true:=oV z1 (gw h)
  rw[no,yes]
  obtain⟨j,hj⟩:=Option.isSome_iff_exists.mp z2
  rw[hj]
  exact .inr ⟨rfl,rfl⟩
 ·have zr:=(Wk.sub s.1 S.l).subset z
  have no:aW (.str q) (hd h)=false:=ql (gw h) fun w=>xW O w zr
  rw[no]
  cases ho:aW (.str q) os with
  |true=>
   cases hj:lk (.str q) (bA sts s.2)with
   |none=>exact .inl ⟨rfl,rfl⟩
   |some j=>exact .inr ⟨rfl,rfl⟩
  |false=>
   have hn:lk (.str q) (bA sts s.2)=none:=by
    cases hj:lk (.str q) (bA sts s.2)with
    |none=>rfl
    |some j=>
     have m:=(Jp K.1 ⟨q,rfl⟩).mp (by rw[hj];rfl)
     rcases QXz.mp ((T.mv _ (kY S.j)).1.subset m)with w|w
     ·exact absurd zr (xW O w)
     ·rw[oV w (oR T)]at ho;cases ho
   rw[hn]
   exact .inr ⟨rfl,rfl⟩
theorem Ft(n:Nat)(O:bD h g ks ls)(T:bj h g os sts)(Wk:Wt h g ks ls W){s:St}(S:v7 h g sts s){x:D}(hx:x∈bR h sts W s):
  pg.fn (n+3) 25 [.val (aB h g ks ls),.val (au os sts),.val (aF s),.val x]=.ok (.val (j7 (p6 h g os sts s x))) [.val (aB h g ks ls),.val (au os sts),.val (aF s),.val x]:=by
 have K:=ie T O S.j
 have d:=iB (bA sts s.2) [] [] (by simpa using K.1) (by simpa using K.2)
 obtain⟨q,rfl⟩:=b7 h g x ((eV Wk S).subset hx)
 have u:=yK (n+1) O T S q
 have c:=Af n O S.l ⟨q,rfl⟩
 have t1:getD (au os sts) (.int 1)=some (.tup (sts.map dZ)):=by simp[au]
 have s0:getD (aF s) (.int 0)=some (aH s.1):=by simp[aF]
 have s1:getD (aF s) (.int 1)=some (.int s.2):=by simp[aF]
 have st:=pB S.j
 have gt:uw (.cC (fZ (bA sts s.2)) (o5 (bA sts s.2))) (.str q) (.int s.2)=some (.int ((lk (.str q) (bA sts s.2)).getD s.2)):=by
  show(if keyOk (.str q)then some ((cN (.str q) (fZ (bA sts s.2)) (o5 (bA sts s.2))).getD (.int s.2))else none)=_
  rw[BP]
  cases lk (.str q) (bA sts s.2)<;>rfl
 have key:=Pj O T Wk S hx
 rw[HR]
 rcases key with ⟨k1,k2⟩|⟨k1,k2⟩
 ·rw[k1]at u
  rw[k2]
  simp[qR,u,j7]
 ·rw[k1]at u
  rw[k2]
  simp[qR,u,t1,s0,s1,st,dZ,d,Ob.d,c,jU,gt,aY,j7,sdE]
def XF:S:=(.cons (.ite (.cmp .eq (.var 6) (.var 3)) ABz .nil) .nil)
theorem Ry(c:Cf)(a b e F:D)(N:Sl){q:Str}:∀(st:List (D×Nat))(s6 s7:Sl),cM (fZ st)->cG s6->cG s7->
  (∀j,lk (.str q) st=some j->∃s6' s7',bH (.tup [6,7]) (ex c XF) (st.map kE) [.val a,.val b,.val e,.val (.str q),N,.val F,s6,s7]=.ret (.val (.tup [F,.int j])) [.val a,.val b,.val e,.val (.str q),N,.val F,s6',s7'])/\
  (lk (.str q) st=none->∃s6' s7',bH (.tup [6,7]) (ex c XF) (st.map kE) [.val a,.val b,.val e,.val (.str q),N,.val F,s6,s7]=.next [.val a,.val b,.val e,.val (.str q),N,.val F,s6',s7'])
 |[]=>fun s6 s7 _ _ _=>⟨fun j z=>(by cases z),fun _=>⟨s6,s7,rfl⟩⟩
 |m::st=>fun s6 s7 t h6 h7=>by
  obtain⟨u,eu⟩:=t m.1 QYz
  have tt:bT (.tup [6,7]) (kE m) [.val a,.val b,.val e,.val (.str q),N,.val F,s6,s7]=some [.val a,.val b,.val e,.val (.str q),N,.val F,.val m.1,.val (.int m.2)]:=by
   rcases h6 with rfl|⟨d,rfl⟩<;>rcases h7 with rfl|⟨d,rfl⟩<;>simp[bT,gF,cQ,kE]
  have ih:=Ry c a b e F N (q:=q) st (.val m.1) (.val (.int m.2)) (fun x hx=>t x (QYq _ hx)) (.inr ⟨_,rfl⟩) (.inr ⟨_,rfl⟩)
  rw[Qyz,bH,tt]
  have e1:lk (.str q) (m::st)=if decide (u=q)then some m.2 else lk (.str q) st:=by rw[lk,eu];rfl
  rw[e1,eu]at*
  by_cases cq:u=q
  ·subst cq
   refine⟨fun j z=>?_,fun z=>by simp at z⟩
   simp at z
   subst z
   exact⟨.val (.str u),.val (.int m.2),by simp[XF,aY]⟩
  ·have sk:(ex c XF [.val a,.val b,.val e,.val (.str q),N,.val F,.val (.str u),.val (.int m.2)])=.next [.val a,.val b,.val e,.val (.str q),N,.val F,.val (.str u),.val (.int m.2)]:=by simp[XF,cq]
   simp only[sk]
   simp only[cq,decide_false,Qxq,if_false]
   exact ih
theorem zL(n:Nat)(O:bD h g ks ls)(T:bj h g os sts){s:St}(S:v7 h g sts s){x:D}(hx:∃q,x=.str q):
  pg.fn (n+2) 45 [.val (aB h g ks ls),.val (au os sts),.val (aF s),.val x]=.ok (.val (j7 (p6 h g os sts s x))) [.val (aB h g ks ls),.val (au os sts),.val (aF s),.val x]:=by
 obtain⟨q,rfl⟩:=hx
 have K:=ie T O S.j
 have ln:=lN n O
 have n0:getD (aB h g ks ls) (.int 0)=some (.tup (hd h)):=by simp[aB]
 have t0:getD (au os sts) (.int 0)=some (.tup os):=by simp[au]
 have t1:getD (au os sts) (.int 1)=some (.tup (sts.map dZ)):=by simp[au]
 have s1:getD (aF s) (.int 1)=some (.int s.2):=by simp[aF]
 have st:=pB S.j
 have i1:=(jt (q:=q) (gw h)).2.2
 have i2:=(jt (q:=q) (oR T)).2.2
 have fe:=Qf (n+1) O (au os sts) S (q:=q) .un .un .un
 have lg:=Ry (pg.cf (n+1)) (aB h g ks ls) (au os sts) (aF s) (aH (di (names h g) s.1 (.str q))) (.own (.lst (names h g))) (q:=q) (bA sts s.2) .un .un K.1 (.inl rfl) (.inl rfl)
 have it:items (dZ (bA sts s.2))=some ((bA sts s.2).map kE):=rfl
 have rd:D.tup ((di (names h g) s.1 (.str q)).map D.bl)=aH (di (names h g) s.1 (.str q)):=rfl
 have hb:uI=⟨4,8,(.cons (.set 4 ADM) (.cons (.set 5 (.bi .tuple fgC)) (.cons (.ite ABo ACO .nil) (.cons (.for_ (.tup [6,7]) AAs XF) (.cons ACH .nil)))))⟩:=rfl
 have qv:fgC.aC=none:=rfl
 rw[Em,hb]
 unfold p6
 cases c1:aW (.str q) (hd h)with
 |false=>
  cases c2:aW (.str q) os with
  |false=>
   rw[c1]at i1
   rw[c2]at i2
   simp[ln,fe,qv,rd,n0,t0,i1,i2,s1,aY,j7,sdE]
  |true=>
   rw[c1]at i1
   rw[c2]at i2
   cases hj:lk (.str q) (bA sts s.2)with
   |none=>
    obtain⟨s6,s7,e⟩:=lg.2 hj
    simp[ln,fe,qv,rd,n0,t0,i1,i2,t1,s1,st,it,e,j7]
   |some j=>
    obtain⟨s6,s7,e⟩:=lg.1 j hj
    simp[ln,fe,qv,rd,n0,t0,i1,i2,t1,s1,st,it,e,j7,sdE]
 |true=>
  rw[c1]at i1
  cases hj:lk (.str q) (bA sts s.2)with
  |none=>
   obtain⟨s6,s7,e⟩:=lg.2 hj
   simp[ln,fe,qv,rd,n0,i1,t1,s1,st,it,e,j7]
  |some j=>
   obtain⟨s6,s7,e⟩:=lg.1 j hj
   simp[ln,fe,qv,rd,n0,i1,t1,s1,st,it,e,j7,sdE]
end
end Tx
end
section
open PySem Mini
namespace Tx
abbrev Rs:=List (St×List D)
def kD(R:Rs):List D:=R.map fun p=>aF p.1
def vD(R:Rs):List D:=R.map fun p=>.lst p.2
theorem zM(R N:Rs):kD (R++N)=kD R++kD N:=List.map_append
theorem Th(R N:Rs):vD (R++N)=vD R++vD N:=List.map_append
theorem mX(R:Rs):(kD R).length=R.length:=QAq _
theorem Bp:∀a b:List Bool,iZ (a.map .bl) (b.map .bl)=decide (a=b)
 |[],[]=>rfl
 |[],_::_=>rfl
 |_::_,[]=>rfl
 |x::a,y::b=>by
  simp only[Qyz,iZ,cH,Bp a b,List.cons.injEq]
  by_cases e:x=y<;>by_cases e':a=b<;>simp[e,e']
theorem Bh(a b:St):cH (aF a) (aF b)=decide (a=b):=by
 obtain⟨a,i⟩:=a
 obtain⟨b,j⟩:=b
 simp only[aF,aH,cH,iZ,Bp,Bool.and_true,Prod.mk.injEq]
 by_cases e:a=b<;>by_cases e':i=j<;>simp[e,e']<;>omega
theorem JV(t:St):∀R:Rs,aW (aF t) (kD R)=decide (t∈R.map (·.1))
 |[]=>by simp[kD,aW]
 |p::R=>by
  have:=JV t R
  simp only[kD]at this
  simp only[kD,Qyz,aW,Bh,this,QCq]
  by_cases e:p.1=t
  ·simp[e]
  ·have:¬t=p.1:=fun z=>e z.symm
   simp[e,this]
def Jq(s:St):Rs->Option (List D)
 |[]=>none
 |p::R=>if p.1=s then some p.2 else Jq s R
theorem Rx(s:St):∀R:Rs,cN (aF s) (kD R) (vD R)=(Jq s R).map D.lst
 |[]=>rfl
 |p::R=>by
  have:=Rx s R
  simp only[kD,vD]at this
  simp only[kD,vD,Qyz,cN,Bh,this,Jq]
  by_cases e:p.1=s<;>simp[e]
theorem BV{s:St}{r:List D}(N:Rs):∀{R:Rs},Jq s R=some r->Jq s (R++N)=some r
 |[]=>fun e=>by cases e
 |p::R=>fun e=>by
  simp only[List.cons_append,Jq]at e⊢
  split
  ·rename_i z;rw[if_pos z]at e;exact e
  ·rename_i z;rw[if_neg z]at e;exact BV N e
theorem zJ{s:St}{r:List D}:∀{R:Rs}{k:Nat},(R.map (·.1)).Nodup->R[k]? =some (s,r)->Jq s R=some r
 |[],_=>fun _ e=>by cases e
 |p::R,0=>fun _ e=>by cases e;simp[Jq]
 |p::R,k+1=>fun nd e=>by
  have e':R[k]? =some (s,r):=e
  rw[Qyz,List.nodup_cons]at nd
  have ne:¬p.1=s:=fun z=>nd.1 (by rw[z];exact QTz (f:=(·.1)) (QBz e'))
  rw[Jq,if_neg ne]
  exact zJ nd.2 e'
theorem ju(s:St):lH (aF s)=true:=by
 have:∀bs:List Bool,(bools (bs.map .bl)).isSome=true:=fun bs=>by
  induction bs with
  |nil=>rfl
  |cons b bs ih=>simp only[Qyz,bools,Option.isSome_map,ih]
 exact this s.1
theorem Bv(t:St)(R:Rs):aL .notin (aF t) (.iJ (kD R) (vD R))=some (!decide (t∈R.map (·.1))):=by
 show(if lH (aF t)then some (!aW (aF t) (kD R))else none)=_
 rw[ju,JV]
 rfl
theorem RV{s:St}{r:List D}{R:Rs}(e:Jq s R=some r):getD (.iJ (kD R) (vD R)) (aF s)=some (.lst r):=by
 show(if lH (aF s)then cN (aF s) (kD R) (vD R)else none)=_
 rw[ju,Rx,e]
 rfl
theorem Rn{t:St}{r:List D}{R:Rs}(e:t∉R.map (·.1))(f:R.length+1<=1000):pP (aF t) (.lst r) (.sdt (kD R) (vD R))=some (.sdt (kD (R++[(t,r)])) (vD (R++[(t,r)]))):=by
 have f':fits ((kD R).length+1)=true:=by rw[mX];simp[fits];omega
 show(if lH (aF t)&&fits ((kD R).length+1)then some (Ob.sdt (putD (aF t) (.lst r) (kD R) (vD R)).1 (putD (aF t) (.lst r) (kD R) (vD R)).2)else none)=_
 have i:aW (aF t) (kD R)=false:=by rw[JV];simpa using e
 have p:putD (aF t) (.lst r) (kD R) (vD R)=(kD R++[aF t],vD R++[.lst r]):=by unfold putD;rw[i];rfl
 rw[ju,f',p,zM,Th]
 rfl
section
variable{h g:Nat}{ks:List D}{ls:List Bool}{os:List D}{sts:List (List (D×Nat))}{W:List Bool->List D}
structure Ds(h g:Nat)(sts:List (List (D×Nat)))(R:Rs):Prop where
 nd:(R.map (·.1)).Nodup
 ok:∀p∈R,v7 h g sts p.1
 le:∀p∈R,p.2.length<=R.length
 wr:∀p∈R,∀x∈p.2,x∈names h g
def dO(h g:Nat)(os:List D)(sts:List (List (D×Nat)))(s:St)(r:List D):List D->Rs->Rs
 |[],_=>[]
 |x::xs,R=>match p6 h g os sts s x with
  |none=>dO h g os sts s r xs R
  |some t=>if t∈R.map (·.1)then dO h g os sts s r xs R else(t,r++[x])::dO h g os sts s r xs (R++[(t,r++[x])])
theorem zB{R:Rs}(O:Ds h g sts R){t:St}(S:v7 h g sts t){r:List D}(hr:r.length<=R.length+1)(ht:t∉R.map (·.1))(hw:∀x∈r,x∈names h g):Ds h g sts (R++[(t,r)]):=by
 refine⟨?_,fun p hp=>?_,fun p hp=>?_,fun p hp=>?_⟩
 ·rw[List.map_append,List.nodup_append]
  exact⟨O.nd,by simp,fun a ha b hb e=>ht (by
   have:b=t:=by simpa using hb
   rw[<-this,<-e];exact ha)⟩
 ·rcases QXz.mp hp with z|z
  ·exact O.ok p z
  ·rw[QDz.mp z];exact S
 ·rw[QTq]
  rcases QXz.mp hp with z|z
  ·exact Nat.le_succ_of_le (O.le p z)
  ·rw[QDz.mp z];exact hr
 ·rcases QXz.mp hp with z|z
  ·exact O.wr p z
  ·rw[QDz.mp z];exact hw
theorem yJ{r:List D}{x:D}(hw:∀x∈r,x∈names h g)(hx:x∈names h g):∀y∈r++[x],y∈names h g:=fun y hy=>by
 rcases QXz.mp hy with z|z
 ·exact hw y z
 ·rw[QDz.mp z];exact hx
theorem mO(T:bj h g os sts){s:St}(S:v7 h g sts s){r:List D}(hw:∀x∈r,x∈names h g):∀(xs:List D){R:Rs},(∀x∈xs,x∈names h g)->Ds h g sts R->r.length<=R.length->Ds h g sts (R++dO h g os sts s r xs R)
 |[],R,_,O,_=>by simpa[dO]using O
 |x::xs,R,hx,O,hr=>by
  have hx':∀y∈xs,y∈names h g:=fun y hy=>hx y (QYq _ hy)
  rw[dO]
  split
  ·exact mO T S hw xs hx' O hr
  ·rename_i t e
   split
   ·exact mO T S hw xs hx' O hr
   ·rename_i ht
    have:=mO T S (r:=r) hw xs hx' (zB O (zK T S e) (r:=r++[x]) (by simp;omega) ht (yJ hw (hx x QYz))) (by simp;omega)
    rw[List.append_assoc]at this
    exact this
def allB:Nat->List (List Bool)
 |0=>[[]]
 |n+1=>(allB n).map (true:: ·)++(allB n).map (false:: ·)
theorem yx:∀n,(allB n).length=2 ^n
 |0=>rfl
 |n+1=>by rw[allB,QTq,QAq,QAq,yx n,Nat.pow_succ];omega
theorem rC:∀bs:List Bool,bs∈allB bs.length
 |[]=>by simp[allB]
 |b::bs=>by
  rw[QBq,allB,QXz]
  cases b
  ·exact .inr (QTz (rC bs))
  ·exact .inl (QTz (rC bs))
def Lg(n:Nat):List St:=(allB n).map (·,0)++((allB n).map (·,1)++((allB n).map (·,2)++(allB n).map (·,3)))
theorem Lf(n:Nat):(Lg n).length=4*2 ^n:=by
 simp only[Lg,QTq,QAq,yx]
 omega
theorem Le{s:St}(h:s.2<4):s∈Lg s.1.length:=by
 obtain⟨bs,j⟩:=s
 have m:=rC bs
 simp only[Lg,QXz,QDq]
 rcases j with _|_|_|_|j
 ·exact .inl ⟨bs,m,rfl⟩
 ·exact .inr (.inl ⟨bs,m,rfl⟩)
 ·exact .inr (.inr (.inl ⟨bs,m,rfl⟩))
 ·exact .inr (.inr (.inr ⟨bs,m,rfl⟩))
 ·simp at h;omega
theorem xq:∀(l L:List St),l.Nodup->(∀x∈l,x∈L)->l.length<=L.length
 |[]=>fun _ _ _=>QIq _
 |x::l=>fun L nd m=>by
  rw[List.nodup_cons]at nd
  have mx:=m x QYz
  have:=xq l (L.erase x) nd.2 fun y hy=>(List.mem_erase_of_ne fun e=>nd.1 (by rw[<-e];exact hy)).mpr (m y (QYq _ hy))
  rw[List.length_erase_of_mem mx]at this
  have:=List.length_pos_of_mem mx
  rw[QBq]
  omega
theorem Ds.p7(O:bD h g ks ls)(T:bj h g os sts){R:Rs}(X:Ds h g sts R):R.length<=512:=by
 have a:=xq (R.map (·.1)) (Lg (names h g).length) X.nd fun s hs=>by
  obtain⟨p,hp,rfl⟩:=QDq.mp hs
  have S:=X.ok p hp
  rw[<-S.l]
  exact Le (Qvq S.j T.s4)
 rw[QAq,Lf,eG O.h2 O.g5]at a
 have h2:=O.h2
 have g5:=O.g5
 have:2 ^(h+g)<=2 ^7:=Nat.pow_le_pow_right (by omega) (by omega)
 omega
def v5(h g:Nat)(os:List D)(sts:List (List (D×Nat)))(W:List Bool->List D):Nat->Nat->Rs->Rs
 |0,_,R=>R
 |f+1,k,R=>match R[k]? with
  |none=>R
  |some p=>v5 h g os sts W f (k+1) (R++dO h g os sts p.1 p.2 (bR h sts W p.1) R)
theorem K1(T:bj h g os sts)(Wk:Wt h g ks ls W):∀(f k:Nat){R:Rs},Ds h g sts R->Ds h g sts (v5 h g os sts W f k R)
 |0,_,_,X=>X
 |f+1,k,R,X=>by
  rw[v5]
  split
  ·exact X
  ·rename_i p e
   have m:=QBz e
   exact K1 T Wk f (k+1) (mO T (X.ok p m) (X.wr p m) _ (fun x hx=>(eV Wk (X.ok p m)).subset hx) X (X.le p m))
def sI(ls:List Bool):St:=(ls,0)
theorem Zm(O:bD h g ks ls)(T:bj h g os sts):v7 h g sts (sI ls):=⟨by rw[eG O.h2 O.g5];exact O.ll,T.s1⟩
def R0(ls:List Bool):Rs:=[(sI ls,[])]
theorem Lr(O:bD h g ks ls)(T:bj h g os sts):Ds h g sts (R0 ls):=⟨by simp[R0],fun p hp=>by rw[QDz.mp hp];exact Zm O T,fun p hp=>by rw[QDz.mp hp];simp,fun p hp=>by rw[QDz.mp hp];simp⟩
end
end Tx
end
section
open PySem Mini
namespace Tx
section
variable{h g:Nat}{ks:List D}{ls:List Bool}{os:List D}{sts:List (List (D×Nat))}{W:List Bool->List D}
theorem jJ(s:St):nM (aF s)=false:=rfl
theorem Kd(n:Nat):pg.fn (n+1) 22 [.val (aB h g ks ls)]=.ok (.val (aF (sI ls))) [.val (aB h g ks ls)]:=by
 have n2:getD (aB h g ks ls) (.int 2)=some (.tup (ls.map .bl)):=by simp[aB]
 rw[rM]
 simp[jX,n2,aY]
 rfl
def O5:S:=(.cons ACt (.cons (.ite ACW ABI .nil) .nil))
theorem By(n:Nat)(O:bD h g ks ls)(T:bj h g os sts)(Wk:Wt h g ks ls W){s:St}(S:v7 h g sts s){r:List D}:∀(xs:List D)(R:Rs)(M:List D)(s5 s6:Sl),(∀x∈xs,x∈bR h sts W s)->Ds h g sts R->Jq s R=some r->r.length<=R.length->(∀x∈r,x∈names h g)->M.length<=R.length->cG s5->cG s6->∃s5' s6',
  bH (.name 5) (ex (pg.cf (n+3)) O5) xs [.val (aB h g ks ls),.val (au os sts),.val (aF s),.bor (.sdt (kD R) (vD R)),.own (.lst M),s5,s6]=.next [.val (aB h g ks ls),.val (au os sts),.val (aF s),.bor (.sdt (kD (R++dO h g os sts s r xs R)) (vD (R++dO h g os sts s r xs R))),.own (.lst (M++kD (dO h g os sts s r xs R))),s5',s6']
 |[]=>fun R M s5 s6 _ _ _ _ _ _ _ _=>⟨s5,s6,by simp[bH,dO,kD]⟩
 |x::xs=>fun R M s5 s6 hx X lr rl rw_' ml h5 h6=>by
  have lt:=Ft n O T Wk S (hx x QYz)
  have hx':∀y∈xs,y∈bR h sts W s:=fun y hy=>hx y (QYq _ hy)
  have tt:bT (.name 5) x [.val (aB h g ks ls),.val (au os sts),.val (aF s),.bor (.sdt (kD R) (vD R)),.own (.lst M),s5,s6]=some [.val (aB h g ks ls),.val (au os sts),.val (aF s),.bor (.sdt (kD R) (vD R)),.own (.lst M),.val x,s6]:=by
   rcases h5 with rfl|⟨d,rfl⟩<;>simp[bT,cQ]
  rw[bH,tt]
  simp only[dO]
  have c6:∀d,yV 6 [.val (aB h g ks ls),.val (au os sts),.val (aF s),.bor (.sdt (kD R) (vD R)),.own (.lst M),.val x,s6] (.val d) (some s6)=some [.val (aB h g ks ls),.val (au os sts),.val (aF s),.bor (.sdt (kD R) (vD R)),.own (.lst M),.val x,.val d]:=fun d=>by
   rcases h6 with rfl|⟨d,rfl⟩<;>simp
  cases e:p6 h g os sts s x with
  |none=>
   rw[e]at lt
   have go:ex (pg.cf (n+3)) O5 [.val (aB h g ks ls),.val (au os sts),.val (aF s),.bor (.sdt (kD R) (vD R)),.own (.lst M),.val x,s6]=.next [.val (aB h g ks ls),.val (au os sts),.val (aF s),.bor (.sdt (kD R) (vD R)),.own (.lst M),.val x,.val .non]:=by
    simp[O5,lt,c6,j7]
   simp only[go]
   exact By n O T Wk S xs R M (.val x) (.val .non) hx' X lr rl rw_' ml (.inr ⟨_,rfl⟩) (.inr ⟨_,rfl⟩)
  |some t=>
   rw[e]at lt
   have ni:=Bv t R
   by_cases ht:t∈R.map (·.1)
   ·have go:ex (pg.cf (n+3)) O5 [.val (aB h g ks ls),.val (au os sts),.val (aF s),.bor (.sdt (kD R) (vD R)),.own (.lst M),.val x,s6]=.next [.val (aB h g ks ls),.val (au os sts),.val (aF s),.bor (.sdt (kD R) (vD R)),.own (.lst M),.val x,.val (aF t)]:=by
     rw[QFq ht]at ni
     simp[O5,lt,c6,j7,jJ,ni,Ob.d]
    simp only[go,if_pos ht]
    exact By n O T Wk S xs R M (.val x) (.val (aF t)) hx' X lr rl rw_' ml (.inr ⟨_,rfl⟩) (.inr ⟨_,rfl⟩)
   ·have rb:=X.p7 O T
    have pr:=Rn (t:=t) (r:=r++[x]) (R:=R) ht (by omega)
    have ge:=RV lr
    have f1:fits (r.length+1)=true:=by simp[fits];omega
    have f2:fits (M.length+1)=true:=by simp[fits];omega
    have go:ex (pg.cf (n+3)) O5 [.val (aB h g ks ls),.val (au os sts),.val (aF s),.bor (.sdt (kD R) (vD R)),.own (.lst M),.val x,s6]=.next [.val (aB h g ks ls),.val (au os sts),.val (aF s),.bor (.sdt (kD (R++[(t,r++[x])])) (vD (R++[(t,r++[x])]))),.own (.lst (M++[aF t])),.val x,.val (aF t)]:=by
     rw[QEz ht]at ni
     simp[O5,lt,c6,j7,jJ,ni,Ob.d,ge,aY,f1,pr,f2,rG,dg]
    simp only[go,if_neg ht]
    obtain⟨a,b,z⟩:=By n O T Wk S (r:=r) xs (R++[(t,r++[x])]) (M++[aF t]) (.val x) (.val (aF t)) hx' (zB X (zK T S e) (by simp;omega) ht (yJ rw_' ((eV Wk S).subset (hx x QYz)))) (BV _ lr) (by simp;omega) rw_' (by simp;omega) (.inr ⟨_,rfl⟩) (.inr ⟨_,rfl⟩)
    refine⟨a,b,?_⟩
    rw[show(Fl.next [.val (aB h g ks ls),.val (au os sts),.val (aF s),.bor (.sdt (kD (R++[(t,r++[x])])) (vD (R++[(t,r++[x])]))),.own (.lst (M++[aF t])),.val x,.val (aF t)]).turn (bH (.name 5) (ex (pg.cf (n+3)) O5) xs)=_ from z]
    simp only[List.append_assoc,List.cons_append,List.nil_append]
    rfl
theorem Jc(n:Nat)(O:bD h g ks ls)(T:bj h g os sts)(Wk:Wt h g ks ls W){R:Rs}(X:Ds h g sts R){k:Nat}{s:St}{r:List D}(e:R[k]? =some (s,r)):
  pg.fn (n+6) 27 [.val (aB h g ks ls),.val (au os sts),.val (aF s),.bor (.sdt (kD R) (vD R))]=.ok (.new (.lst (kD (dO h g os sts s r (bR h sts W s) R)))) [.val (aB h g ks ls),.val (au os sts),.val (aF s),.bor (.sdt (kD (R++dO h g os sts s r (bR h sts W s) R)) (vD (R++dO h g os sts s r (bR h sts W s) R)))]:=by
 have m:=QBz e
 have S:=X.ok _ m
 have st:=nF n O T Wk S
 obtain⟨a,b,z⟩:=By (n+2) O T Wk S (r:=r) (bR h sts W s) R [] .un .un (fun x hx=>hx) X (zJ X.nd e) (X.le _ m) (X.wr _ m) (QIq _) (.inl rfl) (.inl rfl)
 have hb:nT=⟨4,7,(.cons (.set 4 ABX) (.cons (.for_ (.name 5) (.call 23 ACU) O5) (.cons (.ret (.var 4)) .nil)))⟩:=rfl
 rw[wR,hb]
 simp[aY,st,items,z,Ob.d]
theorem Qh(x:D)(xs:List D):cut (x::xs) (some 1) none=xs:=by
 have a:clip (xs.length+1) 1=1:=by
  unfold clip
  simp
  intro z
  omega
 simp[cut,a]
theorem Qn(x:D)(xs:List D):at? (x::xs) 0=some x:=by
 unfold at? ix?
 simp
end
end Tx
end
section
open PySem Mini
namespace Tx
section
variable{h g:Nat}{ks:List D}{ls:List Bool}{os:List D}{sts:List (List (D×Nat))}{W:List Bool->List D}
def Pb:S:=(.cons ABT (.cons (.ite ACW AAy .nil) .nil))
theorem R8{R:Rs}{k:Nat}{s:St}{r:List D}(e:R[k]? =some (s,r)):at? (kD R) (k:Int)=some (aF s):=by
 have l:k<R.length:=(QCz.mp e).1
 rw[gK _ _ (by rw[mX];exact l)]
 simp[kD,e]
theorem BX(n:Nat)(O:bD h g ks ls)(T:bj h g os sts){k:Nat}{s:St}(S:v7 h g sts s){r:List D}:∀(xs:List D)(R:Rs)(s5 s6:Sl),(∀x∈xs,x∈names h g)->Ds h g sts R->R[k]? =some (s,r)->cG s5->cG s6->∃s5' s6',cG s5'/\cG s6'/\
  bH (.name 5) (ex (pg.cf (n+2)) Pb) xs [.val (aB h g ks ls),.val (au os sts),.own (.lst (kD R)),.own (.sdt (kD R) (vD R)),.val (.int k),s5,s6]=.next [.val (aB h g ks ls),.val (au os sts),.own (.lst (kD (R++dO h g os sts s r xs R))),.own (.sdt (kD (R++dO h g os sts s r xs R)) (vD (R++dO h g os sts s r xs R))),.val (.int k),s5',s6']
 |[]=>fun R s5 s6 _ _ _ h5 h6=>⟨s5,s6,h5,h6,by simp[bH,dO]⟩
 |x::xs=>fun R s5 s6 hx X er h5 h6=>by
  have ld:=zL n O T S (b7 h g x (hx x QYz))
  have hx':∀y∈xs,y∈names h g:=fun y hy=>hx y (QYq _ hy)
  have ak:=R8 er
  have lr:=zJ X.nd er
  have rl:=X.le _ (QBz er)
  have tt:bT (.name 5) x [.val (aB h g ks ls),.val (au os sts),.own (.lst (kD R)),.own (.sdt (kD R) (vD R)),.val (.int k),s5,s6]=some [.val (aB h g ks ls),.val (au os sts),.own (.lst (kD R)),.own (.sdt (kD R) (vD R)),.val (.int k),.val x,s6]:=by
   rcases h5 with rfl|⟨d,rfl⟩<;>simp[bT,cQ]
  rw[bH,tt]
  simp only[dO]
  have c6:∀d,yV 6 [.val (aB h g ks ls),.val (au os sts),.own (.lst (kD R)),.own (.sdt (kD R) (vD R)),.val (.int k),.val x,s6] (.val d) (some s6)=some [.val (aB h g ks ls),.val (au os sts),.own (.lst (kD R)),.own (.sdt (kD R) (vD R)),.val (.int k),.val x,.val d]:=fun d=>by
   rcases h6 with rfl|⟨d,rfl⟩<;>simp
  cases e:p6 h g os sts s x with
  |none=>
   rw[e]at ld
   have go:ex (pg.cf (n+2)) Pb [.val (aB h g ks ls),.val (au os sts),.own (.lst (kD R)),.own (.sdt (kD R) (vD R)),.val (.int k),.val x,s6]=.next [.val (aB h g ks ls),.val (au os sts),.own (.lst (kD R)),.own (.sdt (kD R) (vD R)),.val (.int k),.val x,.val .non]:=by
    simp[Pb,ak,ld,c6,j7,Ob.d]
   simp only[go]
   exact BX n O T S xs R (.val x) (.val .non) hx' X er (.inr ⟨_,rfl⟩) (.inr ⟨_,rfl⟩)
  |some t=>
   rw[e]at ld
   have ni:=Bv t R
   by_cases ht:t∈R.map (·.1)
   ·have go:ex (pg.cf (n+2)) Pb [.val (aB h g ks ls),.val (au os sts),.own (.lst (kD R)),.own (.sdt (kD R) (vD R)),.val (.int k),.val x,s6]=.next [.val (aB h g ks ls),.val (au os sts),.own (.lst (kD R)),.own (.sdt (kD R) (vD R)),.val (.int k),.val x,.val (aF t)]:=by
     rw[QFq ht]at ni
     simp[Pb,ak,ld,c6,j7,jJ,ni,Ob.d]
    simp only[go,if_pos ht]
    exact BX n O T S xs R (.val x) (.val (aF t)) hx' X er (.inr ⟨_,rfl⟩) (.inr ⟨_,rfl⟩)
   ·have rb:=X.p7 O T
    have pr:=Rn (t:=t) (r:=r++[x]) (R:=R) ht (by omega)
    have ge:=RV lr
    have f1:fits (r.length+1)=true:=by have:r.length<=R.length:=rl;simp[fits];omega
    have f2:fits ((kD R).length+1)=true:=by rw[mX];simp[fits];omega
    have ka:kD R++[aF t]=kD (R++[(t,r++[x])]):=by rw[zM];rfl
    have go:ex (pg.cf (n+2)) Pb [.val (aB h g ks ls),.val (au os sts),.own (.lst (kD R)),.own (.sdt (kD R) (vD R)),.val (.int k),.val x,s6]=.next [.val (aB h g ks ls),.val (au os sts),.own (.lst (kD (R++[(t,r++[x])]))),.own (.sdt (kD (R++[(t,r++[x])])) (vD (R++[(t,r++[x])]))),.val (.int k),.val x,.val (aF t)]:=by
     rw[QEz ht]at ni
     simp[Pb,ak,ld,c6,j7,jJ,ni,Ob.d,ge,aY,f1,pr,f2,rG,dg,ka]
    simp only[go,if_neg ht]
    have er':(R++[(t,r++[x])])[k]? =some (s,r):=by
     rw[Qwz (QCz.mp er).1];exact er
    obtain⟨a,b,ha,hb,z⟩:=BX n O T S (r:=r) xs (R++[(t,r++[x])]) (.val x) (.val (aF t)) hx' (zB X (zK T S e) (by have:r.length<=R.length:=rl;simp;omega) ht (yJ (X.wr _ (QBz er)) (hx x QYz))) er' (.inr ⟨_,rfl⟩) (.inr ⟨_,rfl⟩)
    refine⟨a,b,ha,hb,?_⟩
    rw[show(Fl.next [.val (aB h g ks ls),.val (au os sts),.own (.lst (kD (R++[(t,r++[x])]))),.own (.sdt (kD (R++[(t,r++[x])])) (vD (R++[(t,r++[x])]))),.val (.int k),.val x,.val (aF t)]).turn (bH (.name 5) (ex (pg.cf (n+2)) Pb) xs)=_ from z]
    simp only[List.append_assoc,List.cons_append,List.nil_append]
def Vg:E:=(.cmp .lt (.var 4) ABa)
def Xw:S:=(.cons (.for_ (.name 5) ABn Pb) ACi)
theorem Ru(n:Nat)(O:bD h g ks ls)(T:bj h g os sts)(Wk:Wt h g ks ls W):∀(f k:Nat)(R:Rs)(s5 s6:Sl),Ds h g sts R->k<=R.length->512<f+k->cG s5->cG s6->∃s4' s5' s6',
  bK (ev (pg.cf (n+4)) Vg) (ex (pg.cf (n+4)) Xw) f [.val (aB h g ks ls),.val (au os sts),.own (.lst (kD R)),.own (.sdt (kD R) (vD R)),.val (.int k),s5,s6]=.next [.val (aB h g ks ls),.val (au os sts),.own (.lst (kD (v5 h g os sts W f k R))),.own (.sdt (kD (v5 h g os sts W f k R)) (vD (v5 h g os sts W f k R))),s4',s5',s6']
 |0=>fun k R _ _ X hk hf _ _=>by have:=X.p7 O T;omega
 |f+1=>fun k R s5 s6 X hk hf h5 h6=>by
  have rb:=X.p7 O T
  have l:=mX R
  by_cases c:k<R.length
  ·obtain⟨p,e⟩:∃p,R[k]? =some p:=⟨_,QXq c⟩
   obtain⟨s,r⟩:=p
   have m:=QBz e
   have S:=X.ok _ m
   have st:=lE n O T Wk S
   have ak:=R8 e
   obtain⟨a,b,ha,hb,z⟩:=BX (n+2) O T S (bR h sts W s) R s5 s6 (fun x hx=>(eV Wk S).subset hx) X e h5 h6
   have X':=mO T S (X.wr _ m) (bR h sts W s) (fun x hx=>(eV Wk S).subset hx) X (X.le _ m)
   obtain⟨q4,q5,q6,zz⟩:=Ru n O T Wk f (k+1) _ a b X' (by simp;omega) (by omega) ha hb
   refine⟨q4,q5,q6,?_⟩
   have go:ex (pg.cf (n+4)) Xw [.val (aB h g ks ls),.val (au os sts),.own (.lst (kD R)),.own (.sdt (kD R) (vD R)),.val (.int k),s5,s6]=.next [.val (aB h g ks ls),.val (au os sts),.own (.lst (kD (R++dO h g os sts s r (bR h sts W s) R))),.own (.sdt (kD (R++dO h g os sts s r (bR h sts W s) R)) (vD (R++dO h g os sts s r (bR h sts W s) R))),.val (.int ((k+1:Nat):Int)),a,b]:=by
    simp[Xw,ak,st,Ob.d,items,z]
   have lt:(k:Int)< (R.length:Int):=by omega
   have te:ev (pg.cf (n+4)) Vg [.val (aB h g ks ls),.val (au os sts),.own (.lst (kD R)),.own (.sdt (kD R) (vD R)),.val (.int k),s5,s6]=.ok (.val (.bl true)) [.val (aB h g ks ls),.val (au os sts),.own (.lst (kD R)),.own (.sdt (kD R) (vD R)),.val (.int k),s5,s6]:=by
    simp[Vg,Ob.d,l,c]
   rw[bK,te]
   simp only[v5,e]
   refine Eq.trans ?_ zz
   show(ex (pg.cf (n+4)) Xw _).turn _=_
   rw[go]
   rfl
  ·have ge:R[k]? =none:=List.getElem?_eq_none (by omega)
   have te:ev (pg.cf (n+4)) Vg [.val (aB h g ks ls),.val (au os sts),.own (.lst (kD R)),.own (.sdt (kD R) (vD R)),.val (.int k),s5,s6]=.ok (.val (.bl false)) [.val (aB h g ks ls),.val (au os sts),.own (.lst (kD R)),.own (.sdt (kD R) (vD R)),.val (.int k),s5,s6]:=by
    simp[Vg,Ob.d,l]
    omega
   refine⟨.val (.int k),s5,s6,?_⟩
   rw[bK,te,v5,ge]
   rfl
theorem rR(n:Nat)(O:bD h g ks ls)(T:bj h g os sts)(Wk:Wt h g ks ls W):
  pg.fn (n+5) 46 [.val (aB h g ks ls),.val (au os sts)]=.ok (.val (.tup [.lst (kD (v5 h g os sts W 1000 0 (R0 ls))),.iJ (kD (v5 h g os sts W 1000 0 (R0 ls))) (vD (v5 h g os sts W 1000 0 (R0 ls)))])) [.val (aB h g ks ls),.val (au os sts)]:=by
 obtain⟨a,b,c,z⟩:=Ru n O T Wk 1000 0 (R0 ls) .un .un (Lr O T) (QIq _) (by omega) (.inl rfl) (.inl rfl)
 have n2:getD (aB h g ks ls) (.int 2)=some (aH ls):=by simp[aB];rfl
 have k1:kD (R0 ls)=[aF (sI ls)]:=rfl
 have v1:vD (R0 ls)=[.lst []]:=rfl
 rw[k1,v1]at z
 have z':bK (ev (pg.cf (n+4)) Vg) (ex (pg.cf (n+4)) Xw) 1000 [.val (aB h g ks ls),.val (au os sts),.own (.lst [aF (sI ls)]),.own (.sdt [aF (sI ls)] [.lst []]),.val (.int 0),.un,.un]=_:=z
 have tn:(pg.cf (n+4)).turns=1000:=rfl
 have ds:vM [aF (sI ls),.lst []]=some (.new (.sdt [aF (sI ls)] [.lst []])):=by
  have:Gf [aF (sI ls),.lst []]=some (.new (.sdt [aF (sI ls)] [.lst []])):=by
   show(if lH (aF (sI ls))then _ else none)=_
   rw[ju];rfl
  unfold vM
  rw[this]
  rfl
 have se:D.tup [aH ls,.int 0]=aF (sI ls):=rfl
 have hb:lV=⟨2,7,(.cons ACZ (.cons ACn (.cons (.set 4 AAH) (.cons (.while_ Vg Xw) (.cons (.ret (.tup ABx)) .nil)))))⟩:=rfl
 rw[uZ,hb]
 simp[n2,aY,se,ds,Ob.d,tn,z']
theorem Jg{xs:List D}(t:∀x∈xs,x∈names h g):jQ xs=true/\gY xs=0:=by
 have ok:∀s∈Rq 3 5,sOk s=true:=by decide+kernel
 induction xs with
 |nil=>exact⟨rfl,rfl⟩
 |cons x xs ih=>
  have m:=t x QYz
  rw[lD]at m
  obtain⟨s,hs,rfl⟩:=QDq.mp m
  have i:=ih fun y hy=>t y (QYq _ hy)
  exact⟨by simp[jQ,nd,ok s (BJ hs),i.1],by simp[gY,dep,i.2]⟩
end
mutual
theorem vL:∀d:D,nd d=true->cH d d=true
 |.non=>fun _=>rfl
 |.bl b=>fun _=>by cases b<;>rfl
 |.int i=>fun _=>by simp[cH]
 |.str s=>fun _=>by simp[cH]
 |.tup xs=>fun h=>by simpa[cH]using qC xs h
 |.lst xs=>fun h=>by simpa[cH]using qC xs h
 |.cC _ _=>fun h=>by simp[nd]at h
 |.iJ _ _=>fun h=>by simp[nd]at h
theorem qC:∀xs:List D,jQ xs=true->iZ xs xs=true
 |[]=>fun _=>rfl
 |x::xs=>fun h=>by
  simp only[jQ,QUq]at h
  simp[iZ,vL x h.1,qC xs h.2]
end
theorem RZ{d:D}(h:nd d=true/\dep d<=50):aL .eq d d=some true/\aL .ne d d=some false:=by
 have o:m9 d d=true:=by simp[m9,h.1,h.2]
 constructor
 ·show(if m9 d d then some (cH d d)else none)=_
  rw[vL _ h.1,o];rfl
 ·show(if m9 d d then some (!cH d d)else none)=_
  rw[vL _ h.1,o];rfl
theorem T4(s:St):nd (aF s)=true/\dep (aF s)<=2:=by
 have a:∀bs:List Bool,jQ (bs.map .bl)=true/\gY (bs.map .bl)=0:=fun bs=>by
  induction bs with
  |nil=>exact⟨rfl,rfl⟩
  |cons b bs ih=>exact⟨by simp[jQ,nd,ih.1],by simp[gY,dep,ih.2]⟩
 obtain⟨a,b⟩:=a s.1
 constructor
 ·simp[aF,aH,nd,jQ,a]
 ·simp[aF,aH,dep,gY,b]
theorem Ji:∀R:Rs,jQ (kD R)=true/\gY (kD R)<=2
 |[]=>⟨rfl,by simp[kD,gY]⟩
 |p::R=>by
  have:=Ji R
  simp only[kD]at this
  have q:=T4 p.1
  exact⟨by simp[kD,jQ,q.1,this.1],by simp[kD,gY];omega⟩
end Tx
end
section
open PySem Mini
namespace Tx
section
variable{h g:Nat}{ks:List D}{ls:List Bool}{os:List D}{sts:List (List (D×Nat))}{W:List Bool->List D}
def stB:S:=AAv
theorem Q5(n:Nat)(O:bD h g ks ls)(T:bj h g os sts)(Wk:Wt h g ks ls W):∀(f k:Nat)(R:Rs),Ds h g sts R->k<=R.length->512<f+k->
  bK (ev (pg.cf (n+6)) (.var 3)) (ex (pg.cf (n+6)) stB) f [.val (aB h g ks ls),.val (au os sts),.own (.sdt (kD R) (vD R)),.own (.lst (kD (R.drop k)))]=.next [.val (aB h g ks ls),.val (au os sts),.own (.sdt (kD (v5 h g os sts W f k R)) (vD (v5 h g os sts W f k R))),.val (.lst [])]
 |0=>fun k R X hk hf=>by have:=X.p7 O T;omega
 |f+1=>fun k R X hk hf=>by
  have rb:=X.p7 O T
  by_cases c:k<R.length
  ·obtain⟨p,e⟩:∃p,R[k]? =some p:=⟨_,QXq c⟩
   obtain⟨s,r⟩:=p
   have nw:=Jc n O T Wk X e
   have dr:kD (R.drop k)=aF s::kD (R.drop (k+1)):=by
    rw[List.drop_eq_getElem_cons c]
    rw[QXq c]at e
    simp only[Option.some.injEq]at e
    simp[kD,e]
   have m:=QBz e
   have X':=mO T (X.ok _ m) (X.wr _ m) (bR h sts W s) (fun x hx=>(eV Wk (X.ok _ m)).subset hx) X (X.le _ m)
   have rb':=X'.p7 O T
   simp only[QTq]at rb'
   have fi:fits ((kD (R.drop (k+1))).length+(kD (dO h g os sts s r (bR h sts W s) R)).length)=true:=by
    rw[mX,mX,List.length_drop];simp[fits];omega
   have go:ex (pg.cf (n+6)) stB [.val (aB h g ks ls),.val (au os sts),.own (.sdt (kD R) (vD R)),.val (.lst (aF s::kD (R.drop (k+1))))]=.next [.val (aB h g ks ls),.val (au os sts),.own (.sdt (kD (R++dO h g os sts s r (bR h sts W s) R)) (vD (R++dO h g os sts s r (bR h sts W s) R))),.own (.lst (kD ((R++dO h g os sts s r (bR h sts W s) R).drop (k+1))))]:=by
    have dd:kD ((R++dO h g os sts s r (bR h sts W s) R).drop (k+1))=kD (R.drop (k+1))++kD (dO h g os sts s r (bR h sts W s) R):=by
     rw[List.drop_append_of_le_length (by omega),zM]
    rw[dd]
    have az:=Qn (aF s) (kD (R.drop (k+1)))
    simp[stB,cI,E.jf,fP,Qh,az,nw,fi,Ob.d]
   rw[dr,bK]
   simp only[aeZ,HF]
   have tr:gC (.lst (aF s::kD (R.drop (k+1))))=some true:=rfl
   simp[tr,Ob.d,go,Out.CK]
   rw[Q5 n O T Wk f (k+1) _ X' (by simp;omega) (by omega)]
   simp only[v5,e]
  ·have dk:R.drop k=[]:=List.drop_eq_nil_of_le (by omega)
   have ge:R[k]? =none:=List.getElem?_eq_none (by omega)
   have tr:gC (.lst [])=some false:=rfl
   rw[dk,bK,v5,ge]
   simp[kD,Ob.d,tr,Out.CK]
theorem DW(n:Nat)(O:bD h g ks ls)(T:bj h g os sts)(Wk:Wt h g ks ls W):
  pg.fn (n+10) 21 [.val (aB h g ks ls),.val (au os sts)]=.ok (.new (.lst (kD (v5 h g os sts W 1000 0 (R0 ls))))) [.val (aB h g ks ls),.val (au os sts)]:=by
 have c:=iR n O T
 have f:=Kd (n+8) (h:=h) (g:=g) (ks:=ks) (ls:=ls)
 have z:=Q5 (n+3) O T Wk 1000 0 (R0 ls) (Lr O T) (QIq _) (by omega)
 have k0:kD ((R0 ls).drop 0)=[aF (sI ls)]:=rfl
 have k1:kD (R0 ls)=[aF (sI ls)]:=rfl
 have v1:vD (R0 ls)=[.lst []]:=rfl
 rw[k0,k1,v1]at z
 have tn:(pg.cf (n+9)).turns=1000:=rfl
 have ds:vM [aF (sI ls),.lst []]=some (.new (.sdt [aF (sI ls)] [.lst []])):=by
  have:Gf [aF (sI ls),.lst []]=some (.new (.sdt [aF (sI ls)] [.lst []])):=by
   show(if lH (aF (sI ls))then _ else none)=_
   rw[ju];rfl
  unfold vM
  rw[this]
  rfl
 have hb:yp=⟨2,4,(.cons (.expr ACQ) (.cons ACT (.cons (.set 3 ABi) (.cons (.while_ (.var 3) stB) (.cons (.ret ABi) .nil)))))⟩:=rfl
 have q:(E.bi .list (.var 2)).aC=none:=rfl
 have bl:∀ks vs:List D,b1 .list (.iJ ks vs)=some (.new (.lst ks)):=fun _ _=>rfl
 rw[HQ,hb]
 simp[c,f,aY,ds,bl,Ob.d,tn,z,q]
theorem Hl(n:Nat)(O:bD h g ks ls)(T:bj h g os sts)(Wk:Wt h g ks ls W){s:St}(S:v7 h g sts s):
  pg.fn (n+10) 20 [.val (aB h g ks ls),.val (au os sts),.val (aF s)]=.ok (.new (.lst (bR h sts W s))) [.val (aB h g ks ls),.val (au os sts),.val (aF s)]:=by
 have c:=iR n O T
 have st:=nF (n+4) O T Wk S
 rw[NK]
 simp[Dr,c,st]
def chB:S:=(.cons (.ite ACv AAP .nil) .nil)
theorem R4(O:bD h g ks ls)(T:bj h g os sts)(Wk:Wt h g ks ls W)(a0 a3 a4:Sl):∀(R:Rs)(s5:Sl),(∀p∈R,v7 h g sts p.1)->cG s5->∃s5',
  bH (.name 5) (ex (pg.cf 59) chB) (kD R) [a0,.val (aB h g ks ls),.val (au os sts),a3,a4,s5]=.next [a0,.val (aB h g ks ls),.val (au os sts),a3,a4,s5']
 |[]=>fun s5 _ _=>⟨s5,rfl⟩
 |p::R=>fun s5 hp h5=>by
  have S:=hp p QYz
  have st:=Hl 49 O T Wk S
  have lt:=lE 55 O T Wk S
  have q:=Jg (xs:=bR h sts W p.1) fun x hx=>(eV Wk S).subset hx
  have ne:=(RZ (d:=.lst (bR h sts W p.1)) ⟨q.1,by show gY _+1<=50;rw[q.2];omega⟩).2
  have tt:bT (.name 5) (aF p.1) [a0,.val (aB h g ks ls),.val (au os sts),a3,a4,s5]=some [a0,.val (aB h g ks ls),.val (au os sts),a3,a4,.val (aF p.1)]:=by
   rcases h5 with rfl|⟨d,rfl⟩<;>simp[bT,cQ]
  have go:ex (pg.cf 59) chB [a0,.val (aB h g ks ls),.val (au os sts),a3,a4,.val (aF p.1)]=.next [a0,.val (aB h g ks ls),.val (au os sts),a3,a4,.val (aF p.1)]:=by
   simp[chB,st,lt,Ob.d,ne]
  obtain⟨q,z⟩:=R4 O T Wk a0 a3 a4 R (.val (aF p.1)) (fun x hx=>hp x (QYq _ hx)) (.inr ⟨_,rfl⟩)
  refine⟨q,?_⟩
  rw[show kD (p::R)=aF p.1::kD R from rfl,bH,tt]
  simp only[go]
  exact z
end
theorem math(ns:List Int)(hl:ns.length<=63):∃qs,pg.fn 60 47 [.val (.lst (ns.map .int))]=.ok (.val (.bl true)) qs:=by
 obtain⟨h,g,ks,ls,os,sts,O,T,e⟩:=Qk 50 ns 0 (by omega)
 obtain⟨W,Wk⟩:=Ys O
 have a:=DW 49 O T Wk
 have b:=rR 54 O T Wk
 have X:=K1 T Wk 1000 0 (Lr O T)
 have q:=Ji (v5 h g os sts W 1000 0 (R0 ls))
 have ne:=(RZ (d:=.lst (kD (v5 h g os sts W 1000 0 (R0 ls)))) ⟨q.1,by show gY _+1<=50;omega⟩).2
 generalize v5 h g os sts W 1000 0 (R0 ls)=R at*
 obtain⟨s5,z⟩:=R4 O T Wk (.val (sc ns)) (.val (.lst (kD R))) (.val (.lst (kD R))) R .un X.ok (.inl rfl)
 have hb:R7=⟨1,6,(.cons ACg (.cons (.set 3 (.call 21 AAT)) (.cons ADP (.cons (.ite ABm AAP .nil) (.cons (.for_ (.name 5) (.var 4) chB) (.cons (.ret AAL) .nil))))))⟩:=rfl
 refine⟨[.val (sc ns)],?_⟩
 have e':pg.fn 59 40 [.val (.lst (ns.map .int)),.val (.int 0)]=.ok (.val (.tup [aB h g ks ls,au os sts])) [.val (.lst (ns.map .int)),.val (.int 0)]:=e
 have z':bH (.name 5) (ex (pg.cf 59) chB) (kD R) [.val (.lst (ns.map .int)),.val (aB h g ks ls),.val (au os sts),.val (.lst (kD R)),.val (.lst (kD R)),.un]=_:=z
 rw[show(60:Nat)=59+1 from rfl,ZJ,hb]
 simp[e',a,b,ne,bT,gF,cQ,Ob.d,items,z']
end Tx
end
namespace Tx
open PySem PySem.W L2 Mini
theorem bY{K:QQq}{x:Str}{st:Stmt}(m:Value)(f c:Addr)(a:PySem.W.nsIn K mainGlobals x=some (some (.ref f)):=by kernel_rfl)(l:K.lookup f=some (fO x st m c):=by kernel_rfl)(q:PySem.W.codeIn K (.ref c) x=true:=by kernel_rfl):Lx K x st:=Mini.dIn a l q (by unfold PySem.W.keepIn;dsimp only;rw[l];rfl)
end Tx
open PySem PySem.W PyProof.Rows
theorem PySem.Challenge.cw_anywait_k04_stands_holds : PySem.Challenge.rw_anywait_k04_stands.Holds := by
 w_on
 refine PySem.W.holds_law (by kernel_rfl) fun said => ?_
 refine PySem.W.holds_open (q := Tx.qV) (loose := Tx.lo) (Xt := fun s => recOk [] s) (XP := fun _ _ => True) (Yf := Hook.obs Tx.Kh) (Ya := Hook.val Tx.Kh) (YP := Hook.says Tx.Kh) (N := 4430) Tx.hl (Hook.of Tx.Kh) (Hook.keeps Tx.Kh) (fun _ _ => trivial) (fun _ _ _ _ _ => trivial) (by rfl) (by rfl) (by rfl) (fun s e => recFacts_of e) (by rfl) said (by decide +kernel) ⟨rfl, rfl, rfl, rfl, rfl, by decide +kernel⟩ ?hw ?hc
 case hw => w_witness2
 case hc =>
  refine Mini.GP (p := Tx.pg) (L := 47) (y := "_law_script") (l := PySem.Challenge.rw_anywait_k04_stands) rfl rfl (fun w h Y => PySem.W.kIn_of Y) Tx.math ?qF
  intro w mg fa h KX G hmg
  refine Mini.Qu (dL := Tx.d47) KX G hmg rfl rfl rfl Tx.bd Tx.scp Tx.km ?qA ?qB ?qZ
  case qA =>
   show Mini.AllIn _ Tx.nms
   exact ⟨Tx.bY Tx.jG 59 58, Tx.bY Tx.jG 64 63, Tx.bY Tx.jG 69 68, Tx.bY Tx.jG 76 75, Tx.bY Tx.jG 83 82, Tx.bY Tx.jG 88 87, Tx.bY Tx.jG 93 92, Tx.bY Tx.jG 98 97, Tx.bY Tx.jG 105 104, Tx.bY Tx.jG 110 109, Tx.bY Tx.jG 115 114, Tx.bY Tx.jG 122 121, Tx.bY Tx.jG 129 128, Tx.bY Tx.jG 134 133, Tx.bY Tx.jG 139 138, Tx.bY Tx.jG 144 143, Tx.bY Tx.jG 151 150, Tx.bY Tx.Xv 158 157, Tx.bY Tx.Xv 163 162, Tx.bY Tx.Xv 168 167, Tx.bY Tx.yG 175 174, Tx.bY Tx.yG 182 181, Tx.bY Tx.yG 189 188, Tx.bY Tx.yG 194 193, Tx.bY Tx.yG 201 200, Tx.bY Tx.yG 208 207, Tx.bY Tx.yG 213 212, Tx.bY Tx.yG 220 219, Tx.bY Tx.gZ 227 226, Tx.bY Tx.gZ 234 233, Tx.bY Tx.gZ 241 240, Tx.bY Tx.gZ 248 247, Tx.bY Tx.gZ 253 252, Tx.bY Tx.gZ 260 259, Tx.bY Tx.gZ 265 264, Tx.bY Tx.gZ 270 269, Tx.bY Tx.gZ 275 274, Tx.bY Tx.gZ 282 281, Tx.bY Tx.gZ 289 288, Tx.bY Tx.gZ 294 293, Tx.bY Tx.gZ 301 300, Tx.bY Tx.gZ 306 305, Tx.bY Tx.gZ 311 310, Tx.bY Tx.gZ 316 315, Tx.bY Tx.gZ 321 320, Tx.bY Tx.gZ 326 325, Tx.bY Tx.gZ 333 332, Tx.bY Tx.gZ 340 339, trivial⟩
  case qB => exact ⟨.v (u := .str "abcdefghijklmnopqrstuvwxyz" 241) (by kernel_rfl) (by decide +kernel), .v (u := .int 6 243) (by kernel_rfl) (by decide +kernel), .t (a := 52) (o := Tx.o52) (by kernel_rfl) (by kernel_rfl) (by decide +kernel), .v (u := .int 3 260) (by kernel_rfl) (by decide +kernel), .v (u := .int 5 262) (by kernel_rfl) (by decide +kernel), .v (u := .int 4 264) (by kernel_rfl) (by decide +kernel), .v (u := .int 8 266) (by kernel_rfl) (by decide +kernel), .v (u := .int 3 268) (by kernel_rfl) (by decide +kernel), .v (u := .int 12 396) (by kernel_rfl) (by decide +kernel), trivial⟩
  case qZ => exact ⟨by kernel_rfl, by kernel_rfl, by kernel_rfl, by kernel_rfl, by kernel_rfl, by kernel_rfl, by kernel_rfl, by kernel_rfl, by kernel_rfl, by kernel_rfl, by kernel_rfl, by kernel_rfl, by kernel_rfl, trivial⟩