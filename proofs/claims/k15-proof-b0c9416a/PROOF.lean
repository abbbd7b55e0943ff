import PyProof.Rows.All
import Wide.All
import OpenK.AllK
import Wide.FinOn
import PySem.Syntax
import Lean
import PyProof.EqAt
import PyProof.EqKinds
import PyProof.TupleCall
import PyProof.TupleKey
import PyProof.DictRoadsH
import Wide.Seal
import KE.KDictList
import KE.KSortAsk
import PyProof.ListMulAny
import PyProof.FactsAll.tuple_2
import PyProof.NeData
import PyProof.P3In
import KE.KSortTup
import PyProof.EnumFor
import PyProof.EnumMake
import PyProof.Rows.EnumRows
import PyProof.CompFree
import PySem.Challenge.RW_anywait_k15_whole_spoiling
set_option linter.all false
set_option Elab.async false
set_option maxRecDepth 100000
set_option maxHeartbeats 0
set_option compiler.extract_closed false
abbrev QQq:=PySem.W.Frag
abbrev QQz:=List (PySem.Addr×PySem.Obj)
abbrev QZq:=PySem.Value→PySem.Shared→Prop
abbrev QZz:=PySem.Str→Option PySem.Value
def QJq:=@Option.bind_eq_some_iff
def QJz:=@Option.map_eq_some_iff
def QYq:=@List.mem_cons_of_mem
def QYz:=@List.mem_cons_self
def QXq:=@List.getElem?_eq_getElem
def QXz:=@List.mem_append
def QWq:=@PySem.Heap.get?_push_of_some
def QWz:=@List.mem_append_left
def QVq:=@List.mem_append_right
def QVz:=@Nat.le_refl
def QUq:=@Bool.and_eq_true
def QUz:=@decide_eq_true_eq
def QTq:=@List.length_append
def QTz:=@List.mem_map_of_mem
def QKq:=@PySem.wpAny_bind
def QKz:=@PySem.wpAny_pure
def QGq:=@PySem.wpAny_mono
def QGz:=@PySem.wpAny_field
def Qqq:=@PySem.wpAny_holding
def Qqz:=@PySem.Heap.lt_size
def Qzq:=@PySem.Heap.get?_push_size
def Qzz:=@PySem.wpAny_call_entry
def Qjq:=@PySem.wpAny_newObj_type
def Qjz:=@Bool.false_ne_true
def Qyq:=@List.size_toArray
def Qyz:=@List.map_cons
def Qxq:=@Bool.false_eq_true
def Qxz:=@List.getElem?_set_ne
def Qwq:=@List.getElem?_set_self
def Qwz:=@List.getElem?_append_left
def Qvq:=@Nat.lt_of_lt_of_le
def Qvz:=@Nat.ne_of_lt
def QAq:=@List.length_map
def QAz:=@List.not_mem_nil
def QBq:=@List.length_cons
def QBz:=@List.mem_of_getElem?
def QCq:=@List.mem_cons
def QCz:=@List.getElem?_eq_some_iff
def QDq:=@List.mem_map
def QDz:=@List.mem_singleton
def QEq:=@Option.some.inj
def QEz:=@decide_eq_false
def QFq:=@decide_eq_true
def QFz:=@List.getElem?_map
def QHq:=@Option.bind_some
def QHz:=@List.lookup_cons
def QIq:=@Nat.zero_le
def QIz:=@List.getElem?_append_right
def QLq:=@List.append_assoc
noncomputable section
section
namespace L2
open PySem
def dG(s:Stmt):Arguments:=match s with
 |.FunctionDef _ a _ _ _ _ _ _ _ _=>a
 |_=>{posonlyargs:=[],args:=[],vararg:=none,kwonlyargs:=[],kw_defaults:=[],kwarg:=none,defaults:=[]}
def dF(s:Stmt):List Stmt:=match s with
 |.FunctionDef _ _ b _ _ _ _ _ _ _=>b
 |_=>[]
def aZ(s:Stmt):Scope:=match s with
 |.FunctionDef _ _ _ _ _ _ sc _ _ _=>sc
 |_=>{kind:=.function,names:=[],isGenerator:=false,isCoroutine:=false}
end L2
end
section
namespace Tx
open PySem PySem.W L2 PyProof.Rows
def top(i:Nat):Stmt:=PySem.Challenge.pw_anywait_k15_whole_spoiling.main.body.getD i (.Pass ⟨0,0,0,0⟩)
abbrev s0:Stmt:=top 13
abbrev s1:Stmt:=top 14
abbrev s2:Stmt:=top 15
abbrev s3:Stmt:=top 16
abbrev s4:Stmt:=top 17
abbrev s5:Stmt:=top 18
abbrev s6:Stmt:=top 19
abbrev s7:Stmt:=top 20
abbrev s8:Stmt:=top 21
abbrev s9:Stmt:=top 22
abbrev Ff:Stmt:=top 23
abbrev w5:Stmt:=top 24
abbrev s12:Stmt:=top 25
abbrev s13:Stmt:=top 26
abbrev s14:Stmt:=top 27
abbrev s15:Stmt:=top 28
abbrev s16:Stmt:=top 29
abbrev s17:Stmt:=top 32
abbrev s18:Stmt:=top 33
abbrev s19:Stmt:=top 34
abbrev s20:Stmt:=top 36
abbrev s21:Stmt:=top 37
abbrev s22:Stmt:=top 38
abbrev s23:Stmt:=top 39
abbrev s24:Stmt:=top 40
abbrev s25:Stmt:=top 41
abbrev s26:Stmt:=top 42
abbrev s27:Stmt:=top 44
abbrev s28:Stmt:=top 45
abbrev s29:Stmt:=top 46
abbrev s30:Stmt:=top 47
abbrev s31:Stmt:=top 49
abbrev s32:Stmt:=top 50
abbrev s33:Stmt:=top 52
abbrev s34:Stmt:=top 53
abbrev s35:Stmt:=top 54
abbrev s36:Stmt:=top 55
abbrev s37:Stmt:=top 56
abbrev s38:Stmt:=top 57
abbrev s39:Stmt:=top 58
abbrev s40:Stmt:=top 59
abbrev s41:Stmt:=top 60
abbrev s42:Stmt:=top 61
abbrev s43:Stmt:=top 62
abbrev s44:Stmt:=top 63
abbrev s45:Stmt:=top 64
abbrev s46:Stmt:=top 65
abbrev s47:Stmt:=top 69
abbrev s48:Stmt:=top 70
def gE(P:Params)(x:Str)(i:Nat)(v:Value):DictEntry:=⟨PyData.keyHash P x,.str x i,v⟩
def fO(x:Str)(st:Stmt)(m:Value)(c:Addr):Obj:=⟨.type "function",none,.func (PySem.W.fnOf x x (dG st) (dF st) (aZ st) .none .none .none m none (.ref c) .none), #[]⟩
def cO(x:Str)(a:Nat)(l n:Int)(r s:Nat)(u v:Value)(t:Nat)(q:Int)(z:Nat):Obj:=⟨.type "code",none,.fields #[.str x a,.str x (a+1),.str "/claim/cut.py" (a+2),.int l 0,.int n 0,.int 0 0,.int 0 0,.int 3 0,.ref r,.bool true,.int 181 0,.ref s,.none,u,v,.ref t,.int q 0,.int l 0,.str "/claim/cut.py" z], #[]⟩
def Sv:Value:=.str "anywait.faults" 481
def jX:Value:=.str "anywait.nets" 239
def Cr:Value:=.str "anywait.stands" 418
def Yu:Value:=.str "anywait.talks" 394
def mo4:Value:=.str "anywait.waits" 526
def km:Value:=.str "law_anywait_k15_whole_spoiling" 548
def o52:Obj:=⟨.type "tuple",none,.seq #[.str "input" 245,.str "gate" 246,.str "start" 247,.str "out" 248,.str "state" 249,.str "same" 250,.str "not" 251,.str "and" 252,.str "or" 253,.str "both" 254,.str "held" 255,.str "table" 256,.str "on" 257,.str "off" 258], #[]⟩
def Kf(P:Params):QQq:=[(3,⟨.type "dict",none,.dict #[gE P "__name__" 165 (.str "law_anywait_k15_whole_spoiling" 548),gE P "__doc__" 166 .none,gE P "__package__" 167 .none,gE P "__loader__" 168 (.builtin "__main__.__loader__#opaque"),gE P "__spec__" 169 .none,gE P "__annotations__" 170 (.ref 6),gE P "__builtins__" 171 (.ref 4),gE P "__file__" 173 (.str "/claim/cut.py" 172),gE P "__cached__" 174 .none,gE P "WaitError" 206 (.ref 24),gE P "NoNet" 222 (.ref 37),gE P "NoTalk" 238 (.ref 49),gE P "LETTERS" 242 (.str "abcdefghijklmnopqrstuvwxyz" 241),gE P "LONGEST_NAME" 244 (.int 6 243),gE P "WORDS" 259 (.ref 52),gE P "MOST_INPUTS" 261 (.int 3 260),gE P "MOST_GATES" 263 (.int 5 262),gE P "MOST_WIRES" 265 (.int 4 264),gE P "MOST_TABLE_WIRES" 267 (.int 8 266),gE P "DEEPEST_HELD" 269 (.int 3 268),gE P "checked" 276 (.ref 59),gE P "is_net" 282 (.ref 64),gE P "has_parts" 288 (.ref 69),gE P "is_tuple" 297 (.ref 76),gE P "is_number" 306 (.ref 83),gE P "is_name" 312 (.ref 88),gE P "are_unlike" 318 (.ref 93),gE P "is_row" 324 (.ref 98),gE P "is_wire" 332 (.ref 105),gE P "are_wires" 338 (.ref 110),gE P "are_rows" 344 (.ref 115),gE P "is_kind" 355 (.ref 122),gE P "is_held" 364 (.ref 129),gE P "wire_names" 370 (.ref 134),gE P "waiting_gates" 376 (.ref 139),gE P "told" 382 (.ref 144),gE P "told_held" 393 (.ref 151),gE P "MOST_STATES" 397 (.int 12 396),gE P "checked_talk" 405 (.ref 158),gE P "is_talk" 411 (.ref 163),gE P "is_state" 417 (.ref 168),gE P "steps" 428 (.ref 175),gE P "first_stand" 435 (.ref 182),gE P "steps_at" 441 (.ref 187),gE P "is_unasked" 450 (.ref 194),gE P "led_to" 461 (.ref 201),gE P "changed" 467 (.ref 206),gE P "newly_met" 480 (.ref 213),gE P "fault" 493 (.ref 220),gE P "fault_at" 506 (.ref 227),gE P "has_out" 512 (.ref 232),gE P "fault_of_step" 525 (.ref 239),gE P "spoiling" 541 (.ref 246),gE P "since_when" 547 (.ref 251),gE P "_law_cell_at" 557 (.ref 258),gE P "_law_mixed" 567 (.ref 265),gE P "_law_next" 576 (.ref 272),gE P "_law_some" 588 (.ref 279),gE P "_law_table" 594 (.ref 284),gE P "_law_kind" 606 (.ref 291),gE P "_law_net" 612 (.ref 296),gE P "_law_talk" 618 (.ref 301),gE P "_law_ring" 624 (.ref 306),gE P "_law_chain" 638 (.ref 313),gE P "_law_meeting" 652 (.ref 320),gE P "_law_spoilt_kind" 658 (.ref 325),gE P "_law_case" 670 (.ref 332),gE P "_law_names" 676 (.ref 337),gE P "_law_tells" 682 (.ref 342),gE P "_law_waiting" 688 (.ref 347),gE P "_law_steps" 694 (.ref 352),gE P "_law_led" 700 (.ref 357),gE P "law" 706 (.ref 362)] 73, #[]⟩),
 (59,fO "checked" s0 jX 58),
 (58,cO "checked" 270 17 1 53 54 (.ref 55) (.ref 56) 57 274 275),
 (64,fO "is_net" s1 jX 63),
 (63,cO "is_net" 277 21 1 60 61 .none .none 62 280 281),
 (69,fO "has_parts" s2 jX 68),
 (68,cO "has_parts" 283 28 1 65 66 .none .none 67 286 287),
 (76,fO "is_tuple" s3 jX 75),
 (75,cO "is_tuple" 289 32 3 70 71 (.ref 72) (.ref 73) 74 295 296),
 (83,fO "is_number" s4 jX 82),
 (82,cO "is_number" 298 34 3 77 78 (.ref 79) (.ref 80) 81 304 305),
 (88,fO "is_name" s5 jX 87),
 (87,cO "is_name" 307 36 1 84 85 .none .none 86 310 311),
 (93,fO "are_unlike" s6 jX 92),
 (92,cO "are_unlike" 313 40 1 89 90 .none .none 91 316 317),
 (98,fO "is_row" s7 jX 97),
 (97,cO "is_row" 319 42 2 94 95 .none .none 96 322 323),
 (105,fO "is_wire" s8 jX 104),
 (104,cO "is_wire" 325 44 2 99 100 (.ref 101) (.ref 102) 103 330 331),
 (110,fO "are_wires" s9 jX 109),
 (109,cO "are_wires" 333 46 4 106 107 .none .none 108 336 337),
 (115,fO "are_rows" Ff jX 114),
 (114,cO "are_rows" 339 50 2 111 112 .none .none 113 342 343),
 (122,fO "is_kind" w5 jX 121),
 (121,cO "is_kind" 345 54 3 116 117 (.ref 118) (.ref 119) 120 353 354),
 (129,fO "is_held" s12 jX 128),
 (128,cO "is_held" 356 70 3 123 124 (.ref 125) (.ref 126) 127 362 363),
 (134,fO "wire_names" s13 jX 133),
 (133,cO "wire_names" 365 72 1 130 131 .none .none 132 368 369),
 (139,fO "waiting_gates" s14 jX 138),
 (138,cO "waiting_gates" 371 74 2 135 136 .none .none 137 374 375),
 (144,fO "told" s15 jX 143),
 (143,cO "told" 377 77 3 140 141 .none .none 142 380 381),
 (151,fO "told_held" s16 jX 150),
 (150,cO "told_held" 383 93 3 145 146 (.ref 147) (.ref 148) 149 391 392),
 (158,fO "checked_talk" s17 Yu 157),
 (157,cO "checked_talk" 398 99 2 152 153 (.ref 154) (.ref 155) 156 403 404),
 (163,fO "is_talk" s18 Yu 162),
 (162,cO "is_talk" 406 103 2 159 160 .none .none 161 409 410),
 (168,fO "is_state" s19 Yu 167),
 (167,cO "is_state" 412 111 3 164 165 .none .none 166 415 416),
 (175,fO "steps" s20 Cr 174),
 (174,cO "steps" 420 118 3 169 170 (.ref 171) (.ref 172) 173 426 427),
 (182,fO "first_stand" s21 Cr 181),
 (181,cO "first_stand" 429 120 1 176 177 (.ref 178) (.ref 179) 180 433 434),
 (187,fO "steps_at" s22 Cr 186),
 (186,cO "steps_at" 436 122 3 183 184 .none .none 185 439 440),
 (194,fO "is_unasked" s23 Cr 193),
 (193,cO "is_unasked" 442 125 3 188 189 (.ref 190) (.ref 191) 192 448 449),
 (201,fO "led_to" s24 Cr 200),
 (200,cO "led_to" 451 127 4 195 196 (.ref 197) (.ref 198) 199 459 460),
 (206,fO "changed" s25 Cr 205),
 (205,cO "changed" 462 132 3 202 203 .none .none 204 465 466),
 (213,fO "newly_met" s26 Cr 212),
 (212,cO "newly_met" 468 134 4 207 208 (.ref 209) (.ref 210) 211 478 479),
 (220,fO "fault" s27 Sv 219),
 (219,cO "fault" 483 143 2 214 215 (.ref 216) (.ref 217) 218 491 492),
 (227,fO "fault_at" s28 Sv 226),
 (226,cO "fault_at" 494 153 4 221 222 (.ref 223) (.ref 224) 225 504 505),
 (232,fO "has_out" s29 Sv 231),
 (231,cO "has_out" 507 162 2 228 229 .none .none 230 510 511),
 (239,fO "fault_of_step" s30 Sv 238),
 (238,cO "fault_of_step" 513 164 5 233 234 (.ref 235) (.ref 236) 237 523 524),
 (246,fO "spoiling" s31 mo4 245),
 (245,cO "spoiling" 528 173 2 240 241 (.ref 242) (.ref 243) 244 539 540),
 (251,fO "since_when" s32 mo4 250),
 (250,cO "since_when" 542 185 3 247 248 .none .none 249 545 546),
 (258,fO "_law_cell_at" s33 km 257),
 (257,cO "_law_cell_at" 550 188 2 252 253 (.ref 254) (.ref 255) 256 555 556),
 (265,fO "_law_mixed" s34 km 264),
 (264,cO "_law_mixed" 558 194 3 259 260 (.ref 261) (.ref 262) 263 565 566),
 (272,fO "_law_next" s35 km 271),
 (271,cO "_law_next" 568 197 3 266 267 (.ref 268) (.ref 269) 270 574 575),
 (279,fO "_law_some" s36 km 278),
 (278,cO "_law_some" 577 200 5 273 274 (.ref 275) (.ref 276) 277 586 587),
 (284,fO "_law_table" s37 km 283),
 (283,cO "_law_table" 589 205 3 280 281 .none .none 282 592 593),
 (291,fO "_law_kind" s38 km 290),
 (290,cO "_law_kind" 595 211 4 285 286 (.ref 287) (.ref 288) 289 604 605),
 (296,fO "_law_net" s39 km 295),
 (295,cO "_law_net" 607 221 4 292 293 .none .none 294 610 611),
 (301,fO "_law_talk" s40 km 300),
 (300,cO "_law_talk" 613 227 4 297 298 .none .none 299 616 617),
 (306,fO "_law_ring" s41 km 305),
 (305,cO "_law_ring" 619 235 2 302 303 .none .none 304 622 623),
 (313,fO "_law_chain" s42 km 312),
 (312,cO "_law_chain" 625 241 2 307 308 (.ref 309) (.ref 310) 311 636 637),
 (320,fO "_law_meeting" s43 km 319),
 (319,cO "_law_meeting" 639 252 2 314 315 (.ref 316) (.ref 317) 318 650 651),
 (325,fO "_law_spoilt_kind" s44 km 324),
 (324,cO "_law_spoilt_kind" 653 266 3 321 322 .none .none 323 656 657),
 (332,fO "_law_case" s45 km 331),
 (331,cO "_law_case" 659 272 2 326 327 (.ref 328) (.ref 329) 330 668 669),
 (337,fO "_law_names" s46 km 336),
 (336,cO "_law_names" 671 292 1 333 334 .none .none 335 674 675),
 (357,fO "_law_led" s47 km 356),
 (356,cO "_law_led" 695 319 4 353 354 .none .none 355 698 699),
 (362,fO "law" s48 km 361),
 (361,cO "law" 701 328 1 358 359 .none .none 360 704 705),
 (52,o52)]
def Ka:List Addr:=[3,59,58,64,63,69,68,76,75,83,82,88,87,93,92,98,97,105,104,110,109,115,114,122,121,129,128,134,133,139,138,144,143,151,150,158,157,163,162,168,167,175,174,182,181,187,186,194,193,201,200,206,205,213,212,220,219,227,226,232,231,239,238,246,245,251,250,258,257,265,264,272,271,279,278,284,283,291,290,296,295,301,300,306,305,313,312,320,319,325,324,332,331,337,336,357,356,362,361,52]
theorem Ke(P:Params):Ka=(Kf P).map (·.1):=rfl
abbrev Kh:PySem.W.Hook:=PySem.W.kHook Kf Ka Ke
def lo:List Str:="__name__"::"WaitError"::"NoNet"::"NoTalk"::"LETTERS"::"LONGEST_NAME"::"WORDS"::"MOST_INPUTS"::"MOST_GATES"::"MOST_WIRES"::"MOST_TABLE_WIRES"::"DEEPEST_HELD"::"checked"::"is_net"::"has_parts"::"is_tuple"::"is_number"::"is_name"::"are_unlike"::"is_row"::"is_wire"::"are_wires"::"are_rows"::"is_kind"::"is_held"::"wire_names"::"waiting_gates"::"told"::"told_held"::"MOST_STATES"::"checked_talk"::"is_talk"::"is_state"::"steps"::"first_stand"::"steps_at"::"is_unasked"::"led_to"::"changed"::"newly_met"::"fault"::"fault_at"::"has_out"::"fault_of_step"::"spoiling"::"since_when"::"_law_cell_at"::"_law_mixed"::"_law_next"::"_law_some"::"_law_table"::"_law_kind"::"_law_net"::"_law_talk"::"_law_ring"::"_law_chain"::"_law_meeting"::"_law_spoilt_kind"::"_law_case"::"_law_names"::"_law_tells"::"_law_waiting"::"_law_steps"::"_law_led"::[]
def qV:Program:=view PySem.Challenge.pw_anywait_k15_whole_spoiling [70]
theorem hl:LeftO PySem.Challenge.pw_anywait_k15_whole_spoiling qV lo (fun s=>recOk [] s) (Hook.obs Kh) (Hook.val Kh) 4698:=fun w=>by
 rw[PySem.W.Fast.te4187177175401517315,PySem.W.Fast.te5923862056798008813,PySem.W.Fast.te14364793385576792824]
 kernel_rfl
end Tx
end
section
namespace L2
open PySem PySem.Spec PyProof.Rows
abbrev Key:=Sum Int Str
def uw:Key->Value->Bool
 |.inl k,v=>Value.isInt k v
 |.inr x,v=>Value.isStrOf x v
def afb(w:World):Key->Int
 |.inl k=>hashInt k
 |.inr x=>hashStr w x
theorem b8:∀{k:Key}{v:Value},uw k v=true->(∃i t,k=Sum.inl i/\v=Value.int i t)\/(∃x t,k=Sum.inr x/\v=Value.str x t)
 |.inl i,v,h=>by
  obtain⟨t,e⟩:=Value.isInt_shape (k:=i) (v:=v) h
  exact .inl ⟨i,t,rfl,e⟩
 |.inr x,v,h=>by
  obtain⟨t,e⟩:=Value.isStrOf_shape (x:=x) (v:=v) h
  exact .inr ⟨x,t,rfl,e⟩
theorem Gs(i:Int)(t:Tok):uw (.inl i) (.int i t)=true:=by simp[uw,Value.isInt]
theorem Gr(x:Str)(t:Tok):uw (.inr x) (.str x t)=true:=by simp[uw,Value.isStrOf]
theorem Wf(a b:Int):decide ((Sum.inl a:Key)=Sum.inl b)=(a==b):=by
 by_cases e:a=b
 ·subst e;simp
 ·have h:¬(Sum.inl a:Key)=Sum.inl b:=fun q=>e (Sum.inl.inj q)
  rw[QEz h]
  exact(beq_eq_false_iff_ne.mpr e).symm
theorem Wc(a b:Str):decide ((Sum.inr a:Key)=Sum.inr b)=decide (a=b):=by
 by_cases e:a=b
 ·subst e;simp
 ·have h:¬(Sum.inr a:Key)=Sum.inr b:=fun q=>e (Sum.inr.inj q)
  rw[QEz h,QEz e]
theorem We(a:Int)(b:Str):decide ((Sum.inl a:Key)=Sum.inr b)=false:=QEz (fun q=>nomatch q)
theorem Wd(a:Str)(b:Int):decide ((Sum.inr a:Key)=Sum.inl b)=false:=QEz (fun q=>nomatch q)
def bJ(prog:Program)(w:World):PySem.KeyKind prog w Key where
 is:=uw
 hash:=afb w
 inj:=fun v a b ha hb=>by
  rcases b8 ha with ⟨i,t,rfl,rfl⟩|⟨x,t,rfl,rfl⟩
  ·rcases b8 hb with ⟨j,u,rfl,e⟩|⟨y,u,rfl,e⟩
   ·injection e with e1 _;rw[e1]
   ·exact nomatch e
  ·rcases b8 hb with ⟨j,u,rfl,e⟩|⟨y,u,rfl,e⟩
   ·exact nomatch e
   ·injection e with e1 _;rw[e1]
 byValue:=fun k v h=>by
  rcases b8 h with ⟨i,t,rfl,rfl⟩|⟨x,t,rfl,rfl⟩<;>rfl
 pyHash:=fun hv h=>by
  rcases b8 hv with ⟨i,t,rfl,rfl⟩|⟨x,t,rfl,rfl⟩
  ·exact wpAny_pyHash_int h
  ·exact wpAny_pyHash_str h
 eqBool:=fun hu hv h=>by
  rcases b8 hu with ⟨i,t,rfl,rfl⟩|⟨x,t,rfl,rfl⟩
  ·rcases b8 hv with ⟨j,u,rfl,rfl⟩|⟨y,u,rfl,rfl⟩
   ·rw[Wf]at h;exact wpAny_eqBool_int h
   ·rw[We]at h;exact SeqAt.EqAt.int_str i t y u _ _ _ _ h
  ·rcases b8 hv with ⟨j,u,rfl,rfl⟩|⟨y,u,rfl,rfl⟩
   ·rw[Wd]at h;exact SeqAt.EqAt.str_int x t j u _ _ _ _ h
   ·rw[Wc]at h;exact wpAny_eqBool_str h
 «strs»:=fun k x t v h=>by
  rcases b8 h with ⟨i,u,rfl,e⟩|⟨y,u,rfl,e⟩
  ·exact nomatch e
  ·injection e with e1 _
   subst e1
   cases v<;>rfl
theorem xT(prog:Program)(w:World)(i:Int)(t:Tok):(bJ prog w).is (.inl i) (.int i t)=true:=Gs i t
theorem xR(prog:Program)(w:World)(x:Str)(t:Tok):(bJ prog w).is (.inr x) (.str x t)=true:=Gr x t
inductive V where
 |non|bl (b:Bool)|int (i:Int)|str (x:Str)|byt (b:Array UInt8)|flt (b:UInt64)|ref (a:Addr)|ty (n:String)
 deriving DecidableEq
def RelV:V->Value->Prop
 |.non,u=>u=Value.none
 |.bl b,u=>u=Value.bool b
 |.int i,u=>∃t,u=Value.int i t
 |.str x,u=>∃t,u=Value.str x t
 |.byt b,u=>∃t,u=Value.bytes b t
 |.flt b,u=>∃t,u=Value.float b t
 |.ref a,u=>u=Value.ref a
 |.ty n,u=>u=Value.type n
abbrev Vals:List V->List Value->Prop:=Paired RelV
theorem Vals.length{xs:List V}{us:List Value}(r:Vals xs us):xs.length=us.length:=Paired.length r
theorem Vals.get:∀{xs:List V}{us:List Value}{i:Nat}{x:V},Vals xs us->xs[i]? =some x->∃u,us[i]? =some u/\RelV x u
 |_,_,_,_,.nil=>fun e=>by simp at e
 |_,_,0,_,.cons r _=>fun e=>by simp at e;subst e;exact⟨_,rfl,r⟩
 |_,_,i+1,x,.cons _ t=>fun e=>by
  obtain⟨u,h1,h2⟩:=Vals.get (i:=i) (x:=x) t (by simpa using e)
  exact⟨u,by simpa using h1,h2⟩
theorem Vals.set{x:V}{u:Value}(r:RelV x u):∀{xs:List V}{us:List Value}(i:Nat),Vals xs us->Vals (xs.set i x) (us.set i u)
 |_,_,_,.nil=>.nil
 |_,_,0,.cons _ t=>.cons r t
 |_,_,i+1,.cons q t=>.cons q (Vals.set r i t)
theorem Vals.append:∀{xs ys:List V}{us ws:List Value},Vals xs us->Vals ys ws->Vals (xs++ys) (us++ws)
 |_,_,_,_,.nil=>fun s=>s
 |_,_,_,_,.cons r t=>fun s=>.cons r (Vals.append t s)
theorem Vals.take:∀{xs:List V}{us:List Value}(n:Nat),Vals xs us->Vals (xs.take n) (us.take n)
 |_,_,0,_=>.nil
 |_,_,_+1,.nil=>.nil
 |_,_,n+1,.cons r t=>.cons r (Vals.take n t)
theorem Vals.drop:∀{xs:List V}{us:List Value}(n:Nat),Vals xs us->Vals (xs.drop n) (us.drop n)
 |_,_,0,r=>r
 |_,_,_+1,.nil=>.nil
 |_,_,n+1,.cons _ t=>Vals.drop n t
def lL:Option V->Option Value->Prop
 |some v,some u=>RelV v u
 |none,none=>True
 |_,_=>False
def KV{κ:Type}:List (κ×V)->List (κ×Value)->Prop:=Paired fun(p:κ×V)(q:κ×Value)=>p.1=q.1/\RelV p.2 q.2
def kV:Key->V
 |.inl i=>.int i
 |.inr x=>.str x
abbrev SK:=List Bool×Int
abbrev SV:=SK×Addr×V
def bh(b:Bool):Int:=reduceHash (if b then 1 else 0)
def stH(k:SK):Int:=reduceHash (Builtin.Tuple.tupleHashOf [reduceHash (Builtin.Tuple.tupleHashOf (k.1.map bh)),hashInt k.2])
abbrev MT:SV->SK×Addr×Value->Prop:=fun p q=>p.1=q.1/\p.2.1=q.2.1/\RelV p.2.2 q.2.2
inductive HO where
 |lst (xs:List V)
 |tup (xs:List V)
 |dK (kvs:List (Key×V))|dT (kvs:List (List Key×V))|dS (xs:List SV)
 |set (S:Int->Bool) (n:Nat)
 |ins (C dx:Addr) (fs:List (Str×V))
 |own (x:Addr)
 |xd (fs:List (Str×V))
 |met (f x:Addr)
 |rng (lo hi:Int)
 |frz (o:Obj) (u:HO)
 |tbl (ps:Array Value)
 |ext (φ:Heap->Prop)
abbrev Hp:=Addr->Option HO
def upd(H:Hp)(a:Addr)(o:HO):Hp:=fun b=>if b=a then some o else H b
variable{H:Hp}{a:Addr}
theorem aP{o:HO}:upd H a o a=some o:=by unfold upd;rw[if_pos rfl]
variable{b:Addr}
theorem aB{o:HO}(h:b≠a):upd H a o b=H b:=by unfold upd;rw[if_neg h]
theorem aa2{o u:HO}(h:H a=some o)(h':H b=some u)(d:o≠u):a≠b:=by
 intro e;subst e;rw[h]at h';exact d (QEq h')
theorem fW{o:HO}(h:H a=some o)(h':H b=none):a≠b:=by
 intro e;subst e;rw[h]at h';cases h'
def TupOk(h:Heap)(a:Addr)(items:Array Value):Prop:=∃o,h.get? a=some o/\o.cls=.type "tuple"/\o.dict=none/\∃n,o.data=.seq items n
variable{h:Heap}
theorem TupOk.is{items:Array Value}(x:TupOk h a items):IsTup h a items:=let ⟨o,e,c,_,d⟩:=x;⟨o,e,c,d⟩
theorem TupOk.new(h:Heap)(items:Array Value):TupOk (h.push {cls:=.type "tuple",data:=.seq items}) h.objs.size items:=⟨_,Qzq _ rfl,rfl,rfl,_,rfl⟩
section
variable(P:Program)(w:World)
def bN(H:Hp)(h:Heap)(a:Addr):HO->Prop
 |.lst xs=>xs.length<=sizeLine/\∃(its:List Value)(n:Nat),Vals xs its/\h.get? a=some {cls:=.type "list",data:=.seq its.toArray n}
 |.tup xs=>xs.length<=sizeLine/\∃its:List Value,Vals xs its/\TupOk h a its.toArray
 |.dK kvs=>kvs.length<=sizeLine/\(a==sysModules)=false/\∃vs,KV kvs vs/\h.DictOf (bJ P w) a vs
 |.dT kvs=>kvs.length<=sizeLine/\(a==sysModules)=false/\∃xs:List (List Key×Addr×Value),
   Paired (fun(p:List Key×V)(q:List Key×Addr×Value)=>p.1=q.1/\H q.2.1=some (.tup (p.1.map kV))/\RelV p.2 q.2.2) kvs xs/\
   ∃o es ep,h.get? a=some o/\o.ExactDict/\o.data=.dict es ep/\es.toList=xs.map (entryOfKey (tupleKind (bJ P w)))/\(xs.map (·.1)).Nodup
 |.dS xs=>xs.length<=sizeLine/\(a==sysModules)=false/\(xs.map (·.1)).Nodup/\∃(ys:List (SK×Addr×Value))(o:Obj)(es:Array DictEntry)(ep:Nat),Paired MT xs ys/\h.get? a=some o/\o.ExactDict/\o.data=.dict es ep/\es.toList=ys.map fun y=>⟨stH y.1,.ref y.2.1,y.2.2⟩
 |.set S n=>h.SetOf (intKind P w) a S n
 |.ins C dx fs=>H dx=some (.own a)/\fs.length<=1000/\dx≠a/\h.get? a=some (PySem.W.instObj C dx)/\
   ∃mA,h.Ns1 dx mA/\(∀f,lL (fs.lookup f) (mA f))/\PySem.Within mA (fs.map (·.1))
 |.own _=>∃o,h.get? a=some o
 |.xd fs=>∃mA,h.Ns1 a mA/\∀f,lL (fs.lookup f) (mA f)
 |.rng lo hi=>∃t u v,h.get? a=some {cls:=.type "range",data:=.fields #[.int lo t,.int hi u,.int 1 v]}
 |.frz o u=>h.get? a=some o/\bN H h a u
 |.tbl ps=>h.get? a=some {cls:=.none,data:=.fields ps}
 |.met f x=>h.get? a=some (PySem.W.methodObj (.ref f) (.ref x))
 |.ext φ=>φ h/\(∃o,h.get? a=some o)/\∀h1 h2:Heap,φ h1->(∀o,h1.get? a=some o->h2.get? a=some o)->φ h2
def lQ(H:Hp)(h:Heap):Prop:=∀a o,H a=some o->bN P w H h a o
end
section
variable{P:Program}{w:World}{H H':Hp}{h h':Heap}{a:Addr}{o:HO}
theorem bN.lt(x:bN P w H h a o):a<h.objs.size:=by
 cases o with
 |lst xs=>obtain⟨_,_,_,_,e⟩:=x;exact Qqz e
 |tup xs=>obtain⟨_,_,_,p⟩:=x;exact p.is.lt
 |dK kvs=>obtain⟨_,_,_,_,o,_,_,e,_⟩:=x;exact Qqz e
 |dT kvs=>obtain⟨_,_,_,_,o,_,_,e,_⟩:=x;exact Qqz e
 |dS xs=>obtain⟨_,_,_,_,o,_,_,_,e,_⟩:=x;exact Qqz e
 |set S n=>obtain⟨o,_,_,_,e,_⟩:=x;exact Qqz e
 |ins C dx fs=>obtain⟨_,_,_,e,_⟩:=x;exact Qqz e
 |own y=>obtain⟨_,e⟩:=x;exact Qqz e
 |xd fs=>obtain⟨_,⟨_,_,_,e,_⟩,_⟩:=x;exact Qqz e
 |rng lo hi=>obtain⟨_,_,_,e⟩:=x;exact Qqz e
 |frz ob u=>obtain⟨e,_⟩:=x;exact Qqz e
 |tbl ps=>exact Qqz (show h.get? a=some _ from x)
 |met f y=>exact Qqz (show h.get? a=some _ from x)
 |ext φ=>obtain⟨_,⟨_,e⟩,_⟩:=x;exact Qqz e
theorem Paired.V6{α β:Type}{F G:α->β->Prop}:∀{l₁:List α}{l₂:List β},Paired F l₁ l₂->(∀a b,F a b->G a b)->Paired G l₁ l₂
 |_,_,.nil=>fun _=>.nil
 |_,_,.cons r t=>fun f=>.cons (f _ _ r) (Paired.V6 t f)
theorem bN.stay(x:bN P w H h a o)(k:∀b u,(b=a\/H b=some (.own a))->h.get? b=some u->h'.get? b=some u)
  (ho:∀b,H b=some (.own a)->H' b=some (.own a))(ht:∀b xs,H b=some (.tup xs)->H' b=some (.tup xs)):bN P w H' h' a o:=by
 induction o with
 |lst xs=>obtain⟨z,its,n,r,e⟩:=x;exact⟨z,its,n,r,k _ _ (.inl rfl) e⟩
 |tup xs=>obtain⟨z,its,r,ob,e,c⟩:=x;exact⟨z,its,r,ob,k _ _ (.inl rfl) e,c⟩
 |dK kvs=>obtain⟨z,y,vs,r,ob,es,ep,e,c⟩:=x;exact⟨z,y,vs,r,ob,es,ep,k _ _ (.inl rfl) e,c⟩
 |dT kvs=>
  obtain⟨z,y,xs,r,ob,es,ep,e,c⟩:=x
  exact⟨z,y,xs,Paired.V6 r fun p q z=>⟨z.1,ht _ _ z.2.1,z.2.2⟩,ob,es,ep,k _ _ (.inl rfl) e,c⟩
 |dS xs=>obtain⟨z,y,nd,ys,ob,es,ep,pr,e,c⟩:=x;exact⟨z,y,nd,ys,ob,es,ep,pr,k _ _ (.inl rfl) e,c⟩
 |set S n=>obtain⟨ob,es,ep,t,e,c⟩:=x;exact⟨ob,es,ep,t,k _ _ (.inl rfl) e,c⟩
 |ins C dx fs=>
  obtain⟨d,z,ne,e,mA,⟨od,es,ep,e2,c⟩,r⟩:=x
  exact⟨ho _ d,z,ne,k _ _ (.inl rfl) e,mA,⟨od,es,ep,k _ _ (.inr d) e2,c⟩,r⟩
 |own y=>obtain⟨ob,e⟩:=x;exact⟨ob,k _ _ (.inl rfl) e⟩
 |xd fs=>obtain⟨mA,⟨od,es,ep,e,c⟩,r⟩:=x;exact⟨mA,⟨od,es,ep,k _ _ (.inl rfl) e,c⟩,r⟩
 |rng lo hi=>obtain⟨t,u,v,e⟩:=x;exact⟨t,u,v,k _ _ (.inl rfl) e⟩
 |frz ob u ih=>obtain⟨e,q⟩:=x;exact⟨k _ _ (.inl rfl) e,ih q⟩
 |tbl ps=>
  have e:h.get? a=some {cls:=.none,data:=.fields ps}:=x
  show h'.get? a=some {cls:=.none,data:=.fields ps}
  exact k a _ (.inl rfl) e
 |met f y=>
  have e:h.get? a=some (PySem.W.methodObj (.ref f) (.ref y)):=x
  show h'.get? a=some (PySem.W.methodObj (.ref f) (.ref y))
  exact k a _ (.inl rfl) e
 |ext φ=>obtain⟨p,⟨o,e⟩,st⟩:=x;exact⟨st _ _ p fun o q=>k _ _ (.inl rfl) q,⟨o,k _ _ (.inl rfl) e⟩,st⟩
theorem lQ.lt(x:lQ P w H h)(e:H a=some o):a<h.objs.size:=(x a o e).lt
theorem lQ.fresh(x:lQ P w H h)(e:h.objs.size<=a):H a=none:=by
 cases q:H a with
 |none=>rfl
 |some u=>exact absurd (Qvq (x.lt q) e) (Nat.lt_irrefl _)
theorem lQ.kept(x:lQ P w H h)(k:∀b u,h.get? b=some u->h'.get? b=some u):lQ P w H h':=fun a o e=>
 (x a o e).stay (fun b u _ q=>k b u q) (fun _ q=>q) fun _ _ q=>q
theorem lQ.laid(x:lQ P w H h)(k:∀b u,h.get? b=some u->h'.get? b=some u)(hp:h.objs.size<=a)(new:bN P w (upd H a o) h' a o):lQ P w (upd H a o) h':=fun b u e=>by
 have hn:=x.fresh hp
 by_cases hb:b=a
 ·subst hb;rw[aP]at e;cases e;exact new
 ·rw[aB hb]at e
  exact(x b u e).stay (fun c v _ q=>k c v q) (fun c q=>by rw[aB (fW q hn)];exact q) fun c xs q=>by rw[aB (fW q hn)];exact q
end
def Rd(H:Hp)(a:Addr)(u:HO):Prop:=H a=some u\/∃o,H a=some (.frz o u)
variable{P:Program}
theorem Rd.ok{w:World}{u:HO}(r:Rd H a u)(x:lQ P w H h):bN P w H h a u:=by
 rcases r with r|⟨o,r⟩
 ·exact x a u r
 ·obtain⟨_,q⟩:=x a _ r
  exact q
def Mut:Option HO->Prop
 |some (.lst _)=>True
 |some (.dK _)=>True
 |some (.dT _)=>True
 |some (.dS _)=>True
 |some (.set _ _)=>True
 |some (.ins _ _ _)=>True
 |some (.ext _)=>True
 |_=>False
section
variable{P:Program}{w:World}{H:Hp}{h h':Heap}{x e:Addr}{o':HO}
theorem lQ.write(ok:lQ P w H h)(mu:Mut (H x))(he:e=x\/H e=some (.own x))(k:∀b u,b≠e->h.get? b=some u->h'.get? b=some u)(heo:∃u,h'.get? e=some u)
  (new:bN P w (upd H x o') h' x o'):lQ P w (upd H x o') h':=fun b u q=>by
 have nown:∀c y,H c=some (.own y)->c≠x:=fun c y r z=>by subst z;rw[r]at mu;exact mu
 have ntup:∀c xs,H c=some (.tup xs)->c≠x:=fun c xs r z=>by subst z;rw[r]at mu;exact mu
 by_cases hb:b=x
 ·subst hb;rw[aP]at q;cases q;exact new
 ·rw[aB hb]at q
  by_cases hbe:b=e
  ·have q':H b=some (.own x):=by
    rcases he with z|z
    ·exact absurd (hbe.trans z) hb
    ·rw[hbe];exact z
   rw[q]at q';cases q'
   obtain⟨v,hv⟩:=heo
   exact⟨v,by rw[hbe];exact hv⟩
  ·refine(ok b u q).stay (fun c v hc r=>k c v ?_ r) (fun c r=>by rw[aB (nown c b r)];exact r) fun c xs r=>by rw[aB (ntup c xs r)];exact r
   rcases hc with rfl|hc
   ·exact hbe
   ·rintro rfl
    rcases he with z|z
    ·exact nown c b hc z
    ·rw[hc]at z;cases z;exact hb rfl
end
structure Un(fs ex:List Addr)(H H':Hp)(h h':Heap):Prop where
 keep:∀b o,h.get? b=some o->H b=none->b∉fs->b∉ex->h'.get? b=some o
 slot:∀b o,h.get? b=some o->H b=none->b∈fs->b∉ex->∃sl,h'.get? b=some {o with slots:=sl}
 free:∀b o,h.get? b=some o->H b=none->b∉ex->H' b=none
 there:∀b o,h.get? b=some o->b∉ex->∃o',h'.get? b=some o'
 tups:∀b xs,H b=some (.tup xs)->H' b=some (.tup xs)
 frzs:∀b o u,H b=some (.frz o u)->H' b=some (.frz o u)
 tbls:∀b ps,H b=some (.tbl ps)->∃more,H' b=some (.tbl (ps++more))
section
variable{fs fs' ex ex':List Addr}{H H1 H2:Hp}{h h1 h2 h':Heap}{a x e:Addr}{o:HO}
theorem Un.any(u:Un fs ex H H1 h h1){ob:Obj}(q:h.get? b=some ob)(n:H b=none)(hx:b∉ex):∃sl,h1.get? b=some {ob with slots:=sl}:=by
 by_cases hb:b∈fs
 ·exact u.slot b ob q n hb hx
 ·exact⟨ob.slots,u.keep b ob q n hb hx⟩
theorem Un.trans(a:Un fs ex H H1 h h1)(b:Un fs ex H1 H2 h1 h2):Un fs ex H H2 h h2 where
 keep:=fun c ob q n hc hx=>b.keep c ob (a.keep c ob q n hc hx) (a.free c ob q n hx) hc hx
 slot:=fun c ob q n hc hx=>by
  obtain⟨sl,e1⟩:=a.slot c ob q n hc hx
  obtain⟨sl',e2⟩:=b.slot c _ e1 (a.free c ob q n hx) hc hx
  exact⟨sl',e2⟩
 free:=fun c ob q n hx=>by
  obtain⟨o',e1⟩:=a.there c ob q hx
  exact b.free c o' e1 (a.free c ob q n hx) hx
 there:=fun c ob q hx=>by
  obtain⟨o',e1⟩:=a.there c ob q hx
  exact b.there c o' e1 hx
 tups:=fun c xs q=>b.tups c xs (a.tups c xs q)
 frzs:=fun c ob xs q=>b.frzs c ob xs (a.frzs c ob xs q)
 tbls:=fun c ps q=>by
  obtain⟨m1,e1⟩:=a.tbls c ps q
  obtain⟨m2,e2⟩:=b.tbls c _ e1
  exact⟨m1++m2,by rw[e2,Array.append_assoc]⟩
theorem Un.kept(k:∀b u,h.get? b=some u->h'.get? b=some u):Un fs ex H H h h':=
 ⟨fun b ob q _ _ _=>k b ob q,fun b ob q _ _ _=>⟨ob.slots,k b ob q⟩,fun _ _ _ n _=>n,fun b ob q _=>⟨ob,k b ob q⟩,fun _ _ q=>q,fun _ _ _ q=>q,fun _ ps q=>⟨#[],by rw[q];simp⟩⟩
theorem Un.refl:Un fs ex H H h h:=Un.kept fun _ _ q=>q
theorem Un.laid(k:∀b u,h.get? b=some u->h'.get? b=some u)(hp:h.objs.size<=a)(hn:H a=none):Un fs ex H (upd H a o) h h' where
 keep:=fun b u q _ _ _=>k b u q
 slot:=fun b u q _ _ _=>⟨u.slots,k b u q⟩
 free:=fun b u q n _=>by rw[aB (Qvz (Qvq (Qqz q) hp))];exact n
 there:=fun b u q _=>⟨u,k b u q⟩
 tups:=fun b xs q=>by rw[aB (fW q hn)];exact q
 frzs:=fun b u xs q=>by rw[aB (fW q hn)];exact q
 tbls:=fun b ps q=>⟨#[],by rw[aB (fW q hn),q];simp⟩
theorem Un.write(mu:Mut (H x))(he:e=x\/H e=some (.own x))(k:∀b u,b≠e->h.get? b=some u->h'.get? b=some u)(heo:∃u,h'.get? e=some u):Un fs ex H (upd H x o) h h':=by
 have hx:∀b,H b=none->b≠x:=fun b n z=>by subst z;rw[n]at mu;exact mu
 have hb:∀b,H b=none->b≠e:=fun b n z=>by
  subst z
  rcases he with r|r
  ·exact hx b n r
  ·rw[n]at r;cases r
 have hm:∀b u,H b=some u->¬Mut (some u)->b≠x:=fun b u q nm z=>by subst z;rw[q]at mu;exact nm mu
 refine⟨fun b u q n _ _=>k b u (hb b n) q,fun b u q n _ _=>⟨u.slots,k b u (hb b n) q⟩,fun b u q n _=>by rw[aB (hx b n)];exact n,fun b u q _=>?_,
  fun b xs q=>by rw[aB (hm b _ q fun z=>z)];exact q,fun b u xs q=>by rw[aB (hm b _ q fun z=>z)];exact q,fun b ps q=>⟨#[],by rw[aB (hm b _ q fun z=>z),q];simp⟩⟩
 by_cases hbe:b=e
 ·subst hbe;exact heo
 ·exact⟨u,k b u hbe q⟩
end
def trk(h:Heap)(H:Hp):List Addr:=(List.range h.objs.size).filter fun a=>(H a).isSome
def vM(h:Heap)(H:Hp):Heap:=PySem.W.hideAll h (trk h H)
theorem Gx(h:Heap)(H:Hp):(vM h H).objs.size=h.objs.size:=PySem.W.hideAll_size _ _
variable{o:Obj}
theorem Kr(e:h.get? b=some o)(n:H b=none):(vM h H).get? b=some o:=
 PySem.W.hideAll_get _ e fun hm=>by
  have q:(H b).isSome=true:=(List.mem_filter.mp hm).2
  rw[n]at q;simp at q
theorem Qa(e:(vM h H).get? b=some o):h.get? b=some o/\H b=none:=by
 have e':h.get? b=some o:=PySem.W.of_hideAll (trk h H) e
 refine⟨e',?_⟩
 cases q:H b with
 |none=>rfl
 |some x=>
  have hm:b∈trk h H:=List.mem_filter.mpr ⟨List.mem_range.mpr (Qqz e'),by simp[q]⟩
  have z:(vM h H).get? b=none:=PySem.W.hideAll_none (trk h H) hm
  rw[z]at e;cases e
def Rb(g h:Heap)(L:Addr):List (Addr×Obj):=(List.range h.objs.size).filterMap fun a=>if a=L\/(g.get? a).isSome=true then none else(h.get? a).map fun o=>(a,o)
def rest(g h:Heap)(L d:Addr):List (Addr×Obj):=(Rb g h L).filter fun p=>decide (p.1≠d)
structure Mod(K:QQq)(mg:QZz)(base:Heap):Prop where
 kin:K.In base
 glob:base.Ns mainGlobals mg
 blt:∃mb,base.Ns builtinsNs mb/\∀x:Str,x≠"__name__"->mb x=bootBuiltins x
 nolimit:base.NoLimit
structure Cx where
 prog:Program
 w:World
 K:QQq
 mg:Str->Option Value
 base:Heap
 A:Around
 N:List Str
 s₀:Shared
 H₀:Hp
 env:Env
 outer:List Env
 stack:List Env
 ex:List Addr
 fn:Str->Bool
 calm:Bool
 pn:List (Addr×Obj)
 xe:Value->Shared->Prop
def frs(l:List Env):List Addr:=l.filterMap (·.frame)
abbrev Cx.fs(X:Cx):List Addr:=frs X.outer
def Zj(sc:Scope)(x:Str):Prop:=sc.names.lookup x=some .local\/sc.names.lookup x=some .cell\/sc.names.lookup x=some .free
def Loc(sc:Scope)(x:Str):Prop:=sc.names.lookup x=some .local\/sc.names.lookup x=some .cell
def Look(env:Env)(h:Heap)(m:QZz)(x:Str)(u:Value):Prop:=
 (env.kindOf x=some .local/\m x=some u)\/((env.kindOf x=some .cell\/env.kindOf x=some .free)/\∃c,env.cells.lookup x=some c/\h.IsCell c (some u))
structure Cx.Ok(X:Cx):Prop where
 mod:Mod X.K X.mg X.base
 kind:X.env.scope.kind=.function
 glob:X.env.globals=mainGlobals
 blt:X.env.builtins=builtinsNs
 above:X.s₀.heap.objs.size<=X.env.locals
 inj:∀x y c,X.env.cells.lookup x=some c->X.env.cells.lookup y=some c->x=y
 has:∀x,(X.env.kindOf x=some .cell\/X.env.kindOf x=some .free)->∃c,X.env.cells.lookup x=some c
 cab:∀x c,X.fn x=true->X.env.cells.lookup x=some c->X.s₀.heap.objs.size<=c
 hd:X.calm=true->X.A.handled=none
 frames:X.A.frames=some X.stack
 stk:X.stack=X.outer\/(X.stack=X.env::X.outer/\X.env.frame=some X.env.locals)
 exf:∀b∈X.ex,b≠X.env.locals/\∀x c,X.env.cells.lookup x=some c->c≠b
 bs:∀b o,X.base.get? b=some o->X.s₀.heap.get? b=some o/\X.H₀ b=none
 bsz:X.base.objs.size<=X.s₀.heap.objs.size
 noex:∀b o,X.base.get? b=some o->b∉X.ex
 exfs:∀b∈X.ex,b∉X.fs
 lw:X.s₀.heap.FunFrames X.base X.outer
 frf:∀b∈X.fs,X.H₀ b=none
structure Inv(X:Cx)(QLz:QQz)(σ:List (Option V))(H:Hp)(s:Shared):Prop where
 ok:X.Ok
 os:s.os=X.s₀.os
 bare:AllBare s.gens
 base:Un X.fs X.ex X.H₀ H X.s₀.heap s.heap
 loc:∃m,s.heap.Ns X.env.locals m/\∀(i:Nat)(x:Str)(v:V),X.N[i]? =some x->σ[i]? =some (some v)->Zj X.env.scope x->∃u,RelV v u/\Look X.env s.heap m x u
 cell:∀x c,X.env.cells.lookup x=some c->∃v,s.heap.IsCell c v
 free:H X.env.locals=none
 freeC:∀x c,X.env.cells.lookup x=some c->H c=none
 pin:∀p∈X.pn++QLz,s.heap.get? p.1=some p.2/\H p.1=none/\p.1≠X.env.locals/\p.1∉X.fs/\∀v,p.2.data≠ .cell v
 hok:lQ X.prog X.w H s.heap
 len:σ.length=X.N.length
variable{A:Around}{M:Model}{Q:Unit->Shared->Prop}{i t':Nat}{u:Value}{v:V}{x:Str}
section
variable{X:Cx}{QLz:QQz}{σ:List (Option V)}{H H':Hp}{s:Shared}{h':Heap}
theorem Cx.Ok.ae5(ok:X.Ok)(e:X.base.get? b=some o):b∉X.fs:=fun hb=>by
 have:=(ok.lw.mem hb).1
 rw[e]at this;cases this
theorem Inv.bs(I:Inv X QLz σ H s):∀b o,X.base.get? b=some o->s.heap.get? b=some o/\H b=none:=fun b o e=>
 ⟨I.base.keep b o (I.ok.bs b o e).1 (I.ok.bs b o e).2 (I.ok.ae5 e) (I.ok.noex b o e),I.base.free b o (I.ok.bs b o e).1 (I.ok.bs b o e).2 (I.ok.noex b o e)⟩
theorem Inv.bk(I:Inv X QLz σ H s):∀b o,X.base.get? b=some o->s.heap.get? b=some o:=fun b o e=>(I.bs b o e).1
theorem Inv.mod(I:Inv X QLz σ H s):Mod X.K X.mg X.base:=I.ok.mod
theorem Inv.YC(I:Inv X QLz σ H s):X.K.In s.heap:=I.ok.mod.kin.keeps I.bk
theorem Inv.fr(I:Inv X QLz σ H s):∃m,Fr X.base X.env.locals s.heap m:=
 let ⟨m,hn,_⟩:=I.loc
 ⟨m,hn,I.bk,Nat.le_trans I.ok.bsz I.ok.above⟩
theorem Inv.lt(I:Inv X QLz σ H s):X.env.locals<s.heap.objs.size:=let ⟨_,hn,_⟩:=I.loc;hn.lt
theorem Inv.sz(I:Inv X QLz σ H s):X.s₀.heap.objs.size<=s.heap.objs.size:=Nat.le_trans I.ok.above (Nat.le_of_lt I.lt)
theorem Inv.ae4(I:Inv X QLz σ H s)(h:s.heap.objs.size<=a):a∉X.fs:=fun hb=>by
 obtain⟨_,o,ho,_⟩:=I.ok.lw.mem hb
 exact absurd (Qvq (Qqz ho) (Nat.le_trans I.sz h)) (Nat.lt_irrefl _)
theorem Inv.Xy(I:Inv X QLz σ H s):∀x c,X.env.cells.lookup x=some c->c≠X.env.locals:=fun x c e z=>by
 obtain⟨v,o,ho,hd⟩:=I.cell x c e
 obtain⟨m,⟨o',es,ep,ho',hd',_⟩,_⟩:=I.loc
 rw[z,ho']at ho;cases ho;rw[hd']at hd;cases hd
theorem Inv.lw(I:Inv X QLz σ H s):s.heap.FunFrames X.base X.outer:=by
 have all:∀(l:List Env),(∀b∈frs l,b∈X.fs)->X.s₀.heap.FunFrames X.base l->s.heap.FunFrames X.base l:=by
  intro l
  induction l with
  |nil=>intro _ _;trivial
  |cons env r ih=>
   intro hs hl
   obtain⟨hk,⟨L,o,hf,hn,ho,hd⟩,hr⟩:=hl
   have hL:L∈X.fs:=hs L (by unfold frs;rw[List.filterMap_cons,hf];exact QYz)
   obtain⟨sl,e⟩:=I.base.slot L o ho (I.ok.frf L hL) hL fun z=>I.ok.exfs L z hL
   exact⟨hk,⟨L,_,hf,hn,e,hd⟩,ih (fun b hb=>hs b (by unfold frs;rw[List.filterMap_cons,hf];exact QYq _ hb)) hr⟩
 exact all X.outer (fun _ hb=>hb) I.ok.lw
theorem Inv.stack(I:Inv X QLz σ H s):s.heap.FunFrames X.base X.stack:=by
 rcases I.ok.stk with e|⟨e,hf⟩
 ·rw[e];exact I.lw
 ·rw[e]
  obtain⟨m,hn,_⟩:=I.loc
  refine .cons (by rw[I.ok.kind];decide) hf hn ?_ I.lw
  exact Heap.get?_none_of_le (Nat.le_trans I.ok.bsz I.ok.above)
theorem Inv.zj(I:Inv X QLz σ H s):∀b∈frs X.stack,b∈X.env.locals::X.fs:=fun b hb=>by
 rcases I.ok.stk with e|⟨e,hf⟩
 ·rw[e]at hb;exact QYq _ hb
 ·rw[e]at hb
  unfold frs at hb
  rw[List.filterMap_cons,hf]at hb
  exact hb
theorem Inv.Bx(I:Inv X QLz σ H s):∀b∈frs X.stack,H b=none:=fun b hb=>by
 rcases QCq.mp (I.zj b hb)with e|hb
 ·rw[e];exact I.free
 ·obtain⟨_,o,ho,_⟩:=I.ok.lw.mem hb
  exact I.base.free b o ho (I.ok.frf b hb) fun z=>I.ok.exfs b z hb
theorem Inv.step{g':Array GenState}{d':Drawn}{ch:List Addr}(I:Inv X QLz σ H s)
  (hch:∀b∈ch,(b∈X.ex\/X.s₀.heap.objs.size<=b)/\b≠X.env.locals/\(∀x c,X.env.cells.lookup x=some c->c≠b)/\∀p∈X.pn++QLz,p.1≠b)
  (keep:∀b o,b≠X.env.locals->b∉X.fs->b∉ch->s.heap.get? b=some o->H b=none->h'.get? b=some o)
  (slot:∀b o,b≠X.env.locals->b∈X.fs->b∉ch->s.heap.get? b=some o->H b=none->∃sl,h'.get? b=some {o with slots:=sl})(free:∀b o,b∉ch->s.heap.get? b=some o->H b=none->H' b=none)
  (there:∀b o,b∉ch->s.heap.get? b=some o->∃o',h'.get? b=some o')
  (tups:∀b xs,H b=some (.tup xs)->H' b=some (.tup xs))(frzs:∀b o u,H b=some (.frz o u)->H' b=some (.frz o u))(tbls:∀b ps,H b=some (.tbl ps)->∃more,H' b=some (.tbl (ps++more)))
  (ns:∀m,s.heap.Ns X.env.locals m->h'.Ns X.env.locals m)(hok:lQ X.prog X.w H' h')(hg:AllBare g'):
  Inv X QLz σ H' {s with heap:=h',gens:=g',drawn:=d',toks:=t'}:=by
 have neL:∀b o,X.s₀.heap.get? b=some o->b≠X.env.locals:=fun b o e=>Qvz (Qvq (Qqz e) I.ok.above)
 have neC:∀b o,X.s₀.heap.get? b=some o->b∉X.ex->b∉ch:=fun b o e hx hb=>by
  rcases (hch b hb).1 with z|z
  ·exact hx z
  ·exact absurd (Qvq (Qqz e) z) (Nat.lt_irrefl _)
 have cellK:∀x c,X.env.cells.lookup x=some c->∀v,s.heap.IsCell c v->h'.IsCell c v:=fun x c e v⟨o,ho,hd⟩=>by
  have nch:c∉ch:=fun z=>(hch c z).2.2.1 x c e rfl
  by_cases hc:c∈X.fs
  ·obtain⟨sl,q⟩:=slot c o (I.Xy x c e) hc nch ho (I.freeC x c e)
   exact⟨_,q,hd⟩
  ·exact⟨o,keep c o (I.Xy x c e) hc nch ho (I.freeC x c e),hd⟩
 refine⟨I.ok,I.os,hg,⟨fun b o e n hb hx=>?_,fun b o e n hb hx=>?_,fun b o e n hx=>?_,fun b o e hx=>?_,fun b xs e=>tups b xs (I.base.tups b xs e),fun b o xs e=>frzs b o xs (I.base.frzs b o xs e),fun b ps e=>?_⟩,?_,fun x c e=>?_,?_,fun x c e=>?_,fun p hp=>?_,hok,I.len⟩
 ·exact keep b o (neL b o e) hb (neC b o e hx) (I.base.keep b o e n hb hx) (I.base.free b o e n hx)
 ·obtain⟨sl,e1⟩:=I.base.slot b o e n hb hx
  obtain⟨sl',e2⟩:=slot b _ (neL b o e) hb (neC b o e hx) e1 (I.base.free b o e n hx)
  exact⟨sl',e2⟩
 ·obtain⟨o',e1⟩:=I.base.there b o e hx
  exact free b o' (neC b o e hx) e1 (I.base.free b o e n hx)
 ·obtain⟨o',e1⟩:=I.base.there b o e hx
  exact there b o' (neC b o e hx) e1
 ·obtain⟨m1,e1⟩:=I.base.tbls b ps e
  obtain⟨m2,e2⟩:=tbls b _ e1
  exact⟨m1++m2,by rw[e2,Array.append_assoc]⟩
 ·obtain⟨m,hn,hl⟩:=I.loc
  refine⟨m,ns m hn,fun i x v e1 e2 e3=>?_⟩
  obtain⟨u,r,l⟩:=hl i x v e1 e2 e3
  refine⟨u,r,?_⟩
  rcases l with l|⟨k,c,e,z⟩
  ·exact .inl l
  ·exact .inr ⟨k,c,e,cellK x c e _ z⟩
 ·obtain⟨v,z⟩:=I.cell x c e
  exact⟨v,cellK x c e v z⟩
 ·obtain⟨m,⟨o,_,_,ho,_⟩,_⟩:=I.loc
  exact free _ o (fun z=>(hch _ z).2.1 rfl) ho I.free
 ·obtain⟨v,o,ho,hd⟩:=I.cell x c e
  exact free c o (fun z=>(hch c z).2.2.1 x c e rfl) ho (I.freeC x c e)
 ·obtain⟨e,n,ne,nf,d⟩:=I.pin p hp
  have nch:p.1∉ch:=fun z=>(hch p.1 z).2.2.2 p hp rfl
  exact⟨keep p.1 p.2 ne nf nch e n,free p.1 p.2 nch e n,ne,nf,d⟩
theorem Inv.un(I:Inv X QLz σ H s)(u:Un X.fs [] H H' s.heap h')(hok:lQ X.prog X.w H' h'):Inv X QLz σ H' {s with heap:=h',toks:=t'}:=by
 obtain⟨m,⟨o,es,ep,ho,r⟩,_⟩:=id I.loc
 obtain⟨sl,hL⟩:=u.any ho I.free (by simp)
 exact I.step (g':=s.gens) (d':=s.drawn) (ch:=[]) (fun _ z=>nomatch z) (fun b o _ hb _ e n=>u.keep b o e n hb (by simp)) (fun b o _ hb _ e n=>u.slot b o e n hb (by simp)) (fun b o _ e n=>u.free b o e n (by simp)) (fun b o _ e=>u.there b o e (by simp)) u.tups u.frzs u.tbls (fun m' hm=>by
  obtain⟨o',es',ep',ho',r'⟩:=hm
  rw[ho]at ho';cases ho'
  exact⟨_,es',ep',hL,r'⟩) hok I.bare
theorem Inv.call{g':Array GenState}{d':Drawn}{ch:List Addr}(I:Inv X QLz σ H s)(u:Un (frs X.stack) ch H H' s.heap h')(hok:lQ X.prog X.w H' h')(hg:AllBare g')
  (hch:∀b∈ch,(b∈X.ex\/X.s₀.heap.objs.size<=b)/\b≠X.env.locals/\(∀x c,X.env.cells.lookup x=some c->c≠b)/\∀p∈X.pn++QLz,p.1≠b):
  Inv X QLz σ H' {s with heap:=h',gens:=g',drawn:=d',toks:=t'}:=by
 obtain⟨m,⟨o,es,ep,ho,r⟩,_⟩:=id I.loc
 obtain⟨sl,hL⟩:=u.any ho I.free fun z=>(hch _ z).2.1 rfl
 exact I.step (ch:=ch) hch (fun b o hL hb hc e n=>u.keep b o e n (fun z=>(QCq.mp (I.zj b z)).elim hL hb) hc) (fun b o _ _ hc e n=>u.any e n hc) (fun b o hc e n=>u.free b o e n hc) (fun b o hc e=>u.there b o e hc) u.tups u.frzs u.tbls (fun m' hm=>by
  obtain⟨o',es',ep',ho',r'⟩:=hm
  rw[ho]at ho';cases ho'
  exact⟨_,es',ep',hL,r'⟩) hok hg
theorem Inv.turned{it:Addr}(I:Inv X QLz σ H s)(k:∀b o,b≠it->s.heap.get? b=some o->h'.get? b=some o)(hn:H it=none)(hL:it≠X.env.locals)
  (h1:it∈X.ex\/X.s₀.heap.objs.size<=it)(h2:∀x c,X.env.cells.lookup x=some c->c≠it)(h3:∀p∈X.pn++QLz,p.1≠it):Inv X QLz σ H {s with heap:=h',toks:=t'}:=by
 have nit:∀b u,H b=some u->b≠it:=fun b u e z=>by rw[z,hn]at e;cases e
 refine I.step (g':=s.gens) (d':=s.drawn) (ch:=[it]) (fun b hb=>?_) (fun b o _ _ hc e _=>k b o (fun z=>hc (by simp[z])) e) (fun b o _ _ hc e _=>⟨o.slots,k b o (fun z=>hc (by simp[z])) e⟩) (fun _ _ _ _ n=>n)
  (fun b o hc e=>⟨o,k b o (fun z=>hc (by simp[z])) e⟩) (fun _ _ e=>e) (fun _ _ _ e=>e) (fun b ps e=>⟨#[],by rw[e];simp⟩) (fun m hm=>?_) (fun b u e=>?_) I.bare
 ·have e:b=it:=by simpa using hb
  subst e
  exact⟨h1,hL,h2,h3⟩
 ·obtain⟨o,es,ep,ho,r⟩:=hm
  exact⟨o,es,ep,k _ o (Ne.symm hL) ho,r⟩
 ·refine(I.hok b u e).stay (fun c v hc q=>k c v ?_ q) (fun _ q=>q) fun _ _ q=>q
  rcases hc with z|z
  ·rw[z];exact nit b u e
  ·exact nit c _ z
theorem Inv.tok(I:Inv X QLz σ H s)(t:Nat):Inv X QLz σ H {s with toks:=t}:=I.un (h':=s.heap) (t':=t) Un.refl I.hok
theorem Inv.kept{t':Nat}(I:Inv X QLz σ H s)(k:∀b u,s.heap.get? b=some u->h'.get? b=some u):Inv X QLz σ H {s with heap:=h',toks:=t'}:=I.un (Un.kept k) (I.hok.kept k)
theorem Inv.laid{a:Addr}{o:HO}{t':Nat}(I:Inv X QLz σ H s)(k:∀b u,s.heap.get? b=some u->h'.get? b=some u)(hp:s.heap.objs.size<=a)(new:bN X.prog X.w (upd H a o) h' a o):
  Inv X QLz σ (upd H a o) {s with heap:=h',toks:=t'}:=I.un (Un.laid k hp (I.hok.fresh hp)) (I.hok.laid k hp new)
theorem Inv.write{x e:Addr}{o:HO}{t':Nat}(I:Inv X QLz σ H s)(mu:Mut (H x))(he:e=x\/H e=some (.own x))(k:∀b u,b≠e->s.heap.get? b=some u->h'.get? b=some u)(heo:∃u,h'.get? e=some u)
  (new:bN X.prog X.w (upd H x o) h' x o):Inv X QLz σ (upd H x o) {s with heap:=h',toks:=t'}:=I.un (Un.write mu he k heo) (I.hok.write mu he k heo new)
theorem Inv.Cg{pins':QQz}(I:Inv X QLz σ H s)(h:∀p∈pins',s.heap.get? p.1=some p.2/\H p.1=none/\p.1≠X.env.locals/\p.1∉X.fs/\∀v,p.2.data≠ .cell v):Inv X pins' σ H s:=
 ⟨I.ok,I.os,I.bare,I.base,I.loc,I.cell,I.free,I.freeC,fun p hp=>(QXz.mp hp).elim (fun z=>I.pin p (QWz _ z)) (h p),I.hok,I.len⟩
theorem xQ{N:List Str}(hN:N.Nodup){j:Nat}(a:N[i]? =some x)(b:N[j]? =some x):i=j:=by
 obtain⟨h1,e1⟩:=QCz.mp a
 obtain⟨h2,e2⟩:=QCz.mp b
 exact(List.getElem_inj hN).mp (e1.trans e2.symm)
theorem sV{E:QZq}(I:Inv X QLz σ H s)(hN:X.N.Nodup)(hi:X.N[i]? =some x)(hx:Loc X.env.scope x)(r:RelV v u)
  (h:∀s',Inv X QLz (σ.set i (some v)) H s'->(∃a,Heap.SameBut a s.heap s'.heap/\(a=X.env.locals\/X.env.cells.lookup x=some a))->Q () s')(hf:X.fn x=true\/X.env.scope.names.lookup x=some .local:=by first|exact .inl rfl|exact .inr rfl|assumption):wpAny M A (storeName X.env x u) Q E s:=by
 obtain⟨m,hn,hl⟩:=id I.loc
 have hcls:(X.env.scope.kind== .class||(X.env.scope.kind== .module&&X.env.locals !=X.env.globals))=false:=by rw[I.ok.kind];rfl
 have hiσ:i<σ.length:=by rw[I.len];exact(QCz.mp hi).1
 have Xy:=I.Xy
 have tracked:∀{a:Addr}{h':Heap},(∃o,s.heap.get? a=some o/\H a=none)->Heap.SameBut a s.heap h'->lQ X.prog X.w H h':=fun{a h'}ha hs b ob e=>by
  obtain⟨_,_,hfree⟩:=ha
  refine(I.hok b ob e).stay (fun c w' hc q=>(hs.2 c ?_).trans q) (fun _ q=>q) fun _ _ q=>q
  rintro rfl
  rcases hc with rfl|hc
  ·rw[hfree]at e;cases e
  ·rw[hfree]at hc;cases hc
 rcases hx with hk|hk
 ·refine wpAny_storeName_local hk hn (fun h' hn' hs=>?_) hcls
  obtain⟨oL,_,_,hoL,_⟩:=id hn
  refine h _ ⟨I.ok,I.os,I.bare,⟨fun b o e n hb hx=>?_,fun b o e n hb hx=>?_,I.base.free,fun b o e hx=>?_,I.base.tups,I.base.frzs,I.base.tbls⟩,⟨_,hn',fun j y v' e1 e2 e3=>?_⟩,fun y c e=>?_,I.free,I.freeC,fun p hp=>?_,tracked ⟨oL,hoL,I.free⟩ hs,by simpa using I.len⟩ ⟨_,hs,.inl rfl⟩
  ·exact(hs.2 b (Qvz (Qvq (Qqz e) I.ok.above))).trans (I.base.keep b o e n hb hx)
  ·obtain⟨sl,e1⟩:=I.base.slot b o e n hb hx
   exact⟨sl,(hs.2 b (Qvz (Qvq (Qqz e) I.ok.above))).trans e1⟩
  ·obtain⟨o',e1⟩:=I.base.there b o e hx
   exact⟨o',(hs.2 b (Qvz (Qvq (Qqz e) I.ok.above))).trans e1⟩
  ·by_cases hj:j=i
   ·subst hj
    rw[hi]at e1;cases e1
    rw[Qwq hiσ]at e2
    cases e2
    exact⟨u,r,.inl ⟨hk,by simp⟩⟩
   ·rw[Qxz (Ne.symm hj)]at e2
    obtain⟨u',r',q⟩:=hl j y v' e1 e2 e3
    refine⟨u',r',?_⟩
    rcases q with ⟨k,e⟩|⟨k,c,e,z⟩
    ·refine .inl ⟨k,?_⟩
     have:y≠x:=fun e=>hj (xQ hN e1 (e▸hi))
     simp[this,e]
    ·exact .inr ⟨k,c,e,z.sameBut hs (Xy y c e)⟩
  ·obtain⟨w',z⟩:=I.cell y c e
   exact⟨w',z.sameBut hs (Xy y c e)⟩
  ·obtain⟨e,n,ne,nf,d⟩:=I.pin p hp
   exact⟨(hs.2 p.1 ne).trans e,n,ne,nf,d⟩
 ·have hfn:X.fn x=true:=by
   rcases hf with z|z
   ·exact z
   ·rw[z]at hk;cases hk
  obtain⟨c,hc⟩:=I.ok.has x (.inl hk)
  obtain⟨w',z⟩:=I.cell x c hc
  refine wpAny_storeName_cell I.ok.kind hk hc z (fun h' hc' hs=>?_)
  obtain⟨oc,hoc,hocd⟩:=id z
  refine h {s with heap:=h'} ⟨I.ok,I.os,I.bare,⟨fun b o e n hb hx=>?_,fun b o e n hb hx=>?_,I.base.free,fun b o e hx=>?_,I.base.tups,I.base.frzs,I.base.tbls⟩,⟨m,hn.sameBut hs (Ne.symm (Xy x c hc)),fun j y v' e1 e2 e3=>?_⟩,fun y c' e=>?_,I.free,I.freeC,fun p hp=>?_,tracked ⟨oc,hoc,I.freeC x c hc⟩ hs,by simpa using I.len⟩ ⟨c,hs,.inr hc⟩
  ·exact(hs.2 b (Qvz (Qvq (Qqz e) (I.ok.cab x c hfn hc)))).trans (I.base.keep b o e n hb hx)
  ·obtain⟨sl,e1⟩:=I.base.slot b o e n hb hx
   exact⟨sl,(hs.2 b (Qvz (Qvq (Qqz e) (I.ok.cab x c hfn hc)))).trans e1⟩
  ·obtain⟨o',e1⟩:=I.base.there b o e hx
   exact⟨o',(hs.2 b (Qvz (Qvq (Qqz e) (I.ok.cab x c hfn hc)))).trans e1⟩
  ·by_cases hj:j=i
   ·subst hj
    rw[hi]at e1;cases e1
    rw[Qwq hiσ]at e2
    cases e2
    exact⟨u,r,.inr ⟨.inl hk,c,hc,hc'⟩⟩
   ·rw[Qxz (Ne.symm hj)]at e2
    obtain⟨u',r',q⟩:=hl j y v' e1 e2 e3
    refine⟨u',r',?_⟩
    rcases q with q|⟨k,c',e,z'⟩
    ·exact .inl q
    ·refine .inr ⟨k,c',e,z'.sameBut hs ?_⟩
     rintro rfl
     exact hj (xQ hN e1 (I.ok.inj _ _ _ e hc▸hi))
  ·by_cases hcc:c'=c
   ·subst hcc;exact⟨_,hc'⟩
   ·obtain⟨w2,z2⟩:=I.cell y c' e
    exact⟨w2,z2.sameBut hs hcc⟩
  ·obtain⟨e,n,ne,nf,d⟩:=I.pin p hp
   refine⟨(hs.2 p.1 ?_).trans e,n,ne,nf,d⟩
   intro q
   rw[q,hoc]at e
   have q':oc=p.2:=QEq e
   exact d w' (by rw[<-q'];exact hocd)
theorem wV{E:QZq}(I:Inv X QLz σ H s)(hN:X.N.Nodup)(hi:X.N[i]? =some x)(hx:Loc X.env.scope x)(r:RelV v u)
  (h:∀s',Inv X QLz (σ.set i (some v)) H s'->Q () s')(hf:X.fn x=true\/X.env.scope.names.lookup x=some .local:=by first|exact .inl rfl|exact .inr rfl|assumption):wpAny M A (storeName X.env x u) Q E s:=
 sV I hN hi hx r (fun s' I' _=>h s' I') hf
theorem Inv.call'{s':Shared}{ch:List Addr}(I:Inv X QLz σ H s)(ho:s'.os=s.os)(u:Un (frs X.stack) ch H H' s.heap s'.heap)(hok:lQ X.prog X.w H' s'.heap)(hg:AllBare s'.gens)
  (hch:∀b∈ch,(b∈X.ex\/X.s₀.heap.objs.size<=b)/\b≠X.env.locals/\(∀x c,X.env.cells.lookup x=some c->c≠b)/\∀p∈X.pn++QLz,p.1≠b):Inv X QLz σ H' s':=by
 obtain⟨h',g',d',t',o'⟩:=s'
 have e:o'=s.os:=ho
 subst e
 exact I.call (g':=g') (t':=t') (d':=d') u hok hg hch
end
abbrev XK:=Value->Option Addr->Hp->Prop
abbrev St:=List (Option V)
abbrev VK:=V->Hp->Prop
abbrev TE:=St->Hp->VK->Prop
abbrev TT:=St->Hp->(Bool->Hp->Prop)->Prop
abbrev TA:=St->Hp->(List V->Hp->Prop)->Prop
structure Ends where
 nx:St->Hp->Prop
 rt:VK
 bk:St->Hp->Prop:=fun _ _=>False
 ct:St->Hp->Prop:=fun _ _=>False
abbrev TS:=Ends->St->Hp->Prop
def EP(X:Cx)(QLz:QQz)(σ:St)(Q:VK)(u:Value)(s':Shared):Prop:=∃v H',Inv X QLz σ H' s'/\RelV v u/\Q v H'
def TP(X:Cx)(QLz:QQz)(σ:St)(Q:Bool->Hp->Prop)(b:Bool)(s':Shared):Prop:=∃H',Inv X QLz σ H' s'/\Q b H'
def AP(X:Cx)(QLz:QQz)(σ:St)(Q:List V->Hp->Prop)(us:List Value)(s':Shared):Prop:=∃vs H',Inv X QLz σ H' s'/\Vals vs us/\Q vs H'
def SP(X:Cx)(QLz:QQz)(D:Ends)(f:Flow)(s':Shared):Prop:=
 match f with
 |.next=>∃σ' H',Inv X QLz σ' H' s'/\D.nx σ' H'
 |.brk=>∃σ' H',Inv X QLz σ' H' s'/\D.bk σ' H'
 |.cont=>∃σ' H',Inv X QLz σ' H' s'/\D.ct σ' H'
 |.ret u=>∃v σ' H',Inv X QLz σ' H' s'/\RelV v u/\D.rt v H'
def PE(X:Cx)(e:Expr)(t:TE):Prop:=
 ∀(QLz:QQz)(s:Shared)(σ:St)(H:Hp)(Q:VK),Inv X QLz σ H s->t σ H Q->wpAny (model X.prog X.w) X.A (eval e X.env) (EP X QLz σ Q) X.xe s
def PT(X:Cx)(e:Expr)(t:TT):Prop:=
 ∀(QLz:QQz)(s:Shared)(σ:St)(H:Hp)(Q:Bool->Hp->Prop),Inv X QLz σ H s->t σ H Q->wpAny (model X.prog X.w) X.A (isTrue e X.env (eval e X.env)) (TP X QLz σ Q) X.xe s
def PW(X:Cx)(e:Expr)(t:TT):Prop:=
 ∀(whole:Sem Value)(QLz:QQz)(s:Shared)(σ:St)(H:Hp)(Q:Bool->Hp->Prop),Inv X QLz σ H s->t σ H Q->wpAny (model X.prog X.w) X.A (isTrue e X.env whole) (TP X QLz σ Q) X.xe s
variable{X:Cx}{e:Expr}
theorem PW.pt{t:TT}(h:PW X e t):PT X e t:=h _
def PA(X:Cx)(es:List Expr)(t:TA):Prop:=
 ∀(pos:Pos)(QLz:QQz)(s:Shared)(σ:St)(H:Hp)(Q:List V->Hp->Prop),Inv X QLz σ H s->t σ H Q->wpAny (model X.prog X.w) X.A (spliced (backTo pos (starEach es X.env))) (AP X QLz σ Q) X.xe s
def PS(X:Cx)(st:Stmt)(t:TS):Prop:=
 ∀(QLz:QQz)(s:Shared)(σ:St)(H:Hp)(D:Ends),Inv X QLz σ H s->t D σ H->wpAny (model X.prog X.w) X.A (exec st X.env) (SP X QLz D) X.xe s
def wz(X:Cx)(st:List Stmt)(t:TS):Prop:=
 ∀(QLz:QQz)(s:Shared)(σ:St)(H:Hp)(D:Ends),Inv X QLz σ H s->t D σ H->wpAny (model X.prog X.w) X.A (execs st X.env) (SP X QLz D) X.xe s
variable{s:Shared}
theorem bW{α:Type}{t:Sem α}{Q Q':α->Shared->Prop}{E:QZq}(h:wpAny M A t Q E s)(hQ:∀a s,Q a s->Q' a s):wpAny M A t Q' E s:=QGq h hQ fun _ _ x=>x
variable{QLz:QQz}{c:Expr}{pos:Pos}{σ:St}
section
variable{X:Cx}
theorem bin{a b:Expr}{ta tb:TE}(ha:PE X a ta)(hb:PE X b tb){R:V->V->Hp->Prop}(I:Inv X QLz σ H s)(h:ta σ H fun x H1=>tb σ H1 fun y H2=>R x y H2)
  {α:Type}{Q:α->Shared->Prop}{f:Value->Value->Sem α}
  (hf:∀v u s2 x y H2,Inv X QLz σ H2 s2->RelV x v->RelV y u->R x y H2->wpAny (model X.prog X.w) X.A (f v u) Q X.xe s2):
  wpAny (model X.prog X.w) X.A (eval a X.env) (fun v s₁=>wpAny (model X.prog X.w) X.A (eval b X.env) (fun u s₂=>wpAny (model X.prog X.w) X.A (f v u) Q X.xe s₂) X.xe s₁) X.xe s:=by
 refine bW (ha QLz s σ H _ I h) fun v s1⟨x,H1,I1,r1,q1⟩=>?_
 refine bW (hb QLz s1 σ H1 _ I1 q1) fun u s2⟨y,H2,I2,r2,q2⟩=>?_
 exact hf v u s2 x y H2 I2 r1 r2 q2
def HF(i:Nat):TE:=fun σ H Q=>∃v,σ[i]? =some (some v)/\Q v H
def tC(v:V):TE:=fun _ H Q=>Q v H
theorem Jj(hN:X.N[i]? =some x)(hv:Zj X.env.scope x)(hd:(x==("__debug__":Str))=false:=by decide)(hcd:(x==("__classdict__":Str))=false:=by decide):PE X (.Name x pos) (HF i):=by
 intro QLz s σ H Q I h
 obtain⟨v,e,h⟩:=h
 obtain⟨m,hn,hl⟩:=I.loc
 obtain⟨u,r,l⟩:=hl i x v hN e hv
 have fin:EP X QLz σ Q u s:=⟨v,H,I,r,h⟩
 rcases l with ⟨hk,hm⟩|⟨hk,c,hc,hcell⟩
 ·exact wpAny_Name (wpAny_loadName_local I.ok.kind hk hn hm fin) hd
 ·rcases hk with hk|hk
  ·exact wpAny_Name (wpAny_loadName_cell I.ok.kind hk hc hcell fin) hd
  ·exact wpAny_Name (wpAny_loadName_free I.ok.kind hk hc hcell fin hcd) hd
theorem Vy{i j pos}:PE X (.Constant (.int i) j pos) (tC (.int i)):=fun _ _ _ H _ I h=>wpAny_Constant_int ⟨.int i,H,I.tok _,⟨_,rfl⟩,h⟩
theorem aaN{b j pos}:PE X (.Constant (.bool b) j pos) (tC (.bl b)):=fun _ _ _ H _ I h=>Constant_bool ⟨.bl b,H,I,rfl,h⟩
theorem Vw{j pos}:PE X (.Constant .none j pos) (tC .non):=fun _ _ _ H _ I h=>Constant_none ⟨.non,H,I,rfl,h⟩
theorem Vv{x j pos}:PE X (.Constant (.str x) j pos) (tC (.str x)):=fun _ _ _ H _ I h=>Calls.Constant_str ⟨.str x,H,I.tok _,⟨_,rfl⟩,h⟩
def Gl(X:Cx)(x:Str):Prop:=X.env.kindOf x=some .globalImplicit
theorem CZ{E:QZq}{Q:QZq}(I:Inv X QLz σ H s)(hg:Gl X x)(hm:X.mg x=some u)(h:Q u s)
  (hd:(x==("__debug__":Str))=false:=by decide):wpAny (model X.prog X.w) X.A (eval (.Name x pos) X.env) Q E s:=
 Calls.Name_function_global I.ok.kind hg (Calls.loadGlobal_global (by rw[I.ok.glob];exact I.mod.glob.keeps I.bk) hm h) hd
theorem iB{E:QZq}{Q:QZq}(I:Inv X QLz σ H s)(hg:Gl X x)(hm:X.mg x=none)(hv:bootBuiltins x=some u)(h:Q u s)
  (hn:x≠"__name__":=by decide)(hd:(x==("__debug__":Str))=false:=by decide):wpAny (model X.prog X.w) X.A (eval (.Name x pos) X.env) Q E s:=by
 obtain⟨mb,h1,h2⟩:=I.mod.blt
 exact Calls.Name_function_global I.ok.kind hg (Calls.loadGlobal_builtin (by rw[I.ok.glob];exact I.mod.glob.keeps I.bk) hm (by rw[I.ok.blt];exact h1.keeps I.bk) ((h2 x hn).trans hv) h) hd
theorem Pn(hg:Gl X x)(hm:X.mg x=some u)(r:RelV v u)(hd:(x==("__debug__":Str))=false:=by decide):PE X (.Name x pos) (tC v):=
 fun _ _ _ H _ I h=>CZ I hg hm ⟨v,H,I,r,h⟩ hd
theorem Px(hg:Gl X x)(hm:X.mg x=none)(hv:bootBuiltins x=some u)(r:RelV v u)(hn:x≠"__name__":=by decide)(hd:(x==("__debug__":Str))=false:=by decide):PE X (.Name x pos) (tC v):=
 fun _ _ _ H _ I h=>iB I hg hm hv ⟨v,H,I,r,h⟩ hn hd
variable{a b:Expr}{ta tb:TE}{pos:Pos}
variable{tA tB':TT}{rest:List Expr}
def aea(t u:TT):TT:=fun σ H Q=>t σ H fun c H1=>if c=true then u σ H1 Q else Q false H1
def tOr(t u:TT):TT:=fun σ H Q=>t σ H fun c H1=>if c=true then Q true H1 else u σ H1 Q
def ad5(t:TT):TT:=fun σ H Q=>t σ H fun c H1=>Q (!c) H1
theorem O3(ha:PT X a tA):PW X (.BoolOp .And [a] pos) tA:=by
 intro wh QLz s σ H Q I h
 refine isTrue_and (bW (ha QLz s σ H Q I h) fun c s1 e=>?_)
 cases c with
 |true=>exact isTrue_and_nil e
 |false=>exact e
theorem Vl(ha:PT X a tA):PW X (.BoolOp .Or [a] pos) tA:=by
 intro wh QLz s σ H Q I h
 refine isTrue_or (bW (ha QLz s σ H Q I h) fun c s1 e=>?_)
 cases c with
 |false=>exact isTrue_or_nil e
 |true=>exact e
theorem Vm(ha:PT X a tA)(hb:PW X (.BoolOp .And (b::rest) pos) tB'):PW X (.BoolOp .And (a::b::rest) pos) (aea tA tB'):=by
 intro wh QLz s σ H Q I h
 refine isTrue_and (bW (ha QLz s σ H _ I h) fun c s1⟨H1,I1,q1⟩=>?_)
 cases c with
 |true=>exact hb wh QLz s1 σ H1 Q I1 q1
 |false=>exact⟨H1,I1,q1⟩
theorem aaG(ha:PT X a tA)(hb:PW X (.BoolOp .Or (b::rest) pos) tB'):PW X (.BoolOp .Or (a::b::rest) pos) (tOr tA tB'):=by
 intro wh QLz s σ H Q I h
 refine isTrue_or (bW (ha QLz s σ H _ I h) fun c s1⟨H1,I1,q1⟩=>?_)
 cases c with
 |true=>exact⟨H1,I1,q1⟩
 |false=>exact hb wh QLz s1 σ H1 Q I1 q1
theorem Vo(ha:PT X a tA):PT X (.UnaryOp .Not a pos) (ad5 tA):=by
 intro QLz s σ H Q I h
 exact isTrue_not (ha QLz s σ H (fun c H1=>Q (!c) H1) I h)
def Z3(ta tb:TE):TE:=fun σ H Q=>ta σ H fun x H1=>∃c,x=.bl c/\if c=true then tb σ H1 Q else Q (.bl false) H1
def ad4(ta tb:TE):TE:=fun σ H Q=>ta σ H fun x H1=>∃c,x=.bl c/\if c=true then Q (.bl true) H1 else tb σ H1 Q
theorem Jm{op}{t:TE}(h:PE X a t):PE X (.BoolOp op [a] pos) t:=fun QLz s σ H Q I hw=>BoolOp_one (h QLz s σ H Q I hw)
theorem VB(ha:PE X a ta)(hb:PE X (.BoolOp .And (b::rest) pos) tb):PE X (.BoolOp .And (a::b::rest) pos) (Z3 ta tb):=by
 intro QLz s σ H Q I h
 refine BoolOp_and (bW (ha QLz s σ H _ I h) fun v s1⟨x,H1,I1,r1,q1⟩=>?_)
 obtain⟨c,rfl,q1⟩:=q1
 cases r1
 refine wpAny_truthy_bool ?_
 cases c with
 |true=>exact hb QLz s1 σ H1 Q I1 q1
 |false=>exact⟨.bl false,H1,I1,rfl,q1⟩
theorem aaL(ha:PE X a ta)(hb:PE X (.BoolOp .Or (b::rest) pos) tb):PE X (.BoolOp .Or (a::b::rest) pos) (ad4 ta tb):=by
 intro QLz s σ H Q I h
 refine BoolOp_or (bW (ha QLz s σ H _ I h) fun v s1⟨x,H1,I1,r1,q1⟩=>?_)
 obtain⟨c,rfl,q1⟩:=q1
 cases r1
 refine wpAny_truthy_bool ?_
 cases c with
 |false=>exact hb QLz s1 σ H1 Q I1 q1
 |true=>exact⟨.bl true,H1,I1,rfl,q1⟩
def tIf(t:TT)(ta tb:TE):TE:=fun σ H Q=>t σ H fun c H1=>if c=true then ta σ H1 Q else tb σ H1 Q
theorem Jo(hc:PT X c tA)(ha:PE X a ta)(hb:PE X b tb):PE X (.IfExp c a b pos) (tIf tA ta tb):=by
 intro QLz s σ H Q I h
 refine wpAny_IfExp (bW (hc QLz s σ H _ I h) fun d s1⟨H1,I1,q1⟩=>?_)
 cases d with
 |true=>exact ha QLz s1 σ H1 Q I1 q1
 |false=>exact hb QLz s1 σ H1 Q I1 q1
end
def iY(K:QQq)(H:Hp)(a:Addr)(xs:List V):Prop:=
 Rd H a (.lst xs)\/
  ∃(o:Obj)(its:Array Value)(n:Nat),K.lookup a=some o/\o.cls=.type "list"/\o.dict=none/\o.data=.seq its n/\its.size<=sizeLine/\Vals xs its.toList
def gO(K:QQq)(H:Hp)(a:Addr)(xs:List V):Prop:=
 Rd H a (.tup xs)\/
  ∃(o:Obj)(its:Array Value)(n:Nat),K.lookup a=some o/\o.cls=.type "tuple"/\o.dict=none/\o.data=.seq its n/\its.size<=sizeLine/\Vals xs its.toList
def af7:Value->Option V
 |.none=>some .non
 |.bool b=>some (.bl b)
 |.int i _=>some (.int i)
 |.str x _=>some (.str x)
 |.bytes b _=>some (.byt b)
 |.float b _=>some (.flt b)
 |.ref a=>some (.ref a)
 |.type n=>some (.ty n)
 |_=>none
theorem RelV.abs{x:V}(r:RelV x u):af7 u=some x:=by
 cases x with
 |non=>cases r;rfl
 |bl _=>cases r;rfl
 |int _=>obtain⟨t,rfl⟩:=r;rfl
 |str _=>obtain⟨t,rfl⟩:=r;rfl
 |byt _=>obtain⟨t,rfl⟩:=r;rfl
 |flt _=>obtain⟨t,rfl⟩:=r;rfl
 |ref _=>cases r;rfl
 |ty _=>cases r;rfl
theorem RelV.inj{x y:V}(r:RelV x u)(q:RelV y u):x=y:=QEq (r.abs.symm.trans q.abs)
theorem Vals.inj:∀{xs ys:List V}{us:List Value},Vals xs us->Vals ys us->xs=ys
 |_,_,_,.nil,.nil=>rfl
 |_,_,_,.cons r t,.cons r' t'=>by rw[r.inj r',Vals.inj t t']
section
variable{X:Cx}{QLz:QQz}{σ:St}{H:Hp}{s:Shared}{a:Addr}{xs ys:List V}
theorem Inv.list(I:Inv X QLz σ H s)(h:iY X.K H a xs):∃its:List Value,Vals xs its/\PlainL s.heap a its.toArray/\xs.length<=sizeLine:=by
 rcases h with h|⟨o,its,n,hk,hc,hd,hs,hz,r⟩
 ·obtain⟨z,its,n,r,e⟩:=h.ok I.hok
  exact⟨its,r,⟨_,n,e,rfl,rfl,rfl⟩,z⟩
 ·refine⟨its.toList,r,⟨o,n,I.YC a o hk,hc,hd,by simpa using hs⟩,?_⟩
  have e:=r.length
  simp only[Array.length_toList]at e
  omega
theorem Inv.zc(I:Inv X QLz σ H s)(h:gO X.K H a xs):∃its:List Value,Vals xs its/\TupOk s.heap a its.toArray/\xs.length<=sizeLine:=by
 rcases h with h|⟨o,its,n,hk,hc,hn,hs,hz,r⟩
 ·obtain⟨z,its,r,p⟩:=h.ok I.hok
  exact⟨its,r,p,z⟩
 ·refine⟨its.toList,r,⟨o,I.YC a o hk,hc,hn,n,by simpa using hs⟩,?_⟩
  have e:=r.length
  simp only[Array.length_toList]at e
  omega
theorem Inv.tuple(I:Inv X QLz σ H s)(h:gO X.K H a xs):∃its:List Value,Vals xs its/\IsTup s.heap a its.toArray/\xs.length<=sizeLine:=by
 obtain⟨its,r,p,z⟩:=I.zc h
 exact⟨its,r,p.is,z⟩
theorem Inv.xY(I:Inv X QLz σ H s)(h:iY X.K H a xs)(h':iY X.K H a ys):xs=ys:=by
 obtain⟨its,r,⟨o,n,e,_,_,d⟩,_⟩:=I.list h
 obtain⟨its',r',⟨o',n',e',_,_,d'⟩,_⟩:=I.list h'
 rw[e]at e';cases e'
 rw[d]at d'
 injection d' with d1 _
 have:its=its':=by simpa using congrArg Array.toList d1
 subst this
 exact r.inj r'
theorem Inv.sS(I:Inv X QLz σ H s)(h:gO X.K H a xs)(h':gO X.K H a ys):xs=ys:=by
 obtain⟨its,r,⟨o,e,_,n,d⟩,_⟩:=I.tuple h
 obtain⟨its',r',⟨o',e',_,n',d'⟩,_⟩:=I.tuple h'
 rw[e]at e';cases e'
 rw[d]at d'
 injection d' with d1 _
 have:its=its':=by simpa using congrArg Array.toList d1
 subst this
 exact r.inj r'
end
abbrev Cx.wish(X:Cx)(E:QZq):Cx:={X with xe:=E}
abbrev Cx.nox(X:Cx):Cx:=X.wish fun _ _=>False
theorem Cx.Ok.wish{X:Cx}(ok:X.Ok)(E:QZq):(X.wish E).Ok:=
 ⟨ok.mod,ok.kind,ok.glob,ok.blt,ok.above,ok.inj,ok.has,ok.cab,ok.hd,ok.frames,ok.stk,ok.exf,ok.bs,ok.bsz,ok.noex,ok.exfs,ok.lw,ok.frf⟩
theorem Cx.Ok.jr{E:QZq}(ok:(X.wish E).Ok):X.Ok:=
 ⟨ok.mod,ok.kind,ok.glob,ok.blt,ok.above,ok.inj,ok.has,ok.cab,ok.hd,ok.frames,ok.stk,ok.exf,ok.bs,ok.bsz,ok.noex,ok.exfs,ok.lw,ok.frf⟩
section
variable{X:Cx}{QLz:QQz}{σ:St}{H:Hp}{s:Shared}{E:QZq}
theorem Inv.wish(I:Inv X QLz σ H s)(E:QZq):Inv (X.wish E) QLz σ H s:=⟨I.ok.wish E,I.os,I.bare,I.base,I.loc,I.cell,I.free,I.freeC,I.pin,I.hok,I.len⟩
theorem Inv.jr(I:Inv (X.wish E) QLz σ H s):Inv X QLz σ H s:=⟨I.ok.jr,I.os,I.bare,I.base,I.loc,I.cell,I.free,I.freeC,I.pin,I.hok,I.len⟩
theorem SP.jr{D:Ends}{f:Flow}{s':Shared}(h:SP (X.wish E) QLz D f s'):SP X QLz D f s':=by
 cases f with
 |next=>obtain⟨σ',H',I,q⟩:=h;exact⟨σ',H',I.jr,q⟩
 |brk=>obtain⟨σ',H',I,q⟩:=h;exact⟨σ',H',I.jr,q⟩
 |cont=>obtain⟨σ',H',I,q⟩:=h;exact⟨σ',H',I.jr,q⟩
 |ret u=>obtain⟨v,σ',H',I,r,q⟩:=h;exact⟨v,σ',H',I.jr,r,q⟩
theorem wz.nox{st:List Stmt}{t:TS}(h:wz X.nox st t):wz X st t:=fun QLz s σ H D I hw=>
 QGq (h QLz s σ H D (I.wish _) hw) (fun _ _ q=>q.jr) fun _ _ z=>False.elim z
end
section
variable{X:Cx}{st:Stmt}{rest:List Stmt}{t u:TS}{e:Expr}{te:TE}{pos:Pos}
def ZW:TS:=fun D σ H=>D.nx σ H
def ZM(t u:TS):TS:=fun D σ H=>t {D with nx:=u D} σ H
theorem O7:wz X [] ZW:=fun _ _ σ H _ I h=>wpAny_execs_nil ⟨σ,H,I,h⟩
theorem Jd(h1:PS X st t)(h2:wz X rest u):wz X (st::rest) (ZM t u):=by
 intro QLz s σ H D I h
 refine wpAny_execs_cons (bW (h1 QLz s σ H {D with nx:=u D} I h) fun f s1 q=>?_)
 cases f with
 |next=>
  obtain⟨σ',H',I',q⟩:=q
  exact h2 QLz s1 σ' H' D I' q
 |ret v=>exact q
 |brk=>exact q
 |cont=>exact q
theorem Inv.quiet(I:Inv X QLz σ H s):interactive X.env=false:=by simp[interactive,I.ok.kind]
def Z0(te:TE):TS:=fun D σ H=>te σ H fun _ H1=>D.nx σ H1
theorem Cd(he:PE X e te)(hs:swapsWith e none pos.line X.env=pure false:=by rfl):PS X (.Expr e pos) (Z0 te):=by
 intro QLz s σ H D I h
 exact wpAny_Expr_any (bW (he QLz s σ H _ I h) fun v s1⟨x,H1,I1,r1,q1⟩=>⟨σ,H1,I1,q1⟩) I.quiet hs
def ZQ(te:TE):TS:=fun D σ H=>te σ H D.rt
theorem nu(he:PE X e te):PS X (.Return (some e) pos) (ZQ te):=by
 intro QLz s σ H D I h
 exact wpAny_Return_some (bW (he QLz s σ H _ I h) fun v s1⟨x,H1,I1,r1,q1⟩=>⟨x,σ,H1,I1,r1,q1⟩)
def ZP:TS:=fun D _ H=>D.rt .non H
theorem O8:PS X (.Return none pos) ZP:=fun _ _ σ H _ I h=>wpAny_Return_none ⟨.non,σ,H,I,rfl,h⟩
def ad7(c:TT)(t u:TS):TS:=fun D σ H=>c σ H fun b H1=>if b=true then t D σ H1 else u D σ H1
theorem aaJ{a b:List Stmt}{tc:TT}(hc:PT X c tc)(ha:wz X a t)(hb:wz X b u):PS X (.If c a b pos) (ad7 tc t u):=by
 intro QLz s σ H D I h
 refine wpAny_If (bW (hc QLz s σ H _ I h) fun d s1⟨H1,I1,q1⟩=>?_)
 cases d with
 |true=>exact ha QLz s1 σ H1 D I1 q1
 |false=>exact hb QLz s1 σ H1 D I1 q1
end
abbrev TG:=V->St->Hp->(St->Hp->Prop)->Prop
abbrev XN:=List V->St->Hp->(St->Hp->Prop)->Prop
def PG(X:Cx)(target:Expr)(t:TG):Prop:=
 ∀(QLz:QQz)(s:Shared)(σ:St)(H:Hp)(v:V)(u:Value)(Q:St->Hp->Prop),Inv X QLz σ H s->RelV v u->t v σ H Q->
  wpAny (model X.prog X.w) X.A (assign target X.env u) (fun _ s'=>∃σ' H',Inv X QLz σ' H' s'/\Q σ' H') X.xe s
def PGs(X:Cx)(ts:List Expr)(t:XN):Prop:=
 ∀(QLz:QQz)(s:Shared)(σ:St)(H:Hp)(vs:List V)(us:List Value)(Q:St->Hp->Prop),Inv X QLz σ H s->Vals vs us->t vs σ H Q->
  wpAny (model X.prog X.w) X.A (assignInOrder ((assignEach ts X.env).map (·.2)) us) (fun _ s'=>∃σ' H',Inv X QLz σ' H' s'/\Q σ' H') X.xe s
abbrev XM:=V->V->V->Hp->(Hp->Prop)->Prop
def Mx(X:Cx)(t:XM):Prop:=
 ∀(QLz:QQz)(s:Shared)(σ:St)(H:Hp)(o i v:V)(ov iv u:Value)(Q:Hp->Prop),Inv X QLz σ H s->RelV o ov->RelV i iv->RelV v u->t o i v H Q->
  wpAny (model X.prog X.w) X.A (setItem ov iv u) (fun _ s'=>∃H',Inv X QLz σ H' s'/\Q H') X.xe s
variable{tg:Expr}
section
variable{X:Cx}{pos:Pos}
def Tj(i:Nat):TG:=fun v σ H Q=>Q (σ.set i (some v)) H
theorem Pj(hN:X.N.Nodup)(hi:X.N[i]? =some x)(hx:Loc X.env.scope x)(hf:X.fn x=true\/X.env.scope.names.lookup x=some .local:=by first|exact .inl rfl|exact .inr rfl|assumption):PG X (.Name x pos) (Tj i):=by
 intro QLz s σ H v u Q I r h
 exact wpAny_assign_Name (wV I hN hi hx r (fun s' I'=>⟨_,H,I',h⟩) hf)
def afI:XN:=fun vs σ H Q=>vs=[]/\Q σ H
def abL(t:TG)(u:XN):XN:=fun vs σ H Q=>∃v r,vs=v::r/\t v σ H fun σ' H'=>u r σ' H' Q
theorem Ph:PGs X [] afI:=by
 intro QLz s σ H vs us Q I r h
 obtain⟨e,h⟩:=h
 subst e
 cases r
 exact assignInOrder_nil ⟨σ,H,I,h⟩
theorem Ji{es:List Expr}{t:TG}{u:XN}(h1:PG X e t)(h2:PGs X es u)
  (hs:(assignEach (e::es) X.env).map (·.2)=assign e X.env::(assignEach es X.env).map (·.2):=by rfl):PGs X (e::es) (abL t u):=by
 intro QLz s σ H vs us Q I r h
 obtain⟨v,vr,e1,h⟩:=h
 subst e1
 cases r with
 |cons r rr=>
  rw[hs]
  refine assignInOrder_cons (bW (h1 QLz s σ H _ _ _ I r h) fun _ s1⟨σ1,H1,I1,q1⟩=>?_)
  exact h2 QLz s1 σ1 H1 _ _ Q I1 rr q1
def afG(K:QQq)(n:Nat)(t:XN):TG:=fun v σ H Q=>∃a xs,v=.ref a/\gO K H a xs/\xs.length=n/\t xs σ H Q
theorem Vs{es:List Expr}{k:Nat}{t:XN}{n:Nat}(hc:X.calm=true)(h:PGs X es t)
  (hn:(assignEach es X.env).length=n:=by rfl)(hst:(assignEach es X.env).findIdx? (·.1)=none:=by rfl):PG X (.Tuple es k pos) (afG X.K n t):=by
 intro QLz s σ H v u Q I r hw
 obtain⟨a,xs,e1,hq,hl,hw⟩:=hw
 subst e1
 cases r
 obtain⟨its,rv,ht,hz⟩:=I.tuple hq
 refine assign_Tuple_tuple (I.ok.hd hc) ht (by simp[hn,<-hl,rv.length]) hst fun h' hx=>?_
 have I1:Inv X QLz σ H {s with heap:=h'}:=I.kept (t':=s.toks) fun b o e=>hx b o (Qvz (Qqz e)) e
 exact h QLz _ σ H xs _ Q I1 (by simpa using rv) hw
def afH(to ti:TE)(t:XM):TG:=fun v σ H Q=>to σ H fun o H1=>ti σ H1 fun i H2=>t o i v H2 fun H3=>Q σ H3
theorem Vt{o i:Expr}{to ti:TE}{t:XM}(ho:PE X o to)(hi:PE X i ti)(hs:Mx X t)
  (ha:∀v,assign (.Subscript o i pos) X.env v=(do
   let ov<-holding [v] (eval o X.env)
   let iv<-holding [v,ov] (eval i X.env)
   standAt pos
   holding [v,ov,iv] (setItem ov iv v)
   release [v,ov,iv] []):=by intro _;rfl):PG X (.Subscript o i pos) (afH to ti t):=by
 intro QLz s σ H v u Q I r h
 rw[ha]
 refine QKq (Qqq (bW (ho QLz s σ H _ I h) fun ov s1⟨x,H1,I1,r1,q1⟩=>?_))
 refine QKq (Qqq (bW (hi QLz s1 σ H1 _ I1 q1) fun iv s2⟨y,H2,I2,r2,q2⟩=>?_))
 refine QKq (wpAny_standAt (QKq (Qqq (bW (hs QLz s2 σ H2 x y v ov iv u _ I2 r1 r2 r q2) fun _ s3⟨H3,I3,q3⟩=>?_))))
 exact wpAny_release ⟨σ,H3,I3,q3⟩
def Z2(te:TE)(g:TG):TS:=fun D σ H=>te σ H fun x H1=>g x σ H1 D.nx
theorem Jf{te:TE}{g:TG}(he:PE X e te)(hg:PG X tg g)(hs:swapsWithSole [tg] e pos.line X.env=pure false:=by rfl)(hw:swappedStores [tg] e X.env=pure none:=by rfl)
  (h1:(assignEach [tg] X.env).map (·.2)=[assign tg X.env]:=by rfl):PS X (.Assign [tg] e pos) (Z2 te g):=by
 intro QLz s σ H D I h
 refine wpAny_Assign_stores (bW (he QLz s σ H _ I h) fun v s1⟨x,H1,I1,r1,q1⟩=>?_) hs hw
 rw[h1]
 exact bW (hg QLz s1 σ H1 x v _ I1 r1 q1) fun _ s2 q=>q
theorem Vp{te:TE}{pos':Pos}(hN:X.N.Nodup)(hi:X.N[i]? =some x)(hx:Loc X.env.scope x)(he:PE X e te)(hs:swapsWith e (some (.Name x pos')) pos.line X.env=pure false:=by rfl)(hf:X.fn x=true\/X.env.scope.names.lookup x=some .local:=by first|exact .inl rfl|exact .inr rfl|assumption):
  PS X (.Assign [.Name x pos'] e pos) (Z2 te (Tj i)):=by
 intro QLz s σ H D I h
 refine wpAny_Assign_Name (bW (he QLz s σ H _ I h) fun v s1⟨y,H1,I1,r1,q1⟩=>?_) hs
 exact wV I1 hN hi hx r1 (fun s2 I2=>⟨_,H1,I2,q1⟩) hf
end
variable{body:List Stmt}
section
variable{X:Cx}{pos:Pos}
def Uu(c:TT)(tb:TS):TS:=fun D σ H=>∃W:Nat->St->Hp->Prop,(∃m,W m σ H)/\∀m σ H,W m σ H->
 c σ H fun b H1=>if b=true then∃N:St->Hp->Prop,(∀σ' H',N σ' H'->∃m',m'<m/\W m' σ' H')/\tb {D with nx:=N,ct:=N,bk:=D.nx} σ H1 else D.nx σ H1
theorem Je{tc:TT}{tb:TS}(hp:PassesOwn (model X.prog X.w) X.A X.env X.xe)(hc:PT X c tc)(hb:wz X body tb):PS X (.While c body [] pos) (Uu tc tb):=by
 intro QLz s σ H D I h
 obtain⟨W,⟨m0,w0⟩,turn⟩:=h
 refine wpAny_While (codeAny_whileLoop (fun n s'=>∃σ' H',Inv X QLz σ' H' s'/\W n σ' H') ?_ m0 ⟨σ,H,I,w0⟩)
 rintro n s1 ⟨σ1,H1,I1,w1⟩
 refine wpAny_passesOwn hp (bW (hc QLz s1 σ1 H1 _ I1 (turn n σ1 H1 w1)) fun b s2⟨H2,I2,q2⟩=>?_)
 cases b with
 |true=>
  obtain⟨N,hN,q2⟩:=q2
  rw[if_pos rfl]
  refine wpAny_passesOwn hp (bW (hb QLz s2 σ1 H2 _ I2 q2) fun f s3 q3=>?_)
  cases f with
  |next=>
   obtain⟨σ3,H3,I3,n3⟩:=q3
   obtain⟨m',hm,w3⟩:=hN σ3 H3 n3
   exact⟨m',hm,σ3,H3,I3,w3⟩
  |cont=>
   obtain⟨σ3,H3,I3,n3⟩:=q3
   obtain⟨m',hm,w3⟩:=hN σ3 H3 n3
   exact⟨m',hm,σ3,H3,I3,w3⟩
  |brk=>exact q3
  |ret v=>exact q3
 |false=>
  rw[if_neg Qjz]
  exact wpAny_execs_nil ⟨σ1,H2,I2,q2⟩
end
structure It where
 go:Nat->Hp->Prop
 yld:Nat->Hp->V->Hp->Prop
 stop:Nat->Hp->Prop
def gj(X:Cx)(QLz:QQz)(H:Hp)(b:Addr):Prop:=
 H b=none/\b≠X.env.locals/\b∉X.fs/\(b∈X.ex\/X.s₀.heap.objs.size<=b)/\(∀x c,X.env.cells.lookup x=some c->c≠b)/\∀p∈X.pn++QLz,p.1≠b
theorem Inv.yt{H':Hp}(I:Inv X QLz σ H s)(hb:s.heap.objs.size<=b)(hn:H' b=none):gj X QLz H' b:=by
 refine⟨hn,Nat.ne_of_gt (Qvq I.lt hb),I.ae4 hb,.inr (Nat.le_trans I.sz hb),fun x c e z=>?_,fun p hp z=>?_⟩
 ·obtain⟨v,q⟩:=I.cell x c e
  exact absurd (Qvq q.lt (by rw[z];exact hb)) (Nat.lt_irrefl _)
 ·exact absurd (Qvq (Qqz (I.pin p hp).1) (by rw[z];exact hb)) (Nat.lt_irrefl _)
structure Turn(P:Program)(w:World)(K:QQq)(tg:Expr)(J:It)(fp:List Addr)(it:Addr)(tn:Nat->Heap->Prop):Prop where
 mem:it∈fp
 obj:∀i h,tn i h->∀b∈fp,∃o,h.get? b=some o/\∀v,o.data≠ .cell v
 keep:∀i h h',tn i h->(∀b∈fp,∀o,h.get? b=some o->h'.get? b=some o)->tn i h'
 item:∀(X:Cx),X.prog=P->X.w=w->X.K=K->X.calm=true->∀(i:Nat)(QLz:QQz)(s:Shared)(σ:St)(H:Hp)(E:QZq),Inv X QLz σ H s->(∀b∈fp,gj X QLz H b)->tn i s.heap->J.go i H->
  wpAny (model P w) X.A (pyNext (.ref it)) (fun r s1=>∃u,r=some u/\
   wpAny (model P w) X.A (letOwnedTupleGo tg (.ref it) u) (fun _ s2=>∃x H',Inv X QLz σ H' s2/\RelV x u/\J.yld i H x H'/\tn (i+1) s2.heap/\∀b∈fp,H' b=none) E s1) E s
 done:∀(X:Cx),X.prog=P->X.w=w->X.K=K->X.calm=true->∀(i:Nat)(QLz:QQz)(s:Shared)(σ:St)(H:Hp)(E:QZq),Inv X QLz σ H s->(∀b∈fp,gj X QLz H b)->tn i s.heap->J.stop i H->
  wpAny (model P w) X.A (pyNext (.ref it)) (fun r s1=>r=none/\Inv X QLz σ H s1) E s
 self:∀(A:Around)(i:Nat)(s:Shared)(Q:QZq)(E:QZq),tn i s.heap->Q (.ref it) s->wpAny (model P w) A (pyIter (.ref it)) Q E s
abbrev TI:=St->Hp->(It->Hp->Prop)->Prop
def PIE(X:Cx)(QLz:QQz)(σ:St)(tg:Expr)(R:It->Hp->Prop)(itv:Value)(s2:Shared):Prop:=
 ∃(it:Addr)(fp:List Addr)(tn:Nat->Heap->Prop)(J:It)(H':Hp),itv=.ref it/\Inv X QLz σ H' s2/\Turn X.prog X.w X.K tg J fp it tn/\tn 0 s2.heap/\(∀b∈fp,gj X QLz H' b)/\R J H'
def PI(X:Cx)(tg iter:Expr)(wi:TI):Prop:=
 ∀(QLz:QQz)(s:Shared)(σ:St)(H:Hp)(R:It->Hp->Prop),Inv X QLz σ H s->wi σ H R->
  wpAny (model X.prog X.w) X.A (eval iter X.env) (fun v s1=>wpAny (model X.prog X.w) X.A (pyIter v) (PIE X QLz σ tg R) X.xe s1) X.xe s
theorem Dl {E : QZq} {it : Addr} {n : String} {vs : Array Value} (ho : s.heap.get? it = some o) (hc : o.cls = .type n) (hd : o.data = .fields vs)
    (hn : ["enumerate", "zip", "dict_itemiterator", "dict_reverseitemiterator", "odict_iterator", "itertools.zip_longest", "itertools.pairwise"].contains n = false) (hQ : Q () s) : wpAny M A (letOwnedTupleGo tg (.ref it) u) Q E s := by
  unfold letOwnedTupleGo
  cases tg <;> first
    | exact QKz hQ
    | (cases u <;> first
        | exact QKz hQ
        | (refine QKq (wpAny_load ho ?_)
           rw [hc, hd]
           show wpAny M A (if (["enumerate", "zip", "dict_itemiterator", "dict_reverseitemiterator", "odict_iterator", "itertools.zip_longest", "itertools.pairwise"].contains n && vs[0]? == some (rawInt _)) = true then _ else _) Q E s
           rw [if_neg (by intro h; rw [hn, Bool.false_and] at h; cases h)]
           exact QKz hQ))
def Itl(K:QQq)(a:Addr):It:=
 ⟨fun i H=>∃xs x,iY K H a xs/\xs[i]? =some x,fun i H x H'=>H'=H/\∀xs,iY K H a xs->xs[i]? =some x,fun i H=>∃xs,iY K H a xs/\xs.length<=i⟩
def Itt(K:QQq)(a:Addr):It:=
 ⟨fun i H=>∃xs x,gO K H a xs/\xs[i]? =some x,fun i H x H'=>H'=H/\∀xs,gO K H a xs->xs[i]? =some x,fun i H=>∃xs,gO K H a xs/\xs.length<=i⟩
def Itr(lo:Int)(n:Nat):It:=⟨fun i _=>i<n,fun i H x H'=>H'=H/\x=.int (lo+i),fun i _=>n<=i⟩
variable{K:QQq}
theorem Em{w:World}(a it:Addr):Turn P w K tg (Itl K a) [it] it (fun i h=>h.IsListIter it a i) where
 mem:=by simp
 obj:=fun i h st b hb=>by
  have e:b=it:=by simpa using hb
  subst e
  obtain⟨o,e,c,d⟩:=st
  exact⟨o,e,fun v z=>by rw[d]at z;cases z⟩
 keep:=fun i h h' st k=>st.at fun o e=>k it (by simp) o e
 item:=by
  intro X hP hw hK hc i QLz s σ H E I hf st hg
  subst hP hw hK
  obtain⟨xs,x,hq,hx⟩:=hg
  obtain⟨its,rv,p,hz⟩:=I.list hq
  obtain⟨u,hu,ru⟩:=rv.get hx
  obtain⟨f0,f1,f2,f3,f4,f5⟩:=hf it (by simp)
  refine wpAny_pyNext_list_item st p.isList (x:=u) (by simpa using hu) fun h' st' sb=>?_
  have I1:Inv X QLz σ H {s with heap:=h'}:=I.turned (t':=s.toks) (fun b o hb e=>(sb.2 b hb).trans e) f0 f1 f3 f4 f5
  obtain⟨o,e,c,d⟩:=id st'
  exact⟨u,rfl,Dl (s:={s with heap:=h'}) e c d (by decide) ⟨x,H,I1,ru,⟨rfl,fun ys hy=>by rw[I.xY hy hq];exact hx⟩,st',fun b hb=>(hf b hb).1⟩⟩
 done:=by
  intro X hP hw hK hc i QLz s σ H E I hf st hg
  subst hP hw hK
  obtain⟨xs,hq,hx⟩:=hg
  obtain⟨its,rv,p,hz⟩:=I.list hq
  obtain⟨f0,f1,f2,f3,f4,f5⟩:=hf it (by simp)
  have hl:=rv.length
  exact wpAny_pyNext_list_end (I.ok.hd hc) st p.isList (by simp;omega) fun h' eb=>⟨rfl,I.turned (t':=s.toks) (fun b o hb e=>eb b o hb e) f0 f1 f3 f4 f5⟩
 self:=fun _ _ _ _ _ st h=>wpAny_pyIter_listiter st h
theorem za{w:World}(a it:Addr):Turn P w K tg (Itt K a) [it] it (fun i h=>h.IsTupleIter it a i) where
 mem:=by simp
 obj:=fun i h st b hb=>by
  have e:b=it:=by simpa using hb
  subst e
  obtain⟨o,e,c,d⟩:=st
  exact⟨o,e,fun v z=>by rw[d]at z;cases z⟩
 keep:=fun i h h' st k=>st.at fun o e=>k it (by simp) o e
 item:=by
  intro X hP hw hK hc i QLz s σ H E I hf st hg
  subst hP hw hK
  obtain⟨xs,x,hq,hx⟩:=hg
  obtain⟨its,rv,p,hz⟩:=I.tuple hq
  obtain⟨u,hu,ru⟩:=rv.get hx
  obtain⟨f0,f1,f2,f3,f4,f5⟩:=hf it (by simp)
  refine wpAny_pyNext_tuple_item st (show s.heap.IsTuple a its.toArray from p) (x:=u) (by simpa using hu) fun h' st' sb=>?_
  have I1:Inv X QLz σ H {s with heap:=h'}:=I.turned (t':=s.toks) (fun b o hb e=>(sb.2 b hb).trans e) f0 f1 f3 f4 f5
  obtain⟨o,e,c,d⟩:=id st'
  exact⟨u,rfl,Dl (s:={s with heap:=h'}) e c d (by decide) ⟨x,H,I1,ru,⟨rfl,fun ys hy=>by rw[I.sS hy hq];exact hx⟩,st',fun b hb=>(hf b hb).1⟩⟩
 done:=by
  intro X hP hw hK hc i QLz s σ H E I hf st hg
  subst hP hw hK
  obtain⟨xs,hq,hx⟩:=hg
  obtain⟨its,rv,p,hz⟩:=I.tuple hq
  obtain⟨f0,f1,f2,f3,f4,f5⟩:=hf it (by simp)
  have hl:=rv.length
  exact wpAny_pyNext_tuple_end (I.ok.hd hc) st (show s.heap.IsTuple a its.toArray from p) (by simp;omega) fun h' eb=>⟨rfl,I.turned (t':=s.toks) (fun b o hb e=>eb b o hb e) f0 f1 f3 f4 f5⟩
 self:=fun _ _ _ _ _ st h=>wpAny_pyIter_tupleiter st h
theorem zb{w:World}(it:Addr)(lo:Int)(n:Nat):Turn P w K tg (Itr lo n) [it] it (fun i h=>IsRangeIter h it (lo+(i:Nat)*1) ((n:Int)- (i:Nat)) 1) where
 mem:=by simp
 obj:=fun i h st b hb=>by
  have e:b=it:=by simpa using hb
  subst e
  exact⟨_,st,fun v z=>by
   have z':Data.fields _=Data.cell v:=z
   cases z'⟩
 keep:=fun i h h' st k=>k it (by simp) _ st
 item:=by
  intro X hP hw hK hc i QLz s σ H E I hf st hg
  subst hP hw hK
  obtain⟨f0,f1,f2,f3,f4,f5⟩:=hf it (by simp)
  have W:=Walks.range (prog:=X.prog) (w:=X.w) (I.ok.hd hc) it lo 1 n
  refine W.item i s _ _ hg st fun v h' tk hv st' kk=>?_
  obtain⟨t,rfl⟩:=hv
  have I1:Inv X QLz σ H {s with heap:=h',toks:=tk}:=I.turned (fun b o hb e=>kk b o (by simpa using hb) e) f0 f1 f3 f4 f5
  refine⟨_,rfl,Dl (s:={s with heap:=h',toks:=tk}) (n:="range_iterator") st' rfl rfl (by decide) ⟨.int (lo+i),H,I1,⟨t,?_⟩,⟨rfl,rfl⟩,st',fun b hb=>(hf b hb).1⟩⟩
  rw[Int.mul_one]
 done:=by
  intro X hP hw hK hc i QLz s σ H E I hf st hg
  subst hP hw hK
  obtain⟨f0,f1,f2,f3,f4,f5⟩:=hf it (by simp)
  exact wpAny_pyNext_range_end (I.ok.hd hc) st (by have:n<=i:=hg;omega) fun h' eb=>⟨rfl,I.turned (t':=s.toks) (fun b o hb e=>eb b o hb e) f0 f1 f3 f4 f5⟩
 self:=fun _ _ _ _ _ st h=>wpAny_pyIter_rangeiter st h
variable{fp:List Addr}
section
variable{X:Cx}{tg:Expr}
theorem Iu{R:It->Hp->Prop}{E:QZq}{lo hi:Int}{t u v:Tok}{tk:Nat}(I:Inv X QLz σ H s)(h1: -(2 ^62)<=lo)(h2:lo<2 ^62)(h3: -(2 ^62)<=hi)(h4:hi<2 ^62)
  (q:R (Itr lo (hi-lo).toNat) H):wpAny (model X.prog X.w) X.A (pyIter (.ref s.heap.objs.size)) (PIE X QLz σ tg R) E {s with heap:=s.heap.push {cls:=.type "range",data:=.fields #[.int lo t,.int hi u,.int 1 v]},toks:=tk}:=by
 refine wpAny_pyIter_range (IsRange.new ..) (small_one h1 h2 h3 h4) ?_
 have I1:Inv X QLz σ H {s with heap:=s.heap.push {cls:=.type "range",data:=.fields #[.int lo t,.int hi u,.int 1 v]},toks:=tk}:=I.kept fun b o e=>QWq _ e
 refine⟨(s.heap.push {cls:=.type "range",data:=.fields #[.int lo t,.int hi u,.int 1 v]}).objs.size,[(s.heap.push {cls:=.type "range",data:=.fields #[.int lo t,.int hi u,.int 1 v]}).objs.size],_,_,H,rfl,
  I1.kept (t':=tk) fun b o e=>QWq _ e,zb _ lo (hi-lo).toNat,?_,fun b hb=>?_,q⟩
 ·have e1:lo+((0:Nat):Int)*1=lo:=by simp
  have e2:(((hi-lo).toNat:Nat):Int)- ((0:Nat):Int)=Builtin.Range.rangeSize lo hi 1:=by rw[rangeSize_one];split<;>omega
  show IsRangeIter _ _ (lo+((0:Nat):Int)*1) ((((hi-lo).toNat:Nat):Int)- ((0:Nat):Int)) 1
  rw[e1,e2]
  exact Qzq _ rfl
 ·have e:b=(s.heap.push {cls:=.type "range",data:=.fields #[.int lo t,.int hi u,.int 1 v]}).objs.size:=by simpa using hb
  subst e
  exact I1.yt (QVz _) (I1.hok.fresh (QVz _))
def abD(ta:TA):TI:=fun σ H R=>ta σ H fun vs H1=>∃j:Int,vs=[.int j]/\ -(2 ^62)<=j/\j<2 ^62/\R (Itr 0 j.toNat) H1
theorem FQ{a:Expr}{ta:TA}{p:Pos}(hg:Gl X "range")(hm:X.mg "range"=none)(ha:PA X [a] ta)(hs:starEach [a] X.env=[(false,eval a X.env)]:=by rfl):PI X tg (.Call (.Name "range" p) [a] [] pos) (abD ta):=by
 intro QLz s σ H R I h
 refine Call_ (iB I hg hm boot_range (PyProof.Rows.callWith_type1 (bW (ha pos QLz s σ H _ I h) fun us s1⟨vs,H1,I1,r1,q1⟩=>?_) hs rfl))
 obtain⟨j,e,q1,q2,q⟩:=q1
 subst e
 cases r1 with
 |cons r rr=>
  cases rr
  obtain⟨t,rfl⟩:=r
  exact call_range_1 (Iu I1 (by omega) (by omega) q1 q2 (by simpa using q))
def ad8(wi:TI)(g:TG)(tb:TS):TS:=fun D σ H=>wi σ H fun J H1=>∃W:Nat->Nat->St->Hp->Prop,(∃m,W 0 m σ H1)/\∀i m σ H,W i m σ H->
 (J.stop i H/\D.nx σ H)\/(J.go i H/\∃N:St->Hp->Prop,(∀σ' H',N σ' H'->∃m',m'<m/\W (i+1) m' σ' H')/\∀x H',J.yld i H x H'->g x σ H' fun σ2 H2=>tb {D with nx:=N,ct:=N,bk:=D.nx} σ2 H2)
def nA(fp:List Addr)(h:Heap):List (Addr×Obj):=fp.filterMap fun b=>(h.get? b).map fun o=>(b,o)
theorem iy(hb:b∈fp)(e:h.get? b=some o):(b,o)∈nA fp h:=List.mem_filterMap.mpr ⟨b,hb,by rw[e];rfl⟩
theorem Gd{p:Addr×Obj}(hp:p∈nA fp h):p.1∈fp/\h.get? p.1=some p.2:=by
 obtain⟨b,hb,e⟩:=List.mem_filterMap.mp hp
 cases q:h.get? b with
 |none=>rw[q]at e;cases e
 |some o=>
  rw[q]at e
  have e':(b,o)=p:=QEq e
  subst e'
  exact⟨hb,q⟩
theorem Inv.pinned(I:Inv X QLz σ H s)(hf:∀b∈fp,gj X QLz H b)(ho:∀b∈fp,∃o,s.heap.get? b=some o/\∀v,o.data≠ .cell v):Inv X (QLz++nA fp s.heap) σ H s:=
 I.Cg fun p hp=>(QXz.mp hp).elim (fun z=>I.pin p (QVq _ z)) fun z=>by
  obtain⟨hb,e⟩:=Gd z
  obtain⟨f0,f1,f2,_⟩:=hf p.1 hb
  obtain⟨o,e',d⟩:=ho p.1 hb
  rw[e]at e';cases e'
  exact⟨e,f0,f1,f2,d⟩
theorem Inv.lV{pl:QQz}(I:Inv X (QLz++pl) σ H s):Inv X QLz σ H s:=I.Cg fun p hp=>I.pin p (QVq _ (QWz _ hp))
theorem Vq{iter:Expr}{wi:TI}{g:TG}{tb:TS}(hp:PassesOwn (model X.prog X.w) X.A X.env X.xe)(hc:X.calm=true)(hi:PI X tg iter wi)(hg:PG X tg g)(hb:wz X body tb)
  (hs:∀x,foldedSetIterable iter X.env x=pure x:=by intro _;rfl):PS X (.For tg iter body [] pos) (ad8 wi g tb):=by
 intro QLz s σ H D I h
 refine wpAny_For (bW (hi QLz s σ H _ I h) fun v s1 h1=>bW h1 fun itv s2 h2=>?_) hs
 obtain⟨it,fp,tn,J,H2,e,I2,T,st2,f2,W,⟨m0,w0⟩,turn⟩:=h2
 subst e
 have stat:∀{H':Hp},(∀b∈fp,H' b=none)->∀b∈fp,gj X QLz H' b:=fun hn b hb=>⟨hn b hb,(f2 b hb).2⟩
 refine codeAny_forLoop_any (fun n s'=>∃i σ' H',Inv X QLz σ' H' s'/\tn i s'.heap/\(∀b∈fp,H' b=none)/\W i n σ' H') ?_ m0 ⟨0,σ,H2,I2,st2,fun b hb=>(f2 b hb).1,w0⟩
 rintro n s3 ⟨i,σ3,H3,I3,st3,fr3,w3⟩
 rcases turn i n σ3 H3 w3 with ⟨stop,qn⟩|⟨go,N,hN,step⟩
 ·refine wpAny_passesOwn hp (bW (T.done X rfl rfl rfl hc i QLz s3 σ3 H3 X.xe I3 (stat fr3) st3 stop) fun r s4⟨hr,I4⟩=>?_)
  subst hr
  exact wpAny_execs_nil ⟨σ3,H3,I4,qn⟩
 ·refine wpAny_passesOwn hp (bW (T.item X rfl rfl rfl hc i QLz s3 σ3 H3 X.xe I3 (stat fr3) st3 go) fun r s4⟨u,hr,h4⟩=>?_)
  subst hr
  refine wpAny_passesOwn hp (bW h4 fun _ s5⟨x,H5,I5,r5,y5,st5,fr5⟩=>?_)
  have I5':=I5.pinned (stat fr5) (T.obj _ _ st5)
  refine wpAny_passesOwn hp (bW (hg _ s5 σ3 H5 x u _ I5' r5 (step x H5 y5)) fun _ s6⟨σ6,H6,I6,q6⟩=>?_)
  refine wpAny_passesOwn hp (bW (hb _ s6 σ6 H6 _ I6 q6) fun f s7 q7=>?_)
  have again:∀{σ7:St}{H7:Hp},Inv X (QLz++nA fp s5.heap) σ7 H7 s7->N σ7 H7->∃m,m<n/\∃i σ' H',Inv X QLz σ' H' s7/\tn i s7.heap/\(∀b∈fp,H' b=none)/\W i m σ' H':=fun{σ7 H7}I7 n7=>by
   obtain⟨m',hm,w7⟩:=hN σ7 H7 n7
   refine⟨m',hm,i+1,σ7,H7,I7.lV,T.keep _ _ _ st5 fun b hb o e=>(I7.pin (b,o) (QVq _ (QVq _ (iy hb e)))).1,fun b hb=>?_,w7⟩
   obtain⟨o,e,d⟩:=T.obj _ _ st5 b hb
   exact(I7.pin (b,o) (QVq _ (QVq _ (iy hb e)))).2.1
  cases f with
  |next=>obtain⟨σ7,H7,I7,n7⟩:=q7;exact again I7 n7
  |cont=>obtain⟨σ7,H7,I7,n7⟩:=q7;exact again I7 n7
  |brk=>obtain⟨σ7,H7,I7,q7⟩:=q7;exact⟨σ7,H7,I7.lV,q7⟩
  |ret v=>obtain⟨x7,σ7,H7,I7,r7,q7⟩:=q7;exact⟨x7,σ7,H7,I7.lV,r7,q7⟩
end
abbrev R2:=V->V->Hp->VK->Prop
def fH(X:Cx)(f:Value->Value->Sem Value)(r:R2):Prop:=
 ∀(QLz:QQz)(s:Shared)(σ:St)(H:Hp)(x y:V)(v u:Value)(Q:VK),Inv X QLz σ H s->RelV x v->RelV y u->r x y H Q->
  wpAny (model X.prog X.w) X.A (f v u) (EP X QLz σ Q) X.xe s
def UnR(X:Cx)(f:Value->Sem Value)(r:V->Hp->VK->Prop):Prop:=
 ∀(QLz:QQz)(s:Shared)(σ:St)(H:Hp)(x:V)(v:Value)(Q:VK),Inv X QLz σ H s->RelV x v->r x H Q->
  wpAny (model X.prog X.w) X.A (f v) (EP X QLz σ Q) X.xe s
def fJ(X:Cx)(f:Value)(r:List V->Hp->VK->Prop):Prop:=
 ∀(QLz:QQz)(s:Shared)(σ:St)(H:Hp)(xs:List V)(us:List Value)(Q:VK),Inv X QLz σ H s->Vals xs us->r xs H Q->
  wpAny (model X.prog X.w) X.A (call f us) (EP X QLz σ Q) X.xe s
def aga(X:Cx)(r:V->Hp->(Bool->Hp->Prop)->Prop):Prop:=
 ∀(QLz:QQz)(s:Shared)(σ:St)(H:Hp)(x:V)(v:Value)(Q:Bool->Hp->Prop),Inv X QLz σ H s->RelV x v->r x H Q->
  wpAny (model X.prog X.w) X.A (truthy v) (TP X QLz σ Q) X.xe s
def Yl(r:R2)(ta tb:TE):TE:=fun σ H Q=>ta σ H fun x H1=>tb σ H1 fun y H2=>r x y H2 Q
def tUn(r:V->Hp->VK->Prop)(ta:TE):TE:=fun σ H Q=>ta σ H fun x H1=>r x H1 Q
def rI(C:Int->Int->Prop)(g:Int->Int->V):R2:=fun x y H Q=>∃i j,x=.int i/\y=.int j/\C i j/\Q (g i j) H
def I8(g:Int->Int->V):R2:=fun x y H Q=>∃i j,x=.int i/\y=.int j/\Q (g i j) H
def rU(g:Int->V):V->Hp->VK->Prop:=fun x H Q=>∃i,x=.int i/\Q (g i) H
variable{f:Value->Value->Sem Value}{r:R2}
section
variable{X:Cx}{a b c:Expr}{ta tb tc:TE}{pos:Pos}
theorem XC(ha:PE X a ta)(hb:PE X b tb){R:V->V->Hp->Prop}(I:Inv X QLz σ H s)
  (h:ta σ H fun x H1=>tb σ H1 fun y H2=>R x y H2){Q:QZq}{f:Value->Value->Sem Value}
  (hf:∀v u s2 x y H2,Inv X QLz σ H2 s2->RelV x v->RelV y u->R x y H2->wpAny (model X.prog X.w) X.A (f v u) Q X.xe s2):
  wpAny (model X.prog X.w) X.A (eval a X.env) (fun v s₁=>wpAny (model X.prog X.w) X.A (eval b X.env) (fun u s₂=>wpAny (model X.prog X.w) X.A (f v u) Q X.xe s₂) X.xe s₁) X.xe s:=by
 refine bW (ha QLz s σ H _ I h) fun v s1⟨x,H1,I1,r1,q1⟩=>?_
 refine bW (hb QLz s1 σ H1 _ I1 q1) fun u s2⟨y,H2,I2,r2,q2⟩=>?_
 exact hf v u s2 x y H2 I2 r1 r2 q2
theorem tZ{op:Operator}(ho:fH X (binaryOp op) r)(ha:PE X a ta)(hb:PE X b tb):PE X (.BinOp a op b pos) (Yl r ta tb):=by
 intro QLz s σ H Q I h
 exact wpAny_BinOp (XC ha hb I h fun v u s2 x y H2 I2 rx ry q=>ho QLz s2 σ H2 x y v u Q I2 rx ry q)
theorem aaK{op:UnaryOp}{r:V->Hp->VK->Prop}(ho:UnR X (unaryOp op) r)(ha:PE X a ta):PE X (.UnaryOp op a pos) (tUn r ta):=by
 intro QLz s σ H Q I h
 exact UnaryOp_ (bW (ha QLz s σ H _ I h) fun v s1⟨x,H1,I1,r1,q1⟩=>ho QLz s1 σ H1 x v Q I1 r1 q1)
theorem opI{C:Int->Int->Prop}{g:Int->Int->Int}
  (rule:∀(i j:Int)(t u:Tok)(s:Shared)(Q:QZq)(E:QZq),C i j->Q (.int (g i j) s.toks) {s with toks:=s.toks+1}->wpAny (model X.prog X.w) X.A (f (.int i t) (.int j u)) Q E s):
  fH X f (rI C fun i j=>.int (g i j)):=by
 intro QLz s σ H x y v u Q I rx ry h
 obtain⟨i,j,rfl,rfl,hc,q⟩:=h
 obtain⟨t,rfl⟩:=rx
 obtain⟨t',rfl⟩:=ry
 exact rule i j t t' s _ _ hc ⟨.int (g i j),H,I.tok _,⟨_,rfl⟩,q⟩
theorem aaW{g:Int->Int->Int}
  (rule:∀(i j:Int)(t u:Tok)(s:Shared)(Q:QZq)(E:QZq),Q (.int (g i j) s.toks) {s with toks:=s.toks+1}->wpAny (model X.prog X.w) X.A (f (.int i t) (.int j u)) Q E s):
  fH X f (I8 fun i j=>.int (g i j)):=by
 intro QLz s σ H x y v u Q I rx ry h
 obtain⟨i,j,rfl,rfl,q⟩:=h
 obtain⟨t,rfl⟩:=rx
 obtain⟨t',rfl⟩:=ry
 exact rule i j t t' s _ _ ⟨.int (g i j),H,I.tok _,⟨_,rfl⟩,q⟩
theorem P0{g:Int->Int->Bool}
  (rule:∀(i j:Int)(t u:Tok)(s:Shared)(Q:QZq)(E:QZq),Q (.bool (g i j)) s->wpAny (model X.prog X.w) X.A (f (.int i t) (.int j u)) Q E s):
  fH X f (I8 fun i j=>.bl (g i j)):=by
 intro QLz s σ H x y v u Q I rx ry h
 obtain⟨i,j,rfl,rfl,q⟩:=h
 obtain⟨t,rfl⟩:=rx
 obtain⟨t',rfl⟩:=ry
 exact rule i j t t' s _ _ ⟨.bl (g i j),H,I,rfl,q⟩
def acr(i j:Int):Prop:=0<j/\j<1073741824
def acq(i j:Int):Prop:=0<=j/\j<=1000000/\i.natAbs<2 ^64
def Ri(i j:Int):Prop:=(-(2 ^64)<i/\i<2 ^64)\/(-(2 ^64)<j/\j<2 ^64)
theorem Ri.ok{i j:Int}(h:Ri i j):IntMulOk i j:=by
 rcases h with ⟨h1,h2⟩|⟨h1,h2⟩
 ·exact .of_left (intBits_le_64 h1 h2)
 ·exact .of_right (intBits_le_64 h1 h2)
theorem V1:fH X (binaryOp .Add) (I8 fun i j=>.int (i+j)):=aaW fun _ _ _ _ _ _ _ q=>add_int q
theorem VF:fH X (binaryOp .Sub) (I8 fun i j=>.int (i-j)):=aaW fun _ _ _ _ _ _ _ q=>sub_int q
theorem VJ:fH X (binaryOp .Mult) (rI Ri fun i j=>.int (i*j)):=opI fun _ _ _ _ _ _ _ hc q=>mul_int q hc.ok
theorem PK:fH X (binaryOp .FloorDiv) (rI acr fun i j=>.int (i/j)):=opI fun i j _ _ _ _ _ hc q=>by
 have h1:(0:Int)<j:=hc.1
 have h2:j<1073741824:=hc.2
 exact floordiv_int (by omega) (by rw[Int.fdiv_eq_ediv_of_nonneg i (by omega)];exact q) (.inl (PyProof.noPylong_small (by omega)))
theorem VL:fH X (binaryOp .Mod) (rI (fun _ j=>0<j) fun i j=>.int (i%j)):=opI fun i j _ _ _ _ _ hc q=>by
 have h1:(0:Int)<j:=hc
 exact mod_int' (by omega) (by rw[Int.fmod_eq_emod_of_nonneg i (by omega)];exact q)
theorem VG:fH X (binaryOp .Pow) (rI acq fun i j=>.int (i ^j.toNat)):=opI fun _ _ _ _ _ _ _ hc q=>pow_int_small hc.1 hc.2.1 hc.2.2 q
theorem unI{f:Value->Sem Value}{g:Int->Int}
  (rule:∀(i:Int)(t:Tok)(s:Shared)(Q:QZq)(E:QZq),Q (.int (g i) s.toks) {s with toks:=s.toks+1}->wpAny (model X.prog X.w) X.A (f (.int i t)) Q E s):
  UnR X f (rU fun i=>.int (g i)):=by
 intro QLz s σ H x v Q I rx h
 obtain⟨i,rfl,q⟩:=h
 obtain⟨t,rfl⟩:=rx
 exact rule i t s _ _ ⟨.int (g i),H,I.tok _,⟨_,rfl⟩,q⟩
theorem Um:UnR X (unaryOp .USub) (rU fun i=>.int (-i)):=unI fun _ _ _ _ _ q=>neg_int q
end
def Od:V->V->Bool
 |.non,.non=>true|.non,.int _=>true|.int _,.non=>true|.non,.bl _=>true|.bl _,.non=>true|.non,.str _=>true|.str _,.non=>true
 |.int _,.int _=>true|.bl _,.bl _=>true|.str _,.str _=>true|.byt _,.byt _=>true
 |.int _,.str _=>true|.str _,.int _=>true|.bl _,.str _=>true|.str _,.bl _=>true
 |_,_=>false
def rEq:R2:=fun x y H Q=>Od x y=true/\Q (.bl (decide (x=y))) H
def rNe:R2:=fun x y H Q=>Od x y=true/\Q (.bl (!decide (x=y))) H
theorem DW{i j:Int}:decide (V.int i=V.int j)=(i==j):=by
 rw[Bool.eq_iff_iff]
 simp
theorem Ld{i j:Bool}:decide (V.bl i=V.bl j)=(i==j):=by
 rw[Bool.eq_iff_iff]
 simp
theorem DR{i j:Str}:decide (V.str i=V.str j)=(i==j):=by
 rw[Bool.eq_iff_iff]
 simp
theorem DX{i j:Array UInt8}:decide (V.byt i=V.byt j)=(i.toList==j.toList):=by
 rw[Bool.eq_iff_iff]
 cases i
 cases j
 simp
variable{op:CmpOp}{r':R2}{us:List Value}
section
variable{X:Cx}{a b c:Expr}{ta tb tc:TE}{pos:Pos}
theorem bu{Q:VK}{k k':Bool}(I:Inv X QLz σ H s)(q:Q (.bl k) H)(e:k=k'):EP X QLz σ Q (.bool k') s:=by
 subst e
 exact⟨.bl k,H,I,rfl,q⟩
theorem aaU:fH X (compareOp .Eq) rEq:=by
 intro QLz s σ H x y v u Q I rx ry h
 obtain⟨hs,q⟩:=h
 cases x with
 |non=>
  cases rx
  cases y with
  |non=>cases ry;exact PySem.EqNone.eq_none_none (bu I q (by simp))
  |bl j=>cases ry;exact PySem.EqNone.eq_none_bool (bu I q (by simp))
  |int j=>obtain⟨t',rfl⟩:=ry;exact PySem.EqNone.eq_none_int (bu I q (by simp))
  |str j=>obtain⟨t',rfl⟩:=ry;exact PySem.EqNone.eq_none_str (bu I q (by simp))
  |_=>exact absurd (show false=true from hs) Qjz
 |bl i=>
  cases rx
  cases y with
  |non=>cases ry;exact PySem.EqNone.eq_bool_none (bu I q (by simp))
  |bl j=>cases ry;exact eq_bool (bu I q Ld)
  |str j=>obtain⟨t',rfl⟩:=ry;exact PySem.EqMixed.eq_bool_str (bu I q (by simp))
  |_=>exact absurd (show false=true from hs) Qjz
 |int i=>
  obtain⟨t,rfl⟩:=rx
  cases y with
  |non=>cases ry;exact PySem.EqNone.eq_int_none (bu I q (by simp))
  |int j=>obtain⟨t',rfl⟩:=ry;exact eq_int (bu I q DW)
  |str j=>obtain⟨t',rfl⟩:=ry;exact PySem.EqMixed.eq_int_str (bu I q (by simp))
  |_=>exact absurd (show false=true from hs) Qjz
 |str i=>
  obtain⟨t,rfl⟩:=rx
  cases y with
  |non=>cases ry;exact PySem.EqNone.eq_str_none (bu I q (by simp))
  |bl j=>cases ry;exact PySem.EqMixed.eq_str_bool (bu I q (by simp))
  |int j=>obtain⟨t',rfl⟩:=ry;exact PySem.EqMixed.eq_str_int (bu I q (by simp))
  |str j=>obtain⟨t',rfl⟩:=ry;exact eq_str (bu I q DR)
  |_=>exact absurd (show false=true from hs) Qjz
 |byt i=>
  obtain⟨t,rfl⟩:=rx
  cases y with
  |byt j=>obtain⟨t',rfl⟩:=ry;exact PySem.W.eq_bytes (bu I q DX)
  |_=>exact absurd (show false=true from hs) Qjz
 |_=>cases y<;>exact absurd (show false=true from hs) Qjz
theorem aaP:fH X (compareOp .NotEq) rNe:=by
 intro QLz s σ H x y v u Q I rx ry h
 obtain⟨hs,q⟩:=h
 cases x with
 |non=>
  cases rx
  cases y with
  |non=>cases ry;exact PySem.EqNone.ne_none_none (bu I q (by simp))
  |bl j=>cases ry;exact PySem.EqNone.ne_none_bool (bu I q (by simp))
  |int j=>obtain⟨t',rfl⟩:=ry;exact PySem.EqNone.ne_none_int (bu I q (by simp))
  |str j=>obtain⟨t',rfl⟩:=ry;exact PySem.EqNone.ne_none_str (bu I q (by simp))
  |_=>exact absurd (show false=true from hs) Qjz
 |bl i=>
  cases rx
  cases y with
  |non=>cases ry;exact PySem.EqNone.ne_bool_none (bu I q (by simp))
  |bl j=>cases ry;exact ne_bool (bu I q (congrArg not Ld))
  |str j=>obtain⟨t',rfl⟩:=ry;exact PySem.EqMixed.ne_bool_str (bu I q (by simp))
  |_=>exact absurd (show false=true from hs) Qjz
 |int i=>
  obtain⟨t,rfl⟩:=rx
  cases y with
  |non=>cases ry;exact PySem.EqNone.ne_int_none (bu I q (by simp))
  |int j=>obtain⟨t',rfl⟩:=ry;exact ne_int (bu I q (congrArg not DW))
  |str j=>obtain⟨t',rfl⟩:=ry;exact PySem.EqMixed.ne_int_str (bu I q (by simp))
  |_=>exact absurd (show false=true from hs) Qjz
 |str i=>
  obtain⟨t,rfl⟩:=rx
  cases y with
  |non=>cases ry;exact PySem.EqNone.ne_str_none (bu I q (by simp))
  |bl j=>cases ry;exact PySem.EqMixed.ne_str_bool (bu I q (by simp))
  |int j=>obtain⟨t',rfl⟩:=ry;exact PySem.EqMixed.ne_str_int (bu I q (by simp))
  |str j=>obtain⟨t',rfl⟩:=ry;exact ne_str (bu I q (congrArg not DR))
  |_=>exact absurd (show false=true from hs) Qjz
 |byt i=>
  obtain⟨t,rfl⟩:=rx
  cases y with
  |byt j=>obtain⟨t',rfl⟩:=ry;exact PySem.W.ne_bytes (bu I q (congrArg not DX))
  |_=>exact absurd (show false=true from hs) Qjz
 |_=>cases y<;>exact absurd (show false=true from hs) Qjz
theorem aaQ:fH X (compareOp .Lt) (I8 fun i j=>.bl (decide (i<j))):=P0 fun _ _ _ _ _ _ _ q=>lt_int q
theorem aaR:fH X (compareOp .LtE) (I8 fun i j=>.bl (decide (i<=j))):=P0 fun _ _ _ _ _ _ _ q=>le_int q
theorem aaS:fH X (compareOp .Gt) (I8 fun i j=>.bl (decide (j<i))):=P0 fun _ _ _ _ _ _ _ q=>gt_int q
theorem aaT:fH X (compareOp .GtE) (I8 fun i j=>.bl (decide (j<=i))):=P0 fun _ _ _ _ _ _ _ q=>ge_int q
theorem Ga:fH X (compareOp .In) (fun x y H Q=>∃i j,x=.str i/\y=.str j/\Q (.bl (!(Builtin.Str.occurrences j i 0 j.length 1).isEmpty)) H):=by
 intro QLz s σ H x y v u Q I rx ry h
 obtain⟨i,j,rfl,rfl,q⟩:=h
 obtain⟨t,rfl⟩:=rx
 obtain⟨t',rfl⟩:=ry
 exact in_str (bu I q rfl)
theorem VN:fH X (compareOp .Is) (fun x y H Q=>y=.non/\Q (.bl (decide (x=.non))) H):=by
 intro QLz s σ H x y v u Q I rx ry h
 obtain⟨rfl,q⟩:=h
 cases ry
 refine is_none_gen (bu I q ?_)
 cases x<;>first
  |(cases rx;rfl)
  |(obtain⟨t,rfl⟩:=rx;rfl)
theorem PB:fH X (compareOp .IsNot) (fun x y H Q=>y=.non/\Q (.bl (!decide (x=.non))) H):=by
 intro QLz s σ H x y v u Q I rx ry h
 obtain⟨rfl,q⟩:=h
 cases ry
 refine isnot_none_gen (bu I q ?_)
 cases x<;>first
  |(cases rx;rfl)
  |(obtain⟨t,rfl⟩:=rx;rfl)
theorem fH.or(h:fH X f r)(h':fH X f r'):fH X f (fun x y H Q=>r x y H Q\/r' x y H Q):=by
 intro QLz s σ H x y v u Q I rx ry q
 rcases q with q|q
 ·exact h QLz s σ H x y v u Q I rx ry q
 ·exact h' QLz s σ H x y v u Q I rx ry q
theorem Pr(ho:fH X (compareOp op) r)(ha:PE X a ta)(hb:PE X b tb)(hm:behindInMarks op b=false):PE X (.Compare a [op] [b] pos) (Yl r ta tb):=by
 intro QLz s σ H Q I h
 exact wpAny_Compare1 (XC ha hb I h fun v u s2 x y H2 I2 rx ry q=>ho QLz s2 σ H2 x y v u Q I2 rx ry q) hm
def RD(t:TE):TT:=fun σ H Q=>t σ H fun x H'=>∃k,x=.bl k/\Q k H'
theorem O6(ho:fH X (compareOp op) r)(ha:PE X a ta)(hb:PE X b tb)(hm:behindInMarks op b=false):PT X (.Compare a [op] [b] pos) (RD (Yl r ta tb)):=by
 intro QLz s σ H Q I h
 refine wpAny_isTrue_Compare1 (bW (ha QLz s σ H _ I h) fun v s1⟨x,H1,I1,r1,q1⟩=>bW (hb QLz s1 σ H1 _ I1 q1) fun u s2⟨y,H2,I2,r2,q2⟩=>
  bW (ho QLz s2 σ H2 x y v u _ I2 r1 r2 q2) fun c s3⟨z,H3,I3,r3,k,e,q3⟩=>?_) hm
 subst e
 cases r3
 exact wpAny_truthy_bool ⟨H3,I3,q3⟩
def zf(r r':R2)(ta tb tc:TE):TE:=fun σ H Q=>ta σ H fun x H1=>tb σ H1 fun y H2=>r x y H2 fun z H3=>∃k,z=.bl k/\
 (if k=true then tc σ H3 fun w' H4=>r' y w' H4 Q else Q (.bl false) H3)
theorem Js{op':CmpOp}(ho:fH X (compareOp op) r)(ho':fH X (compareOp op') r')(ha:PE X a ta)(hb:PE X b tb)(hc:PE X c tc)
  (hm:lastMarks [op,op'] [b,c]=false:=by with_unfolding_all rfl):PE X (.Compare a [op,op'] [b,c] pos) (zf r r' ta tb tc):=by
 intro QLz s σ H Q I h
 refine Compare_chain (bW (ha QLz s σ H _ I h) fun v s1⟨x,H1,I1,r1,q1⟩=>chain_link (bW (hb QLz s1 σ H1 _ I1 q1) fun u s2⟨y,H2,I2,r2,q2⟩=>
  bW (ho QLz s2 σ H2 x y v u _ I2 r1 r2 q2) fun d s3⟨z,H3,I3,r3,k,e,q3⟩=>?_)) hm
 subst e
 cases r3
 refine wpAny_truthy_bool ?_
 cases k with
 |false=>exact ite_ff ⟨.bl false,H3,I3,rfl,q3⟩
 |true=>exact ite_tt (chain_last (bW (hc QLz s3 σ H3 _ I3 q3) fun w' s4⟨z',H4,I4,r4,q4⟩=>ho' QLz s4 σ H4 y z' u w' Q I4 r2 r4 q4))
theorem Jc{op':CmpOp}(ho:fH X (compareOp op) r)(ho':fH X (compareOp op') r')(ha:PE X a ta)(hb:PE X b tb)(hc:PE X c tc)
  (hm:lastMarks [op,op'] [b,c]=false:=by with_unfolding_all rfl):PT X (.Compare a [op,op'] [b,c] pos) (RD (zf r r' ta tb tc)):=by
 intro QLz s σ H Q I h
 refine isTrue_chain (bW (ha QLz s σ H _ I h) fun v s1⟨x,H1,I1,r1,q1⟩=>test_link (bW (hb QLz s1 σ H1 _ I1 q1) fun u s2⟨y,H2,I2,r2,q2⟩=>
  bW (ho QLz s2 σ H2 x y v u _ I2 r1 r2 q2) fun d s3⟨z,H3,I3,r3,k,e,q3⟩=>?_)) hm
 subst e
 cases r3
 refine wpAny_truthy_bool ?_
 cases k with
 |false=>
  obtain⟨k',e',q'⟩:=q3
  cases e'
  exact ite_ff ⟨H3,I3,q'⟩
 |true=>
  refine ite_tt (test_last (bW (hc QLz s3 σ H3 _ I3 q3) fun w' s4⟨z',H4,I4,r4,q4⟩=>bW (ho' QLz s4 σ H4 y z' u w' _ I4 r2 r4 q4) fun d' s5⟨z2,H5,I5,r5,k2,e2,q5⟩=>?_))
  subst e2
  cases r5
  exact wpAny_truthy_bool ⟨H5,I5,q5⟩
def Mr(K:QQq)(x:V)(H:Hp)(k:Bool):Prop:=
 match x with
 |.non=>k=false
 |.bl b=>k=b
 |.int i=>k=(i !=0)
 |.str y=>y.length<=sizeLine/\k=((y.length:Int) !=0)
 |.byt y=>y.size<=sizeLine/\k=((y.size:Int) !=0)
 |.ref p=>(∃xs,iY K H p xs/\k= !xs.isEmpty)\/(∃xs,gO K H p xs/\k= !xs.isEmpty)\/∃kvs,H p=some (.dK kvs)/\k= !kvs.isEmpty
 |_=>False
theorem z9{κ:Type}{kvs:List (κ×V)}{vs:List (κ×Value)}(r:KV kvs vs):(!vs.isEmpty)= !kvs.isEmpty:=by
 cases r<;>rfl
theorem qO{xs:List V}{its:List Value}(r:Vals xs its):(!its.toArray.isEmpty)= !xs.isEmpty:=by
 cases r<;>simp
theorem nM:(sizeLine:Nat)<2 ^63:=by rw[sizeLine_eq];decide
theorem Hx:aga X (fun x H Q=>∃k,Mr X.K x H k/\Q k H):=by
 intro QLz s σ H x v Q I rx h
 obtain⟨k,e,q⟩:=h
 have hl:=nM
 have hs:sizeLine=16777216:=sizeLine_eq
 cases x with
 |non=>
  cases rx
  have e':k=false:=e
  subst e'
  exact truthy_none ⟨H,I,q⟩
 |bl b=>
  cases rx
  have e':k=b:=e
  subst e'
  exact wpAny_truthy_bool ⟨H,I,q⟩
 |int i=>
  obtain⟨t,rfl⟩:=rx
  have e':k=(i !=0):=e
  subst e'
  exact PySem.P.truthy_int ⟨H,I,q⟩
 |str y=>
  obtain⟨t,rfl⟩:=rx
  obtain⟨hy,e'⟩:y.length<=sizeLine/\k=((y.length:Int) !=0):=e
  subst e'
  exact PySem.P.truthy_str (by omega) ⟨H,I.tok _,q⟩
 |byt y=>
  obtain⟨t,rfl⟩:=rx
  obtain⟨hy,e'⟩:y.size<=sizeLine/\k=((y.size:Int) !=0):=e
  subst e'
  exact PySem.W.truthy_bytes (by omega) ⟨H,I.tok _,q⟩
 |ref p=>
  cases rx
  have e':(∃xs,iY X.K H p xs/\k= !xs.isEmpty)\/(∃xs,gO X.K H p xs/\k= !xs.isEmpty)\/∃kvs,H p=some (.dK kvs)/\k= !kvs.isEmpty:=e
  rcases e' with ⟨xs,hx,e'⟩|⟨xs,hx,e'⟩|⟨kvs,hx,e'⟩
  ·subst e'
   obtain⟨its,r,pl,hz⟩:=I.list hx
   have hlen:=r.length
   exact wpAny_truthy_list pl.isList (by simp only[Qyq];omega) ⟨H,I.tok _,by rw[qO r];exact q⟩
  ·subst e'
   obtain⟨its,r,pl,hz⟩:=I.tuple hx
   have hlen:=r.length
   exact truthy_tuple pl (by simp only[Qyq];omega) ⟨H,I.tok _,by rw[qO r];exact q⟩
  ·subst e'
   obtain⟨hz,hS,vs,r,m⟩:kvs.length<=sizeLine/\(p==sysModules)=false/\∃vs,KV kvs vs/\s.heap.DictOf (bJ X.prog X.w) p vs:=I.hok p _ hx
   have hlen:kvs.length=vs.length:=Paired.length r
   exact wpAny_truthy_dict hS m (by omega) ⟨H,I.tok _,by rw[z9 r];exact q⟩
 |_=>exact(show False from e).elim
theorem Jb(ha:PE X a ta)(he:∀whole,isTrue a X.env whole=(do let v<-whole;standAt a.pos;holding [v] (truthy v))):
  PT X a (fun σ H Q=>ta σ H fun x H'=>∃k,Mr X.K x H' k/\Q k H'):=by
 intro QLz s σ H Q I h
 exact isTrue_plain (bW (ha QLz s σ H _ I h) fun v s1⟨x,H1,I1,r1,q1⟩=>Hx QLz s1 σ H1 x v Q I1 r1 q1) (he _)
theorem vals1{x:V}(r:Vals [x] us):∃u,us=[u]/\RelV x u:=by
 cases r with
 |cons r1 r2=>cases r2;exact⟨_,rfl,r1⟩
theorem G4:fJ X (.type "int") (fun xs H Q=>(∃i,xs=[.int i]/\Q (.int i) H)\/∃k,xs=[.bl k]/\Q (.int (if k then 1 else 0)) H):=by
 intro QLz s σ H xs us Q I r h
 rcases h with ⟨i,rfl,q⟩|⟨k,rfl,q⟩
 ·obtain⟨u,rfl,t,rfl⟩:=vals1 r
  exact call_int_int ⟨.int i,H,I,⟨_,rfl⟩,q⟩
 ·obtain⟨u,rfl,r1⟩:=vals1 r
  cases r1
  exact call_int_bool ⟨.int (if k then 1 else 0),H,I.tok _,⟨_,rfl⟩,q⟩
def XQ(K:QQq)(x:V)(H:Hp)(n:Nat):Prop:=
 match x with
 |.str y=>y.length<=sizeLine/\n=y.length
 |.byt y=>y.size<=sizeLine/\n=y.size
 |.ref p=>(∃xs,iY K H p xs/\n=xs.length)\/∃xs,gO K H p xs/\n=xs.length
 |_=>False
theorem Lq:fJ X (.builtin "len") (fun xs H Q=>∃x n,xs=[x]/\XQ X.K x H n/\Q (.int n) H):=by
 intro QLz s σ H xs us Q I r h
 obtain⟨x,n,rfl,e,q⟩:=h
 obtain⟨u,rfl,rx⟩:=vals1 r
 have hl:=nM
 have hs:sizeLine=16777216:=sizeLine_eq
 cases x with
 |str y=>
  obtain⟨t,rfl⟩:=rx
  obtain⟨hy,e'⟩:y.length<=sizeLine/\n=y.length:=e
  subst e'
  exact len_str (by omega) ⟨.int _,H,I.tok _,⟨_,rfl⟩,q⟩
 |byt y=>
  obtain⟨t,rfl⟩:=rx
  obtain⟨hy,e'⟩:y.size<=sizeLine/\n=y.size:=e
  subst e'
  exact PySem.W.len_bytes (by omega) ⟨.int _,H,I.tok _,⟨_,rfl⟩,q⟩
 |ref p=>
  cases rx
  have e':(∃xs,iY X.K H p xs/\n=xs.length)\/∃xs,gO X.K H p xs/\n=xs.length:=e
  rcases e' with ⟨xs,hx,e'⟩|⟨xs,hx,e'⟩
  ·subst e'
   obtain⟨its,r',pl,hz⟩:=I.list hx
   have hlen:=r'.length
   exact Calls.call_len_list pl.isList (by simp only[Qyq];omega) ⟨.int xs.length,H,I.tok _,⟨_,by simp only[Qyq];rw[hlen]⟩,q⟩
  ·subst e'
   obtain⟨its,r',pl,hz⟩:=I.tuple hx
   have hlen:=r'.length
   exact len_tuple pl (by simp only[Qyq];omega) ⟨.int xs.length,H,I.tok _,⟨_,by simp only[Qyq];rw[hlen]⟩,q⟩
 |_=>exact(show False from e).elim
end
section
variable{prog:Program}{w:World}{A:Around}{E:QZq}{s:Shared}{K:QQq}{x dx C f:Addr}{mA:QZz}{name:Str}{v:Value}
end
theorem lL.some_of{o:Option Value}(r:lL (some v) o):∃u,o=some u/\RelV v u:=by
 cases o with
 |none=>exact(show False from r).elim
 |some u=>exact⟨u,rfl,r⟩
section
variable{P:Program}{w:World}{H H':Hp}{h h':Heap}{a C dx:Addr}{fs fs':List (Str×V)}
end
section
variable{X:Cx}{QLz:QQz}{σ:St}{H:Hp}{s:Shared}{a C dx:Addr}{fs:List (Str×V)}{f:Str}{v:V}{A:Around}{E:QZq}
end
section
variable{X:Cx}{o e value:Expr}{f:Str}{pos pos' tpos:Pos}{ta tv:TE}
end
section
variable{X:Cx}{QLz:QQz}{σ:St}{H:Hp}{s:Shared}{A:Around}{E:QZq}{Q:QZq}{c:Value}{b:Bool}
end
structure jj(k:Nat)(A:Around):Prop where
 hd:A.handled=none
 dp:A.depth+3*k+5<recursionLimit
 un:A.units+16*k+200<cLine
theorem jj.deeper{k:Nat}{A:Around}(r:jj (k+1) A)(env:Env):jj k (A.deeper env):=
 ⟨r.hd,by have:=r.dp;show A.depth+1+3*k+5<_;omega,by have:=r.un;show A.units+3+16*k+200<_;omega⟩
theorem jj.in1{k:Nat}{A:Around}(r:jj (k+1) A):jj k A.in1:=
 ⟨r.hd,by have:=r.dp;show A.depth+3*k+5<_;omega,by have:=r.un;show A.units+1+16*k+200<_;omega⟩
theorem jj.depth{k:Nat}{A:Around}(r:jj k A):A.depth<recursionLimit:=by have:=r.dp;omega
def ZV:TA:=fun _ H Q=>Q [] H
def HN(ta:TE)(tr:TA):TA:=fun σ H Q=>ta σ H fun x H1=>tr σ H1 fun xs H2=>Q (x::xs) H2
section
variable{X:Cx}{e:Expr}{es:List Expr}{te:TE}{t:TA}{pos:Pos}
theorem eF:PA X [] ZV:=fun _ _ _ _ H Q I h=>Calls.spliced_nil ⟨[],H,I,.nil,h⟩
theorem cG(ha:PE X e te)(hr:PA X es t)(hs:starEach (e::es) X.env=(false,eval e X.env)::starEach es X.env:=by rfl):PA X (e::es) (HN te t):=by
 intro pos QLz s σ H Q I h
 rw[hs]
 show wpAny _ _ (spliced ((false,eval e X.env)::backTo pos (starEach es X.env))) _ _ s
 refine Calls.spliced_cons (bW (ha QLz s σ H _ I h) fun u s1⟨x,H1,I1,r1,q1⟩=>?_)
 exact bW (hr pos QLz s1 σ H1 _ I1 q1) fun us s2⟨xs,H2,I2,r2,q2⟩=>⟨x::xs,H2,I2,.cons r1 r2,q2⟩
def ad3(t:TA):TE:=fun σ H Q=>t σ H fun xs H1=>xs.length<=sizeLine/\∀p,H1 p=none->Q (.ref p) (upd H1 p (.tup xs))
def ad6(t:TA):TE:=fun σ H Q=>t σ H fun xs H1=>xs.length<=sizeLine/\∀p,H1 p=none->Q (.ref p) (upd H1 p (.lst xs))
theorem Vu{x1}(h:PA X es t):PE X (.Tuple es x1 pos) (ad3 t):=by
 intro QLz s σ H Q I hq
 refine wpAny_Tuple_spliced (bW (h pos QLz s σ H _ I hq) fun us s1⟨xs,H1,I1,r,z,q⟩=>⟨by rw[<-r.length];exact z,?_⟩)
 have hf:H1 s1.heap.objs.size=none:=I1.hok.fresh (QVz _)
 refine⟨.ref s1.heap.objs.size,upd H1 s1.heap.objs.size (.tup xs),I1.laid (t':=s1.toks) (fun b u e=>QWq _ e) (QVz _) ?_,rfl,q _ hf⟩
 exact⟨z,us,r,TupOk.new _ _⟩
theorem Vx(h:PA X es t):PE X (.List es pos) (ad6 t):=by
 intro QLz s σ H Q I hq
 refine wpAny_List_spliced (bW (h pos QLz s σ H _ I hq) fun us s1⟨xs,H1,I1,r,z,q⟩=>⟨by rw[<-r.length];exact z,?_⟩)
 have hf:H1 s1.heap.objs.size=none:=I1.hok.fresh (QVz _)
 refine⟨.ref s1.heap.objs.size,upd H1 s1.heap.objs.size (.lst xs),I1.laid (t':=s1.toks) (fun b u e=>QWq _ e) (QVz _) ?_,rfl,q _ hf⟩
 exact⟨z,us,0,r,Qzq _ rfl⟩
end
abbrev Sp:=List V->Hp->VK->XK->Prop
abbrev Hf:=List Env->Hp->Shared->XK->Value->Shared->Prop
structure Bp(P:Program)(w:World)(K:QQq)(mg:QZz)(base:Heap)(A:Around)(outer:List Env)(s:Shared)(H:Hp):Prop where
 frames:A.frames=some outer
 mod:Mod K mg base
 bs:∀b o,base.get? b=some o->s.heap.get? b=some o/\H b=none
 bsz:base.objs.size<=s.heap.objs.size
 lw:s.heap.FunFrames base outer
 frf:∀b∈frs outer,H b=none
 hok:lQ P w H s.heap
 bare:AllBare s.gens
def CE(outer:List Env)(P:Program)(w:World)(H:Hp)(s:Shared)(Q:VK)(u:Value)(s':Shared):Prop:=
 ∃v H',s'.os=s.os/\AllBare s'.gens/\Un (frs outer) [] H H' s.heap s'.heap/\lQ P w H' s'.heap/\RelV v u/\Q v H'
def CR(CX:Hf)(outer:List Env)(P:Program)(w:World)(H:Hp)(s:Shared)(Q:VK)(E:XK)(r:Result)(s':Shared):Prop:=
 match r with
 |.ok (.ret u)=>CE outer P w H s Q u s'
 |.ok _=>False
 |.error e=>CX outer H s E e s'
structure oN(P:Program)(w:World)(K:QQq)(mg:QZz)(base:Heap)(CX:Hf)(k:Nat)(f:Addr)(fd:FuncData)(ps:List Str)(sp:Sp):Prop where
 len:∀vs H Q E,sp vs H Q E->vs.length=ps.length
 run:∀(A:Around)(outer:List Env)(s:Shared)(H:Hp)(args:Args)(us:List Value)(vs:List V)(Q:VK)(E:XK),jj k A->Bp P w K mg base A outer s H->BindsTo s fd args (ps.zip us)->Vals vs us->sp vs H Q E->
  codeAny (model P w) A (.call (.ref f) args) (CR CX outer P w H s Q E) s
theorem Bp.in1{P:Program}{w:World}{K:QQq}{mg:QZz}{base:Heap}{A:Around}{outer:List Env}{s:Shared}{H:Hp}(e:Bp P w K mg base A outer s H):
  Bp P w K mg base A.in1 outer s H:=⟨e.frames,e.mod,e.bs,e.bsz,e.lw,e.frf,e.hok,e.bare⟩
section
variable{X:Cx}{QLz:QQz}{σ:St}{H:Hp}{s s':Shared}
theorem Inv.env0(I:Inv X QLz σ H s):Bp X.prog X.w X.K X.mg X.base X.A X.stack s H:=
 ⟨I.ok.frames,I.ok.mod,I.bs,Nat.le_trans I.ok.bsz I.sz,I.stack,I.Bx,I.hok,I.bare⟩
theorem Inv.after{Q:VK}(I:Inv X QLz σ H s)(h:CE X.stack X.prog X.w H s Q u s'):EP X QLz σ Q u s':=by
 obtain⟨v,H',os,bare,un,hok,r,q⟩:=h
 obtain⟨hh,g,d,t,os'⟩:=s'
 obtain rfl:os'=s.os:=os
 exact⟨v,H',I.call (h':=hh) (g':=g) (d':=d) (t':=t) (ch:=[]) un hok bare (fun b z=>absurd z (by simp)),r,q⟩
end
def Z1(sp:Sp)(dvs:List V)(E:XK)(t:TA):TE:=fun σ H Q=>t σ H fun vs H1=>sp (vs++dvs) H1 Q E
def Binds(K:QQq)(fd:FuncData)(ps:List Str)(ds:List Value):Prop:=
 ∀(s:Shared)(us:List Value),K.In s.heap->(us++ds).length=ps.length->BindsTo s fd ⟨us,[]⟩ (ps.zip (us++ds))
theorem Binds.all{fd:FuncData}{ps:List Str}(h:∀us:List Value,us.length=ps.length->bindArgs fd ⟨us,[]⟩=pure (ps.zip us)):Binds K fd ps []:=fun s us _ hl=>by
 rw[List.append_nil]at hl⊢
 exact .of_eq (h us hl)
def Bo(CX:Hf)(X:Cx)(E:XK):Prop:=∀(QLz:QQz)(σ:St)(H:Hp)(s:Shared)(e:Value)(s':Shared),Inv X QLz σ H s->CX X.stack H s E e s'->X.xe e s'
section
variable{X:Cx}{CX:Hf}{k:Nat}{f C:Addr}{fd:FuncData}{ps:List Str}{sp:Sp}{dvs:List V}{ds:List Value}{E:XK}{x m:Str}{p pos apos:Pos}{e o:Expr}{es:List Expr}{ta:TE}{t:TA}
theorem Va{Q:VK}{vs:List V}(F:oN X.prog X.w X.K X.mg X.base CX k f fd ps sp)(hr:jj k X.A)(hb:Binds X.K fd ps ds)(hd:Vals dvs ds)(hx:Bo CX X E)
  (I:Inv X QLz σ H s)(r:Vals vs us)(h:sp (vs++dvs) H Q E):wpAny (model X.prog X.w) X.A (call (.ref f) us) (EP X QLz σ Q) X.xe s:=by
 have r2:Vals (vs++dvs) (us++ds):=r.append hd
 have hl:(us++ds).length=ps.length:=by rw[<-r2.length];exact F.len _ _ _ _ h
 refine wpAny_call (codeAny_mono (F.run X.A X.stack s H ⟨us,[]⟩ (us++ds) (vs++dvs) Q E hr I.env0 (hb s us I.YC hl) r2 h) fun r s' hq=>?_)
 cases r with
 |error e=>exact hx QLz σ H s e s' I hq
 |ok fl=>
  cases fl with
  |ret u=>exact I.after hq
  |next=>exact False.elim hq
  |brk=>exact False.elim hq
  |cont=>exact False.elim hq
theorem Pu(F:oN X.prog X.w X.K X.mg X.base CX k f fd ps sp)(hr:jj k X.A)(hg:Gl X x)(hm:X.mg x=some (.ref f))(hk:PySem.W.keepIn X.K (.ref f)=true)(hb:Binds X.K fd ps ds)(hd:Vals dvs ds)(hx:Bo CX X E)
  (ha:PA X (e::es) t)(hdb:(x==("__debug__":Str))=false:=by decide)(he:starEach (e::es) X.env=(false,eval e X.env)::starEach es X.env:=by rfl)(hpl:(backTo pos (starEach es X.env)).any (·.1)=false:=by rfl):
  PE X (.Call (.Name x p) (e::es) [] pos) (Z1 sp dvs E t):=by
 intro QLz s σ H Q I h
 refine wpAny_Call_Name_kw (CZ I hg hm ?_ hdb)
 refine PySem.W.callWith_K (h₀:=X.base) I.ok.mod.kin hk (bW (ha pos QLz s σ H _ I h) fun us s1⟨vs,H1,I1,r,q⟩=>⟨I1.YC,?_⟩) he hpl
 exact Va F hr hb hd hx I1 r q
end
section
variable{X:Cx}{CX:Hf}{k:Nat}{f C:Addr}{fd:FuncData}{ps ks:List Str}{sp:Sp}{E:XK}{x m:Str}{p pos apos kpos:Pos}{e o:Expr}{es:List Expr}{kws:List Keyword}{te ta:TE}{t tk:TA}{nm:Option Str}
variable{g:List Value->List Value->List Value}{gV:List V->List V->List V}
end
structure j8(N P:List Str)(sc:Scope):Prop where
 kind:sc.kind=.function
 co:sc.isCoroutine=false
 gen:sc.isGenerator=false
 nd:N.Nodup
 pre:N.take P.length=P
 par:∀x∈P,sc.names.lookup x=some .local\/sc.names.lookup x=some .cell
 nofree:∀y∈sc.names,y.2≠ .free
theorem uM{kindOf:Str->Option NameKind}{x:Str}:∀{binds:List (Str×Value)}{m:QZz},(∀v,(x,v)∉binds)->bindL kindOf binds m x=m x
 |[],_,_=>rfl
 |(n,v)::r,m,h=>by
  unfold bindL
  rw[uM fun w hw=>h w (QYq _ hw)]
  split
  ·have:x≠n:=by rintro rfl;exact h v QYz
   simp[this]
  ·rfl
theorem uO{kindOf:Str->Option NameKind}{x:Str}:∀{binds:List (Str×Value)}{m:QZz},(∀v,(x,v)∉binds)->bindC kindOf binds m x=m x
 |[],_,_=>rfl
 |(n,v)::r,m,h=>by
  unfold bindC
  rw[uO fun w hw=>h w (QYq _ hw)]
  split
  ·rfl
  ·have:x≠n:=by rintro rfl;exact h v QYz
   simp[this]
theorem uN{kindOf:Str->Option NameKind}{x:Str}{v:Value}:∀{P:List Str}{vs:List Value}{i:Nat}{m:QZz},P.Nodup->P[i]? =some x->vs[i]? =some v->kindOf x=some .local->
  bindL kindOf (P.zip vs) m x=some v
 |[],_,_,_,_,h,_,_=>by simp at h
 |_::_,[],_,_,_,_,h,_=>by simp at h
 |p::P,w::vs,0,m,nd,h1,h2,hk=>by
  simp at h1 h2;subst h1;subst h2
  show bindL kindOf ((p,w)::P.zip vs) m p=_
  unfold bindL
  rw[uM fun v hv=>(List.nodup_cons.mp nd).1 (List.of_mem_zip hv).1,if_pos hk]
  simp
 |p::P,w::vs,i+1,m,nd,h1,h2,hk=>by
  show bindL kindOf ((p,w)::P.zip vs) m x=_
  unfold bindL
  exact uN (i:=i) (List.nodup_cons.mp nd).2 (by simpa using h1) (by simpa using h2) hk
theorem uP{kindOf:Str->Option NameKind}{x:Str}{v:Value}:∀{P:List Str}{vs:List Value}{i:Nat}{m:QZz},P.Nodup->P[i]? =some x->vs[i]? =some v->kindOf x≠some .local->
  bindC kindOf (P.zip vs) m x=some v
 |[],_,_,_,_,h,_,_=>by simp at h
 |_::_,[],_,_,_,_,h,_=>by simp at h
 |p::P,w::vs,0,m,nd,h1,h2,hk=>by
  simp at h1 h2;subst h1;subst h2
  show bindC kindOf ((p,w)::P.zip vs) m p=_
  unfold bindC
  rw[uO fun v hv=>(List.nodup_cons.mp nd).1 (List.of_mem_zip hv).1,if_neg hk]
  simp
 |p::P,w::vs,i+1,m,nd,h1,h2,hk=>by
  show bindC kindOf ((p,w)::P.zip vs) m x=_
  unfold bindC
  exact uP (i:=i) (List.nodup_cons.mp nd).2 (by simpa using h1) (by simpa using h2) hk
def start(N:List Str)(vs:List V):St:=vs.map some++List.replicate (N.length-vs.length) none
def Ao(CX:Hf)(P:Program)(w:World)(K:QQq)(mg:QZz)(base:Heap)(N:List Str)(qual:Str)(scope:Scope)(f:Addr)(cd:Value)(A:Around)(outer:List Env)(s:Shared)(H:Hp)(E:XK):Cx where
 prog:=P
 w:=w
 K:=K
 mg:=mg
 base:=base
 A:=A.deeper (envOfC qual scope s.heap.objs.size f cd)
 N:=N
 s₀:=s
 H₀:=H
 env:=envOfC qual scope s.heap.objs.size f cd
 outer:=outer
 stack:=envOfC qual scope s.heap.objs.size f cd::outer
 ex:=[]
 calm:=true
 fn:=fun _=>true
 pn:=[]
 xe:=fun e s'=>wpAny (model P w) (A.deeper (envOfC qual scope s.heap.objs.size f cd)) (leaving (envOfC qual scope s.heap.objs.size f cd) e) (fun _ s''=>CX outer H s E e s'') (fun e' s''=>CX outer H s E e' s'') s'
theorem yJ{sc:Scope}{n:Nat}(h:sc.names.lookup x=some .cell):∃c,(cellsFrom n sc.names []).lookup x=some c:=by
 have q:=PySem.W.cellsFrom_some sc.names n [] (.inl h)
 exact Option.isSome_iff_exists.mp q
theorem Gw{CX:Hf}{w:World}{mg:QZz}{base:Heap}{N ps:List Str}{qual:Str}{scope:Scope}{f:Addr}{cd:Value}{outer:List Env}{s1:Shared}{E:XK}{vs:List V}
  (S:j8 N ps scope)(hd:A.handled=none)(e0:Bp P w K mg base A outer s H)(hl:vs.length=ps.length)(r:Vals vs us)
  (x:InCallC s s.heap.objs.size (bindL (envOfC qual scope s.heap.objs.size f cd).kindOf (ps.zip us) fun _=>none) (cellsFrom (s.heap.objs.size+1) scope.names []) (bindC (envOfC qual scope s.heap.objs.size f cd).kindOf (ps.zip us) fun _=>none) s1):
  Inv (Ao CX P w K mg base N qual scope f cd A outer s H E) [] (start N vs) H s1:=by
 have hpl:ps.length<=N.length:=by have:=congrArg List.length S.pre;rw[List.length_take]at this;omega
 obtain⟨h1,tk,rfl,hk⟩:=x.done
 have noA:∀b:Addr,b∉(Ao CX P w K mg base N qual scope f cd A outer s H E).ex:=fun b z=>absurd (show b∈([]:List Addr)from z) (by simp)
 refine⟨⟨e0.mod,S.kind,rfl,rfl,QVz _,fun y z c h1 h2=>?_,fun y hy=>?_,fun y c _ h=>?_,fun _=>hd,Around.frames_deeper e0.frames,.inr ⟨rfl,rfl⟩,fun b z=>absurd z (noA b),e0.bs,e0.bsz,fun b _ _=>noA b,fun b z=>absurd z (noA b),e0.lw,e0.frf⟩,
  rfl,e0.bare,Un.kept hk,⟨_,x.toInCall.ns,fun i y v h1 h2 h3=>?_⟩,fun y c h=>⟨_,x.cell y c h⟩,e0.hok.fresh (QVz _),fun y c h=>?_,fun p hp=>absurd (show p∈([]:QQz)from hp) (by simp),e0.hok.kept hk,?_⟩
 ·exact name_of_addr x.apart (PySem.mem_of_lookup h1) (PySem.mem_of_lookup h2)
 ·have hy:scope.names.lookup y=some .cell\/scope.names.lookup y=some .free:=hy
  rcases hy with hy|hy
  ·exact yJ hy
  ·exact absurd rfl (S.nofree _ (PySem.mem_of_lookup hy))
 ·exact Nat.le_of_lt (x.above y c (PySem.mem_of_lookup h))
 ·have hi:i<vs.length:=by
   unfold start at h2
   by_cases hi:i<vs.length
   ·exact hi
   ·rw[QIz (by simpa using hi)]at h2
    rw[List.getElem?_replicate]at h2
    split at h2<;>cases h2
  have ha:vs[i]? =some v:=by
   unfold start at h2
   rw[Qwz (by simpa using hi),QFz]at h2
   cases e:vs[i]? with
   |none=>rw[e]at h2;cases h2
   |some a=>rw[e]at h2;cases h2;rfl
  obtain⟨u,hu,rv⟩:=r.get ha
  have hp:ps[i]? =some y:=by
   rw[<-S.pre,List.getElem?_take_of_lt (by omega)];exact h1
  have ndP:ps.Nodup:=by rw[<-S.pre];exact S.nd.sublist (List.take_sublist _ _)
  refine⟨u,rv,?_⟩
  rcases S.par y (QBz hp)with k|k
  ·exact .inl ⟨k,uN ndP hp hu k⟩
  ·obtain⟨c,e⟩:=yJ (n:=s.heap.objs.size+1) k
   refine .inr ⟨.inl k,c,e,?_⟩
   have q:=x.cell y c e
   rw[uP ndP hp hu (by show scope.names.lookup y≠_;rw[k];decide)]at q
   exact q
 ·exact e0.hok.fresh (Nat.le_of_lt (x.above y c (PySem.mem_of_lookup h)))
 ·unfold start
  show _=N.length
  rw[QTq,QAq,List.length_replicate]
  omega
theorem abN{CX:Hf}{w:World}{mg:QZz}{base:Heap}{k:Nat}{f:Addr}{name qual:Str}{params:Arguments}{scope:Scope}{dV kV doc pm cdv ct oc:Value}{an od:Option Addr}
  {osl:Array (Option Value)}{N ps:List Str}{sp:Sp}(lk:K.lookup f=some ⟨oc,od,.func (PySem.W.fnOf name qual params body scope dV kV doc pm an cdv ct),osl⟩)(hcd:PySem.W.codeIn K cdv qual=true)(S:j8 N ps scope)
  (len:∀vs H Q E,sp vs H Q E->vs.length=ps.length)
  (hbody:∀(A:Around)(outer:List Env)(s:Shared)(H:Hp)(vs:List V)(Q:VK)(E:XK),jj k (A.deeper (envOfC qual scope s.heap.objs.size f cdv))->sp vs H Q E->
   ∃t,wz (Ao CX P w K mg base N qual scope f cdv A outer s H E) body t/\t {nx:=fun _ H'=>Q .non H',rt:=Q} (start N vs) H):
  oN P w K mg base CX (k+1) f (PySem.W.fnOf name qual params body scope dV kV doc pm an cdv ct) ps sp:=by
 refine⟨len,fun A outer s H args us vs Q E hr e0 hb r hsp=>?_⟩
 have hl:=len _ _ _ _ hsp
 have KX:K.In s.heap:=e0.mod.kin.keeps fun b o e=>(e0.bs b o e).1
 have lim:s.heap.NoLimit:=e0.mod.nolimit.keeps fun b o e=>(e0.bs b o e).1
 have hkind:∀y∈ps.zip us,scope.names.lookup y.1=some .local\/(scope.names.lookup y.1=some .cell/\((cellsFrom (s.heap.objs.size+1) scope.names []).lookup y.1).isSome=true):=fun⟨n,v⟩hy=>by
  rcases S.par n (List.of_mem_zip hy).1 with q|q
  ·exact .inl q
  ·exact .inr ⟨q,PySem.W.cellsFrom_some _ _ _ (.inl q)⟩
 refine codeAny_call_function hr.depth (KX _ _ lk) rfl S.co S.gen rfl (PySem.W.codeRec_of KX hcd) (hb _ _ _ _ ?_)
 refine wpAny_newFunctionEnv_cells S.kind hkind fun env he s1 x=>?_
 subst he
 refine⟨lim.keeps x.toInCall.keep,codeAny_func ?_⟩
 obtain⟨t,ht,hq⟩:=hbody A outer s H vs Q E (hr.deeper _) hsp
 have I:Inv (Ao CX P w K mg base N qual scope f cdv A outer s H E) [] (start N vs) H s1:=Gw S hr.hd e0 hl r x
 refine QGq (ht [] s1 (start N vs) H _ I hq) (fun fl s' hs=>?_) fun e s' hs=>hs
 have fin:∀{σ':St}{H':Hp}{v:V}{u:Value},Inv (Ao CX P w K mg base N qual scope f cdv A outer s H E) [] σ' H' s'->RelV v u->Q v H'->CE outer P w H s Q u s':=
  fun{σ' H' v u}J rv q=>⟨v,H',J.os,J.bare,J.base,J.hok,rv,q⟩
 cases fl with
 |ret u=>
  obtain⟨v,σ',H',J,rv,q⟩:=hs
  exact fin J rv q
 |next=>
  obtain⟨σ',H',J,q⟩:=hs
  exact fin (v:=V.non) (u:=Value.none) J rfl q
 |brk=>
  obtain⟨_,_,_,q⟩:=hs
  exact False.elim q
 |cont=>
  obtain⟨_,_,_,q⟩:=hs
  exact False.elim q
section
variable{X:Cx}{x:Str}{p pos:Pos}{e:Expr}{es:List Expr}{t:TA}{id T:String}{r:List V->Hp->VK->Prop}
def tCB(r:List V->Hp->VK->Prop)(t:TA):TE:=fun σ H Q=>t σ H fun vs H1=>r vs H1 Q
theorem qC(hc:fJ X (.builtin id) r)(hg:Gl X x)(hm:X.mg x=none)(hv:bootBuiltins x=some (.builtin id))(ha:PA X (e::es) t)(hn:x≠"__name__":=by decide)(hdb:(x==("__debug__":Str))=false:=by decide)
  (he:starEach (e::es) X.env=(false,eval e X.env)::starEach es X.env:=by rfl)(hpl:(backTo pos (starEach es X.env)).any (·.1)=false:=by rfl):PE X (.Call (.Name x p) (e::es) [] pos) (tCB r t):=by
 intro QLz s σ H Q I h
 refine wpAny_Call_Name_kw (iB I hg hm hv ?_ hn hdb)
 exact PyProof.Rows.callWith_builtin1 (bW (ha pos QLz s σ H _ I h) fun us s1⟨vs,H1,I1,r1,q1⟩=>hc QLz s1 σ H1 vs us Q I1 r1 q1) he hpl
theorem nC(hc:fJ X (.type T) r)(hg:Gl X x)(hm:X.mg x=none)(hv:bootBuiltins x=some (.type T))(ha:PA X (e::es) t)(hn:x≠"__name__":=by decide)(hdb:(x==("__debug__":Str))=false:=by decide)
  (he:starEach (e::es) X.env=(false,eval e X.env)::starEach es X.env:=by rfl)(hpl:(backTo pos (starEach es X.env)).any (·.1)=false:=by rfl):PE X (.Call (.Name x p) (e::es) [] pos) (tCB r t):=by
 intro QLz s σ H Q I h
 refine wpAny_Call_Name_kw (iB I hg hm hv ?_ hn hdb)
 exact PyProof.Rows.callWith_type1 (bW (ha pos QLz s σ H _ I h) fun us s1⟨vs,H1,I1,r1,q1⟩=>hc QLz s1 σ H1 vs us Q I1 r1 q1) he hpl
end
end L2
namespace HT
open PySem PyProof.Rows
section
open PySem.SeqAt
open PySem.AutoSeq1 (wpAny_loadPart')
open PySem.MeetsSeq PySem.MeetsSeq2 PySem.MeetsSeq3
end
section
variable{prog:Program}{w:World}{A:Around}{E:QZq}{s:Shared}
theorem QT{t b:Addr}{vs ws:List Value}{Q:QZq}(ht:IsTup s.heap t vs.toArray)(hb:IsTup s.heap b ws.toArray)(hv:vs≠[])
  (h1:ws=[]->Q (.ref t) s)(h2:ws≠[]->Q (.ref s.heap.objs.size) {s with heap:=s.heap.push {cls:=.type "tuple",data:=.seq (vs++ws).toArray}})
  (hsz:vs.length+ws.length<=sizeLine):wpAny (model prog w) A (binaryOp .Add (.ref t) (.ref b)) Q E s:=by
 obtain⟨⟨cls,dd,data,sl⟩,ho,hc,n,hd⟩:=id ht
 obtain⟨⟨cls2,dd2,data2,sl2⟩,ho2,hc2,n2,hd2⟩:=id hb
 simp only at hc hd hc2 hd2
 subst hc hd hc2 hd2
 have e:vs.toArray++ws.toArray=(vs++ws).toArray:=by simp
 by_cases hw:ws=[]
 ·exact concat_meets ⟨_,ho,rfl⟩ ⟨_,ho2,rfl⟩ noFill_tuple_add seq_tuple_add PySem.F.slot_tuple_add PySem.F.entry_tuple_add (PySem.F.args_tuple_add_2 _ _)
   (tuple_addW1 t b vs.toArray ws.toArray n n2 dd dd2 sl sl2 (by simpa using hv) (by simp[hw])) ⟨ho,ho2,h1 hw⟩
 ·refine concat_meets ⟨_,ho,rfl⟩ ⟨_,ho2,rfl⟩ noFill_tuple_add seq_tuple_add PySem.F.slot_tuple_add PySem.F.entry_tuple_add (PySem.F.args_tuple_add_2 _ _)
   (tuple_addW2 t b vs.toArray ws.toArray n n2 dd dd2 sl sl2 (by simpa using hv) (by simpa using hw) (by rw[Qyq,Qyq];exact hsz)) ⟨ho,ho2,?_⟩
  rw[e]
  exact h2 hw
def cY(n d:Nat):Option Int->Nat
 |none=>d
 |some v=>if v<0 then(v+(n:Int)).toNat else min v.toNat n
theorem lX(n d:Nat):cY n d none=d:=rfl
theorem U9(n d:Nat)(hd:d<=n)(o:Option Int):cY n d o<=n:=by
 cases o with
 |none=>exact hd
 |some v=>
  show(if v<0 then(v+(n:Int)).toNat else min v.toNat n)<=n
  by_cases hv:v<0
  ·rw[if_pos hv];omega
  ·rw[if_neg hv];exact Nat.min_le_right _ _
theorem Eb(v:Int)(n d:Nat):(if v<0 then max (v+(n:Int)) 0 else min v (n:Int))=((cY n d (some v):Nat):Int):=by
 show(if v<0 then max (v+(n:Int)) 0 else min v (n:Int))=(((if v<0 then(v+(n:Int)).toNat else min v.toNat n):Nat):Int)
 by_cases hv:v<0
 ·simp only[if_pos hv];omega
 ·simp only[if_neg hv];omega
theorem Bm(lo hi:Option Int)(n:Nat):Builtin.Slice.sliceAdjust lo hi 1 (n:Int)=(((cY n 0 lo:Nat):Int),((cY n n hi:Nat):Int)):=by
 have h1:¬((1:Int)<0):=by omega
 unfold Builtin.Slice.sliceAdjust
 simp only[h1,if_false]
 refine Prod.ext ?_ ?_
 ·cases lo with
  |none=>rfl
  |some v=>exact Eb v n 0
 ·cases hi with
  |none=>rfl
  |some v=>exact Eb v n n
theorem zO(i j:Nat):Builtin.Slice.slicePlaces (i:Int) (j:Int) 1=j-i:=by
 unfold Builtin.Slice.slicePlaces
 have h1:(1:Int)>0:=by omega
 simp only[h1,if_true,Int.ediv_one]
 split<;>omega
theorem qg{v:Value}{o:Option Int}{Q:Option Int->Shared->Prop}(p:IsPart v o)(h:Q o s):wpAny (model prog w) A (Builtin.Slice.slicePartIndex v) Q E s:=by
 cases p with
 |none=>exact slicePart_none h
 |int i t=>exact slicePart_int h
theorem gQ{sl:Addr}{vl vu:Value}{lo hi:Option Int}{n:Nat}{Q:Int×Int×Nat->Shared->Prop}(hs:s.heap.IsSliceOf sl vl vu .none)(pl:IsPart vl lo)(pu:IsPart vu hi)
  (h:Q (((cY n 0 lo:Nat):Int),1,cY n n hi-cY n 0 lo) s):wpAny (model prog w) A (Builtin.Slice.sliceApplied (.ref sl) (pure (n:Int))) Q E s:=by
 obtain⟨os,hos,hcs,hds⟩:=id hs
 unfold Builtin.Slice.sliceApplied Builtin.Slice.sliceFields
 refine QKq (QKq (QGz hos hds (x:=vl) rfl (QKq (QGz hos hds (x:=vu) rfl (QKq (QGz hos hds (x:=.none) rfl (QKz ?_)))))))
 refine QKq (slicePart_none ?_)
 show wpAny _ _ (if ((1:Int)==0)=true then _ else _) _ _ s
 rw[if_neg (by decide)]
 refine QKq (qg pl (QKq (qg pu (QKq (QKz ?_)))))
 show wpAny _ _ (match Builtin.Slice.sliceAdjust lo hi 1 (n:Int)with|(lo,hi)=>pure (lo,(1:Int),Builtin.Slice.slicePlaces lo hi 1)) _ _ s
 rw[Bm lo hi n]
 show wpAny _ _ (pure (((cY n 0 lo:Nat):Int),(1:Int),Builtin.Slice.slicePlaces ((cY n 0 lo:Nat):Int) ((cY n n hi:Nat):Int) 1)) _ _ s
 rw[zO]
 exact QKz h
theorem Jh(xs:Array Value)(i k:Nat):((List.range k).filterMap fun(m:Nat)=>xs[((i:Int)+(m:Int)*1).toNat]?).toArray=((xs.toList.drop i).take k).toArray:=by
 have e:(fun(m:Nat)=>xs[((i:Int)+(m:Int)*1).toNat]?)=fun m=>xs[i+m]? :=by
  funext m
  have:((i:Int)+(m:Int)*1).toNat=i+m:=by omega
  rw[this]
 rw[e]
 have:=pick_run xs i k
 rw[List.filterMap_map]at this
 have e2:((fun x=>xs[x]?)∘fun x=>i+x)=fun m=>xs[i+m]? :=rfl
 rw[e2]at this
 rw[this]
theorem mJ{t sl:Addr}{items:Array Value}{vl vu:Value}{lo hi:Option Int}{Q:QZq}(ht:IsTup s.heap t items)(hs:s.heap.IsSliceOf sl vl vu .none)(pl:IsPart vl lo)(pu:IsPart vu hi)
  (hw:¬(cY items.size 0 lo=0/\cY items.size items.size hi=items.size))
  (h:Q (.ref s.heap.objs.size) {s with heap:=s.heap.push {cls:=.type "tuple",data:=.seq ((items.toList.drop (cY items.size 0 lo)).take (cY items.size items.size hi-cY items.size 0 lo)).toArray}})
  (hsz:items.size<=sizeLine):wpAny (model prog w) A (getItem (.ref t) (.ref sl)) Q E s:=by
 have htake:sizeOk (.seq ((items.toList.drop (cY items.size 0 lo)).take (cY items.size items.size hi-cY items.size 0 lo)).toArray):=by
  show((items.toList.drop (cY items.size 0 lo)).take (cY items.size items.size hi-cY items.size 0 lo)).toArray.size<=sizeLine
  rw[Qyq,List.length_take,List.length_drop,Array.length_toList]
  omega
 have hj:cY items.size items.size hi<=items.size:=U9 _ _ (QVz _) hi
 obtain⟨os,hos,hcs,hds⟩:=id hs
 have hTs:s.TypeIs (.ref sl) "slice":=⟨os,hos,hcs⟩
 unfold getItem
 try with_reducible refine Qqq ?_
 first|refine QKq (QKz ?_)|skip
 refine QKq (wpAny_sequenceKey ht.typeIs (by decide) ?_)
 refine QKq (wpAny_callSpecial?_slot (name:=Str.ofString "__getitem__") ht.typeIs PyProof.Rows.slot_tuple_getitem
  (Qzz PyProof.Rows.slot_tuple_getitem ht.typeIs entry_tuple_getitem ?_ (args_tuple_getitem _ _)))
 show wpAny _ _ (Builtin.Tuple.tupleItemsOf (.ref t)>>=_) _ _ s
 refine QKq (tupleItemsOf_ ht ?_)
 refine QKq (wpAny_typeOf hTs ?_)
 rw[if_pos (by decide)]
 refine QKq (gQ hs pl pu ?_)
 have hno:¬((((cY items.size 0 lo:Nat):Int)==0&&(1:Int)==1&&(cY items.size items.size hi-cY items.size 0 lo)==items.size)=true):=by
  intro q
  rw[QUq,QUq]at q
  have q1:((cY items.size 0 lo:Nat):Int)=0:=eq_of_beq q.1.1
  have q2:cY items.size items.size hi-cY items.size 0 lo=items.size:=eq_of_beq q.2
  exact hw ⟨by omega,by omega⟩
 show wpAny _ _ (if (((cY items.size 0 lo:Nat):Int)==0&&(1:Int)==1&&(cY items.size items.size hi-cY items.size 0 lo)==items.size)=true then _ else _) _ _ s
 rw[if_neg hno,Jh]
 first
  |exact QKq (m:=Builtin.Tuple.tupleExact _) (Qjq (QKz ⟨_,rfl,QKz h⟩) htake)
  |exact QKq (m:=Builtin.Tuple.tupleExact _) (Qjq (QKq (QKz (QKz ⟨_,rfl,QKz h⟩))) htake)
  |exact QKq (QKq (m:=Builtin.Tuple.tupleExact _) (Qjq (QKz (QKz ⟨_,rfl,QKz h⟩)) htake))
  |exact QKq (QKq (m:=Builtin.Tuple.tupleExact _) (Qjq (QKz ⟨_,rfl,QKz h⟩) htake))
end
end HT
namespace L2
open PySem PySem.Spec PyProof.Rows
abbrev TO:=St->Hp->(Option Int->Hp->Prop)->Prop
def PO(X:Cx)(e:Option Expr)(t:TO):Prop:=
 ∀(QLz:QQz)(s:Shared)(σ:St)(H:Hp)(Q:Option Int->Hp->Prop),Inv X QLz σ H s->t σ H Q->
  wpAny (model X.prog X.w) X.A (evalPart e X.env) (fun u s'=>∃o H',Inv X QLz σ H' s'/\IsPart u o/\Q o H') X.xe s
def Ny:TO:=fun _ H Q=>Q none H
def ZR(t:TE):TO:=fun σ H Q=>t σ H fun x H1=>∃i,x=.int i/\Q (some i) H1
section
variable{X:Cx}{e:Expr}{te:TE}{lo hi:Option Expr}{tl th:TO}{pos p2:Pos}
theorem Pb:PO X none Ny:=by
 intro QLz s σ H Q I h
 rw[evalPart_none]
 exact QKz ⟨none,H,I,.none,h⟩
theorem Pa(h:PE X e te):PO X (some e) (ZR te):=by
 intro QLz s σ H Q I hw
 rw[evalPart_some]
 refine bW (h QLz s σ H _ I hw) fun u s1⟨x,H1,I1,r1,q1⟩=>?_
 obtain⟨i,rfl,q⟩:=q1
 obtain⟨t,rfl⟩:=r1
 exact⟨some i,H1,I1,.int i t,q⟩
def Rf(X:Cx)(r:V->Option Int->Option Int->Hp->VK->Prop):Prop:=
 ∀(QLz:QQz)(s:Shared)(σ:St)(H:Hp)(x:V)(v vl vu:Value)(lo hi:Option Int)(sl:Addr)(Q:VK),Inv X QLz σ H s->RelV x v->s.heap.IsSliceOf sl vl vu .none->IsPart vl lo->IsPart vu hi->r x lo hi H Q->
  ∃T id,typeLookup (.type T) "__getitem__"=pure (some (.builtin id))/\s.TypeIs v T/\wpAny (model X.prog X.w) X.A (getItem v (.ref sl)) (EP X QLz σ Q) X.xe s
theorem Rf.or{r r':V->Option Int->Option Int->Hp->VK->Prop}(h:Rf X r)(h':Rf X r'):Rf X (fun x lo hi H Q=>r x lo hi H Q\/r' x lo hi H Q):=by
 intro QLz s σ H x v vl vu lo hi sl Q I rx hs pl pu q
 rcases q with q|q
 ·exact h QLz s σ H x v vl vu lo hi sl Q I rx hs pl pu q
 ·exact h' QLz s σ H x v vl vu lo hi sl Q I rx hs pl pu q
def tSl(r:V->Option Int->Option Int->Hp->VK->Prop)(te:TE)(tl th:TO):TE:=fun σ H Q=>te σ H fun x H1=>tl σ H1 fun l H2=>th σ H2 fun u H3=>r x l u H3 Q
theorem Jl{r:V->Option Int->Option Int->Hp->VK->Prop}(hr:Rf X r)(he:PE X e te)(hl:PO X lo tl)(hu:PO X hi th):PE X (.Subscript e (.Slice lo hi none p2) pos) (tSl r te tl th):=by
 intro QLz s σ H Q I h
 refine Subscript_ (bW (he QLz s σ H _ I h) fun v s1⟨x,H1,I1,r1,q1⟩=>?_)
 refine wpAny_Slice (bW (hl QLz s1 σ H1 _ I1 q1) fun vl s2⟨l,H2,I2,pl,q2⟩=>bW (hu QLz s2 σ H2 _ I2 q2) fun vu s3⟨u,H3,I3,pu,q3⟩=>?_)
 rw[evalPart_none]
 refine QKz ?_
 have I4:Inv X QLz σ H3 {s3 with heap:=s3.heap.push {cls:=.type "slice",data:=.fields #[vl,vu,.none]}}:=I3.kept (t':=s3.toks) fun b ob q=>QWq _ q
 obtain⟨T,id,hT,ht,hg⟩:=hr QLz {s3 with heap:=s3.heap.push {cls:=.type "slice",data:=.fields #[vl,vu,.none]}} σ H3 x v vl vu l u s3.heap.objs.size Q I4 r1 (Heap.IsSliceOf.new ..) pl pu q3
 show wpAny (model X.prog X.w) X.A (subscriptTail e (.Slice lo hi none p2) v (.ref s3.heap.objs.size)) (EP X QLz σ Q) X.xe {s3 with heap:=s3.heap.push {cls:=.type "slice",data:=.fields #[vl,vu,.none]}}
 exact tail_any (ops:=[.ref s3.heap.objs.size,v]) ht hT hg (by with_unfolding_all rfl)
def q9(xs:List V)(lo hi:Option Int):List V:=(xs.drop (HT.cY xs.length 0 lo)).take (HT.cY xs.length xs.length hi-HT.cY xs.length 0 lo)
theorem oZ(xs:List V)(lo hi:Option Int):(q9 xs lo hi).length<=xs.length:=by
 unfold q9
 rw[List.length_take,List.length_drop]
 omega
def aax(K:QQq):V->Option Int->Option Int->Hp->VK->Prop:=fun x lo hi H Q=>∃a xs,x=.ref a/\gO K H a xs/\
 ¬(HT.cY xs.length 0 lo=0/\HT.cY xs.length xs.length hi=xs.length)/\∀p,H p=none->Q (.ref p) (upd H p (.tup (q9 xs lo hi)))
theorem U5:Rf X (aax X.K):=by
 intro QLz s σ H x v vl vu lo hi sl Q I rx hs pl pu h
 obtain⟨a,xs,rfl,hx,hw,q⟩:=h
 cases rx
 obtain⟨its,r,ht,hz⟩:=I.tuple hx
 have hlen:its.toArray.size=xs.length:=by rw[Qyq];exact r.length.symm
 refine⟨"tuple",_,PyProof.Rows.slot_tuple_getitem.lookup,ht.typeIs,?_⟩
 refine HT.mJ ht hs pl pu (by rw[hlen];exact hw) ?_ (by rw[hlen];exact hz)
 rw[hlen]
 refine⟨.ref s.heap.objs.size,_,I.laid (t':=s.toks) (o:=.tup (q9 xs lo hi)) (fun b ob q=>QWq _ q) (QVz _) ?_,rfl,q _ (I.hok.fresh (QVz _))⟩
 exact⟨Nat.le_trans (oZ xs lo hi) hz,_,(r.drop (HT.cY xs.length 0 lo)).take (HT.cY xs.length xs.length hi-HT.cY xs.length 0 lo),TupOk.new _ _⟩
def aaF(K:QQq):R2:=fun x y H Q=>∃a b xs ys,x=.ref a/\y=.ref b/\gO K H a xs/\gO K H b ys/\xs≠[]/\xs.length+ys.length<=sizeLine/\
 (ys=[]->Q (.ref a) H)/\(ys≠[]->∀p,H p=none->Q (.ref p) (upd H p (.tup (xs++ys))))
theorem Vals.bC{xs:List V}{us:List Value}(r:Vals xs us):us=[]↔xs=[]:=by
 cases r with
 |nil=>simp
 |cons _ _=>simp
theorem PL:fH X (binaryOp .Add) (aaF X.K):=by
 intro QLz s σ H x y v u Q I rx ry h
 obtain⟨a,b,xs,ys,rfl,rfl,ha,hb,hx,hz,q1,q2⟩:=h
 cases rx
 cases ry
 obtain⟨its,r1,p1,_⟩:=I.tuple ha
 obtain⟨its2,r2,p2,_⟩:=I.tuple hb
 refine HT.QT p1 p2 (fun z=>hx (r1.bC.mp z)) (fun z=>⟨.ref a,H,I,rfl,q1 (r2.bC.mp z)⟩) (fun z=>?_) (by rw[<-r1.length,<-r2.length];exact hz)
 refine⟨.ref s.heap.objs.size,_,I.laid (t':=s.toks) (o:=.tup (xs++ys)) (fun b ob q=>QWq _ q) (QVz _) ?_,rfl,q2 (fun w=>z (r2.bC.mpr w)) _ (I.hok.fresh (QVz _))⟩
 exact⟨by rw[QTq];exact hz,_,r1.append r2,TupOk.new _ _⟩
end
def Qo(n:Nat)(i:Int):Option Nat:=if 0<=i then(if i<n then some i.toNat else none)else if-(n:Int)<=i then some (i+n).toNat else none
def XD{α:Type}(xs:List α)(i:Int):Option α:=(Qo xs.length i).bind fun j=>xs[j]?
theorem Dh{n:Nat}{i:Int}{j:Nat}(h:Qo n i=some j):seqIndex? i n=some j/\j<n/\ -(n:Int)<=i/\i<n:=by
 unfold Qo at h
 by_cases h0:0<=i
 ·rw[if_pos h0]at h
  by_cases h1:i<n
  ·rw[if_pos h1]at h
   have e:i.toNat=j:=QEq h
   exact⟨by rw[seqIndex_of h0 h1,e],by omega,by omega,h1⟩
  ·rw[if_neg h1]at h;cases h
 ·rw[if_neg h0]at h
  by_cases h1: -(n:Int)<=i
  ·rw[if_pos h1]at h
   have e:(i+n).toNat=j:=QEq h
   exact⟨by rw[seqIndex_neg (by omega) h1,e],by omega,h1,by omega⟩
  ·rw[if_neg h1]at h;cases h
theorem ww{α:Type}{xs:List α}{i:Int}{v:α}(h:XD xs i=some v):∃j,seqIndex? i xs.length=some j/\xs[j]? =some v/\j<xs.length/\ -(xs.length:Int)<=i/\i<xs.length:=by
 unfold XD at h
 cases e:Qo xs.length i with
 |none=>rw[e]at h;cases h
 |some j=>
  rw[e]at h
  obtain⟨h1,h2,h3,h4⟩:=Dh e
  exact⟨j,h1,h,h2,h3,h4⟩
def wy(b:Expr):Prop:=∀o i,subscripted b false o i=operate [o,i] (getItem o i)
def Hd(X:Cx)(r:R2):Prop:=
 ∀(value slice:Expr)(QLz:QQz)(s:Shared)(σ:St)(H:Hp)(x y:V)(v u:Value)(Q:VK),Inv X QLz σ H s->RelV x v->RelV y u->r x y H Q->
  subscripted slice false v u=operate [v,u] (getItem v u)->wpAny (model X.prog X.w) X.A (subscriptTail value slice v u) (EP X QLz σ Q) X.xe s
def MtR(X:Cx)(id:String)(r:V->List V->Hp->VK->Prop):Prop:=
 ∀(QLz:QQz)(s:Shared)(σ:St)(H:Hp)(x:V)(xs:List V)(v:Value)(us:List Value)(Q:VK),Inv X QLz σ H s->RelV x v->Vals xs us->r x xs H Q->
  wpAny (model X.prog X.w) X.A (call (.builtin id) (v::us)) (EP X QLz σ Q) X.xe s
variable{H:Hp}{QLz:QQz}{its:List Value}{s:Shared}{u:Value}{x y:V}{σ:St}
section
variable{X:Cx}{a b:Expr}{ta tb:TE}{pos:Pos}
theorem Hd.or{r r':R2}(h:Hd X r)(h':Hd X r'):Hd X (fun x y H Q=>r x y H Q\/r' x y H Q):=by
 intro value slice QLz s σ H x y v u Q I rx ry q hs
 rcases q with q|q
 ·exact h value slice QLz s σ H x y v u Q I rx ry q hs
 ·exact h' value slice QLz s σ H x y v u Q I rx ry q hs
theorem Sg{r:R2}(hr:Hd X r)(ha:PE X a ta)(hb:PE X b tb)(hs:wy b):PE X (.Subscript a b pos) (Yl r ta tb):=by
 intro QLz s σ H Q I h
 exact Subscript_ (XC ha hb I h fun v u s2 x y H2 I2 rx ry q=>hr a b QLz s2 σ H2 x y v u Q I2 rx ry q (hs _ _))
def Vj(K:QQq):R2:=fun x y H Q=>∃p xs i v,x=.ref p/\y=.int i/\iY K H p xs/\XD xs i=some v/\Q v H
def Vi(K:QQq):R2:=fun x y H Q=>∃p xs i v,x=.ref p/\y=.int i/\gO K H p xs/\XD xs i=some v/\Q v H
def IV:R2:=fun x y H Q=>∃z i c,x=.str z/\y=.int i/\z.length<=sizeLine/\XD z.cps.toList i=some c/\Q (.str ⟨#[c]⟩) H
theorem Dg:Hd X (Vj X.K):=by
 intro value slice QLz s σ H x y v u Q I rx ry h hs
 obtain⟨p,xs,i,z,rfl,rfl,hq,he,q⟩:=h
 cases rx
 obtain⟨t,rfl⟩:=ry
 obtain⟨its,r,pl,hz⟩:=I.list hq
 obtain⟨j,h1,h2,h3,h4,h5⟩:=ww he
 obtain⟨w,ew,rw'⟩:=r.get h2
 have hl:=r.length
 have hn:=nM
 have fin:EP X QLz σ Q w s:=⟨z,H,I,rw',q⟩
 by_cases h0:0<=i
 ·have hj:i.toNat=j:=by
   rw[seqIndex_of h0 h5]at h1
   exact QEq h1
  exact item_listR pl.isList h0 (by omega) (by rw[hj];simpa using ew) fin hs
 ·have hj:(i+(its.toArray.size:Int)).toNat=j:=by
   rw[seqIndex_neg (by omega) h4]at h1
   rw[Qyq,<-hl]
   exact QEq h1
  exact subscriptTail_builtinR (x:=w) pl.isList.typeIs slot_list_getitem.lookup
   (wpAny_getItem_list_neg (Q:=fun r s'=>r=w/\EP X QLz σ Q r s') pl.isList (by omega) (by rw[Qyq]<;>omega) (by omega) (by rw[hj];simpa using ew) ⟨rfl,fin⟩) hs
theorem J4:Hd X (Vi X.K):=by
 intro value slice QLz s σ H x y v u Q I rx ry h hs
 obtain⟨p,xs,i,z,rfl,rfl,hq,he,q⟩:=h
 cases rx
 obtain⟨t,rfl⟩:=ry
 obtain⟨its,r,pl,hz⟩:=I.tuple hq
 obtain⟨j,h1,h2,h3,h4,h5⟩:=ww he
 obtain⟨w,ew,rw'⟩:=r.get h2
 have hl:=r.length
 have hn:=nM
 have fin:EP X QLz σ Q w s:=⟨z,H,I,rw',q⟩
 exact subscriptTail_builtinR (x:=w) pl.typeIs slot_tuple_getitem.lookup
  (getItem_tuple (j:=j) (Q:=fun r s'=>r=w/\EP X QLz σ Q r s') pl (by omega) (by omega) (by rw[Qyq,<-hl];exact h1) (by simpa using ew) ⟨rfl,fin⟩) hs
theorem Wu:Hd X IV:=by
 intro value slice QLz s σ H x y v u Q I rx ry h hs
 obtain⟨z,i,c,rfl,rfl,hz,he,q⟩:=h
 obtain⟨t,rfl⟩:=rx
 obtain⟨t',rfl⟩:=ry
 obtain⟨j,h1,h2,h3,h4,h5⟩:=ww he
 have hl:z.cps.toList.length=z.length:=by simp[Str.length]
 rw[hl]at h1 h4 h5
 have hn:=nM
 exact tail_any (typeIs_str s z t) slot_str_getitem.lookup (getItem_str (c:=c) (by
  have e1:decide (i< -(2 ^63:Int))=false:=QEz (by omega)
  have e2:decide (i>=2 ^63)=false:=QEz (by omega)
  rw[e1,e2,Bool.or_false]) (by rw[h1];simpa using h2) ⟨.str ⟨#[c]⟩,H,I.tok _,⟨_,rfl⟩,q⟩) hs
def rIx(K:QQq):R2:=fun x y H Q=>Vj K x y H Q\/Vi K x y H Q\/IV x y H Q
theorem J5:Hd X (rIx X.K):=Dg.or (J4.or Wu)
theorem zW(its:List Value)(n j:Nat)(u:Value):Obj.mapSeq (·.setIfInBounds j u) {cls:=.type "list",data:=.seq its.toArray n}={cls:=.type "list",data:=.seq (its.set j u).toArray n}:=by
 simp[Obj.mapSeq]
theorem Inv.lst{QLz:QQz}{σ:St}{H:Hp}{s:Shared}{p:Addr}{xs:List V}(I:Inv X QLz σ H s)(h:H p=some (.lst xs)):
  ∃(its:List Value)(n:Nat),Vals xs its/\s.heap.get? p=some {cls:=.type "list",data:=.seq its.toArray n}/\xs.length<=sizeLine:=by
 obtain⟨z,its,n,r,e⟩:=I.hok p _ h
 exact⟨its,n,r,e,z⟩
theorem Inv.V7{p:Addr}{xs ys:List V}{its':List Value}{n n':Nat}{f:Obj->Obj}(I:Inv X QLz σ H s)(h:H p=some (.lst xs))
  (ho:s.heap.get? p=some {cls:=.type "list",data:=.seq its.toArray n})(hf:f {cls:=.type "list",data:=.seq its.toArray n}={cls:=.type "list",data:=.seq its'.toArray n'})(r:Vals ys its')(hz:ys.length<=sizeLine)(t:Nat):
  Inv X QLz σ (upd H p (.lst ys)) {s with heap:=s.heap.update p f,toks:=t}:=by
 have e:(s.heap.update p f).get? p=some {cls:=.type "list",data:=.seq its'.toArray n'}:=by
  rw[Heap.get?_update_self f ho (by rw[hf]<;>rfl),hf]
 refine I.write (x:=p) (e:=p) (by rw[h];trivial) (.inl rfl) (fun b u hb q=>(Heap.get?_update_other _ _ (Ne.symm hb)).trans q) ⟨_,e⟩ ?_
 exact⟨hz,its',n',r,e⟩
def RZ:V->V->V->Hp->(Hp->Prop)->Prop:=fun o i v H Q=>∃p xs k j,o=.ref p/\i=.int k/\H p=some (.lst xs)/\Qo xs.length k=some j/\Q (upd H p (.lst (xs.set j v)))
theorem set_list:Mx X RZ:=by
 intro QLz s σ H o i v ov iv u Q I ro ri rv h
 obtain⟨p,xs,k,j,rfl,rfl,hp,hj,q⟩:=h
 cases ro
 obtain⟨t,rfl⟩:=ri
 obtain⟨its,n,r,ho,hz⟩:=I.lst hp
 obtain⟨h1,h2,h3,h4⟩:=Dh hj
 have hl:=r.length
 have hn:=nM
 have I':Inv X QLz σ (upd H p (.lst (xs.set j v))) {s with heap:=s.heap.update p (Obj.mapSeq (·.setIfInBounds j u))}:=
  I.V7 hp ho (zW its n j u) (r.set rv j) (by rw[List.length_set];exact hz) s.toks
 by_cases h0:0<=k
 ·have hk:k.toNat=j:=by
   rw[seqIndex_of h0 h4]at h1
   exact QEq h1
  exact PySem.W.ki_setAt ho h0 (by omega) (by rw[Qyq,<-hl];exact h4) (by rw[hk];exact⟨_,I',q⟩)
 ·have hk:(k+(its.toArray.size:Int)).toNat=j:=by
   rw[seqIndex_neg (by omega) h3]at h1
   rw[Qyq,<-hl]
   exact QEq h1
  exact PySem.W.ki_setBack ho (by omega) (by rw[Qyq,<-hl];exact h3) (by omega) (by rw[hk];exact⟨_,I',q⟩)
theorem u6(lo hi:Option Int)(n:Nat):(sliceBounds lo hi none n).1=((HT.cY n 0 lo:Nat):Int)/\(sliceBounds lo hi none n).2.1=((HT.cY n n hi:Nat):Int)/\(sliceBounds lo hi none n).2.2=1:=by
 refine⟨?_,?_,rfl⟩
 ·cases lo with
  |none=>simp[sliceBounds,HT.cY]
  |some i=>
   simp only[sliceBounds,HT.cY,Option.getD_none,show(1:Int)>0 by decide,if_true]
   by_cases h:i<0
   ·simp only[h,if_true]<;>omega
   ·simp only[h,if_false]<;>omega
 ·cases hi with
  |none=>simp[sliceBounds,HT.cY]
  |some i=>
   simp only[sliceBounds,HT.cY,Option.getD_none,show(1:Int)>0 by decide,if_true]
   by_cases h:i<0
   ·simp only[h,if_true]<;>omega
   ·simp only[h,if_false]<;>omega
theorem rQ(its:List Value)(lo hi:Option Int):slicePick its.toArray lo hi none=((its.drop (HT.cY its.length 0 lo)).take (HT.cY its.length its.length hi-HT.cY its.length 0 lo)).toArray:=by
 obtain⟨h1,h2,h3⟩:=u6 lo hi its.toArray.size
 unfold slicePick
 rw[h1,h2,h3]
 simp only[sliceRange_one,pick_run,Qyq]<;>rfl
def aay(K:QQq):V->Option Int->Option Int->Hp->VK->Prop:=fun x lo hi H Q=>∃a xs,x=.ref a/\iY K H a xs/\∀p,H p=none->Q (.ref p) (upd H p (.lst (q9 xs lo hi)))
theorem NT:Rf X (aay X.K):=by
 intro QLz s σ H x v vl vu lo hi sl Q I rx hs pl pu h
 obtain⟨a,xs,rfl,hx,q⟩:=h
 cases rx
 obtain⟨its,r,ht,hz⟩:=I.list hx
 have hlen:=r.length
 refine⟨"list",_,slot_list_getitem.lookup,ht.isList.typeIs,?_⟩
 refine wpAny_getItem_list_slice ht.isList hs pl pu .none (by simp) ?_ (by rw[Qyq]<;>omega)
 rw[rQ,<-hlen]
 refine⟨.ref s.heap.objs.size,_,I.laid (t':=s.toks) (o:=.lst (q9 xs lo hi)) (fun b ob q=>QWq _ q) (QVz _) ?_,rfl,q _ (I.hok.fresh (QVz _))⟩
 exact⟨Nat.le_trans (oZ xs lo hi) hz,_,0,(r.drop (HT.cY xs.length 0 lo)).take (HT.cY xs.length xs.length hi-HT.cY xs.length 0 lo),Qzq _ rfl⟩
def gq:V->Bool
 |.non=>true
 |.bl _=>true
 |.int _=>true
 |.str _=>true
 |_=>false
def K6:V->V->Bool
 |.non,.non=>true
 |.bl a,.bl b=>a==b
 |.bl a,.int b=>(if a then 1 else 0)==b
 |.int a,.bl b=>a==(if b then 1 else 0)
 |.int a,.int b=>a==b
 |.str a,.str b=>a==b
 |_,_=>false
theorem Xo{A:Around}{v:Value}(ry:RelV y u)(rx:RelV x v)(fy:gq y=true)(fx:gq x=true):SeqAt.EqAt A s u v (K6 y x):=by
 cases y with
 |non=>
  cases ry
  cases x with
  |non=>cases rx;exact SeqAt.EqAt.same _
  |bl b=>cases rx;exact SeqAt.EqAt.none_bool b
  |int b=>obtain⟨t,rfl⟩:=rx;exact SeqAt.EqAt.none_int b t
  |str b=>obtain⟨t,rfl⟩:=rx;exact SeqAt.EqAt.none_str b t
  |_=>exact absurd (show false=true from fx) Qjz
 |bl a=>
  cases ry
  cases x with
  |non=>cases rx;exact SeqAt.EqAt.bool_none a
  |bl b=>cases rx;exact SeqAt.EqAt.bool_bool a b
  |int b=>obtain⟨t,rfl⟩:=rx;exact SeqAt.EqAt.bool_int a b t
  |str b=>obtain⟨t,rfl⟩:=rx;exact SeqAt.EqAt.bool_str a b t
  |_=>exact absurd (show false=true from fx) Qjz
 |int a=>
  obtain⟨t',rfl⟩:=ry
  cases x with
  |non=>cases rx;exact SeqAt.EqAt.int_none a t'
  |bl b=>cases rx;exact SeqAt.EqAt.int_bool a t' b
  |int b=>obtain⟨t,rfl⟩:=rx;exact SeqAt.EqAt.int_int a t' b t
  |str b=>obtain⟨t,rfl⟩:=rx;exact SeqAt.EqAt.int_str a t' b t
  |_=>exact absurd (show false=true from fx) Qjz
 |str a=>
  obtain⟨t',rfl⟩:=ry
  cases x with
  |non=>cases rx;exact SeqAt.EqAt.str_none a t'
  |bl b=>cases rx;exact SeqAt.EqAt.str_bool a t' b
  |int b=>obtain⟨t,rfl⟩:=rx;exact SeqAt.EqAt.str_int a t' b t
  |str b=>obtain⟨t,rfl⟩:=rx;exact SeqAt.EqAt.str_str a t' b t
  |_=>exact absurd (show false=true from fx) Qjz
 |_=>exact absurd (show false=true from fy) Qjz
def wC(x:V)(u:Value):Bool:=match u with
 |.none=>K6 .non x
 |.bool b=>K6 (.bl b) x
 |.int i _=>K6 (.int i) x
 |.str z _=>K6 (.str z) x
 |_=>false
theorem Ak(r:RelV y u)(f:gq y=true):wC x u=K6 y x:=by
 cases y with
 |non=>cases r;rfl
 |bl b=>cases r;rfl
 |int i=>obtain⟨t,rfl⟩:=r;rfl
 |str z=>obtain⟨t,rfl⟩:=r;rfl
 |_=>exact absurd (show false=true from f) Qjz
theorem mW{x:V}:∀{xs:List V}{us:List Value},Vals xs us->xs.all gq=true->us.any (wC x)=xs.any fun y=>K6 y x
 |_,_,.nil=>fun _=>rfl
 |y::xs,u::us,.cons r t=>fun f=>by
  rw[List.all_cons,QUq]at f
  rw[List.any_cons,List.any_cons,Ak r f.1,mW t f.2]
theorem fX{A:Around}{s:Shared}{x:V}{v:Value}(rx:RelV x v)(fx:gq x=true):∀{xs:List V}{us:List Value},Vals xs us->xs.all gq=true->∀u∈us,SeqAt.EqAt A s u v (wC x u)
 |_,_,.nil=>fun _=>fun u hu=>by cases hu
 |y::xs,u::us,.cons r t=>fun f=>fun u' hu=>by
  rw[List.all_cons,QUq]at f
  rcases QCq.mp hu with rfl|hu
  ·rw[Ak r f.1];exact Xo r rx f.1 fx
  ·exact fX rx fx t f.2 u' hu
def inV(x:V)(xs:List V):Bool:=xs.any fun y=>K6 y x
def rIn(K:QQq)(neg:Bool):R2:=fun x y H Q=>∃p xs,y=.ref p/\(iY K H p xs\/gO K H p xs)/\gq x=true/\xs.all gq=true/\Q (.bl (if neg then !inV x xs else inV x xs)) H
theorem Gb:fH X (compareOp .In) (rIn X.K false):=by
 intro QLz s σ H x y v u Q I rx ry h
 obtain⟨p,xs,rfl,hq,fx,fs,q⟩:=h
 cases ry
 rcases hq with hq|hq
 ·obtain⟨its,r,pl,hz⟩:=I.list hq
  refine SeqAt.in_listAt (wC x) pl.isList (fun w hw=>fX rx fx r fs w (by simpa using hw)) ⟨.bl _,H,I,rfl,?_⟩
  rw[show its.toArray.any (wC x)=its.any (wC x) by simp,mW r fs]
  exact q
 ·obtain⟨its,r,pl,hz⟩:=I.tuple hq
  refine SeqAt.in_tupleAt (wC x) pl (fun w hw=>fX rx fx r fs w (by simpa using hw)) ⟨.bl _,H,I,rfl,?_⟩
  rw[show its.toArray.any (wC x)=its.any (wC x) by simp,mW r fs]
  exact q
theorem vy:fH X (compareOp .NotIn) (rIn X.K true):=by
 intro QLz s σ H x y v u Q I rx ry h
 obtain⟨p,xs,rfl,hq,fx,fs,q⟩:=h
 cases ry
 rcases hq with hq|hq
 ·obtain⟨its,r,pl,hz⟩:=I.list hq
  refine SeqAt.notIn_listAt (wC x) pl.isList (fun w hw=>fX rx fx r fs w (by simpa using hw)) ⟨.bl _,H,I,rfl,?_⟩
  rw[show its.toArray.any (wC x)=its.any (wC x) by simp,mW r fs]
  exact q
 ·obtain⟨its,r,pl,hz⟩:=I.tuple hq
  refine SeqAt.notIn_tupleAt (wC x) pl (fun w hw=>fX rx fx r fs w (by simpa using hw)) ⟨.bl _,H,I,rfl,?_⟩
  rw[show its.toArray.any (wC x)=its.any (wC x) by simp,mW r fs]
  exact q
theorem v9:fJ X (.type "list") (fun xs H Q=>∃p ys,xs=[.ref p]/\(iY X.K H p ys\/gO X.K H p ys)/\∀l,H l=none->Q (.ref l) (upd H l (.lst ys))):=by
 intro QLz s σ H xs us Q I r h
 obtain⟨p,ys,rfl,hq,q⟩:=h
 obtain⟨u,rfl,rx⟩:=vals1 r
 cases rx
 have fin:∀(its:List Value),Vals ys its->ys.length<=sizeLine->∀(h':Heap)(c':Nat),(∀b o',s.heap.get? b=some o'->h'.get? b=some o')->
   h'.get? s.heap.objs.size=some {cls:=.type "list",dict:=none,data:=.seq its.toArray c',slots:= #[]}->EP X QLz σ Q (.ref s.heap.objs.size) {s with heap:=h'}:=fun its r' hz h' c' kp e=>
  ⟨.ref s.heap.objs.size,_,I.laid (t':=s.toks) kp (QVz _) (show bN X.prog X.w _ h' _ (.lst ys)from⟨hz,its,c',r',e⟩),rfl,q _ (I.hok.fresh (QVz _))⟩
 rcases hq with hq|hq
 ·obtain⟨its,r',pl,hz⟩:=I.list hq
  have hlen:=r'.length
  obtain⟨o,ho,hc,n,hd⟩:=pl.isList
  exact call_list_seq p (.inl rfl) ho hc hd (fun h' c' kp e=>fin its r' hz h' c' kp e) (by simp only[Qyq]<;>omega)
 ·obtain⟨its,r',pl,hz⟩:=I.tuple hq
  have hlen:=r'.length
  obtain⟨o,ho,hc,n,hd⟩:=pl
  exact call_list_seq p (.inr rfl) ho hc hd (fun h' c' kp e=>fin its r' hz h' c' kp e) (by simp only[Qyq]<;>omega)
theorem sE:fJ X (.type "tuple") (fun xs H Q=>∃p ys,xs=[.ref p]/\((iY X.K H p ys/\∀l,H l=none->Q (.ref l) (upd H l (.tup ys)))\/(gO X.K H p ys/\Q (.ref p) H))):=by
 intro QLz s σ H xs us Q I r h
 obtain⟨p,ys,rfl,h⟩:=h
 obtain⟨u,rfl,rx⟩:=vals1 r
 cases rx
 rcases h with ⟨hq,q⟩|⟨hq,q⟩
 ·obtain⟨its,r',pl,hz⟩:=I.list hq
  have hlen:=r'.length
  refine call_tuple_list pl.isList (fun h' kp=>?_) (by simp only[Qyq]<;>omega)
  have I1:Inv X QLz σ H {s with heap:=h'}:=I.kept (t':=s.toks) kp
  have I2:Inv X QLz σ (upd H h'.objs.size (.tup ys)) {s with heap:=h'.push {cls:=.type "tuple",data:=.seq its.toArray}}:=
   I1.laid (t':=s.toks) (fun b o e=>QWq _ e) (QVz _) (show bN X.prog X.w _ _ _ (.tup ys)from⟨hz,its,r',TupOk.new _ _⟩)
  exact⟨.ref h'.objs.size,_,I2,rfl,q _ (I1.hok.fresh (QVz _))⟩
 ·obtain⟨its,r',pl,hz⟩:=I.tuple hq
  exact call_tuple_same pl ⟨.ref p,H,I,rfl,q⟩
def tyV(K:QQq)(T:String)(x:V)(H:Hp):Prop:=match x with
 |.str _=>T="str"
 |.int _=>T="int"
 |.ref p=>(T="list"/\∃xs,iY K H p xs)\/(T="tuple"/\∃o,K.lookup p=some o/\o.cls=.type "tuple"/\o.dict=none)\/
   (T="dict"/\((∃kvs,H p=some (.dK kvs))\/∃kvs,H p=some (.dT kvs)))\/(T="set"/\∃S n,H p=some (.set S n))
 |_=>False
theorem Uo{T:String}{v:Value}(I:Inv X QLz σ H s)(r:RelV x v)(ty:tyV X.K T x H):
  s.TypeIs v T/\∀a,v=.ref a->∃ob,s.heap.get? a=some ob/\ob.dict=none:=by
 cases x with
 |str z=>
  obtain⟨t,rfl⟩:=r
  cases (show T="str" from ty)
  exact⟨typeIs_str s z t,fun _ e=>nomatch e⟩
 |int i=>
  obtain⟨t,rfl⟩:=r
  cases (show T="int" from ty)
  exact⟨typeIs_int s i t,fun _ e=>nomatch e⟩
 |ref p=>
  cases r
  rcases ty with ⟨rfl,xs,hq⟩|⟨rfl,o,hk,hc,hd⟩|⟨rfl,hk⟩|⟨rfl,S,n,hk⟩
  ·obtain⟨its,_,pl,_⟩:=I.list hq
   refine⟨pl.isList.typeIs,fun a e=>?_⟩
   cases e
   obtain⟨o,n,e,c,hd,_⟩:=pl
   exact⟨o,e,hd⟩
  ·refine⟨⟨o,I.YC p o hk,hc⟩,fun a e=>?_⟩
   cases e
   exact⟨o,I.YC _ o hk,hd⟩
  ·have z:∃o,s.heap.get? p=some o/\o.ExactDict:=by
    rcases hk with ⟨kvs,hk⟩|⟨kvs,hk⟩
    ·obtain⟨_,_,_,_,o,_,_,e,ex,_⟩:=I.hok p _ hk
     exact⟨o,e,ex⟩
    ·obtain⟨_,_,_,_,o,_,_,e,ex,_⟩:=I.hok p _ hk
     exact⟨o,e,ex⟩
   obtain⟨o,e,ex⟩:=z
   refine⟨⟨o,e,ex.1⟩,fun a e2=>?_⟩
   cases e2
   exact⟨o,e,ex.2.1⟩
  ·obtain⟨o,_,_,_,e,ex,_⟩:=I.hok p _ hk
   refine⟨⟨o,e,ex.1⟩,fun a e2=>?_⟩
   cases e2
   exact⟨o,e,ex.2.1⟩
 |_=>exact False.elim ty
def tBM(K:QQq)(T:String)(r:V->List V->Hp->VK->Prop)(to:TE)(t:TA):TE:=fun σ H Q=>to σ H fun x H1=>tyV K T x H1/\t σ H1 fun xs H2=>r x xs H2 Q
variable{o e:Expr}{es:List Expr}{to:TE}{t:TA}{name:Str}{apos cpos:Pos}{T id:String}{r:V->List V->Hp->VK->Prop}
theorem aaM(pa:PlainAttrs T)(slot:Slot T name id)(hty:typeOf (.builtin id)=pure (.type "method_descriptor"))(hm:MtR X id r)(ho:PE X o to)(ha:PA X (e::es) t)
  (hbase:attributeBase o name X.env (eval o X.env)=eval o X.env:=by rfl)
  (hfew:((backTo cpos (starEach (e::es) X.env)).all (fun x=> !x.1)&&(backToKw cpos (keywordEach [] X.env)).all (fun x=>x.1.isSome)
   &&decide ((e::es).length+([]:List Keyword).length+(if ([]:List Keyword).isEmpty then 0 else 1)<30))=true:=by rfl)
  (hline:(apos.endLine==cpos.line)=true:=by rfl)(hs:starEach (e::es) X.env=(false,eval e X.env)::starEach es X.env:=by rfl)(hplain:(backTo cpos (starEach es X.env)).any (·.1)=false:=by rfl):
  PE X (.Call (.Attribute o name apos) (e::es) [] cpos) (tBM X.K T r to t):=by
 intro QLz s σ H Q I h
 refine wpAny_Call_method_late hbase hfew hline rfl (bW (ho QLz s σ H _ I h) fun v s1⟨x,H1,I1,r1,ty,q1⟩=>?_)
 obtain⟨h1,h2⟩:=Uo I1 r1 ty
 refine⟨T,id,pa,slot,hty,h1,h2,?_⟩
 have hA:=ha cpos QLz s1 σ H1 _ I1 q1
 rw[hs]at hA⊢
 refine Calls.callWith_builtin (by show(false||(backTo cpos (starEach es X.env)).any (·.1))=false;rw[hplain]<;>rfl) (Calls.evalArgs_plain ?_)
 exact bW hA fun us s2⟨vs,H2,I2,r2,q2⟩=>hm QLz s2 σ H2 x vs v us Q I2 r1 r2 q2
end
def MtM(X:Cx)(id:String)(r:V->List V->Hp->VK->Prop):Prop:=
 ∀(QLz:QQz)(s:Shared)(σ:St)(H:Hp)(x:V)(xs:List V)(v:Value)(us:List Value)(Q:VK),Inv X QLz σ H s->RelV x v->Vals xs us->r x xs H Q->
  wpAny (model X.prog X.w) X.A (call (.builtin id) (v::us)) (EP X QLz σ Q) X.xe s
theorem Vals.one:∀{x:V}{us:List Value},Vals [x] us->∃u,us=[u]/\RelV x u
 |_,_,.cons r .nil=>⟨_,rfl,r⟩
theorem Vals.two:∀{x y:V}{us:List Value},Vals [x,y] us->∃u v,us=[u,v]/\RelV x u/\RelV y v
 |_,_,_,.cons r (.cons q .nil)=>⟨_,_,rfl,r,q⟩
theorem Vals.zero:∀{us:List Value},Vals [] us->us=[]
 |_,.nil=>rfl
theorem Vals.eraseIdx:∀{xs:List V}{us:List Value}(i:Nat),Vals xs us->Vals (xs.eraseIdx i) (us.eraseIdx i)
 |_,_,_,.nil=>.nil
 |_,_,0,.cons _ t=>t
 |_,_,i+1,.cons r t=>.cons r (Vals.eraseIdx i t)
theorem uo{α:Type}:∀(l:List α)(i:Nat),(l.eraseIdx i).length<=l.length
 |[],_=>QVz _
 |_::_,0=>Nat.le_succ _
 |_::r,i+1=>Nat.succ_le_succ (uo r i)
variable{t':Nat}
section
variable{X:Cx}{QLz:QQz}{σ:St}{H:Hp}{s:Shared}{l b:Addr}{xs ys zs:List V}
theorem Inv.aa4{its':List Value}{n:Nat}{f:Array Value->Array Value}(I:Inv X QLz σ H s)(hH:H l=some (.lst xs))
  (e:s.heap.get? l=some {cls:=.type "list",data:=.seq its.toArray n})(hf:f its.toArray=its'.toArray)(hv:Vals ys its')(hz:ys.length<=sizeLine):
  Inv X QLz σ (upd H l (.lst ys)) {s with heap:=s.heap.update l (Obj.mapSeq f),toks:=t'}:=by
 have q:=PySem.IsL.update e f
 rw[hf]at q
 refine I.write (x:=l) (e:=l) (by rw[hH];exact trivial) (.inl rfl) (fun b' u hb hu=>(Heap.get?_update_other s.heap (Obj.mapSeq f) (Ne.symm hb)).trans hu) ⟨_,q⟩ ?_
 exact⟨hz,its',_,hv,q⟩
theorem Inv.ae7(I:Inv X QLz σ H s)(hv:Vals ys its)(hz:ys.length<=sizeLine):
  Inv X QLz σ (upd H s.heap.objs.size (.lst ys)) {s with heap:=s.heap.push {cls:=.type "list",data:=.seq its.toArray},toks:=t'}:=
 I.laid (fun _ _ q=>QWq _ q) (QVz _) ⟨hz,its,0,hv,Qzq _ rfl⟩
theorem Inv.fresh(I:Inv X QLz σ H s):H s.heap.objs.size=none:=I.hok.fresh (QVz _)
theorem Inv.aa3(I:Inv X QLz σ H s)(hH:H l=some (.lst xs)):xs.length<=sizeLine/\∃(its:List Value)(n:Nat),Vals xs its/\xs.length=its.length/\s.heap.get? l=some {cls:=.type "list",data:=.seq its.toArray n}:=by
 obtain⟨z,its,n,r,e⟩:=I.hok l _ hH
 exact⟨z,its,n,r,r.length,e⟩
end
section
variable{X:Cx}
def O2:V->List V->Hp->VK->Prop:=fun x vs H Q=>∃l xs y,x=.ref l/\vs=[y]/\H l=some (.lst xs)/\xs.length<sizeLine/\Q .non (upd H l (.lst (xs++[y])))
theorem ug:MtM X "list.append" O2:=by
 intro QLz s σ H x vs v us Q I rx rv h
 obtain⟨l,xs,y,rfl,rfl,hH,hz,q⟩:=h
 cases rx
 obtain⟨u,rfl,ru⟩:=rv.one
 obtain⟨z,its,n,r,hl,e⟩:=I.aa3 hH
 refine call_meets F.slot_list_append ⟨_,e,rfl⟩ F.entry_list_append (F.args_list_append_2 _ _) (PySem.list_append l its.toArray n u (by rw[Qyq];omega)) ⟨e,?_⟩
 refine⟨.non,_,I.aa4 (its':=its++[u]) hH e (by simp) (r.append (.cons ru .nil)) ?_,rfl,q⟩
 rw[QTq,List.length_singleton]
 omega
def Vg:V->List V->Hp->VK->Prop:=fun x vs H Q=>∃l xs i k y,x=.ref l/\vs=[.int i]/\H l=some (.lst xs)/\ -(2 ^63)<=i/\i<2 ^63/\seqIndex? i xs.length=some k/\xs[k]? =some y/\Q y (upd H l (.lst (xs.eraseIdx k)))
theorem JK:MtM X "list.pop" Vg:=by
 intro QLz s σ H x vs v us Q I rx rv h
 obtain⟨l,xs,i,k,y,rfl,rfl,hH,h1,h2,hk,hy,q⟩:=h
 cases rx
 obtain⟨u,rfl,ru⟩:=rv.one
 obtain⟨t,rfl⟩:=ru
 obtain⟨z,its,n,r,hl,e⟩:=I.aa3 hH
 obtain⟨w,hw,rw'⟩:=r.get hy
 refine call_meets F.slot_list_pop ⟨_,e,rfl⟩ F.entry_list_pop (F.args_list_pop_2 _ _)
  (MeetsSeq.list_pop_at l its.toArray n i t k w (fitsIndex_both h1 h2) (by rw[Qyq,<-hl];exact hk) (by rw[<-Array.getElem?_toList];exact hw) (by rw[Qyq];omega)) ⟨e,?_⟩
 refine⟨y,_,I.aa4 (its':=its.eraseIdx k) hH e ?_ (r.eraseIdx k) ?_,rw',q⟩
 ·show its.toArray.eraseIdxIfInBounds k=(its.eraseIdx k).toArray
  rw[List.eraseIdxIfInBounds_toArray]
 ·have:=uo xs k
  omega
end
section
variable{prog:Program}{w:World}{A:Around}{E:QZq}{s:Shared}
end
section
variable{X:Cx}
end
section
variable{κ:Type}[DecidableEq κ]
def fP(kvs:List (κ×V))(k:κ):Option V:=(kvs.find? fun kv=>decide (kv.1=k)).map (·.2)
def putK(kvs:List (κ×V))(k:κ)(v:V):List (κ×V):=
 if (kvs.any fun kv=>decide (kv.1=k))=true then kvs.map (fun kv=>if kv.1=k then(kv.1,v)else kv)else kvs++[(k,v)]
def gw(kvs:List (κ×V))(k:κ):List (κ×V):=kvs.filter fun kv=>decide (kv.1≠k)
theorem jo{p:κ×V}{r:List (κ×V)}{k:κ}(e:p.1=k):fP (p::r) k=some p.2:=by simp[fP,List.find?_cons,e]
theorem jq{p:κ×V}{r:List (κ×V)}{k:κ}(e:¬p.1=k):fP (p::r) k=fP r k:=by simp[fP,List.find?_cons,e]
theorem pM(k:κ):∀kvs:List (κ×V),(kvs.any fun kv=>decide (kv.1=k))=(fP kvs k).isSome
 |[]=>rfl
 |p::r=>by
  rw[List.any_cons]
  by_cases e:p.1=k
  ·simp only[jo e,QFq e,Bool.true_or,Option.isSome_some]
  ·rw[jq e,QEz e,Bool.false_or];exact pM k r
theorem jA(kvs:List (κ×V))(k:κ)(v:V):(putK kvs k v).length<=kvs.length+1:=by
 unfold putK
 split
 ·rw[QAq];omega
 ·rw[QTq,QBq,List.length_nil];omega
theorem lL.cU{o:Option V}{u:Option Value}(r:lL o u):o.isSome=u.isSome:=by
 cases o with
 |none=>cases u with
  |none=>rfl
  |some _=>exact(show False from r).elim
 |some _=>cases u with
  |none=>exact(show False from r).elim
  |some _=>rfl
theorem lL.getD{o:Option V}{u:Option Value}{d:V}{d':Value}(r:lL o u)(rd:RelV d d'):RelV (o.getD d) (u.getD d'):=by
 cases o with
 |none=>cases u with
  |none=>exact rd
  |some _=>exact(show False from r).elim
 |some _=>cases u with
  |none=>exact(show False from r).elim
  |some _=>exact r
theorem KV.val{kvs:List (κ×V)}{vs:List (κ×Value)}(r:KV kvs vs)(k:κ):lL (fP kvs k) (valueAt vs k):=by
 unfold KV at r
 induction r with
 |nil=>exact True.intro
 | @cons p q ps qs h t ih=>
  obtain⟨h1,h2⟩:=h
  by_cases e:p.1=k
  ·have e':q.1=k:=h1.symm.trans e
   have b:valueAt (q::qs) k=some q.2:=by simp[valueAt,List.find?_cons,e']
   rw[jo e,b];exact h2
  ·have e':¬q.1=k:=fun z=>e (h1.trans z)
   have b:valueAt (q::qs) k=valueAt qs k:=by simp[valueAt,List.find?_cons,e']
   rw[jq e,b];exact ih
theorem KV.any{kvs:List (κ×V)}{vs:List (κ×Value)}(r:KV kvs vs)(k:κ):(kvs.any fun kv=>decide (kv.1=k))=vs.any fun kv=>decide (kv.1=k):=by
 unfold KV at r
 induction r with
 |nil=>rfl
 |cons h t ih=>rw[List.any_cons,List.any_cons,ih,h.1]
theorem KV.repl{kvs:List (κ×V)}{vs:List (κ×Value)}(r:KV kvs vs)(k:κ)(ry:RelV y u):
  KV (kvs.map fun kv=>if kv.1=k then(kv.1,y)else kv) (vs.map fun kv=>if kv.1=k then(kv.1,u)else kv):=by
 unfold KV at r⊢
 induction r with
 |nil=>exact .nil
 | @cons p q ps qs h t ih=>
  rw[Qyz,Qyz]
  refine .cons ?_ ih
  obtain⟨h1,h2⟩:=h
  by_cases e:p.1=k
  ·rw[if_pos e,if_pos (h1.symm.trans e)];exact⟨h1,ry⟩
  ·rw[if_neg e,if_neg (fun z=>e (h1.trans z))];exact⟨h1,h2⟩
theorem KV.put{kvs:List (κ×V)}{vs:List (κ×Value)}(r:KV kvs vs)(k:κ)(ry:RelV y u):KV (putK kvs k y) (stored vs k u):=by
 unfold putK stored
 rw[r.any k]
 by_cases e:(vs.any fun kv=>decide (kv.1=k))=true
 ·rw[if_pos e,if_pos e];exact r.repl k ry
 ·rw[if_neg e,if_neg e];exact Paired.snoc r ⟨rfl,ry⟩
theorem KV.drop{kvs:List (κ×V)}{vs:List (κ×Value)}(r:KV kvs vs)(k:κ):KV (gw kvs k) (without vs k):=by
 unfold KV at r⊢
 unfold gw without
 induction r with
 |nil=>exact .nil
 | @cons p q ps qs h t ih=>
  obtain⟨h1,h2⟩:=h
  rw[List.filter_cons,List.filter_cons]
  by_cases e:p.1=k
  ·have a:¬decide (p.1≠k)=true:=by simp[e]
   have b:¬decide (q.1≠k)=true:=by simp[h1.symm.trans e]
   rw[if_neg a,if_neg b];exact ih
  ·have e':¬q.1=k:=fun z=>e (h1.trans z)
   have a:decide (p.1≠k)=true:=by simp[e]
   have b:decide (q.1≠k)=true:=by simp[e']
   rw[if_pos a,if_pos b];exact .cons ⟨h1,h2⟩ ih
theorem KV.length{kvs:List (κ×V)}{vs:List (κ×Value)}(r:KV kvs vs):kvs.length=vs.length:=Paired.length r
theorem yF(kvs:List (κ×V))(k:κ):(gw kvs k).length<=kvs.length:=List.length_filter_le _ _
end
variable{P:Program}
theorem mF{w:World}{k:Key}(r:RelV (kV k) u):(bJ P w).is k u=true:=by
 cases k with
 |inl i=>obtain⟨t,e⟩:=(show∃t,u=Value.int i t from r);subst e;exact xT P w i t
 |inr x=>obtain⟨t,e⟩:=(show∃t,u=Value.str x t from r);subst e;exact xR P w x t
theorem uy{P:Program}{w:World}:∀{ks:List Key}{us:List Value},Vals (ks.map kV) us->ItemsAre (bJ P w) ks us
 |[],_,r=>by rw[List.map_nil]at r;cases r;exact .nil
 |k::ks,_,r=>by
  rw[Qyz]at r
  cases r with
  |cons h t=>exact .cons (mF h) (uy t)
abbrev KT(H:Hp):List (List Key×V)->List (List Key×Addr×Value)->Prop:=Paired fun p q=>p.1=q.1/\H q.2.1=some (.tup (p.1.map kV))/\RelV p.2 q.2.2
variable{kvs:List (List Key×V)}{xs:List (List Key×Addr×Value)}
theorem KT.val(r:KT H kvs xs)(k:List Key):lL (fP kvs k) ((atKey xs k).map (·.2)):=by
 induction r with
 |nil=>exact True.intro
 | @cons p q ps qs h t ih=>
  obtain⟨h1,_,h2⟩:=h
  by_cases e:p.1=k
  ·have e':q.1=k:=h1.symm.trans e
   have b:atKey (q::qs) k=some q.2:=by simp[atKey,List.find?_cons,e']
   rw[jo e,b];exact h2
  ·have e':¬q.1=k:=fun z=>e (h1.trans z)
   have b:atKey (q::qs) k=atKey qs k:=by simp[atKey,List.find?_cons,e']
   rw[jq e,b];exact ih
theorem KT.repl(r:KT H kvs xs)(k:List Key)(ry:RelV y u):
  KT H (kvs.map fun kv=>if kv.1=k then(kv.1,y)else kv) (xs.map (putAt k u)):=by
 induction r with
 |nil=>exact .nil
 | @cons p q ps qs h t ih=>
  rw[Qyz,Qyz]
  refine .cons ?_ ih
  obtain⟨h1,h2,h3⟩:=h
  unfold putAt
  by_cases e:p.1=k
  ·rw[if_pos e,if_pos (h1.symm.trans e)];exact⟨h1,h2,ry⟩
  ·rw[if_neg e,if_neg (fun z=>e (h1.trans z))];exact⟨h1,h2,h3⟩
variable{b:Addr}
theorem KT.put(r:KT H kvs xs)(k:List Key)(hb:H b=some (.tup (k.map kV)))(ry:RelV y u):
  KT H (putK kvs k y) (storedH xs k b u):=by
 have e:(kvs.any fun kv=>decide (kv.1=k))=(atKey xs k).isSome:=by
  rw[pM,(r.val k).cU,Option.isSome_map]
 unfold putK storedH
 rw[e]
 by_cases q:(atKey xs k).isSome=true
 ·rw[if_pos q,if_pos q];exact r.repl k ry
 ·rw[if_neg q,if_neg q];exact Paired.snoc r ⟨rfl,hb,ry⟩
variable{H':Hp}
theorem KT.keeps(r:KT H kvs xs)(ht:∀b ys,H b=some (.tup ys)->H' b=some (.tup ys)):KT H' kvs xs:=
 Paired.V6 r fun _ _ z=>⟨z.1,ht _ _ z.2.1,z.2.2⟩
section
variable{P:Program}{w:World}{H:Hp}{h:Heap}{a:Addr}
theorem BZ{u:HO}(ok:lQ P w H h)(e:Rd H a u):bN P w H h a u:=e.ok ok
theorem oY{kvs:List (Key×V)}(ok:lQ P w H h)(e:Rd H a (.dK kvs)):kvs.length<=sizeLine/\(a==sysModules)=false/\∃vs,KV kvs vs/\h.DictOf (bJ P w) a vs:=
 show bN P w H h a (.dK kvs)from BZ ok e
theorem yG{kvs:List (Key×V)}(ok:lQ P w H h)(e:H a=some (.dK kvs)):kvs.length<=sizeLine/\(a==sysModules)=false/\∃vs,KV kvs vs/\h.DictOf (bJ P w) a vs:=oY ok (.inl e)
theorem nP{ks:List Key}(ok:lQ P w H h)(e:H a=some (.tup (ks.map kV))):(tupleKind (bJ P w)).is h ks a:=by
 obtain⟨_,its,r,o,h1,h2,_,n,h3⟩:=(show bN P w H h a (.tup (ks.map kV))from ok a _ e)
 exact⟨o,its.toArray,n,h1,h2,h3,by simpa using uy r⟩
theorem qY(ok:lQ P w H h)(e:Rd H a (.dT kvs)):kvs.length<=sizeLine/\(a==sysModules)=false/\
  ∃xs,KT H kvs xs/\h.DictOfH (tupleKind (bJ P w)) a xs:=by
 obtain⟨z,y,xs,r,o,es,ep,h1,h2,h3,h4,h5⟩:=(show bN P w H h a (.dT kvs)from BZ ok e)
 refine⟨z,y,xs,r,o,es,ep,h1,h2,h3,h4,fun x hx=>?_,h5⟩
 have all:∀{l:List (List Key×V)}{m:List (List Key×Addr×Value)},KT H l m->∀x∈m,(tupleKind (bJ P w)).is h x.1 x.2.1:=by
  intro l m q
  induction q with
  |nil=>intro x hx;exact nomatch hx
  | @cons p q ps qs hq t ih=>
   intro x hx
   rcases QCq.mp hx with e|hx
   ·subst e
    exact nP ok (by rw[<-hq.1];exact hq.2.1)
   ·exact ih x hx
 exact all r x hx
theorem abW(ok:lQ P w H h)(e:H a=some (.dT kvs)):kvs.length<=sizeLine/\(a==sysModules)=false/\
  ∃xs,KT H kvs xs/\h.DictOfH (tupleKind (bJ P w)) a xs:=qY ok (.inl e)
end
def pC(H:Hp)(a:Addr)(y:V)(r:Option V):Prop:=
 (∃kvs k,Rd H a (.dK kvs)/\y=kV k/\r=fP kvs k)\/∃kvs k b,Rd H a (.dT kvs)/\y=.ref b/\H b=some (.tup (k.map kV))/\r=fP kvs k
def Bq(H:Hp)(a:Addr)(y v:V)(H':Hp):Prop:=
 (∃kvs k,H a=some (.dK kvs)/\y=kV k/\kvs.length<sizeLine/\H'=upd H a (.dK (putK kvs k v)))\/
 ∃kvs k b,H a=some (.dT kvs)/\y=.ref b/\H b=some (.tup (k.map kV))/\kvs.length<sizeLine/\H'=upd H a (.dT (putK kvs k v))
theorem pC.k{H:Hp}{a:Addr}{kvs:List (Key×V)}{k:Key}(e:H a=some (.dK kvs)):pC H a (kV k) (fP kvs k):=.inl ⟨kvs,k,.inl e,rfl,rfl⟩
variable{a:Addr}
theorem pC.t{k:List Key}(e:H a=some (.dT kvs))(eb:H b=some (.tup (k.map kV))):pC H a (.ref b) (fP kvs k):=.inr ⟨kvs,k,b,.inl e,rfl,eb,rfl⟩
theorem Bq.k{H:Hp}{a:Addr}{kvs:List (Key×V)}{k:Key}{v:V}(e:H a=some (.dK kvs))(hl:kvs.length<sizeLine):Bq H a (kV k) v (upd H a (.dK (putK kvs k v))):=.inl ⟨kvs,k,e,rfl,hl,rfl⟩
theorem Bq.t{k:List Key}{v:V}(e:H a=some (.dT kvs))(eb:H b=some (.tup (k.map kV)))(hl:kvs.length<sizeLine):
  Bq H a (.ref b) v (upd H a (.dT (putK kvs k v))):=.inr ⟨kvs,k,b,e,rfl,eb,hl,rfl⟩
variable{Q:QZq}
section
variable{X:Cx}{QLz:QQz}{σ:St}{H:Hp}{s:Shared}{a:Addr}{y v:V}{u r:Value}{o:Option V}{A:Around}{E:QZq}
theorem Inv.big(I:Inv X QLz σ H s):sysModules<s.heap.objs.size:=by
 have h:mainGlobals<s.heap.objs.size:=(I.mod.glob.keeps I.bk).lt
 exact Nat.lt_trans (by decide) h
theorem GX(hu:A.units+1<cLine)(I:Inv X QLz σ H s)(g:pC H a y (some v))(ry:RelV y u)(h:∀w' s',Inv X QLz σ H s'->RelV v w'->Q w' s'):
  wpAny (model X.prog X.w) A (getItem (.ref a) u) Q E s:=by
 rcases g with ⟨kvs,k,e,ey,l⟩|⟨kvs,k,b,e,ey,eb,l⟩
 ·subst ey
  obtain⟨z,hd,vs,rel,dd⟩:=oY I.hok e
  obtain⟨w',hw,rw'⟩:=lL.some_of (v:=v) (o:=valueAt vs k) (by rw[l];exact rel.val k)
  exact wpAny_getItem_of (mF ry) dd.mapOf hw (h w' _ (I.tok _) rw')
 ·subst ey
  cases (show u=Value.ref b from ry)
  obtain⟨z,hd,xs,rel,dd⟩:=qY I.hok e
  obtain⟨w',hw,rw'⟩:=lL.some_of (v:=v) (o:=(atKey xs k).map (·.2)) (by rw[l];exact rel.val k)
  obtain⟨p,hp,hp2⟩:=QJz.mp hw
  refine wpAny_getItem_heap (tupleKind_room_in1 hu) (nP I.hok eb) dd hp ?_
  rw[hp2]
  exact h w' _ (I.tok _) rw'
theorem afZ(hu:A.units+1<cLine)(I:Inv X QLz σ H s)(g:pC H a y o)(ry:RelV y u)(h:∀s',Inv X QLz σ H s'->Q (.bool o.isSome) s'):
  wpAny (model X.prog X.w) A (compareOp .In u (.ref a)) Q E s:=by
 rcases g with ⟨kvs,k,e,ey,l⟩|⟨kvs,k,b,e,ey,eb,l⟩
 ·subst ey
  obtain⟨z,hd,vs,rel,dd⟩:=oY I.hok e
  refine wpAny_in_of (mF ry) hd dd.mapOf ?_
  rw[<- (rel.val k).cU,<-l]
  exact h _ (I.tok _)
 ·subst ey
  cases (show u=Value.ref b from ry)
  obtain⟨z,hd,xs,rel,dd⟩:=qY I.hok e
  refine wpAny_in_heap (tupleKind_room_in1 hu) (nP I.hok eb) hd dd ?_
  have q:=(rel.val k).cU
  rw[Option.isSome_map]at q
  rw[<-q,<-l]
  exact h _ (I.tok _)
theorem QQ(hu:A.units+1<cLine)(I:Inv X QLz σ H s)(g:pC H a y o)(ry:RelV y u)(h:∀s',Inv X QLz σ H s'->Q (.bool (!o.isSome)) s'):
  wpAny (model X.prog X.w) A (compareOp .NotIn u (.ref a)) Q E s:=by
 rcases g with ⟨kvs,k,e,ey,l⟩|⟨kvs,k,b,e,ey,eb,l⟩
 ·subst ey
  obtain⟨z,hd,vs,rel,dd⟩:=oY I.hok e
  refine wpAny_notIn_of (mF ry) hd dd.mapOf ?_
  rw[<- (rel.val k).cU,<-l]
  exact h _ (I.tok _)
 ·subst ey
  cases (show u=Value.ref b from ry)
  obtain⟨z,hd,xs,rel,dd⟩:=qY I.hok e
  refine wpAny_notIn_heap (tupleKind_room_in1 hu) (nP I.hok eb) hd dd ?_
  have q:=(rel.val k).cU
  rw[Option.isSome_map]at q
  rw[<-q,<-l]
  exact h _ (I.tok _)
theorem iJ{h':Heap}{ob:HO}(I:Inv X QLz σ H s)(mu:Mut (H a))(hs:Heap.SameBut a s.heap h')(he:∃q,h'.get? a=some q)(new:bN X.prog X.w (upd H a ob) h' a ob):
  Inv X QLz σ (upd H a ob) {s with heap:=h',toks:=t'}:=
 I.write (x:=a) (e:=a) mu (.inl rfl) (fun b q hb z=>(hs.2 b hb).trans z) he new
theorem vW{w:World}{h':Heap}{kvs:List (Key×V)}{vs:List (Key×Value)}(z:kvs.length<=sizeLine)(hd:(a==sysModules)=false)(rel:KV kvs vs)(dd:h'.DictOf (bJ P w) a vs):
  bN P w H' h' a (.dK kvs):=⟨z,hd,vs,rel,dd⟩
theorem GR{Q:Unit->Shared->Prop}(hu:A.units+1<cLine)(I:Inv X QLz σ H s)(g:Bq H a y v H')(ry:RelV y u)(rv:RelV v r)(h:∀s',Inv X QLz σ H' s'->Q () s'):
  wpAny (model X.prog X.w) A (setItem (.ref a) u r) Q E s:=by
 rcases g with ⟨kvs,k,e,ey,l,eH⟩|⟨kvs,k,b,e,ey,eb,l,eH⟩
 ·subst ey eH
  obtain⟨z,hd,vs,rel,dd⟩:=yG I.hok e
  have hz:vs.length<=sizeLine:=by rw[<-rel.length];exact z
  have hl:(putK kvs k v).length<=sizeLine:=by have:=jA kvs k v;omega
  refine wpAny_setItem_pairs (hsz:=hz) (mF ry) dd fun h' dd' hs=>h _ ?_
  have he:∃q,h'.get? a=some q:=let ⟨q,_,_,hq,_⟩:=dd';⟨q,hq⟩
  exact iJ I (by rw[e];exact True.intro) hs he (vW hl hd (rel.put k rv) dd')
 ·subst ey eH
  cases (show u=Value.ref b from ry)
  obtain⟨z,hd,xs,rel,dd⟩:=abW I.hok e
  have hz:xs.length<=sizeLine:=by rw[<-Paired.length rel];exact z
  have hl:(putK kvs k v).length<=sizeLine:=by have:=jA kvs k v;omega
  refine wpAny_setItem_heap (hsz:=hz) (tupleKind_room_in1 hu) (nP I.hok eb) dd fun h' dd' hs=>h _ ?_
  obtain⟨q,es,ep,hq,h2,h3,h4,_,h5⟩:=dd'
  refine iJ I (by rw[e];exact True.intro) hs ⟨q,hq⟩ ⟨hl,hd,_,(rel.put k eb rv).keeps fun c ys ec=>?_,q,es,ep,hq,h2,h3,h4,h5⟩
  rw[aB (aa2 ec e (fun z=>nomatch z))]
  exact ec
end
section
variable{X:Cx}{QLz:QQz}{σ:St}{H:Hp}{s:Shared}{a:Addr}{kvs:List (Key×V)}{k:Key}{u:Value}{A:Around}{E:QZq}
theorem YM{Q:Unit->Shared->Prop}(I:Inv X QLz σ H s)(e:H a=some (.dK kvs))(ry:RelV (kV k) u)(l:(fP kvs k).isSome=true)(h:∀s',Inv X QLz σ (upd H a (.dK (gw kvs k))) s'->Q () s'):
  wpAny (model X.prog X.w) A (delItem (.ref a) u) Q E s:=by
 obtain⟨z,hd,vs,rel,dd⟩:=yG I.hok e
 refine wpAny_delItem_slot dd.typeIs (by decide) PySem.F.slot_dict_delitem
  (call_meetsIn PySem.F.slot_dict_delitem dd.typeIs PySem.F.entry_dict_delitem (PySem.F.args_dict_delitem_2 _ _) (meets_dict_delitem_pairs (bJ X.prog X.w) a (mF ry)) ⟨vs,dd,by rw[<-rel.length];exact z,by rw[<- (rel.val k).cU];exact l,fun h' dd' hs=>h _ ?_⟩)
 have he:∃q,h'.get? a=some q:=let ⟨q,_,_,hq,_⟩:=dd';⟨q,hq⟩
 exact iJ I (by rw[e];exact True.intro) hs he (vW (Nat.le_trans (yF kvs k) z) hd (rel.drop k) dd')
theorem abX{v:V}{more:List Value}(I:Inv X QLz σ H s)(e:H a=some (.dK kvs))(ry:RelV (kV k) u)(l:fP kvs k=some v)(hm:more=[]\/∃x,more=[x])
  (h:∀w' s',Inv X QLz σ (upd H a (.dK (gw kvs k))) s'->RelV v w'->Q w' s'):wpAny (model X.prog X.w) A (call (.builtin "dict.pop") (.ref a::u::more)) Q E s:=by
 obtain⟨z,hd,vs,rel,dd⟩:=yG I.hok e
 obtain⟨w',hw,rw'⟩:=lL.some_of (v:=v) (o:=valueAt vs k) (by rw[<-l];exact rel.val k)
 have hp:(keyPart u).isSome=true:=by
  cases k with
  |inl i=>obtain⟨t,q⟩:=(show∃t,u=Value.int i t from ry);subst q;rfl
  |inr x=>obtain⟨t,q⟩:=(show∃t,u=Value.str x t from ry);subst q;rfl
 have ha:argsOk "dict.pop" ⟨.ref a::u::more,[]⟩:=by
  rcases hm with q|⟨x,q⟩
  ·subst q;exact PySem.F.args_dict_pop_2 _ _
  ·subst q;exact PySem.F.args_dict_pop_3 _ _ _
 refine call_meetsIn PySem.F.slot_dict_pop dd.typeIs PySem.F.entry_dict_pop ha (meets_dict_pop_there (bJ X.prog X.w) a (mF ry) more hm hp)
  ⟨vs,w',dd,by rw[<-rel.length];exact z,hw,fun h' dd' hs=>h w' _ ?_ rw'⟩
 have he:∃q,h'.get? a=some q:=let ⟨q,_,_,hq,_⟩:=dd';⟨q,hq⟩
 exact iJ I (by rw[e];exact True.intro) hs he (vW (Nat.le_trans (yF kvs k) z) hd (rel.drop k) dd')
theorem abY(I:Inv X QLz σ H s)(e:Rd H a (.dK kvs))(h:∀t s',Inv X QLz σ H s'->Q (.int kvs.length t) s'):wpAny (model X.prog X.w) A (call (.builtin "len") [.ref a]) Q E s:=by
 obtain⟨z,hd,vs,rel,dd⟩:=oY I.hok e
 refine call_len_dict hd dd (by rw[<-rel.length];rw[sizeLine_eq]at z;omega) ?_
 rw[<-rel.length]
 exact h _ _ (I.tok _)
end
variable{X:Cx}
theorem yH{o:Option V}(I:Inv X QLz σ H s)(g:pC H a y o):s.TypeIs (.ref a) "dict":=by
 rcases g with ⟨kvs,k,e,_,_⟩|⟨kvs,k,b,e,_,_,_⟩
 ·obtain⟨_,_,vs,_,dd⟩:=oY I.hok e
  exact dd.typeIs
 ·obtain⟨_,_,xs,_,dd⟩:=qY I.hok e
  exact dd.typeIs
section
variable{X:Cx}{o i e value:Expr}{pos pos' tpos:Pos}{td ty tv:TE}
end
theorem q8{w:World}(h:Heap)(hb:sysModules<h.objs.size):bN P w H (h.push {cls:=.type "dict",data:=.dict #[]}) h.objs.size (.dK []):=
 ⟨QIq _,beq_eq_false_iff_ne.mpr (Ne.symm (Qvz hb)),[],.nil,Heap.DictOf.new h⟩
def Uw:TE:=fun _ H Q=>∀p,H p=none->Q (.ref p) (upd H p (.dK []))
section
variable{X:Cx}{pos:Pos}
theorem Jq:PE X (.Dict [] [] pos) Uw:=fun QLz s σ H Q I h=>
 wpAny_Dict_empty ⟨.ref s.heap.objs.size,_,I.laid (a:=s.heap.objs.size) (o:=.dK []) (t':=s.toks) (fun _ _ q=>QWq _ q) (QVz _) (q8 s.heap I.big),rfl,h _ (I.hok.fresh (QVz _))⟩
end
def uZ:List (TE×TE)->St->Hp->(List (V×V)->Hp->Prop)->Prop
 |[],_,H,Q=>Q [] H
 |(tk,tv)::r,σ,H,Q=>tk σ H fun x H1=>tv σ H1 fun y H2=>uZ r σ H2 fun ps H3=>Q ((x,y)::ps) H3
abbrev VV:List (V×V)->List (Value×Value)->Prop:=Paired fun p q=>RelV p.1 q.1/\RelV p.2 q.2
def PPs(X:Cx)(pos:Pos)(keys:List (Option Expr))(values:List Expr)(lM:List (TE×TE)):Prop:=
 ∀(QLz:QQz)(s:Shared)(σ:St)(H:Hp)(Q:List (V×V)->Hp->Prop),Inv X QLz σ H s->uZ lM σ H Q->
  wpAny (model X.prog X.w) X.A (evalPairs (pairTrees keys values X.env pos)) (fun vs s'=>∃ps H',Inv X QLz σ H' s'/\VV ps vs/\Q ps H') X.xe s
theorem O9{pos:Pos}:PPs X pos [] [] []:=fun QLz s σ H Q I h=>pairTrees_nil_walk ⟨[],H,I,.nil,h⟩
theorem Jg{pos:Pos}{k v:Expr}{ks:List (Option Expr)}{vs:List Expr}{tk tv:TE}{lM:List (TE×TE)}(hk:PE X k tk)(hv:PE X v tv)(hr:PPs X pos ks vs lM):
  PPs X pos (some k::ks) (v::vs) ((tk,tv)::lM):=fun QLz s σ H Q I h=>
 pairTrees_cons_walk (bW (hk QLz s σ H _ I h) fun u s1⟨x,H1,I1,rx,q1⟩=>bW (hv QLz s1 σ H1 _ I1 q1) fun w2 s2⟨y,H2,I2,ry,q2⟩=>
  bW (hr QLz s2 σ H2 _ I2 q2) fun ws s3⟨ps,H3,I3,rel,q3⟩=>⟨(x,y)::ps,H3,I3,.cons ⟨rx,ry⟩ rel,q3⟩)
structure M1(X:Cx)(o:Expr)(m:Str)(apos:Pos)(e:Expr)(cpos:Pos):Prop where
 base:attributeBase o m X.env (eval o X.env)=eval o X.env
 few:((backTo cpos (starEach [e] X.env)).all (fun x=> !x.1)&&(backToKw cpos (keywordEach [] X.env)).all (fun x=>x.1.isSome)
  &&decide (([e]:List Expr).length+([]:List Keyword).length+(if ([]:List Keyword).isEmpty then 0 else 1)<30))=true
 line:(apos.endLine==cpos.line)=true
 trees:backTo cpos (starEach [e] X.env)=[(false,eval e X.env)]
structure M2(X:Cx)(o:Expr)(m:Str)(apos:Pos)(e f:Expr)(cpos:Pos):Prop where
 base:attributeBase o m X.env (eval o X.env)=eval o X.env
 few:((backTo cpos (starEach [e,f] X.env)).all (fun x=> !x.1)&&(backToKw cpos (keywordEach [] X.env)).all (fun x=>x.1.isSome)
  &&decide (([e,f]:List Expr).length+([]:List Keyword).length+(if ([]:List Keyword).isEmpty then 0 else 1)<30))=true
 line:(apos.endLine==cpos.line)=true
 trees:backTo cpos (starEach [e,f] X.env)=[(false,eval e X.env),(false,eval f X.env)]
def IsD(H:Hp)(a:Addr):Prop:=(∃kvs,Rd H a (.dK kvs))\/∃kvs,Rd H a (.dT kvs)
theorem Kd(I:Inv X QLz σ H s)(d:IsD H a):
  s.TypeIs (.ref a) "dict"/\(∀b,Value.ref a=.ref b->∃ob,s.heap.get? b=some ob/\ob.dict=none)/\(a==sysModules)=false:=by
 rcases d with ⟨kvs,e⟩|⟨kvs,e⟩
 ·obtain⟨_,hd,vs,_,dd⟩:=oY I.hok e
  refine⟨dd.typeIs,fun b q=>?_,hd⟩
  cases q
  obtain⟨ob,_,_,h1,h2,_⟩:=dd
  exact⟨ob,h1,h2.2.1⟩
 ·obtain⟨_,hd,xs,_,dd⟩:=qY I.hok e
  refine⟨dd.typeIs,fun b q=>?_,hd⟩
  cases q
  obtain⟨ob,_,_,h1,h2,_⟩:=dd
  exact⟨ob,h1,h2.2.1⟩
section
variable{X:Cx}{QLz:QQz}{σ:St}{H:Hp}{s:Shared}{a:Addr}{y d:V}{u r:Value}{o:Option V}{A:Around}{E:QZq}
theorem Xu(hu:A.units+1<cLine)(I:Inv X QLz σ H s)(g:pC H a y o)(ry:RelV y u)(rd:RelV d r)(h:∀w' s',Inv X QLz σ H s'->RelV (o.getD d) w'->Q w' s'):
  wpAny (model X.prog X.w) A (call (.builtin "dict.get") [.ref a,u,r]) Q E s:=by
 rcases g with ⟨kvs,k,e,ey,l⟩|⟨kvs,k,b,e,ey,eb,l⟩
 ·subst ey
  obtain⟨z,hd,vs,rel,dd⟩:=oY I.hok e
  refine call_meetsIn PySem.F.slot_dict_get dd.typeIs PySem.F.entry_dict_get (PySem.F.args_dict_get_3 _ _ _) (meets_dict_get_default (bJ X.prog X.w) a (mF ry) hd r) ⟨_,dd.mapOf,h _ _ (I.tok _) ?_⟩
  rw[l]
  exact(rel.val k).getD rd
 ·subst ey
  cases (show u=Value.ref b from ry)
  obtain⟨z,hd,xs,rel,dd⟩:=qY I.hok e
  refine call_meetsIn PySem.F.slot_dict_get dd.typeIs PySem.F.entry_dict_get (PySem.F.args_dict_get_3 _ _ _) (meetsH_dict_get_default (tupleKind (bJ X.prog X.w)) a b hd r) ⟨tupleKind_room_in1 hu,k,xs,nP I.hok eb,dd,h _ _ (I.tok _) ?_⟩
  rw[l]
  exact(rel.val k).getD rd
end
def Ux(td ty tx:TE):TE:=fun σ H Q=>td σ H fun x H1=>∃a,x=.ref a/\IsD H1 a/\ty σ H1 fun y H2=>tx σ H2 fun z H3=>∃o,pC H3 a y o/\Q (o.getD z) H3
def Uv(td ty:TE):TE:=fun σ H Q=>td σ H fun x H1=>∃a,x=.ref a/\IsD H1 a/\ty σ H1 fun y H2=>∃kvs k v,H2 a=some (.dK kvs)/\y=kV k/\fP kvs k=some v/\Q v (upd H2 a (.dK (gw kvs k)))
section
variable{X:Cx}{o e f:Expr}{apos cpos:Pos}{td ty tx:TE}
theorem Jr(hu:X.A.units+1<cLine)(ho:PE X o td)(he:PE X e ty)(hf:PE X f tx)(m:M2 X o "get" apos e f cpos):PE X (.Call (.Attribute o "get" apos) [e,f] [] cpos) (Ux td ty tx):=by
 intro QLz s σ H Q I h
 refine wpAny_Call_method m.base m.few m.line PySem.F.plainAttrs_dict PySem.F.slot_dict_get PySem.F.type_dict_get (bW (ho QLz s σ H _ I h) fun u s1⟨x,H1,I1,rx,a,ex,d,q1⟩=>?_)
 subst ex
 obtain rfl:u=Value.ref a:=rx
 obtain⟨t1,t2,_⟩:=Kd I1 d
 refine⟨t1,t2,?_⟩
 rw[m.trees]
 refine Calls.callWith_builtin rfl (Calls.evalArgs_plain (Calls.spliced_cons (bW (he QLz s1 σ H1 _ I1 q1) fun iv s2⟨y,H2,I2,ry,q2⟩=>
  Calls.spliced_cons (bW (hf QLz s2 σ H2 _ I2 q2) fun fv s3⟨z,H3,I3,rz,ov,g,q3⟩=>Calls.spliced_nil ?_))))
 exact Xu hu I3 g ry rz fun w' s4 I4 rw'=>⟨_,H3,I4,rw',q3⟩
theorem Jp(ho:PE X o td)(he:PE X e ty)(m:M1 X o "pop" apos e cpos):PE X (.Call (.Attribute o "pop" apos) [e] [] cpos) (Uv td ty):=by
 intro QLz s σ H Q I h
 refine wpAny_Call_method m.base m.few m.line PySem.F.plainAttrs_dict PySem.F.slot_dict_pop PySem.F.type_dict_pop (bW (ho QLz s σ H _ I h) fun u s1⟨x,H1,I1,rx,a,ex,d,q1⟩=>?_)
 subst ex
 obtain rfl:u=Value.ref a:=rx
 obtain⟨t1,t2,_⟩:=Kd I1 d
 refine⟨t1,t2,?_⟩
 rw[m.trees]
 refine Calls.callWith_builtin rfl (Calls.evalArgs_plain (Calls.spliced_cons (bW (he QLz s1 σ H1 _ I1 q1) fun iv s2⟨y,H2,I2,ry,kvs,k,v,ea,ey,l,q2⟩=>Calls.spliced_nil ?_)))
 subst ey
 exact abX I2 ea ry l (.inl rfl) fun w' s3 I3 rw'=>⟨v,_,I3,rw',q2⟩
end
section
variable{X:Cx}{QLz:QQz}{σ:St}{H:Hp}{s:Shared}{a:Addr}{kvs:List (Key×V)}{A:Around}{E:QZq}
end
section
variable{X:Cx}{QLz:QQz}{σ:St}{H:Hp}{s:Shared}{a:Addr}{y:V}{u:Value}{A:Around}{E:QZq}
end
end L2
namespace Att
open PySem PySem.W PySem.Calls PyProof.Rows
theorem pq{P:Params}{h:Heap}:∀(ns:List Int)(vs:List Value),WellAll P h vs (ns.map WData.int)->IntsAre vs ns:=by
 intro ns
 induction ns with
 |nil=>
  intro vs w
  rw[List.map_nil]at w
  cases w
  exact .nil
 |cons n ns ih=>
  intro vs w
  rw[Qyz]at w
  cases w with
  |cons a b=>
   cases a
   exact .cons _ _ (ih _ b)
theorem EY{l:OpenLaw}{n:Nat}(hn:l.most=some n){P:Params}{h:Heap}{args:List WData}{vals:List Value}
  (hpre:l.row.toRowW.claim.pre args=true)(hwl:WellAll P h vals args):
  ∃a vs ns,vals=[Value.ref a]/\args=[WData.list (ns.map WData.int)]/\h.get? a=some {cls:=.type "list",data:=.seq vs.toArray}/\IntsAre vs ns/\ns.length<=n:=by
 have hsh:WShape.hasAll [] args [.list .int]=true:=(pre_splitW hpre).1
 have hc:l.pre.holds [] {args:=args}=true:=(pre_splitW hpre).2
 obtain⟨d,r,rfl,h1,h2⟩:=hasAllW_cons hsh
 obtain rfl:=hasAllW_nil h2
 obtain⟨xs,rfl,h3⟩:=hasW_list h1
 obtain⟨ns,rfl⟩:=items_int h3
 have hlen:ns.length<=n:=by
  unfold OpenLaw.pre at hc
  have h4:(WTm.not (.lt (.lit (.int (n:Int))) (.len (.arg 0)))).holds [] {args:=[.list (ns.map .int)]}=true:=by
   have h4:=(holds_andW hc).1
   rw[hn]at h4
   exact h4
  have h5:=condW_of h4 (w_not (w_lt w_lit (w_len_list (w_arg rfl))))
  rw[QAq]at h5
  refine Nat.le_of_not_lt fun q=>?_
  have q':(n:Int)< ((ns.length:Nat):Int):=by omega
  first
   |(rw[QFq q']at h5;exact absurd h5 (by decide))
   |(simp at h5;omega)
 cases hwl with
 |cons w1 w2=>
  cases w2
  cases w1 with
  |list ho hall=>exact⟨_,_,ns,rfl,rfl,ho,pq ns _ hall,hlen⟩
theorem FP(l:OpenLaw)(args:List WData):l.row.toRowW.claim.post args (.bool true) args=true:=
 postW_of (r:=l.row.toRowW) (X:=(true==true))
  (show WShape.has [] (.bool true) .bool=true by first|rfl|decide|simp[WShape.has,WShape.arms,WShape.armsAll])
  (show(WTm.eq .res (.lit (.bool true))).value [] {args:=args,res:=some (.bool true),after:=args}=some (.bool (true==true))from w_eq_bool (w_res rfl) w_lit) rfl
theorem yM{l:OpenLaw}{n:Nat}{q:Program}{loose:List Str}{XP:QZz->Heap->Prop}{YP:World->Heap->Prop}{d:DefRec}
  (hn:l.most=some n)(hdf:d.params.defaults=[])
  (call:∀(w:World)(s₀ s₁:Shared)(mg mb:QZz)(fa:Addr)(o:Obj)(pm cd doc:Value)(a:Addr)(vs:List Value)(ns:List Int),
   Ground q loose [] XP w s₀ mg mb s₁.heap->YP w s₁.heap->
   s₁.heap.get? fa=some o->o.data=.func (docDef d.name d.params d.body d.scope pm cd doc)->s₁.heap.CodeRec cd d.name->mg d.name=some (.ref fa)->
   s₁.heap.get? a=some {cls:=.type "list",data:=.seq vs.toArray}->IntsAre vs ns->ns.length<=n->s₁.gens= #[]->
   codeAny (model l.prog w) callerA (.call (.ref fa) ⟨[.ref a],[]⟩) (fun r s'=>r=.ok (.ret (.bool true))/\OldK s₁.heap s'.heap/\s'.os=s₁.os/\AllBare s'.gens) s₁):
  WalkO q loose XP YP l.row.toRowW d [] (fun f vs=>PySem.call f vs):=by
 intro w s₀ s₁ mg mb G Y fa o pm cd doc dV kV ho hd hcd hD hmg hg args vals as hpre hlay hrd hwl hlo
 obtain rfl:dV=.none:=Dflts.none hD hdf
 obtain rfl:kV=.none:=Dflts.noKw hD
 obtain⟨a,vs,ns,rfl,rfl,hobj,hints,hlen⟩:=EY hn hpre hwl
 refine enter_call (codeAny_mono (call w s₀ s₁ mg mb fa o pm cd doc a vs ns G Y ho (fd_plain hd) hcd hmg hobj hints hlen hg) fun r s' hq=>?_)
 obtain⟨rfl,h2,h3,h4⟩:=hq
 exact⟨.inl ⟨.bool true,.bool true,[],rfl,fun _=>rfl,.bool true,FP l _,fun _=>⟨List.Pairwise.nil,fun _ hm=>(nomatch hm)⟩⟩,h2,h3,h4⟩
section
variable{prog:Program}{w:World}{A:Around}{E:QZq}{s:Shared}{K:Frag}
end
end Att
namespace L2
open PySem PySem.Spec PyProof.Rows
theorem sJ:∀{vs:List Value}{ns:List Int},IntsAre vs ns->Vals (ns.map V.int) vs
 |_,_,.nil=>.nil
 |_,_,.cons n t h=>.cons ⟨t,rfl⟩ (sJ h)
def Only(H:Hp):Prop:=∀b,H b=none\/∃o xs,H b=some (.frz o (.lst xs))
variable{fd:FuncData}{x:Str}
theorem JR{P:Program}{w:World}{K:QQq}{mg mb:QZz}{CX:Hf}{k:Nat}{fa a:Addr}{sp:Sp}{s₁:Shared}{vs:List Value}{ns:List Int}
  (KX:K.In s₁.heap)(hns:s₁.heap.Ns mainGlobals mg)(hb:s₁.heap.Ns builtinsNs mb)(hbb:∀x:Str,x≠"__name__"->mb x=bootBuiltins x)(hlim:s₁.heap.NoLimit)(hg:s₁.gens= #[])
  (ha:s₁.heap.get? a=some {cls:=.type "list",data:=.seq vs.toArray})(hi:IntsAre vs ns)(hl:ns.length<=sizeLine)(hr:jj k callerA)
  (F:∀base:Heap,K.In base->base.Ns mainGlobals mg->oN P w K mg base CX k fa fd [x] sp)(hbind:∀(s:Shared)(u:Value),BindsTo s fd ⟨[u],[]⟩ [(x,u)])
  (hsp:∀H:Hp,Only H->iY K H a (ns.map V.int)->sp [.ref a] H (fun v _=>v=.bl true) fun _ _ _=>False)
  (hCX:∀H e s',CX [] H s₁ (fun _ _ _=>False) e s'->False):
  codeAny (model P w) callerA (.call (.ref fa) ⟨[.ref a],[]⟩) (fun r s'=>r=.ok (.ret (.bool true))/\OldK s₁.heap s'.heap/\s'.os=s₁.os/\AllBare s'.gens) s₁:=by
 have rv:=sJ hi
 have lenV:=hi.length
 have core:∀H:Hp,Only H->iY K H a (ns.map V.int)->lQ P w H s₁.heap->(∀b,H b≠none->b=a)->(H a≠none->K.lookup a=none)->
   codeAny (model P w) callerA (.call (.ref fa) ⟨[.ref a],[]⟩) (fun r s'=>r=.ok (.ret (.bool true))/\OldK s₁.heap s'.heap/\s'.os=s₁.os/\AllBare s'.gens) s₁:=by
  intro H hO hS hok hA hK
  have mR:∀{b:Addr}{o:Obj},s₁.heap.get? b=some o->H b=none->(vM s₁.heap H).get? b=some o:=fun e n=>Kr e n
  have noA:∀{b:Addr}{o:Obj}{es:Array DictEntry}{ep:Nat},s₁.heap.get? b=some o->o.data=.dict es ep->H b=none:=fun{b o es ep}e d=>by
   cases q:H b with
   |none=>rfl
   |some u=>
    have e':b=a:=hA b (by rw[q];simp)
    subst e'
    rw[ha]at e;cases e
    have d':Data.seq vs.toArray _=Data.dict es ep:=d
    cases d'
  have nsK:∀{b:Addr}{m:QZz},s₁.heap.Ns b m->(vM s₁.heap H).Ns b m:=fun{b m}⟨o,es,ep,e,d,r⟩=>⟨o,es,ep,mR e (noA e d),d,r⟩
  have hKb:K.In (vM s₁.heap H):=fun b o e=>mR (KX b o e) (by
   cases q:H b with
   |none=>rfl
   |some u=>
    have e':b=a:=hA b (by rw[q];simp)
    subst e'
    rw[hK (by rw[q];simp)]at e;cases e)
  have hM:Mod K mg (vM s₁.heap H):=⟨hKb,nsK hns,⟨mb,nsK hb,hbb⟩,let ⟨mc,h1,h2⟩:=hlim;⟨mc,nsK h1,h2⟩⟩
  have e0:Bp P w K mg (vM s₁.heap H) callerA [] s₁ H:=⟨rfl,hM,fun b o e=>Qa e,Nat.le_of_eq (Gx _ _),trivial,fun b hb=>absurd (show b∈([]:List Addr)from hb) (by simp),hok,.of_eq hg⟩
  refine codeAny_mono ((F _ hKb (nsK hns)).run callerA [] s₁ H ⟨[.ref a],[]⟩ [.ref a] [.ref a] _ _ hr e0 (hbind s₁ (.ref a)) (.cons rfl .nil) (hsp H hO hS)) fun r s' h=>?_
  cases r with
  |error e=>exact(hCX H e s' h).elim
  |ok fl=>
   cases fl with
   |next=>exact False.elim h
   |brk=>exact False.elim h
   |cont=>exact False.elim h
   |ret u=>
    obtain⟨v,H',os,bare,un,hok',r',q⟩:=h
    have q':v=.bl true:=q
    subst q'
    obtain rfl:u=Value.bool true:=r'
    refine⟨rfl,OldK.of_keep fun b o e=>?_,os,bare⟩
    cases q:H b with
    |none=>exact un.keep b o e q (by intro z;exact absurd (show b∈([]:List Addr)from z) (by simp)) (by simp)
    |some u=>
     rcases hO b with z|⟨ob,xs,z⟩
     ·rw[q]at z;cases z
     ·have z2:=un.frzs b ob _ z
      obtain⟨e1,_⟩:=hok b _ z
      obtain⟨e2,_⟩:=hok' b _ z2
      rw[e]at e1;cases e1
      exact e2
 cases hk:K.lookup a with
 |some o=>
  have e:=KX a o hk
  rw[ha]at e
  cases e
  refine core (fun _=>none) (fun _=>.inl rfl) (.inr ⟨_,vs.toArray,_,hk,rfl,rfl,rfl,by rw[Qyq,lenV];exact hl,by simpa using rv⟩) (fun b u z=>by have z':(none:Option HO)=some u:=z;cases z') (fun b z=>absurd rfl z) fun z=>absurd rfl z
 |none=>
  refine core (fun b=>if b=a then some (.frz {cls:=.type "list",data:=.seq vs.toArray} (.lst (ns.map V.int)))else none) (fun b=>?_) (.inl (.inr ⟨{cls:=.type "list",data:=.seq vs.toArray},if_pos rfl⟩)) (fun b u z=>?_) (fun b z=>?_) fun _=>hk
  ·by_cases hb:b=a
   ·exact .inr ⟨_,_,if_pos hb⟩
   ·exact .inl (if_neg hb)
  ·by_cases hb:b=a
   ·have z':=(if_pos hb).symm.trans z
    cases z'
    subst hb
    exact⟨ha,by rw[QAq];exact hl,vs,_,rv,ha⟩
   ·have z':=(if_neg hb).symm.trans z
    cases z'
  ·by_cases hb:b=a
   ·exact hb
   ·exact absurd (if_neg hb) z
theorem M7{l:PySem.W.OpenLaw}{n k:Nat}{q:Program}{loose:List Str}{XP:QZz->Heap->Prop}{YP:World->Heap->Prop}{d:DefRec}{K:Params->QQq}{CX:World->Hf}{sp:World->Sp}
  (hn:l.most=some n)(hn2:n<=sizeLine)(hdf:d.params.defaults=[])(hr:jj k callerA)
  (hY:∀(w:World)(h:Heap),YP w h->(K w.params).In h)
  (F:∀(w:World)(mg:QZz)(fa:Addr)(h:Heap),(K w.params).In h->h.Ns mainGlobals mg->mg d.name=some (.ref fa)->
   ∃fd:FuncData,(∀(s:Shared)(u:Value),BindsTo s fd ⟨[u],[]⟩ [(x,u)])/\
    ∀base:Heap,(K w.params).In base->base.Ns mainGlobals mg->oN l.prog w (K w.params) mg base (CX w) k fa fd [x] (sp w))
  (hsp:∀(w:World)(H:Hp)(a:Addr)(ns:List Int),ns.length<=n->Only H->iY (K w.params) H a (ns.map V.int)->sp w [.ref a] H (fun v _=>v=.bl true) fun _ _ _=>False)
  (hCX:∀(w:World)(H:Hp)(s:Shared)(e:Value)(s':Shared),CX w [] H s (fun _ _ _=>False) e s'->False):
  PySem.W.WalkO q loose XP YP l.row.toRowW d [] (fun f vs=>PySem.call f vs):=by
 refine Att.yM hn hdf fun w s₀ s₁ mg mb fa o pm cd doc a vs ns G Y ho hd hcd hmg hobj hints hlen hg=>?_
 have KX:=hY w _ Y
 obtain⟨fd,hb,hF⟩:=F w mg fa _ KX G.T.g hmg
 exact JR KX G.T.g G.T.b G.T.builtins G.T.nolimit hg hobj hints (Nat.le_trans hlen hn2) hr hF hb (fun H hO hS=>hsp w H a ns hlen hO hS) fun H e s'=>hCX w H s₁ e s'
abbrev Hg:Hf:=fun _ _ _ _ _ _=>False
abbrev E0:XK:=fun _ _ _=>False
theorem aaO{X:Cx}:Bo Hg X E0:=fun _ _ _ _ _ _ _ h=>h.elim
structure XS(K:QQq)(x qual:Str)(st:Stmt)(f:Addr)(fd:FuncData):Prop where
 ex:∃(oc:Value)(od:Option Addr)(kV doc pm:Value)(an:Option Addr)(cdv ct:Value)(osl:Array (Option Value)),
  fd=PySem.W.fnOf x qual (dG st) (dF st) (aZ st) .none kV doc pm an cdv ct/\K.lookup f=some ⟨oc,od,.func fd,osl⟩/\PySem.W.codeIn K cdv qual=true
 kp:PySem.W.keepIn K (.ref f)=true
variable{f:Addr}{qual:Str}
section
variable{P:Program}{w:World}{K:QQq}{mg:QZz}{base:Heap}
theorem XS.ok{st:Stmt}{N ps:List Str}{k:Nat}{sp:Sp}(F:XS K x qual st f fd)(S:j8 N ps (aZ st))(len:∀vs H Q E,sp vs H Q E->vs.length=ps.length)
  (hbody:∀(cdv:Value)(A:Around)(outer:List Env)(s:Shared)(H:Hp)(vs:List V)(Q:VK)(E:XK),jj k (A.deeper (envOfC qual (aZ st) s.heap.objs.size f cdv))->sp vs H Q E->
   ∃t,wz (Ao Hg P w K mg base N qual (aZ st) f cdv A outer s H E).nox (dF st) t/\t {nx:=fun _ H'=>Q .non H',rt:=Q} (start N vs) H):oN P w K mg base Hg (k+1) f fd ps sp:=by
 obtain⟨oc,od,kV,doc,pm,an,cdv,ct,osl,rfl,lk,hcd⟩:=F.ex
 refine abN lk hcd S len fun A outer s H vs Q E hr hsp=>?_
 obtain⟨t,h,q⟩:=hbody cdv A outer s H vs Q E hr hsp
 exact⟨t,h.nox,q⟩
theorem XS.binds{st:Stmt}{ps:List Str}(F:XS K x qual st f fd)
  (h:∀(kV doc pm:Value)(an:Option Addr)(cdv ct:Value)(us:List Value),us.length=ps.length->bindArgs (PySem.W.fnOf x qual (dG st) (dF st) (aZ st) .none kV doc pm an cdv ct) ⟨us,[]⟩=pure (ps.zip us)):Binds K fd ps []:=by
 obtain⟨oc,od,kV,doc,pm,an,cdv,ct,osl,rfl,lk,hcd⟩:=F.ex
 exact .all (h kV doc pm an cdv ct)
theorem Xk{st:Stmt}{oc:Value}{od an:Option Addr}{osl:Array (Option Value)}{kV doc pm cdv ct:Value}(l:K.lookup f=some ⟨oc,od,.func (PySem.W.fnOf x qual (dG st) (dF st) (aZ st) .none kV doc pm an cdv ct),osl⟩)
  (c:PySem.W.codeIn K cdv qual=true)(k:PySem.W.keepIn K (.ref f)=true):XS K x qual st f (PySem.W.fnOf x qual (dG st) (dF st) (aZ st) .none kV doc pm an cdv ct):=⟨⟨oc,od,kV,doc,pm,an,cdv,ct,osl,rfl,l,c⟩,k⟩
end
theorem Ez{n:Nat}(h:n<=1000):n<sizeLine:=Nat.lt_of_le_of_lt h (by decide)
section
variable{X:Cx}
end
def yQ(H H':Hp):Prop:=∀b o,H b=some o->H' b=some o
variable{H:Hp}
theorem yQ.trans{H1 H2:Hp}(a:yQ H H1)(b:yQ H1 H2):yQ H H2:=fun c o h=>b c o (a c o h)
theorem yQ.free{H':Hp}(e:yQ H H'){l:Addr}(h:H' l=Option.none):H l=Option.none:=by
 cases q:H l with
 |none=>rfl
 |some o=>
  rw[e l o q]at h
  cases h
theorem yQ.seq{K:QQq}{H':Hp}{a:Addr}{xs:List V}(e:yQ H H')(h:iY K H a xs):iY K H' a xs:=by
 rcases h with (h|⟨o,h⟩)|h
 ·exact .inl (.inl (e _ _ h))
 ·exact .inl (.inr ⟨o,e _ _ h⟩)
 ·exact .inr h
end L2
end
section
namespace Mini
open PySem L2 PySem.SeqAt
def ph:Bool->Value->Bool
 |b,.bool c=>c==b
 |_,_=>false
variable{b:Bool}{v:Value}
theorem j0(h:ph b v=true):v=.bool b:=by
 cases v<;>simp_all[ph]
variable{Q:Bool->Shared->Prop}{a:Addr}
section
variable{prog:Program}{w:World}{A:Around}{E:QZq}{s:Shared}
theorem Gy{Q:Int->Shared->Prop}(h:Q (bh b) {s with toks:=s.toks+1}):wpAny (model prog w) A (pyHash (.bool b)) Q E s:=by
 refine PySem.W.pyHash_slot (T:="bool") rfl F.slot_bool_hash entry_int_hash (args_int_hash _) (beq_builtin_none _) (.inl rfl) ?_
 cases b
 ·exact(show wpAny _ _ (mkInt 0>>=fun x=>ret x) _ _ s from QKq (wpAny_mkInt (QKz ⟨_,_,rfl,h⟩)))
 ·exact(show wpAny _ _ (mkInt 1>>=fun x=>ret x) _ _ s from QKq (wpAny_mkInt (QKz ⟨_,_,rfl,h⟩)))
theorem K5{a:Bool}{u:Value}(h:ph a u=true)(g:ph b v=true)(q:Q (decide (a=b)) s):wpAny (model prog w) A (eqBool u v) Q E s:=by
 rw[j0 h,j0 g]
 refine EqAt.bool_bool a b _ _ _ _ ?_
 have e:(a==b)=decide (a=b):=by cases a<;>cases b<;>rfl
 rw[e]
 exact q
theorem Km(v:Value)(a b:Bool)(h:ph a v=true)(g:ph b v=true):a=b:=by
 have:=j0 h
 rw[j0 g]at this
 cases this
 rfl
theorem Kl(k:Bool)(x:Str)(t:Tok)(v:Value)(h:ph k (.str x t)=true):ph k v=v.isStr x:=by cases h
theorem Kg(k:Bool)(v:Value)(h:ph k v=true):carriedByValue v=true:=by rw[j0 h];rfl
def eY(prog:Program)(w:World):KeyKind prog w Bool:=⟨ph,bh,Km,Kg,fun h q=>by rw[j0 h];exact Gy q,fun h g q=>K5 h g q,Kl⟩
def oM(prog:Program)(w:World)(h:Heap)(k:SK)(a:Addr):Prop:=∃b t,h.IsTuple a #[.ref b,.int k.2 t]/\IsTupleKey (eY prog w) h k.1 b
def zm(prog:Program)(w:World)(k:SK):Int:=reduceHash (Builtin.Tuple.tupleHashOf [tupleKeyHash (eY prog w) k.1,hashInt k.2])
theorem Qs{k:SK}{Q:Int->Shared->Prop}(hu:A.units+1<cLine)(x:oM prog w s.heap k a)(h:Q (zm prog w k) {s with toks:=s.toks+(k.1.length+3)}):wpAny (model prog w) A (pyHash (.ref a)) Q E s:=by
 obtain⟨b,t,⟨o,ho,hc,n,hd⟩,kb⟩:=x
 have hu0:A.units<cLine:=by omega
 refine PySem.W.pyHash_slot (T:="tuple") ⟨o,ho,hc⟩ F.slot_tuple_hash F.entry_tuple_hash (F.args_tuple_hash_1 _) (beq_builtin_none _) (.inr hu0) ?_
 show wpAny _ A.in1 (Builtin.Tuple.tupleItemsOf (.ref a)>>=_) _ _ s
 refine QKq (wpAny_tupleItemsOf (n:=n) ho hd (QKq ?_))
 rw[<-Array.forIn_toList,List.forIn_cons]
 refine QKq (QKq (wpAny_pyHash_tuple (show A.in1.units<cLine from hu) kb ?_))
 refine QKz ?_
 show wpAny _ A.in1 (forIn [Value.int k.2 t] _ _) _ E _
 rw[List.forIn_cons]
 refine QKq (QKq (wpAny_pyHash_int (QKz ?_)))
 show wpAny _ A.in1 (forIn ([]:List Value) _ _) _ E _
 rw[List.forIn_nil]
 refine QKz (show wpAny _ A.in1 (mkInt (Builtin.Tuple.tupleHashOf [tupleKeyHash (eY prog w) k.1,hashInt k.2])>>=fun x=>ret x) _ E _ from QKq (wpAny_mkInt (QKz ⟨_,_,rfl,?_⟩)))
 unfold zm at h
 simpa[Nat.add_assoc]using h
theorem ye{P P':Program}{W W':World}{ks:List Bool}{vs:List Value}(x:ItemsAre (eY P W) ks vs):ItemsAre (eY P' W') ks vs:=by
 induction x with
 |nil=>exact .nil
 |cons a _ ih=>exact .cons a ih
theorem oM.inj{h:Heap}{a:Addr}{x y:SK}(g:oM prog w h x a)(f:oM prog w h y a):x=y:=by
 obtain⟨b,t,⟨o,ho,hc,n,hd⟩,kb⟩:=g
 obtain⟨b',t',⟨o',ho',hc',n',hd'⟩,kb'⟩:=f
 rw[ho]at ho'
 cases ho'
 rw[hd]at hd'
 simp only[Data.seq.injEq,Array.mk.injEq,List.cons.injEq,Value.ref.injEq,Value.int.injEq,and_true]at hd'
 obtain⟨⟨rfl,e,_⟩,_⟩:=hd'
 exact Prod.ext (kb.inj kb') e
theorem IsTuple.keep{h h':Heap}{d:Addr}{its:Array Value}{o:Obj}{es:Array DictEntry}{ep:Nat}(x:h.IsTuple a its)(ho:h.get? d=some o)(hd:o.data=.dict es ep)(hs:Heap.SameBut d h h'):h'.IsTuple a its:=by
 obtain⟨o',ho',hc,n,hd'⟩:=x
 have ne:a≠d:=fun z=>by
  subst z
  rw[ho]at ho'
  cases ho'
  rw[hd]at hd'
  cases hd'
 exact⟨o',(hs.2 a ne).trans ho',hc,n,hd'⟩
theorem oM.keep{h h':Heap}{k:SK}{a d:Addr}{o:Obj}{es:Array DictEntry}{ep:Nat}(x:oM prog w h k a)(ho:h.get? d=some o)(hd:o.data=.dict es ep)(hs:Heap.SameBut d h h'):oM prog w h' k a:=by
 obtain⟨b,t,g,kb⟩:=x
 exact⟨b,t,IsTuple.keep g ho hd hs,kb.keeps ho hd hs⟩
theorem abQ{x y:SK}{b:Addr}(hu:A.units+1<cLine)(g:oM prog w s.heap x a)(f:oM prog w s.heap y b)(q:Q (decide (x=y)) s):wpAny (model prog w) A (eqBool (.ref a) (.ref b)) Q E s:=by
 by_cases c:a=b
 ·subst c
  have:=g.inj f
  subst this
  exact EqAt.same _ _ _ _ _ (by simpa using q)
 ·obtain⟨a1,t,ga,ka⟩:=g
  obtain⟨b1,u,gb,kb⟩:=f
  have e0:EqAt A.in1 s (.ref a1) (.ref b1) (decide (x.1=y.1)):=fun P W E' Q' q'=>by
   have mv:∀{ks:List Bool}{c:Addr},IsTupleKey (eY prog w) s.heap ks c->IsTupleKey (eY P W) s.heap ks c:=fun z=>let ⟨o,its,n,h1,h2,h3,h4⟩:=z;⟨o,its,n,h1,h2,h3,ye h4⟩
   exact wpAny_eqBool_tuple (show A.in1.units<cLine from hu) (mv ka) (mv kb) q'
  have rc:=RcAt.tuples (A:=A) (e:=fun j=>if j=0 then decide (x.1=y.1)else x.2==y.2) ga gb (by omega) fun j h1 h2=>by
   match j,h1,h2 with
   |0,_,_=>exact e0
   |1,_,_=>exact EqAt.int_int _ _ _ _
  refine EqAt.of_refs c rc _ _ _ _ ?_
  have:((List.range (min 2 2)).all (fun j=>if j=0 then decide (x.1=y.1)else x.2==y.2)&&2==2)=decide (x=y):=by
   obtain⟨x1,x2⟩:=x
   obtain⟨y1,y2⟩:=y
   by_cases p:x1=y1<;>by_cases r:x2=y2<;>simp[List.range,List.range.loop,p,r]
  show Q ((List.range (min 2 2)).all (fun j=>if j=0 then decide (x.1=y.1)else x.2==y.2)&&2==2) s
  rw[this]
  exact q
theorem tY{d:Nat}{its:Array Value}(x:s.heap.IsTuple a its)(hq:∀v∈its.toList,∀R:Bool->Shared->Prop,R true s->wpAny (model prog w) A (eqIsQuiet d v) R E s)(q:Q true s):
  wpAny (model prog w) A (eqIsQuiet (d+1) (.ref a)) Q E s:=by
 obtain⟨o,ho,hc,n,hd⟩:=x
 have hT:s.TypeIs (.ref a) "tuple":=⟨o,ho,hc⟩
 unfold eqIsQuiet
 refine QKq (wpAny_specialOf hT F.slot_tuple_eq.lookup (show wpAny _ A (isInstance (.ref a) (.type "tuple")>>=_) _ E s from QKq (wpAny_isInstance hT isSubtype_tuple_tuple ?_)))
 rw[if_neg (by decide)]
 refine QKq (wpAny_seqItems (n:=n) ho hd (QKq ?_))
 show wpAny _ A (forIn its _ _) _ E s
 rw[<-Array.forIn_toList]
 refine wpAny_forIn_list _ (fun rest r s'=>s'=s/\r=(none,())/\∀v∈rest,v∈its.toList) _ (fun v rest r s'=>?_) (fun r s'=>?_) _ _ ⟨rfl,rfl,fun v hv=>hv⟩
 ·rintro ⟨rfl,rfl,hm⟩
  exact QKq (hq v (hm v QYz) _ (QKz ⟨rfl,rfl,fun u hu=>hm u (QYq _ hu)⟩))
 ·rintro ⟨rfl,rfl,_⟩
  exact QKz q
theorem tX(d:Nat)(hv:carriedByValue v=true){R:Bool->Shared->Prop}(r:R true s):wpAny (model prog w) A (eqIsQuiet d v) R E s:=by
 rw[eqIsQuiet_byValue d hv]
 exact QKz r
theorem I9{k:SK}(x:oM prog w s.heap k a)(q:Q true s):wpAny (model prog w) A (eqIsQuiet 8 (.ref a)) Q E s:=by
 obtain⟨b,t,g,o,its,n,h1,h2,h3,h4⟩:=x
 refine tY g (fun v hv R r=>?_) q
 simp only[QCq,QAz,or_false]at hv
 rcases hv with rfl|rfl
 ·exact tY ⟨o,h1,h2,n,h3⟩ (fun v hv R r=>tX _ (h4.byValue v hv) r) r
 ·exact tX _ rfl r
noncomputable def jw(prog:Program)(w:World):HeapKind prog w SK where
 is:=oM prog w
 hash:=zm prog w
 draws:=fun k=>k.1.length+3
 room:=fun A=>A.units+1<cLine
 inj:=fun g f=>g.inj f
 keeps:=fun x ho hd hs=>x.keep ho hd hs
 pyHash:=fun hu x q=>Qs hu x q
 eqBool:=fun hu g f q=>abQ hu g f q
 quiet:=fun x q=>I9 x q
end
end Mini
end
section
namespace Mini
open PySem L2
abbrev sD(xs:List SV):HO:=.dS xs
def cB(K:QQq)(H:Hp)(k:SK)(a:Addr):Prop:=∃b,gO K H a [.ref b,.int k.2]/\gO K H b (k.1.map .bl)
def xX(k:SK):List SV->Option V
 |[]=>none
 |x::xs=>if x.1=k then some x.2.2 else xX k xs
def rT(k:SK)(a:Addr)(v:V)(xs:List SV):List SV:=if (xX k xs).isSome then xs.map (fun x=>if x.1=k then(x.1,x.2.1,v)else x)else xs++[(k,a,v)]
theorem pG:∀{xs:List SV}{ys:List (SK×Addr×Value)},Paired MT xs ys->ys.map (·.1)=xs.map (·.1)
 |_,_,.nil=>rfl
 |_,_,.cons h t=>by simp[pG t,h.1]
theorem xW{k:SK}:∀{xs:List SV}{ys:List (SK×Addr×Value)},Paired MT xs ys->lL (xX k xs) ((atKey ys k).map (·.2))
 |_,_,.nil=>trivial
 |x::xs,y::ys,.cons h t=>by
  have ih:=xW (k:=k) t
  simp only[xX,atKey,List.find?_cons]
  rw[h.1]
  by_cases c:y.1=k
  ·simp only[c,if_true,decide_true,Option.map_some]
   exact h.2.2
  ·simp only[c,if_false,decide_false]
   exact ih
variable{P:Program}{Q:QZq}{v:V}
section
variable{X:Cx}{QLz:QQz}{σ:L2.St}{H:Hp}{s:Shared}{A:Around}{E:QZq}{d a:Addr}{k:SK}{xs:List SV}
theorem yf{P:Program}{W:World}:∀{bs:List Bool}{us:List Value},Vals (bs.map V.bl) us->ItemsAre (eY P W) bs us
 |[],_,r=>by cases r;exact .nil
 |b::bs,_,r=>by
  cases r with
  |cons h t=>
   cases h
   exact .cons (by show ph b (.bool b)=true;simp[ph]) (yf t)
theorem nO(I:L2.Inv X QLz σ H s)(h:cB X.K H k a):oM X.prog X.w s.heap k a:=by
 obtain⟨b,h1,h2⟩:=h
 obtain⟨its,r,p,_⟩:=I.tuple h1
 obtain⟨its2,r2,p2,_⟩:=I.tuple h2
 obtain⟨u,v,rfl,ru,rv⟩:=Vals.two r
 cases ru
 obtain⟨t,rfl⟩:=rv
 obtain⟨o,q1,q2,n,q3⟩:=p2
 exact⟨b,t,p,o,its2.toArray,n,q1,q2,q3,yf r2⟩
theorem gA(I:L2.Inv X QLz σ H s)(hd:Rd H d (sD xs))(hk:∀x∈xs,cB X.K H x.1 x.2.1):∃ys,Paired MT xs ys/\s.heap.DictOfH (jw X.prog X.w) d ys/\(d==sysModules)=false/\xs.length<=sizeLine:=by
 obtain⟨z,y,nd,ys,o,es,ep,pr,h1,h2,h3,h4⟩:=(show bN X.prog X.w H s.heap d (.dS xs)from BZ I.hok hd)
 refine⟨ys,pr,⟨o,es,ep,h1,h2,h3,h4,?_,by rw[pG pr];exact nd⟩,y,z⟩
 have go:∀{xs:List SV}{ys:List (SK×Addr×Value)},Paired MT xs ys->(∀x∈xs,cB X.K H x.1 x.2.1)->∀y∈ys,oM X.prog X.w s.heap y.1 y.2.1:=by
  intro xs ys pr
  induction pr with
  |nil=>intro _ y hy;cases hy
  | @cons x y xs ys h t ih=>
   intro hk q hq
   rcases QCq.mp hq with rfl|hq
   ·rw[<-h.1,<-h.2.1];exact nO I (hk x QYz)
   ·exact ih (fun z hz=>hk z (QYq _ hz)) q hq
 exact go pr hk
theorem aej(hu:A.units+2<cLine)(I:L2.Inv X QLz σ H s)(hd:Rd H d (sD xs))(hk:∀x∈xs,cB X.K H x.1 x.2.1)(ha:cB X.K H k a)(h:∀s',L2.Inv X QLz σ H s'->Q (.bool (xX k xs).isSome) s'):
  wpAny (model X.prog X.w) A (compareOp .In (.ref a) (.ref d)) Q E s:=by
 obtain⟨ys,pr,dd,y,z⟩:=gA I hd hk
 refine wpAny_in_heap (knd:=jw X.prog X.w) (show A.in1.units+1<cLine from hu) (nO I ha) y dd ?_
 have e:(atKey ys k).isSome=(xX k xs).isSome:=by rw[(xW (k:=k) pr).cU];simp
 rw[e]
 exact h _ (I.tok _)
theorem Oe(hu:A.units+2<cLine)(I:L2.Inv X QLz σ H s)(hd:Rd H d (sD xs))(hk:∀x∈xs,cB X.K H x.1 x.2.1)(ha:cB X.K H k a)(h:∀s',L2.Inv X QLz σ H s'->Q (.bool (!(xX k xs).isSome)) s'):
  wpAny (model X.prog X.w) A (compareOp .NotIn (.ref a) (.ref d)) Q E s:=by
 obtain⟨ys,pr,dd,y,z⟩:=gA I hd hk
 refine PyProof.Rows.wpAny_notIn_heap (knd:=jw X.prog X.w) (show A.in1.units+1<cLine from hu) (nO I ha) y dd ?_
 have e:(atKey ys k).isSome=(xX k xs).isSome:=by rw[(xW (k:=k) pr).cU];simp
 rw[e]
 exact h _ (I.tok _)
theorem Fe(hu:A.units+2<cLine)(I:L2.Inv X QLz σ H s)(hd:Rd H d (sD xs))(hk:∀x∈xs,cB X.K H x.1 x.2.1)(ha:cB X.K H k a)(hv:xX k xs=some v)(h:∀u s',L2.Inv X QLz σ H s'->RelV v u->Q u s'):
  wpAny (model X.prog X.w) A (getItem (.ref d) (.ref a)) Q E s:=by
 obtain⟨ys,pr,dd,y,z⟩:=gA I hd hk
 obtain⟨u,hw,ru⟩:=lL.some_of (v:=v) (o:=(atKey ys k).map (·.2)) (by rw[<-hv];exact xW pr)
 obtain⟨p,hp,rfl⟩:=QJz.mp hw
 exact wpAny_getItem_heap (knd:=jw X.prog X.w) (show A.in1.units+1<cLine from hu) (nO I ha) dd hp (h _ _ (I.tok _) ru)
theorem xJ{r:Value}(rv:RelV v r){ys:List (SK×Addr×Value)}(pr:Paired MT xs ys):Paired MT (rT k a v xs) (storedH ys k a r):=by
 have e:(atKey ys k).isSome=(xX k xs).isSome:=by rw[(xW (k:=k) pr).cU];simp
 unfold rT storedH
 rw[e]
 split
 ·rename_i z
  clear e z
  induction pr with
  |nil=>exact .nil
  | @cons x y xs ys h t ih=>
   refine .cons ?_ ih
   show MT (if x.1=k then(x.1,x.2.1,v)else x) (putAt k r y)
   unfold putAt
   by_cases c:y.1=k
   ·rw[if_pos c,if_pos (h.1.trans c)];exact⟨h.1,h.2.1,rv⟩
   ·rw[if_neg c,if_neg fun q=>c (h.1.symm.trans q)];exact h
 ·exact Paired.snoc pr ⟨rfl,rfl,rv⟩
theorem O5(v:V):(rT k a v xs).length<=xs.length+1:=by
 unfold rT
 split<;>simp
theorem RP{w:World}{H':Hp}{h':Heap}{ys:List (SK×Addr×Value)}(z:xs.length<=sizeLine)(y:(d==sysModules)=false)(pr:Paired MT xs ys)(dd:h'.DictOfH (jw P w) d ys):bN P w H' h' d (sD xs):=by
 obtain⟨o,es,ep,h1,h2,h3,h4,h5,h6⟩:=dd
 exact⟨z,y,by rw[<-pG pr];exact h6,ys,o,es,ep,pr,h1,h2,h3,h4⟩
theorem Fd{r:Value}{Q:Unit->Shared->Prop}(hu:A.units+2<cLine)(I:L2.Inv X QLz σ H s)(hd:H d=some (sD xs))(hk:∀x∈xs,cB X.K H x.1 x.2.1)(ha:cB X.K H k a)(hl:xs.length<sizeLine)(rv:RelV v r)
  (h:∀s',L2.Inv X QLz σ (upd H d (sD (rT k a v xs))) s'->Q () s'):wpAny (model X.prog X.w) A (setItem (.ref d) (.ref a) r) Q E s:=by
 obtain⟨ys,pr,dd,y,z⟩:=gA I (.inl hd) hk
 have hz:ys.length<=sizeLine:=by
  have:=congrArg List.length (pG pr)
  simp at this
  omega
 refine wpAny_setItem_heap (knd:=jw X.prog X.w) (hsz:=hz) (show A.in1.units+1<cLine from hu) (nO I ha) dd fun h' dd' hs=>h _ ?_
 have he:∃q,h'.get? d=some q:=let ⟨q,_,_,hq,_⟩:=dd';⟨q,hq⟩
 have pl:=O5 (k:=k) (a:=a) (xs:=xs) v
 exact iJ I (by rw[hd];exact True.intro) hs he (RP (by omega) y (xJ rv pr) dd')
end
theorem Es{d:Addr}{x y:Value}{W:World}{A:Around}{E:QZq}{s:Shared}{Q:PUnit->Shared->Prop}(h:wpAny (model P W) A (dictSet d x y) (fun _ s'=>Q PUnit.unit s') E s):wpAny (model P W) A (storeAll d [(x,y)]) Q E s:=by
 unfold storeAll
 rw[List.forIn_cons]
 refine QKq (QKq (bW h fun _ s' q=>QKz ?_))
 show wpAny _ _ (forIn ([]:List (Value×Value)) PUnit.unit _) _ _ _
 rw[List.forIn_nil]
 exact QKz q
def ZZ(K:QQq)(lM:List (TE×TE)):TE:=fun σ H Q=>∀p,H p=none->uZ lM σ (upd H p (.dK [])) fun ps H2=>H2 p=some (.dK [])/\∃k a v,ps=[(.ref a,v)]/\cB K H2 k a/\Q (.ref p) (upd H2 p (sD [(k,a,v)]))
variable{h:Heap}
theorem bare{w:World}{a:Addr}(d:h.DictOf (bJ P w) a []):h.DictOfH (jw P w) a []:=by
 obtain⟨o,es,ep,h1,h2,h3,h4,h5,h6⟩:=d
 have e:es.toList=[]:=by
  cases q:es.toList with
  |nil=>rfl
  |cons x y=>rw[q]at h5;cases h5
 exact⟨o,es,ep,h1,h2,h3,by simp[e],fun x hx=>(nomatch hx),List.nodup_nil⟩
theorem Pq{X:Cx}{pos:Pos}{keys:List (Option Expr)}{values:List Expr}{lM:List (TE×TE)}(hu:X.A.units+2<cLine)(h:PPs X pos keys values lM)(hall:keys.all (·.isSome)=true)(hl:keys.length=values.length)(h0:keys≠[])
  (h15:keys.length<=15):PE X (.Dict keys values pos) (ZZ X.K lM):=by
 intro QLz s σ H Q I q
 have hn:=I.hok.fresh (QVz s.heap.objs.size)
 have I1:=I.laid (a:=s.heap.objs.size) (o:=.dK []) (h':=s.heap.push {cls:=.type "dict",data:=.dict #[]}) (t':=s.toks) (fun _ _ q=>QWq _ q) (QVz _) (q8 s.heap I.big)
 refine wpAny_Dict_any hall hl h0 h15 (bW (h QLz _ σ _ _ I1 (q _ hn)) fun ws s2⟨ps,H2,I2,rel,e,z⟩=>?_)
 obtain⟨_,hd,vs0,r0,dd⟩:=yG I2.hok e
 cases r0
 obtain⟨k,a,v,ep,ka,q2⟩:=z
 ·subst ep
  cases rel with
  | @cons _ b _ bs rv t=>
   cases t
   obtain⟨b1,b2⟩:=b
   obtain⟨r1,r2⟩:=rv
   cases r1
   refine Es (wpAny_dictSet_heap (knd:=jw X.prog X.w) (hsz:=by simp) (show X.A.units+1<cLine by omega) (nO I2 ka) (bare dd) fun h' dd' hs=>?_)
   have he:∃q,h'.get? s.heap.objs.size=some q:=let ⟨q,_,_,hq,_⟩:=dd';⟨q,hq⟩
   refine⟨.ref s.heap.objs.size,_,iJ I2 (by rw[e];exact True.intro) hs he (RP (by rw[sizeLine_eq];show 1<=_;decide) hd (xJ r2 .nil) dd'),rfl,q2⟩
def pD(h:Heap)(d:Addr)(es:Array DictEntry)(ep:Nat):Prop:=∃o,h.get? d=some o/\o.ExactDict/\o.data=.dict es ep
section
variable{prog:Program}{w:World}{A:Around}{E:QZq}{s:Shared}{d it:Addr}{es:Array DictEntry}{i ep:Nat}
theorem G8(y:(d==sysModules)=false)(B:pD s.heap d es ep)
  (q:Q (.ref s.heap.objs.size) {s with heap:=s.heap.push {cls:=.type "dict_keyiterator",data:=.fields #[.ref d,.int 0 0,.int es.size 0,.int ep 0]}}):wpAny (model prog w) A (pyIter (.ref d)) Q E s:=by
 obtain⟨o,h1,h2,h3⟩:=B
 have t:s.TypeIs (.ref d) "dict":=⟨o,h1,h2.1⟩
 refine wpAny_pyIter_slot t F.slot_dict_iter (Qzz F.slot_dict_iter t F.entry_dict_iter ?_ (F.args_dict_iter_1 _))
 unfold Builtin.«dict.__iter__» Builtin.Dict.dictSlotNone
 refine QKq (QKq (wpAny_notOrdered_dict t (QKz ?_)))
 show wpAny _ _ (Builtin.Dict.showsAll d>>=_) _ _ s;unfold Builtin.Dict.showsAll;rw[if_neg (by rw[y];decide)]
 refine QKq (QKz (QKq (wpAny_dictEntries h1 h3 (QKq (wpAny_dictEpoch h1 h3 ?_)))))
 refine QKq (Qjq (QKz ⟨_,rfl,"dict_keyiterator",_,⟨_,Qzq _ rfl,rfl⟩,F.slot_dict_keyiterator_next.lookup,q⟩))
theorem G9{e:DictEntry}{Q:Option Value->Shared->Prop}(st:s.heap.IsKeyIter it d i es.size ep)(B:pD s.heap d es ep)(x:es[i]? =some e)
  (q:∀h',h'.IsKeyIter it d (i+1) es.size ep->Heap.SameBut it s.heap h'->Q (some e.key) {s with heap:=h'}):wpAny (model prog w) A (pyNext (.ref it)) Q E s:=by
 obtain⟨o,g1,g2,g3⟩:=id st
 obtain⟨od,h1,h2,h3⟩:=B
 unfold pyNext
 refine QKq (wpAny_attempt (wpAny_callSpecial?_slot (name:=Str.ofString "__next__") st.typeIs F.slot_dict_keyiterator_next (Qzz F.slot_dict_keyiterator_next st.typeIs F.entry_dict_keyiterator_next ?_ (F.args_dict_keyiterator_next_1 _))))
 refine QKq (QKz (QKq (QKq ?_)))
 first|refine QKq (wpAny_typeNameOfWhole_keyiter st.typeIs (QKz ?_))|refine QKq (wpAny_typeNameOf_keyiter st.typeIs (QKz ?_))
 refine QKq (wpAny_fieldsOf g1 g3 ?_)
 simp only[show Builtin.Dict_items.ownsTuple "dict_keyiterator"=false by decide,Qxq,if_false]
 show wpAny _ _ (if (Value.ref d==Value.none)=true then _ else _) _ _ s;rw[if_neg (show¬((Value.ref d==Value.none)=true)from nofun)]
 refine QKq (QKz (QKq (wpAny_dictEntries h1 h3 ?_)))
 rw[if_neg (by simp)]
 refine QKq (QKz (QKq (wpAny_dictEpoch h1 h3 ?_)))
 rw[if_neg (by simp)]
 refine QKz ?_
 simp only[show¬((i:Int)<0) by omega,if_false,Int.toNat_natCast,x]
 refine QKq ?_
 first|refine QKq (wpAny_typeNameOfWhole_keyiter st.typeIs (QKz ?_))|refine QKq (wpAny_typeNameOf_keyiter st.typeIs (QKz ?_))
 refine QKq (wpAny_isOneOf_keyiter st.typeIs ?_)
 show wpAny _ _ (setField (.ref it) 1 (rawInt ((i:Int)+1))>>=_) _ _ s;refine QKq (wpAny_setField g1 g3 (by simp) ?_)
 have st':(s.heap.update it (Obj.mapFields (·.setIfInBounds 1 (rawInt ((i:Int)+1))))).IsKeyIter it d (i+1) es.size ep:=⟨_,Heap.get?_update_self _ g1 (Obj.isFreed_of_fields (Obj.data_mapFields g3 _)),(Obj.cls_mapFields ..).trans g2,by rw[Obj.data_mapFields g3];simp[rawInt]⟩
 refine QKq (Qqq (QKq (wpAny_isOneOf_keyiter (s:={s with heap:=s.heap.update it (Obj.mapFields (·.setIfInBounds 1 (rawInt ((i:Int)+1))))}) st'.typeIs ?_)))
 show wpAny _ _ (pure e.key) _ _ _
 exact QKz (QKz ⟨_,rfl,QKz (q _ st' (Heap.SameBut.update ..))⟩)
theorem LC{Q:Option Value->Shared->Prop}(hh:A.handled=none)(st:s.heap.IsKeyIter it d i es.size ep)(B:pD s.heap d es ep)(x:es.size<=i)
  (q:∀h',Heap.ExtBut it s.heap h'->Q none {s with heap:=h'}):wpAny (model prog w) A (pyNext (.ref it)) Q E s:=by
 obtain⟨o,g1,g2,g3⟩:=id st
 obtain⟨od,h1,h2,h3⟩:=B
 unfold pyNext
 refine QKq (wpAny_attempt (wpAny_callSpecial?_slot (name:=Str.ofString "__next__") st.typeIs F.slot_dict_keyiterator_next (Qzz F.slot_dict_keyiterator_next st.typeIs F.entry_dict_keyiterator_next ?_ (F.args_dict_keyiterator_next_1 _))))
 refine QKq (QKz (QKq (QKq ?_)))
 first|refine QKq (wpAny_typeNameOfWhole_keyiter st.typeIs (QKz ?_))|refine QKq (wpAny_typeNameOf_keyiter st.typeIs (QKz ?_))
 refine QKq (wpAny_fieldsOf g1 g3 ?_)
 simp only[show Builtin.Dict_items.ownsTuple "dict_keyiterator"=false by decide,Qxq,if_false]
 show wpAny _ _ (if (Value.ref d==Value.none)=true then _ else _) _ _ s;rw[if_neg (show¬((Value.ref d==Value.none)=true)from nofun)]
 refine QKq (QKz (QKq (wpAny_dictEntries h1 h3 ?_)))
 rw[if_neg (by simp)]
 refine QKq (QKz (QKq (wpAny_dictEpoch h1 h3 ?_)))
 rw[if_neg (by simp)]
 refine QKz ?_
 simp only[show¬((i:Int)<0) by omega,if_false,Int.toNat_natCast,Array.getElem?_eq_none x]
 refine QKq ?_
 first|refine QKq (wpAny_typeNameOfWhole_keyiter st.typeIs (QKz ?_))|refine QKq (wpAny_typeNameOf_keyiter st.typeIs (QKz ?_))
 show wpAny _ _ (setField (.ref it) 0 .none>>=_) _ _ s;refine QKq (wpAny_setField g1 g3 (by simp) ?_)
 show wpAny _ _ (newExc (.type "StopIteration") []>>=_) _ _ _;refine QKq ?_
 simp only[newExc,newTuple]
 refine QKq (Qjq (QKq (m:=firstArgMember _ _) (wpAny_of_eq (a:=Value.none) (by first|rfl|(simp only[firstArgMember];rfl)) ?_)) (by size_fits))
 refine Qjq ?_ (by size_fits);simp only[raiseNew]
 refine QKq (wpAny_handled ?_);rw[show A.in1.handled=none from hh]
 refine QKq (QKz (wpAny_throw ?_));refine QKq (wpAny_isInstance (T:="StopIteration") (b:=true) ⟨_,Qzq _ rfl,rfl⟩ isSubtype_stop ?_)
 exact QKz (q _ (((Heap.SameBut.update ..).extBut.push _).push _))
end
section
variable{prog:Program}{w:World}{A:Around}{E:QZq}{s:Shared}{d it:Addr}{es:Array DictEntry}{ep:Nat}
theorem pD.stay{h':Heap}(B:pD h d es ep)(k:∀o,h.get? d=some o->h'.get? d=some o):pD h' d es ep:=let ⟨o,e,r⟩:=B;⟨o,k _ e,r⟩
theorem pD.lt(B:pD h d es ep):d<h.objs.size:=let ⟨_,e,_⟩:=B;Qqz e
theorem pD.type(B:pD s.heap d es ep):s.TypeIs (.ref d) "dict":=let ⟨o,e,c,_⟩:=B;⟨o,e,c.1⟩
theorem Bh(hh:A.handled=none)(ne:d≠it):Walks prog w A it [it,d] [it] es.size (fun i v=>∃e,es[i]? =some e/\v=e.key) (fun i h=>h.IsKeyIter it d i es.size ep/\pD h d es ep) where
 sub:=fun b hb=>QCq.mpr (.inl (QDz.mp hb))
 frame:=fun _ _ _ st k=>⟨st.1.at fun o e=>k it QYz o e,st.2.stay fun o e=>k d (QYq _ QYz) o e⟩
 item:=fun i s Q E hi st q=>G9 st.1 st.2 (e:=es[i]) (Array.getElem?_eq_getElem hi) fun h' st' sb=>q _ h' s.toks ⟨es[i],Array.getElem?_eq_getElem hi,rfl⟩ ⟨st',st.2.stay fun o e=>(sb.2 d ne).trans e⟩ fun b o hb e=>(sb.2 b fun z=>hb (QDz.mpr z)).trans e
 done:=fun s Q E st q=>LC hh st.1 st.2 (QVz _) fun h' eb=>q h' s.toks fun b o hb e=>eb b o (fun z=>hb (QDz.mpr z)) e
 self:=fun _ _ _ _ st q=>wpAny_pyIter_keyiter st.1 q
theorem Lz(y:(d==sysModules)=false):PySem.W.KdlSrc prog w "dict" d d es.size (fun i v=>∃e,es[i]? =some e/\v=e.key) (fun h=>pD h d es ep) where
 type:=fun _ B=>B.type
 there:=fun _ B=>⟨B.lt,B.lt⟩
 keep:=fun _ _ B k=>B.stay fun o e=>k d (.inl rfl) o e
 notList:=by decide
 notTuple:=by decide
 hint:=fun _ _ _ _ B q=>PySem.W.kdl_hint_dict B.type q
 iter:=fun _ _ hh B=>⟨_,_,(fun _ _ q=>G8 y B q),Bh hh (Qvz B.lt),⟨⟨_,Qzq _ rfl,rfl,rfl⟩,B.stay fun o e=>QWq _ e⟩⟩
end
section
variable{X:Cx}
theorem Ow{P:Program}{w:World}:∀{xs:List SV}{ys:List (SK×Addr×Value)}{vs:List Value},Paired MT xs ys->vs=ys.map (fun y=>Value.ref y.2.1)->Vals (xs.map fun x=>V.ref x.2.1) vs:=by
 intro xs ys vs pr e
 subst e
 induction pr with
 |nil=>exact .nil
 |cons h t ih=>exact .cons (by show Value.ref _=Value.ref _;rw[h.2.1]) ih
theorem Bc(hc:X.calm=true):fJ X (.type "list") (fun xs H Q=>(∃p ys,xs=[.ref p]/\(iY X.K H p ys\/gO X.K H p ys)/\∀l,H l=none->Q (.ref l) (upd H l (.lst ys)))\/
  ∃a ks,xs=[.ref a]/\Rd H a (sD ks)/\∀l,H l=none->Q (.ref l) (upd H l (.lst (ks.map fun x=>.ref x.2.1)))):=by
 intro QLz s σ H xs us Q I r h
 rcases h with h|⟨a,ks,rfl,e,q⟩
 ·exact v9 QLz s σ H xs us Q I r h
 obtain⟨u,rfl,rx⟩:=vals1 r
 cases rx
 obtain⟨z,y,nd,ys,o,es,ep,pr,h1,h2,h3,h4⟩:=(show bN X.prog X.w H s.heap a (.dS ks)from BZ I.hok e)
 have le:es.size=ys.length:=by rw[<-Array.length_toList,h4,QAq]
 have lk:ks.length=ys.length:=Paired.length pr
 refine PySem.W.kdl_call (Lz (es:=es) (ep:=ep) y) (I.ok.hd hc) ⟨o,h1,h2,h3⟩ (by omega) fun h' tk acc c' kp g it=>?_
 have ev:acc.toList=ys.map fun y=>Value.ref y.2.1:=by
  refine List.ext_getElem? fun i=>?_
  rw[Array.getElem?_toList,QFz]
  by_cases hi:i<acc.size
  ·obtain⟨e,e1,e2⟩:=it.2 i acc[i] (Array.getElem?_eq_getElem hi)
   rw[<-Array.getElem?_toList,h4,QFz]at e1
   obtain⟨p,p1,p2⟩:=QJz.mp e1
   rw[Array.getElem?_eq_getElem hi,p1,e2,<-p2]
   rfl
  ·have:acc.size=ys.length:=by rw[it.1,le]
   rw[Array.getElem?_eq_none (by omega),List.getElem?_eq_none (by omega)]
   rfl
 refine⟨.ref s.heap.objs.size,_,I.laid (t':=tk) kp (QVz _) (show bN X.prog X.w _ h' _ (.lst _)from⟨by rw[QAq];omega,acc.toList,c',Ow (P:=X.prog) (w:=X.w) pr ev,by simpa using g⟩),rfl,q _ (I.hok.fresh (QVz _))⟩
end
end Mini
end
section
namespace Mini
open PySem
inductive D where
 |non|bl (b:Bool)|int (i:Int)|str (x:Str)
 |tup (xs:List D)|lst (xs:List D)|cH (ks:List D) (vs:List D)|jf (ks:List D) (vs:List D)
 deriving Inhabited
inductive Ob where
 |lst (xs:List D)|dct (ks vs:List D)|sdt (ks vs:List D)
 deriving Inhabited
noncomputable def Ob.d:Ob->D
 |.lst xs=>.lst xs
 |.dct ks vs=>.cH ks vs
 |.sdt ks vs=>.jf ks vs
inductive Sl where
 |un|val (d:D)|own (o:Ob)|bor (o:Ob)
 deriving Inhabited
abbrev Ev:=List Sl
inductive Rv where
 |val (d:D)|new (o:Ob)|ref (i:Nat)|tmp (o:Ob)
noncomputable def Rv.jG:Rv->Option D
 |.val d=>some d
 |.new o=>some o.d
 |_=>none
noncomputable def Rv.wZ:Rv->Option Sl
 |.val d=>some (.val d)
 |.new o=>some (.own o)
 |_=>none
def aV:List Rv->Option (List D)
 |[]=>some []
 |r::rs=>r.jG.bind fun d=>(aV rs).map (d:: ·)
inductive Out(α:Type)where
 |ok (a:α) (σ:Ev)|exc (c:Nat) (σ:Ev)|bad
noncomputable def Out.bind{α β:Type}:Out α->(α->Ev->Out β)->Out β
 |.ok a σ,f=>f a σ
 |.exc c σ,_=>.exc c σ
 |.bad,_=>.bad
noncomputable def Out.ak{β:Type}:Out Rv->(D->Ev->Out β)->Out β
 |.ok (.val d) σ,f=>f d σ
 |.ok (.new o) σ,f=>f o.d σ
 |.ok _ _,_=>.bad
 |.exc c σ,_=>.exc c σ
 |.bad,_=>.bad
def Out.cj{β:Type}(tr:D->Option Bool)(r:Out Rv)(f:Bool->Ev->Out β):Out β:=
 r.ak fun d σ=>match tr d with|some b=>f b σ|none=>.bad
noncomputable def Out.map{α β:Type}(g:α->β):Out α->Out β
 |.ok a σ=>.ok (g a) σ
 |.exc c σ=>.exc c σ
 |.bad=>.bad
def lift{α:Type}(σ:Ev):Option α->Out α
 |some a=>.ok a σ
 |none=>.bad
inductive M3 where
 |add|sub|mul|mod|fdiv|pow
 deriving DecidableEq
inductive Cm where
 |eq|ne|lt|le|gt|ge|isin|notin|f9|notN
 deriving DecidableEq
inductive Ty where
 |tup|lst|str|bool|int|cH
 deriving DecidableEq
inductive Bi where
 |all|any|tuple|list|sorted|int|dict|len|copy
 deriving DecidableEq
inductive Tg where
 |name (i:Nat)|tup (is:List Nat)
inductive E where
 |var (i:Nat)|con (d:D)|glob (k:Nat)
 |nil|cons (h t:E)
 |tup (es:E)|lis (es:E)
 |op (o:M3) (a b:E)|neg (a:E)|cmp (o:Cm) (a b:E)|chain (o₁ o₂:Cm) (a b c:E)
 |and (es:E)|or (es:E)|not (a:E)|ite (c a b:E)
 |idx (a i:E)|slc (a lo hi:E)|noneE
 |call (f:Nat) (args:E)|ref (i:Nat)|tmp (e:E)|rd (e:E)
 |isi (a:E) (t:Ty)|bi (b:Bi) (a:E)
 |range1 (a:E)|zip (a b:E)
 |count (a b:E)|popAt (i:Nat) (a:E)
 |get2 (d k x:E)|dsp (es:E)|enum (a:E)|emp
 |comp (nl:Nat) (tg:Tg) (it:E) (cond:E) (elt:E)
inductive S where
 |nil|cons (h t:S)
 |set (i:Nat) (e:E)|setT (is:List Nat) (e:E)|setIx (i:Nat) (ix e:E)
 |expr (e:E)|append (i:Nat) (e:E)
 |ret (e:E)|ite (c:E) (a b:S)
 |for_ (tg:Tg) (it:E) (b:S)|while_ (c:E) (b:S)
 |raise (c:Nat)|pass|brk|cont
abbrev AAG:E:=.con (.int 1)
abbrev AAH:E:=.con (.int 0)
abbrev AAL:E:=.con (.bl true)
abbrev AAP:S:=.cons (.ret (.con (.bl false))) .nil
abbrev AAQ:E:=.call 35 (.cons (.var 0) (.cons (.ref 1) (.cons (.con (.int 2)) .nil)))
abbrev AAR:E:=.cons (.var 1) (.cons (.var 2) .nil)
abbrev AAS:E:=.cons (.con (.str "p")) (.cons (.con (.str "q")) (.cons (.con (.str "rr")) (.cons (.con (.str "go")) (.cons (.con (.str "abcdef")) .nil))))
abbrev AAT:E:=.cons (.var 0) .nil
abbrev AAV:E:=.cons (.var 3) .nil
abbrev AAX:E:=.call 35 (.cons (.var 1) (.cons (.ref 2) (.cons (.con (.int 2)) .nil)))
abbrev AAZ:E:=.cons (.con (.int 3)) .nil
abbrev AAa:E:=.cons (.con (.int 2)) (.cons (.con (.int 2)) .nil)
abbrev AAb:E:=.idx (.var 0) AAG
abbrev AAc:E:=.idx (.var 0) AAH
abbrev AAd:S:=.cons (.set 5 (.call 32 (.cons (.call 22 (.cons (.var 0) (.cons (.var 1) (.cons (.var 4) .nil)))) (.cons (.var 5) (.cons (.var 6) .nil))))) (.cons (.append 3 (.tup (.cons (.var 7) (.cons (.op .sub (.op .add (.var 6) AAG) (.popAt 5 (.var 7))) .nil)))) (.cons (.set 4 (.call 24 (.cons (.var 0) (.cons (.var 1) (.cons (.var 4) (.cons (.var 7) .nil)))))) .nil))
abbrev AAe:S:=.cons (.append 3 (.tup (.cons (.idx (.var 2) (.var 4)) (.cons (.tup (.cons (.con (.str "held")) (.cons (.tup (.cons (.con (.str "same")) (.cons (.idx (.var 2) (.op .sub (.var 4) AAG)) .nil))) (.cons (.idx (.var 2) (.op .mod (.op .add (.var 4) AAG) (.bi .len (.var 2)))) (.cons (.con (.bl false)) .nil))))) .nil)))) .nil
abbrev AAf:E:=.con (.int 2)
abbrev AAg:S:=.cons (.set 7 AAQ) (.cons (.append 5 (.tup (.cons (.var 6) (.cons (.tup (.cons (.idx (.lis (.cons (.con (.str "same")) (.cons (.con (.str "not")) .nil))) (.var 7)) AAV)) .nil)))) (.cons (.append 4 (.cmp .eq (.idx (.var 4) (.neg AAG)) (.cmp .eq (.var 7) AAH))) (.cons (.set 3 (.var 6)) .nil)))
abbrev AAh:E:=.idx (.var 2) AAG
abbrev AAi:E:=.cons (.var 1) .nil
abbrev AAj:E:=.cmp .ne (.call 15 (.cons (.var 1) (.cons (.idx (.var 4) (.var 0)) (.cons (.var 4) .nil)))) (.idx (.var 4) (.var 0))
abbrev AAk:S:=.set 2 (.slc (.lis (.cons (.con (.str "p")) (.cons (.con (.str "q")) (.cons (.con (.str "rr")) (.cons (.con (.str "go")) .nil))))) .noneE (.op .add AAG (.call 35 (.cons (.var 0) (.cons (.ref 1) (.cons (.con (.int 4)) .nil))))))
abbrev AAl:E:=.or (.cons (.not (.call 9 (.cons (.idx (.var 1) AAH) (.cons (.var 2) (.cons AAH (.cons (.bi .len (.var 2)) .nil)))))) (.cons (.not (.call 3 (.cons (.idx (.var 1) AAG) (.cons AAG (.cons (.glob 8) .nil))))) .nil))
abbrev AAm:E:=.cons (.var 1) (.cons (.var 2) (.cons (.var 6) .nil))
abbrev AAn:S:=.set 4 (.slc (.tup (.cons (.con (.str "a")) (.cons (.con (.str "b")) (.cons (.con (.str "come")) .nil)))) .noneE (.call 35 (.cons (.var 0) (.cons (.ref 1) (.cons (.op .add (.var 2) AAG) .nil)))))
abbrev AAo:E:=.op .add AAG (.call 35 (.cons (.var 0) (.cons (.ref 1) AAV)))
abbrev AAp:E:=.cons (.var 0) (.cons (.idx (.lis (.cons (.get2 (.var 8) (.var 0) (.op .add (.var 9) AAG)) (.cons (.op .add (.var 9) AAG) .nil))) (.bi .int (.cmp .eq (.var 0) (.var 10)))) .nil)
abbrev AAq:E:=.call 14 (.cons (.var 0) (.cons (.idx (.var 2) AAH) .nil))
abbrev AAr:E:=.or (.cons (.cmp .notin (.var 9) (.var 7)) (.cons (.cmp .ne (.var 10) (.op .sub (.op .add (.var 8) AAG) (.idx (.var 7) (.var 9)))) (.cons (.cmp .lt (.var 10) AAG) .nil)))
abbrev AAs:S:=.cons (.ret (.con .non)) .nil
abbrev AAt:E:=.idx (.var 1) AAG
abbrev AAu:E:=.cons AAH .nil
abbrev AAv:E:=.or (.cons (.not (.call 3 (.cons AAc (.cons AAH (.cons (.glob 3) .nil))))) (.cons (.not (.call 3 (.cons AAb (.cons AAG (.cons (.glob 4) .nil))))) .nil))
abbrev AAw:S:=.cons (.set 3 (.op .add (.slc (.var 3) AAG .noneE) (.call 26 (.cons (.var 0) (.cons (.var 1) (.cons (.idx (.var 3) AAH) (.cons (.ref 2) .nil))))))) .nil
abbrev AAx:E:=.and (.cons (.cmp .gt (.bi .len (.var 5)) (.var 3)) (.cons (.or (.cons (.cmp .gt (.bi .len (.var 5)) (.var 4)) (.cons (.cmp .eq AAQ AAG) .nil))) .nil))
abbrev AAy:S:=.set 6 (.call 30 (.cons (.var 0) (.cons (.var 1) (.cons (.var 2) (.cons (.var 5) (.cons (.op .add (.var 3) (.lis (.cons (.var 5) .nil))) .nil))))))
abbrev AAz:S:=.ret (.tup (.cons (.tup (.cons (.tup (.cons (.con (.str "a")) .nil)) (.cons (.bi .tuple (.var 5)) (.cons (.bi .tuple (.var 4)) .nil)))) (.cons (.tup (.cons (.tup (.cons (.idx (.var 2) (.neg AAG)) .nil)) (.cons (.tup (.cons (.tup (.cons (.tup (.cons (.con (.str "a")) (.cons AAG .nil))) .nil)) (.cons (.tup (.cons (.tup (.cons (.idx (.var 2) (.neg AAG)) AAu)) .nil)) .nil))) .nil))) .nil)))
abbrev ABG:E:=.cons (.bi .len (.var 1)) .nil
abbrev ABH:E:=.cons (.var 1) (.cons (.var 2) AAV)
abbrev ABI:E:=.idx (.var 1) AAH
abbrev ABJ:S:=.set 4 (.call 28 (.cons (.var 0) (.cons (.var 1) (.cons (.idx (.var 3) AAH) (.cons (.idx (.var 2) (.idx (.var 3) AAH)) .nil)))))
abbrev ABK:S:=.cons (.setIx 3 (.var 6) (.op .add (.idx (.var 3) (.var 2)) (.lis (.cons (.var 5) .nil)))) (.cons (.append 4 (.var 6)) .nil)
abbrev ABL:E:=.cons (.var 0) (.cons (.get2 (.var 2) (.var 0) (.var 3)) .nil)
abbrev ABM:S:=.cons (.ret (.or (.cons (.bi .all (.var 4)) (.cons (.and (.cons (.var 1) (.cons (.bi .any (.var 4)) .nil))) .nil)))) .nil
abbrev ABN:E:=.cmp .gt (.call 35 (.cons (.var 1) (.cons (.ref 2) AAZ))) AAH
abbrev ABO:E:=.cons (.con (.str "same")) (.cons (.con (.str "not")) .nil)
abbrev ABP:E:=.idx (.var 0) AAf
abbrev ABQ:E:=.cons (.var 2) .nil
abbrev ABR:S:=.set 2 (.slc (.lis AAS) .noneE (.op .add (.con (.int 3)) (.call 35 (.cons (.var 0) (.cons (.ref 1) AAZ)))))
abbrev ABS:E:=.or (.cons (.not (.call 3 (.cons (.var 0) (.cons (.con (.int 3)) AAZ)))) (.cons (.not (.call 2 AAT)) .nil))
abbrev ABT:S:=.cons (.expr (.popAt 5 (.call 35 (.cons (.var 0) (.cons (.ref 1) (.cons (.bi .len (.var 5)) .nil)))))) .nil
abbrev ABU:E:=.cons (.var 0) (.cons (.call 38 (.cons (.var 1) (.cons (.ref 2) (.cons (.var 7) (.cons AAG .nil))))) .nil)
abbrev ABV:E:=.con (.non)
abbrev ABW:E:=.comp 1 (.name 0) (.var 0) AAL (.call 4 (.cons AAb (.cons AAH (.cons (.op .sub (.var 3) AAG) .nil))))
abbrev ABX:E:=.comp 1 (.name 0) AAt AAL (.call 19 (.cons (.var 0) (.cons (.var 4) (.cons (.bi .len AAh) .nil))))
abbrev ABY:E:=.lis .nil
abbrev ABZ:E:=.idx (.var 2) AAH
abbrev ABa:E:=.comp 2 (.tup [0,1]) (.zip (.var 0) (.slc (.var 0) AAG .noneE)) AAL (.cmp .lt (.var 0) (.var 1))
abbrev ABb:E:=.cons (.var 0) (.cons (.call 35 (.cons (.var 1) (.cons (.ref 2) (.cons (.var 6) .nil)))) .nil)
abbrev ABc:S:=.cons (.ret (.tup (.cons (.con (.str "taken")) (.cons (.var 4) (.cons (.var 6) .nil))))) .nil
abbrev ABd:E:=.idx (.var 2) (.call 35 (.cons (.var 0) (.cons (.ref 1) (.cons (.bi .len (.var 2)) .nil))))
abbrev ABe:S:=.set 6 (.call 47 (.cons (.var 1) (.cons (.var 2) (.cons (.var 6) (.cons (.var 9) .nil)))))
abbrev ABf:S:=.set 6 (.call 24 (.cons (.var 0) (.cons (.var 1) (.cons (.var 2) (.cons (.var 5) .nil)))))
abbrev ABg:S:=.set 5 (.call 14 (.cons (.var 0) (.cons (.idx (.call 24 (.cons (.var 0) ABH)) AAH) .nil)))
abbrev ABh:E:=.cmp .ne (.idx (.idx (.var 3) AAH) (.var 0)) (.cmp .eq (.idx (.var 5) (.var 0)) (.var 4))
abbrev ABi:E:=.cons (.var 0) AAi
abbrev ABj:E:=.cons (.var 0) AAR
abbrev ABk:E:=.con (.str "both")
abbrev ABl:E:=.and (.cons (.cmp .ne (.var 6) (.var 3)) (.cons (.cmp .notin (.var 6) (.var 5)) .nil))
abbrev ABm:E:=.con (.str "a")
abbrev ABn:S:=.set 3 (.call 36 (.cons (.var 0) (.cons (.ref 1) (.cons (.var 2) (.cons AAG AAZ)))))
abbrev ABo:E:=.zip (.call 13 AAT) (.var 1)
abbrev ABp:E:=.call 3 (.cons (.var 0) AAa)
abbrev ABq:E:=.and (.cons (.cmp .notin (.var 3) AAc) (.cons (.cmp .notin (.var 3) ABI) .nil))
abbrev ABr:S:=.cons (.ret (.tup (.cons (.con (.str "unasked")) (.cons (.var 4) .nil)))) .nil
abbrev ABs:E:=.comp 2 (.tup [0,1]) AAb AAL (.call 11 (.cons (.var 1) (.cons (.var 3) AAu)))
abbrev ABt:E:=.cmp .eq (.var 3) (.con (.str "table"))
abbrev ABu:S:=.cons (.ret (.var 4)) .nil
abbrev ABv:S:=.cons (.ret (.tup (.cons (.var 4) (.cons (.bi .tuple (.var 6)) .nil)))) .nil
abbrev ABw:S:=.cons (.ret (.op .add (.bi .list AAc) (.comp 1 (.name 0) AAb AAL AAc))) .nil
abbrev ABx:E:=.cons (.con (.int 4)) .nil
abbrev ABy:E:=.cmp .eq (.var 3) (.con (.str "held"))
abbrev ABz:E:=.cmp .eq (.call 35 (.cons (.var 0) (.cons (.ref 2) (.cons AAf .nil)))) AAG
abbrev ACG:S:=.cons (.ret (.cmp .eq (.var 8) (.op .sub (.bi .len (.var 4)) AAG))) .nil
abbrev ACH:E:=.comp 1 (.name 0) (.var 0) AAL (.cmp .eq (.count (.var 1) (.var 0)) AAG)
abbrev ACI:E:=.cons (.var 0) (.cons (.ref 2) .nil)
abbrev ACJ:E:=.con .non
abbrev ACL:E:=.con (.str "and")
abbrev ACM:E:=.bi .len (.var 0)
abbrev ACN:S:=.cons (.ret (.tup (.cons (.var 5) (.cons (.var 7) .nil)))) .nil
abbrev ACO:S:=.cons (.ret ABV) .nil
abbrev ACP:E:=.con (.str "or")
abbrev ACQ:E:=.comp 1 (.name 0) (.var 0) AAL (.call 8 (.cons (.var 0) ABQ))
abbrev ACR:E:=.comp 1 (.name 0) (.var 0) AAL (.call 7 (.cons (.var 0) ABQ))
abbrev ACS:E:=.cmp .eq AAX AAG
abbrev ACT:E:=.cmp .eq AAQ AAG
abbrev ACU:S:=.cons (.ret (.tup (.cons (.var 5) (.cons AAh .nil)))) .nil
abbrev ACV:S:=.cons (.ret (.tup (.cons (.con (.str "stuck")) AAV))) .nil
abbrev ACW:E:=.con (.str "b")
abbrev ACX:E:=.and (.cons (.not (.var 4)) (.cons (.call 29 AAR) .nil))
abbrev ACY:E:=.bi .tuple (.var 5)
abbrev ACZ:S:=.set 2 (.dsp (.cons (.call 21 AAT) (.cons ABY .nil)))
abbrev ACa:E:=.not (.call 3 (.cons (.var 0) (.cons (.var 2) AAV)))
abbrev ACb:E:=.cons (.var 0) AAu
abbrev ACc:E:=.con (.str "same")
abbrev ACd:E:=.comp 1 (.name 0) (.var 0) AAL (.isi (.var 0) .bool)
abbrev ACe:E:=.bi .list (.var 2)
abbrev ACf:E:=.cmp .eq (.var 0) (.var 4)
abbrev ACg:E:=.idx (.var 2) AAb
abbrev ACh:E:=.con (.int 3)
abbrev ACi:E:=.not (.call 3 (.cons (.var 0) (.cons AAH ABG)))
abbrev ACj:E:=.bi .dict (.idx AAt AAh)
abbrev ACk:S:=.set 6 (.tup (.cons (.idx (.var 1) AAf) AAu))
abbrev ACl:E:=.call 3 (.cons (.var 0) (.cons (.var 1) AAi))
abbrev ACm:E:=.comp 1 (.name 0) (.var 1) AAL (.call 5 AAT)
abbrev ACn:S:=.cons (.ret (.cmp .isin (.var 4) ABP)) .nil
abbrev ACo:E:=.con (.str "q")
abbrev ACp:E:=.con (.str "p")
abbrev ACq:E:=.cons (.cmp .notin (.var 6) (.var 3)) .nil
abbrev ACr:E:=.op .add ABZ (.var 4)
abbrev ACs:E:=.cmp .eq (.var 4) AAf
abbrev ACt:S:=.set 4 (.lis (.cons (.tup .nil) .nil))
abbrev ACu:S:=.cons (.ret (.bi .any (.var 4))) .nil
abbrev ACv:S:=.cons (.ret (.bi .all (.var 4))) .nil
abbrev ACw:E:=.cmp .eq (.var 3) (.con (.str "not"))
abbrev ACx:E:=.cons (.call 7 (.cons ABP ABG)) .nil
abbrev ACy:S:=.set 6 (.op .add (.var 4) (.var 5))
abbrev ACz:S:=.set 5 (.slc (.tup AAS) .noneE AAo)
abbrev ADG:E:=.not (.call 3 (.cons (.var 1) AAa))
abbrev ADH:E:=.isi (.var 0) .tup
abbrev ADJ:E:=.comp 1 (.name 0) (.var 0) AAL ABp
abbrev ADK:E:=.call 22 ABj
abbrev ADL:E:=.call 20 AAm
abbrev ADM:E:=.bi .len (.var 4)
abbrev ADN:E:=.bi .len (.var 2)
abbrev ADP:S:=.cons (.ret (.call 16 ABj)) .nil
abbrev ADQ:E:=.cons (.not (.call 6 AAi)) .nil
def small(i:Int):Bool:=decide (-18446744073709551616<i/\i<18446744073709551616)
def Cu(i:Int):Bool:=decide (-4611686018427387904<=i/\i<4611686018427387904)
def fits(n:Nat):Bool:=decide (n<=16777216)
def b2i(b:Bool):Int:=if b then 1 else 0
def ix?(n:Nat)(i:Int):Option Nat:=
 let j:=if i<0 then i+n else i
 if 0<=j/\j<n then some j.toNat else none
def at?(xs:List D)(i:Int):Option D:=(ix? xs.length i).bind fun k=>xs[k]?
def clip(n:Nat)(i:Int):Nat:=
 let j:=if i<0 then i+n else i
 if j<0 then 0 else if j>n then n else j.toNat
noncomputable def cut(xs:List D)(lo hi:Option Int):List D:=
 let a:=match lo with|some i=>clip xs.length i|none=>0
 let b:=match hi with|some i=>clip xs.length i|none=>xs.length
 (xs.take b).drop a
mutual
def bV:D->D->Bool
 |.non,.non=>true
 |.bl a,.bl b=>a==b
 |.bl a,.int j=>b2i a==j
 |.int i,.bl b=>i==b2i b
 |.int i,.int j=>i==j
 |.str x,.str y=>decide (x=y)
 |.tup xs,.tup ys=>ji xs ys
 |.lst xs,.lst ys=>ji xs ys
 |_,_=>false
def ji:List D->List D->Bool
 |[],[]=>true
 |x::xs,y::ys=>bV x y&&ji xs ys
 |_,_=>false
end
mutual
def dep:D->Nat
 |.tup xs=>n6 xs+1
 |.lst xs=>n6 xs+1
 |_=>0
def n6:List D->Nat
 |[]=>0
 |x::xs=>max (dep x) (n6 xs)
end
def sOk(x:Str):Bool:=x.cps.all fun c=>decide (c<128)
mutual
def nd:D->Bool
 |.str x=>sOk x
 |.tup xs=>nG xs
 |.lst xs=>nG xs
 |.cH _ _=>false
 |.jf _ _=>false
 |_=>true
def nG:List D->Bool
 |[]=>true
 |x::xs=>nd x&&nG xs
end
noncomputable def flat:D->Bool
 |.non=>true
 |.bl _=>true
 |.int _=>true
 |.str _=>true
 |_=>false
def nZ(a b:D):Bool:=(flat a&&flat b)||(nd a&&decide (dep a<=50)&&nd b)
def gF(a:D)(xs:List D):Bool:=(flat a&&xs.all flat)||(nd a&&decide (dep a<=50)&&nG xs)
def aK(x:D):List D->Bool
 |[]=>false
 |y::ys=>bV y x||aK x ys
def eO(x:D):List D->Nat
 |[]=>0
 |y::ys=>(if bV y x then 1 else 0)+eO x ys
noncomputable def jg:List Bool->List Bool->Bool
 |[],[]=>false
 |[],_::_=>true
 |_::_,[]=>false
 |x::xs,y::ys=>if x=y then jg xs ys else(!x&&y)
noncomputable def bools:List D->Option (List Bool)
 |[]=>some []
 |.bl b::r=>(bools r).map (b:: ·)
 |_=>none
def nR:D->Bool
 |.tup [.tup bs,.int _]=>(bools bs).isSome
 |_=>false
noncomputable def ltD:D->D->Option Bool
 |.int i,.int j=>some (decide (i<j))
 |.tup xs,.tup ys=>(bools xs).bind fun a=>(bools ys).map fun b=>jg a b
 |_,_=>none
noncomputable def gP:D->Option Bool
 |.non=>some false
 |.bl b=>some b
 |.int i=>some (i !=0)
 |.tup xs=>some (!xs.isEmpty)
 |.lst xs=>some (!xs.isEmpty)
 |_=>none
noncomputable def lu:Ty->D->Bool
 |.tup,.tup _=>true
 |.lst,.lst _=>true
 |.str,.str _=>true
 |.bool,.bl _=>true
 |.int,.int _=>true
 |.int,.bl _=>true
 |.cH,.cH _ _=>true
 |.cH,.jf _ _=>true
 |_,_=>false
def bT(k:D):List D->List D->Option D
 |k'::ks,v::vs=>if bV k' k then some v else bT k ks vs
 |_,_=>none
noncomputable def keyOk:D->Bool
 |.str _=>true
 |.int _=>true
 |_=>false
def signs(x:Str):List D:=x.cps.toList.map fun c=>D.str ⟨#[c]⟩
noncomputable def items:D->Option (List D)
 |.tup xs=>some xs
 |.lst xs=>some xs
 |.str x=>if fits x.length then some (signs x)else none
 |_=>none
noncomputable def binop:M3->D->D->Option Rv
 |.add,.int i,.int j=>some (.val (.int (i+j)))
 |.sub,.int i,.int j=>some (.val (.int (i-j)))
 |.mul,.int i,.int j=>if small i||small j then some (.val (.int (i*j)))else none
 |.mod,.int i,.int j=>if 0<j then some (.val (.int (i%j)))else none
 |.fdiv,.int i,.int j=>if 0<j/\j<1073741824 then some (.val (.int (i/j)))else none
 |.pow,.int i,.int j=>if 0<=j/\j<=64/\small i=true then some (.val (.int (i ^j.toNat)))else none
 |.add,.tup xs,.tup ys=>if fits (xs.length+ys.length)then some (.val (.tup (xs++ys)))else none
 |.add,.lst xs,.lst ys=>if fits (xs.length+ys.length)then some (.new (.lst (xs++ys)))else none
 |_,_,_=>none
def cg:D->Bool
 |.non=>true
 |_=>false
noncomputable def aG:Cm->D->D->Option Bool
 |.eq,a,b=>if nZ a b then some (bV a b)else none
 |.ne,a,b=>if nZ a b then some (!bV a b)else none
 |.lt,a,b=>ltD a b
 |.gt,.int i,.int j=>some (decide (j<i))
 |.le,.int i,.int j=>some (decide (i<=j))
 |.ge,.int i,.int j=>some (decide (j<=i))
 |.isin,a,.tup xs=>if gF a xs then some (aK a xs)else none
 |.isin,a,.lst xs=>if gF a xs then some (aK a xs)else none
 |.isin,a,.cH ks _=>if keyOk a then some (aK a ks)else none
 |.isin,a,.jf ks _=>if nR a then some (aK a ks)else none
 |.isin,.str x,.str y=>if x.length=1 then some (aK (.str x) (signs y))else none
 |.notin,a,.tup xs=>if gF a xs then some (!aK a xs)else none
 |.notin,a,.lst xs=>if gF a xs then some (!aK a xs)else none
 |.notin,a,.cH ks _=>if keyOk a then some (!aK a ks)else none
 |.notin,a,.jf ks _=>if nR a then some (!aK a ks)else none
 |.f9,a,.non=>some (cg a)
 |.notN,a,.non=>some (!cg a)
 |_,_,_=>none
noncomputable def jb:List D->Option (List (List Bool))
 |[]=>some []
 |.tup ys::r=>match bools ys with
  |some (b::bs)=>(jb r).map ((b::bs):: ·)
  |_=>none
 |_=>none
noncomputable def Ij{α:Type}(f:Nat->Nat->Option Bool):PySem.W.KasT α->Option α
 |.ret a=>some a
 |.ask i j k=>match f i j with
  |some b=>Ij f (k b)
  |none=>none
def Q7(rs:List (List Bool))(i j:Nat):Option Bool:=(rs[i]?).bind fun a=>(rs[j]?).map fun b=>jg a b
def qQ(xs:List D):List Nat->Option (List D)
 |[]=>some []
 |i::is=>(xs[i]?).bind fun d=>(qQ xs is).map (d:: ·)
def ab7(xs:List D):Option (Nat->Nat->Option Bool):=match jb xs with
 |some rs=>some (Q7 rs)
 |none=>none
noncomputable def oU(xs:List D):Option (List D):=
 if xs.length<2 then some xs
 else if xs.length<64 then(ab7 xs).bind fun f=>(Ij f (PySem.W.kas_sort xs.length)).bind fun p=>if p.size=xs.length then qQ xs p.toList else none
 else none
def tR(k v:D):List D->List D->List D
 |k'::ks,v'::vs=>(if bV k' k then v else v')::tR k v ks vs
 |_,_=>[]
def putD(k v:D)(ks vs:List D):List D×List D:=if aK k ks then(ks,tR k v ks vs)else(ks++[k],vs++[v])
noncomputable def dictOf:List D->List D->List D->Option (List D×List D)
 |ks,vs,[]=>some (ks,vs)
 |ks,vs,.tup [k,v]::r=>if keyOk k then let p:=putD k v ks vs;dictOf p.1 p.2 r else none
 |_,_,_=>none
def aC:List D->List D->List D
 |x::xs,y::ys=>.tup [x,y]::aC xs ys
 |_,_=>[]
def aW(lo:Int):Nat->List D
 |0=>[]
 |n+1=>.int lo::aW (lo+1) n
noncomputable def MN:Bi->List D->Option Rv
 |.all,xs=>(bools xs).map fun bs=>.val (.bl (bs.all id))
 |.any,xs=>(bools xs).map fun bs=>.val (.bl (bs.any id))
 |.tuple,xs=>some (.val (.tup xs))
 |.list,xs=>some (.new (.lst xs))
 |.sorted,xs=>(oU xs).map fun ys=>.new (.lst ys)
 |.dict,xs=>(dictOf [] [] xs).map fun p=>.new (.dct p.1 p.2)
 |.len,_=>none
 |.int,_=>none
 |.copy,_=>none
def E.au:E->Option Nat
 |.var i=>some i
 |_=>none
noncomputable def qu(i:Nat)(σ:Ev):Out Rv:=
 match σ[i]? with
 |some (.val d)=>.ok (.val d) σ
 |some (.own o)=>.ok (.val o.d) (σ.set i (.val o.d))
 |_=>.bad
noncomputable def aN(i:Nat)(σ:Ev):Option D:=
 match σ[i]? with
 |some (.val d)=>some d
 |some (.own o)=>some o.d
 |some (.bor o)=>some o.d
 |_=>none
noncomputable def Gm:D->Option Nat
 |.tup xs=>some xs.length
 |.lst xs=>some xs.length
 |.str x=>if fits x.length then some x.length else none
 |.cH ks _=>some ks.length
 |_=>none
noncomputable def getD(d:D)(i:D):Option D:=
 match d,i with
 |.tup xs,.int i=>at? xs i
 |.lst xs,.int i=>at? xs i
 |.cH ks vs,k=>if keyOk k then bT k ks vs else none
 |.jf ks vs,k=>if nR k then bT k ks vs else none
 |_,_=>none
noncomputable def fQ(d:D)(lo hi:Option Int):Option Rv:=
 match d with
 |.tup xs=>some (.val (.tup (cut xs lo hi)))
 |.lst xs=>some (.new (.lst (cut xs lo hi)))
 |_=>none
noncomputable def cM(f9:Bool)(d:D):Option (Option Int):=
 match f9,d with
 |true,_=>some none
 |false,.int i=>some (some i)
 |_,_=>none
def E.f9:E->Bool
 |.noneE=>true
 |_=>false
noncomputable def cD(i:Nat)(s:Sl)(σ:Ev):Option Ev:=
 match σ[i]? with
 |some (.bor _)=>none
 |some _=>some (σ.set i s)
 |none=>none
noncomputable def dJ:List Nat->List D->Ev->Option Ev
 |[],[],σ=>some σ
 |i::is,d::ds,σ=>(cD i (.val d) σ).bind (dJ is ds)
 |_,_,_=>none
noncomputable def bD:Tg->D->Ev->Option Ev
 |.name i,d,σ=>cD i (.val d) σ
 |.tup is,.tup ds,σ=>dJ is ds σ
 |_,_,_=>none
noncomputable def cP(i:Nat)(f:Ob->Option Ob)(σ:Ev):Option Ev:=
 match σ[i]? with
 |some (.own o)=>(f o).map fun q=>σ.set i (.own q)
 |some (.bor o)=>(f o).map fun q=>σ.set i (.bor q)
 |_=>none
def vz(f:List D->Option (List D)):Ob->Option Ob
 |.lst xs=>(f xs).map .lst
 |_=>none
noncomputable def qz(i v:D):Ob->Option Ob
 |.lst xs=>match i with
  |.int i=>(ix? xs.length i).map fun j=>.lst (xs.set j v)
  |_=>none
 |.dct ks vs=>if keyOk i&&fits (ks.length+1)then let p:=putD i v ks vs;some (.dct p.1 p.2)else none
 |.sdt ks vs=>if nR i&&fits (ks.length+1)then let p:=putD i v ks vs;some (.sdt p.1 p.2)else none
inductive Res where
 |ok (r:Rv) (ps:List Sl)|exc (c:Nat) (ps:List Sl)|bad
structure Cf where
 fn:Nat->List Sl->Res
 gl:Nat->Option D
 turns:Nat
def iG(i:Nat):Rv->Bool
 |.ref j=>i==j
 |_=>false
def yh:Rv->Bool
 |.tmp _=>true
 |_=>false
def argv:Rv->Rv
 |.new o=>.val o.d
 |x=>x
noncomputable def enter:List Rv->Ev->Option (List Sl)
 |[],_=>some []
 |.val d::as,σ=>(enter as σ).map (.val d:: ·)
 |.new _::_,_=>none
 |.tmp o::as,σ=>if as.any yh then none else(enter as σ).map (.bor o:: ·)
 |.ref i::as,σ=>
  if as.any (iG i)then none else
  match σ[i]? with
  |some (.own o)=>(enter as σ).map (.bor o:: ·)
  |some (.bor o)=>(enter as σ).map (.bor o:: ·)
  |_=>none
noncomputable def giveBack:List Rv->List Sl->Ev->Option Ev
 |[],[],σ=>some σ
 |.ref i::as,.bor o::ps,σ=>(cP i (fun _=>some o) σ).bind (giveBack as ps)
 |.ref _::_,_::_,_=>none
 |_::as,_::ps,σ=>giveBack as ps σ
 |_,_,_=>none
noncomputable def rD(c:Cf)(f:Nat)(as:List Rv)(σ:Ev):Out Rv:=
 match enter as σ with
 |none=>.bad
 |some ps=>
  match c.fn f ps with
  |.ok r qs=>match giveBack as qs σ with|some σ'=>.ok r σ'|none=>.bad
  |_=>.bad
noncomputable def aU(tg:Tg)(cond elt:Ev->Out Rv):List D->List D->Ev->Out (List D)
 |[],acc,σ=>.ok acc σ
 |x::xs,acc,σ=>
  match bD tg x σ with
  |none=>.bad
  |some σ₁=>(cond σ₁).cj gP fun b σ₂=>
   if b then(elt σ₂).ak fun d σ₃=>aU tg cond elt xs (acc++[d]) σ₃
   else aU tg cond elt xs acc σ₂
def dO:Option D->Bool
 |some (.lst _)=>true
 |_=>false
def jy:D->Option (List D)
 |.lst xs=>some xs
 |_=>none
noncomputable def oW(k:Nat)(y:D)(σ:Ev):Out Rv:=
 match y,aN k σ with
 |.int i,some (.lst xs)=>if !fits xs.length then .bad else match ix? xs.length i with
  |some j=>match xs[j]?,cP k (vz fun xs=>some (xs.eraseIdx j)) σ with
   |some d,some σ'=>.ok (.val d) σ'
   |_,_=>.bad
  |none=>.bad
 |_,_=>.bad
def jd(k:D):List D->List D->List D×List D
 |k'::ks,v::vs=>if bV k' k then jd k ks vs else(k'::(jd k ks vs).1,v::(jd k ks vs).2)
 |_,_=>([],[])
def Dz(y:D):Ob->Option Ob
 |.dct ks vs=>if keyOk y then some (.dct (jd y ks vs).1 (jd y ks vs).2)else none
 |_=>none
def fG:Option D->Bool
 |some (.cH _ _)=>true
 |_=>false
noncomputable def xK(k:Nat)(y:D)(σ:Ev):Out Rv:=
 match (aN k σ).bind fun d=>getD d y,cP k (Dz y) σ with
 |some d,some σ'=>.ok (.val d) σ'
 |_,_=>.bad
noncomputable def v7(x y:D):Option Rv:=
 match x with
 |.tup xs=>if flat y&&xs.all flat then some (.val (.int (eO y xs)))else none
 |.lst xs=>if flat y&&xs.all flat then some (.val (.int (eO y xs)))else none
 |_=>none
noncomputable def kJ(d k x:D):Option D:=
 match d with
 |.cH ks vs=>if keyOk k then some ((bT k ks vs).getD x)else none
 |_=>none
def K9:List D->Option Rv
 |[k,v]=>if nR k then some (.new (.sdt [k] [v]))else none
 |_=>none
def Am(ds:List D):Option Rv:=if ds.length<=30&& !ds.isEmpty then K9 ds else none
noncomputable def bw:D->Option (List D)
 |.tup xs=>some xs
 |.lst xs=>some xs
 |_=>none
def H8:D->Option (List D)
 |.jf ks _=>some ks
 |x=>bw x
noncomputable def b1(b:Bi)(x:D):Option Rv:=
 match b with
 |.list=>(H8 x).bind (MN .list)
 |.len=>(Gm x).map fun n=>.val (.int n)
 |.int=>match x with|.bl b=>some (.val (.int (b2i b)))|.int i=>some (.val (.int i))|_=>none
 |.sorted=>(jy x).bind (MN .sorted)
 |.copy=>match x with|.cH ks vs=>some (.new (.dct ks vs))|_=>none
 |b=>(bw x).bind (MN b)
mutual
def ev(c:Cf):E->Ev->Out Rv
 |.var i,σ=>qu i σ
 |.con d,σ=>.ok (.val d) σ
 |.glob k,σ=>match c.gl k with|some d=>.ok (.val d) σ|none=>.bad
 |.tup es,σ=>(evs c es σ).bind fun rs σ=>lift σ ((aV rs).bind fun ds=>if fits ds.length then some (.val (.tup ds))else none)
 |.lis es,σ=>(evs c es σ).bind fun rs σ=>lift σ ((aV rs).bind fun ds=>if fits ds.length then some (.new (.lst ds))else none)
 |.op o a b,σ=>(ev c a σ).ak fun x σ=>(ev c b σ).ak fun y σ=>lift σ (binop o x y)
 |.neg a,σ=>(ev c a σ).ak fun x σ=>lift σ (match x with|.int i=>some (.val (.int (-i)))|_=>none)
 |.cmp o a b,σ=>(ev c a σ).ak fun x σ=>match b.au with
  |some k=>lift σ ((aN k σ).bind fun d=>(aG o x d).map fun q=>.val (.bl q))
  |none=>(ev c b σ).ak fun y σ=>lift σ ((aG o x y).map fun q=>.val (.bl q))
 |.chain o₁ o₂ a b d,σ=>(ev c a σ).ak fun x σ=>(ev c b σ).ak fun y σ=>(lift σ (aG o₁ x y)).bind fun q σ=>
   if q then(ev c d σ).ak fun z σ=>lift σ ((aG o₂ y z).map fun q=>.val (.bl q))else .ok (.val (.bl false)) σ
 |.and es,σ=>eX c es σ
 |.or es,σ=>jE c es σ
 |.not a,σ=>(ev c a σ).cj gP fun b σ=>.ok (.val (.bl (!b))) σ
 |.ite t a b,σ=>(ev c t σ).cj gP fun q σ=>if q then ev c a σ else ev c b σ
 |.idx a i,σ=>match a.au with
  |some k=>if (aN k σ).isNone then .bad else(ev c i σ).ak fun y σ=>lift σ ((aN k σ).bind fun d=>(getD d y).map Rv.val)
  |none=>(ev c a σ).ak fun x σ=>(ev c i σ).ak fun y σ=>lift σ ((getD x y).map Rv.val)
 |.slc a lo hi,σ=>(ev c a σ).ak fun x σ=>(ev c lo σ).ak fun l σ=>match cM lo.f9 l with
  |none=>.bad
  |some l=>(ev c hi σ).ak fun h σ=>lift σ ((cM hi.f9 h).bind fun h=>fQ x l h)
 |.noneE,σ=>.ok (.val .non) σ
 |.call f as,σ=>(evs c as σ).bind fun as σ=>rD c f as σ
 |.ref i,σ=>match σ[i]? with
  |some (.own _)=>.ok (.ref i) σ
  |some (.bor _)=>.ok (.ref i) σ
  |_=>.bad
 |.rd e,σ=>ev c e σ
 |.tmp e,σ=>(ev c e σ).bind fun x σ=>lift σ (match x with|.new o=>some (.tmp o)|_=>none)
 |.isi a t,σ=>(ev c a σ).ak fun x σ=>.ok (.val (.bl (lu t x))) σ
 |.bi b a,σ=>match a.au with
  |some k=>lift σ ((aN k σ).bind fun d=>b1 b d)
  |none=>(ev c a σ).ak fun x σ=>lift σ (b1 b x)
 |.range1 a,σ=>(ev c a σ).ak fun x σ=>lift σ (match x with|.int n=>if fits n.toNat&&Cu n then some (.val (.lst (aW 0 n.toNat)))else none|_=>none)
 |.zip a b,σ=>(ev c a σ).ak fun x σ=>(ev c b σ).ak fun y σ=>lift σ ((bw x).bind fun xs=>(bw y).map fun ys=>.val (.lst (aC xs ys)))
 |.count a b,σ=>(ev c a σ).ak fun x σ=>if (bw x).isNone then .bad else(ev c b σ).ak fun y σ=>lift σ (v7 x y)
 |.popAt k a,σ=>if fG (aN k σ)then(ev c a σ).ak fun y σ=>xK k y σ else if !dO (aN k σ)then .bad else(ev c a σ).ak fun y σ=>oW k y σ
 |.get2 d k x,σ=>match d.au with
  |some i=>if !fG (aN i σ)then .bad else(ev c k σ).ak fun k σ=>(ev c x σ).ak fun x σ=>lift σ ((aN i σ).bind fun y=>(kJ y k x).map Rv.val)
  |none=>.bad
 |.dsp es,σ=>(evs c es σ).bind fun rs σ=>lift σ ((aV rs).bind Am)
 |.emp,σ=>.ok (.new (.dct [] [])) σ
 |.enum a,σ=>(ev c a σ).ak fun x σ=>lift σ ((jy x).map fun xs=>.val (.lst (aC (aW 0 xs.length) xs)))
 |.comp nl tg it cond elt,σ=>(ev c it σ).ak fun x σ=>match items x with
  |some xs=>match aU tg (ev c cond) (ev c elt) xs [] (List.replicate nl .un++σ)with
   |.ok ys τ=>.ok (.new (.lst ys)) (τ.drop nl)
   |_=>.bad
  |none=>.bad
 |.nil,_=>.bad
 |.cons _ _,_=>.bad
def eX(c:Cf):E->Ev->Out Rv
 |.cons h t,σ=>match t with
  |.nil=>ev c h σ
  |t=>(ev c h σ).ak fun x σ=>match x with|.bl true=>eX c t σ|.bl false=>.ok (.val (.bl false)) σ|_=>.bad
 |_,_=>.bad
def jE(c:Cf):E->Ev->Out Rv
 |.cons h t,σ=>match t with
  |.nil=>ev c h σ
  |t=>(ev c h σ).ak fun x σ=>match x with|.bl true=>.ok (.val (.bl true)) σ|.bl false=>jE c t σ|_=>.bad
 |_,_=>.bad
def evs(c:Cf):E->Ev->Out (List Rv)
 |.nil,σ=>.ok [] σ
 |.cons h t,σ=>(ev c h σ).bind fun x σ=>(evs c t σ).bind fun xs σ=>.ok (argv x::xs) σ
 |_,_=>.bad
end
inductive Fl where
 |next (σ:Ev)|ret (r:Rv) (σ:Ev)|brk (σ:Ev)|cont (σ:Ev)|exc (k:Nat) (σ:Ev)|bad
noncomputable def Out.fl{α:Type}:Out α->(α->Ev->Fl)->Fl
 |.ok a σ,f=>f a σ
 |.exc k σ,_=>.exc k σ
 |.bad,_=>.bad
noncomputable def Out.lO:Out Rv->(D->Ev->Fl)->Fl
 |.ok (.val d) σ,f=>f d σ
 |.ok (.new o) σ,f=>f o.d σ
 |.ok _ _,_=>.bad
 |.exc k σ,_=>.exc k σ
 |.bad,_=>.bad
def Out.Ai(r:Out Rv)(f:Bool->Ev->Fl):Fl:=r.lO fun d σ=>match gP d with|some b=>f b σ|none=>.bad
noncomputable def m8:Rv->Ev->Fl
 |.val d,σ=>.ret (.val d) σ
 |.new o,σ=>.ret (.new o) σ
 |_,_=>.bad
def Fl.seq:Fl->(Ev->Fl)->Fl
 |.next σ,f=>f σ
 |r,_=>r
noncomputable def Fl.turn:Fl->(Ev->Fl)->Fl
 |.next σ,f=>f σ
 |.cont σ,f=>f σ
 |.brk σ,_=>.next σ
 |r,_=>r
noncomputable def bj(tg:Tg)(b:Ev->Fl):List D->Ev->Fl
 |[],σ=>.next σ
 |x::xs,σ=>match bD tg x σ with
  |none=>.bad
  |some σ₁=>(b σ₁).turn (bj tg b xs)
def b7(t:Ev->Out Rv)(b:Ev->Fl):Nat->Ev->Fl
 |0,_=>.bad
 |n+1,σ=>(t σ).Ai fun q σ=>if q then(b σ).turn (b7 t b n)else .next σ
def wB:Option Ev->Fl
 |some σ=>.next σ
 |none=>.bad
noncomputable def ex(c:Cf):S->Ev->Fl
 |.nil,σ=>.next σ
 |.cons h t,σ=>(ex c h σ).seq (ex c t)
 |.pass,σ=>.next σ
 |.brk,σ=>.brk σ
 |.cont,σ=>.cont σ
 |.set i e,σ=>(ev c e σ).fl fun x σ=>wB (x.wZ.bind fun s=>cD i s σ)
 |.setT is e,σ=>(ev c e σ).lO fun x σ=>wB (bD (.tup is) x σ)
 |.setIx k ix e,σ=>(ev c e σ).lO fun x σ=>if (aN k σ).isNone then .bad else(ev c ix σ).lO fun y σ=>wB (cP k (qz y x) σ)
 |.expr e,σ=>(ev c e σ).lO fun _ σ=>.next σ
 |.append k e,σ=>if !dO (aN k σ)then .bad else(ev c e σ).lO fun x σ=>wB (cP k (vz fun xs=>if fits (xs.length+1)then some (xs++[x])else none) σ)
 |.ret e,σ=>match e.au with
  |some i=>match σ[i]? with
   |some (.own o)=>.ret (.new o) (σ.set i .un)
   |_=>(ev c e σ).fl m8
  |none=>(ev c e σ).fl m8
 |.ite t a b,σ=>(ev c t σ).Ai fun q σ=>if q then ex c a σ else ex c b σ
 |.for_ tg it b,σ=>(ev c it σ).lO fun x σ=>match items x with
  |some xs=>bj tg (ex c b) xs σ
  |none=>.bad
 |.while_ t b,σ=>b7 (ev c t) (ex c b) c.turns σ
 |.raise k,σ=>.exc k σ
structure Fn where
 pars:Nat
 names:Nat
 body:S
noncomputable def gR(c:Cf)(f:Fn)(ps:List Sl):Res:=
 if ps.length=f.pars then
  match ex c f.body (ps++List.replicate (f.names-f.pars) .un)with
  |.next σ=>.ok (.val .non) (σ.take f.pars)
  |.ret r σ=>.ok r (σ.take f.pars)
  |.exc k σ=>.exc k (σ.take f.pars)
  |_=>.bad
 else .bad
structure Pg where
 fns:List Fn
 gl:Nat->Option D
 turns:Nat
noncomputable def Pg.fn(p:Pg):Nat->Nat->List Sl->Res
 |0,_,_=>.bad
 |n+1,f,ps=>match p.fns[f]? with
  |some g=>gR ⟨p.fn n,p.gl,p.turns⟩ g ps
  |none=>.bad
def Pg.cf(p:Pg)(n:Nat):Cf:=⟨p.fn n,p.gl,p.turns⟩
theorem v_0(c:Cf)(i σ):ev c (.var i) σ=qu i σ:=rfl
theorem v_1(c:Cf)(d σ):ev c (.con d) σ=.ok (.val d) σ:=rfl
theorem Zv(c:Cf)(k σ):ev c (.glob k) σ=match c.gl k with|some d=>.ok (.val d) σ|none=>.bad:=rfl
theorem v_3(c:Cf)(es σ):ev c (.tup es) σ=(evs c es σ).bind fun rs σ=>lift σ ((aV rs).bind fun ds=>if fits ds.length then some (.val (.tup ds))else none):=rfl
theorem v_4(c:Cf)(es σ):ev c (.lis es) σ=(evs c es σ).bind fun rs σ=>lift σ ((aV rs).bind fun ds=>if fits ds.length then some (.new (.lst ds))else none):=rfl
theorem Zu(c:Cf)(o a b σ):ev c (.op o a b) σ=(ev c a σ).ak fun x σ=>(ev c b σ).ak fun y σ=>lift σ (binop o x y):=rfl
theorem v_6(c:Cf)(a σ):ev c (.neg a) σ=(ev c a σ).ak fun x σ=>lift σ (match x with|.int i=>some (.val (.int (-i)))|_=>none):=rfl
theorem Yg(c:Cf)(o a b σ):ev c (.cmp o a b) σ=(ev c a σ).ak fun x σ=>match b.au with
  |some k=>lift σ ((aN k σ).bind fun d=>(aG o x d).map fun q=>.val (.bl q))
  |none=>(ev c b σ).ak fun y σ=>lift σ ((aG o x y).map fun q=>.val (.bl q)):=rfl
theorem Zt(c:Cf)(o₁ o₂ a b d σ):ev c (.chain o₁ o₂ a b d) σ=(ev c a σ).ak fun x σ=>(ev c b σ).ak fun y σ=>(lift σ (aG o₁ x y)).bind fun q σ=>
   if q then(ev c d σ).ak fun z σ=>lift σ ((aG o₂ y z).map fun q=>.val (.bl q))else .ok (.val (.bl false)) σ:=rfl
theorem Ni(c:Cf)(es σ):ev c (.and es) σ=eX c es σ:=rfl
theorem uV(c:Cf)(es σ):ev c (.or es) σ=jE c es σ:=rfl
theorem Hs(c:Cf)(a σ):ev c (.not a) σ=(ev c a σ).cj gP fun b σ=>.ok (.val (.bl (!b))) σ:=rfl
theorem Hr(c:Cf)(t a b σ):ev c (.ite t a b) σ=(ev c t σ).cj gP fun q σ=>if q then ev c a σ else ev c b σ:=rfl
theorem El(c:Cf)(a i σ):ev c (.idx a i) σ=match a.au with
  |some k=>if (aN k σ).isNone then .bad else(ev c i σ).ak fun y σ=>lift σ ((aN k σ).bind fun d=>(getD d y).map Rv.val)
  |none=>(ev c a σ).ak fun x σ=>(ev c i σ).ak fun y σ=>lift σ ((getD x y).map Rv.val):=rfl
theorem Nr(c:Cf)(a lo hi σ):ev c (.slc a lo hi) σ=(ev c a σ).ak fun x σ=>(ev c lo σ).ak fun l σ=>match cM lo.f9 l with
  |none=>.bad
  |some l=>(ev c hi σ).ak fun h σ=>lift σ ((cM hi.f9 h).bind fun h=>fQ x l h):=rfl
theorem Uk(c:Cf)(σ):ev c .noneE σ=.ok (.val .non) σ:=rfl
theorem Nq(c:Cf)(f as σ):ev c (.call f as) σ=(evs c as σ).bind fun as σ=>rD c f as σ:=rfl
theorem Hq(c:Cf)(i σ):ev c (.ref i) σ=match σ[i]? with
  |some (.own _)=>.ok (.ref i) σ
  |some (.bor _)=>.ok (.ref i) σ
  |_=>.bad:=rfl
theorem Ho(c:Cf)(e σ):ev c (.rd e) σ=ev c e σ:=rfl
theorem Np(c:Cf)(e σ):ev c (.tmp e) σ=(ev c e σ).bind fun x σ=>lift σ (match x with|.new o=>some (.tmp o)|_=>none):=rfl
theorem Nm(c:Cf)(a t σ):ev c (.isi a t) σ=(ev c a σ).ak fun x σ=>.ok (.val (.bl (lu t x))) σ:=rfl
theorem mX(c:Cf)(b a σ):ev c (.bi b a) σ=match a.au with
  |some k=>lift σ ((aN k σ).bind fun d=>b1 b d)
  |none=>(ev c a σ).ak fun x σ=>lift σ (b1 b x):=rfl
theorem Nk(c:Cf)(a σ):ev c (.range1 a) σ=(ev c a σ).ak fun x σ=>lift σ (match x with|.int n=>if fits n.toNat&&Cu n then some (.val (.lst (aW 0 n.toNat)))else none|_=>none):=rfl
theorem Hn(c:Cf)(a b σ):ev c (.zip a b) σ=(ev c a σ).ak fun x σ=>(ev c b σ).ak fun y σ=>lift σ ((bw x).bind fun xs=>(bw y).map fun ys=>.val (.lst (aC xs ys))):=rfl
theorem Nj(c:Cf)(a b σ):ev c (.count a b) σ=(ev c a σ).ak fun x σ=>if (bw x).isNone then .bad else(ev c b σ).ak fun y σ=>lift σ (v7 x y):=rfl
theorem Hm(c:Cf)(k a σ):ev c (.popAt k a) σ=if fG (aN k σ)then(ev c a σ).ak fun y σ=>xK k y σ else if !dO (aN k σ)then .bad else(ev c a σ).ak fun y σ=>oW k y σ:=rfl
theorem lU(c:Cf)(nl tg it cond elt σ):ev c (.comp nl tg it cond elt) σ=(ev c it σ).ak fun x σ=>match items x with
  |some xs=>match aU tg (ev c cond) (ev c elt) xs [] (List.replicate nl .un++σ)with
   |.ok ys τ=>.ok (.new (.lst ys)) (τ.drop nl)
   |_=>.bad
  |none=>.bad:=rfl
theorem Uj(c:Cf)(d k x σ):ev c (.get2 d k x) σ=match d.au with
  |some i=>if !fG (aN i σ)then .bad else(ev c k σ).ak fun k σ=>(ev c x σ).ak fun x σ=>lift σ ((aN i σ).bind fun y=>(kJ y k x).map Rv.val)
  |none=>.bad:=rfl
theorem adY(c:Cf)(es σ):ev c (.dsp es) σ=(evs c es σ).bind fun rs σ=>lift σ ((aV rs).bind Am):=rfl
theorem ahC(c:Cf)(σ):ev c .emp σ=.ok (.new (.dct [] [])) σ:=rfl
theorem adX(c:Cf)(a σ):ev c (.enum a) σ=(ev c a σ).ak fun x σ=>lift σ ((jy x).map fun xs=>.val (.lst (aC (aW 0 xs.length) xs))):=rfl
theorem x_0(c:Cf)(σ):ex c .nil σ=.next σ:=rfl
theorem x_1(c:Cf)(h t σ):ex c (.cons h t) σ=(ex c h σ).seq (ex c t):=rfl
theorem x_2(c:Cf)(σ):ex c .pass σ=.next σ:=rfl
theorem x_3(c:Cf)(σ):ex c .brk σ=.brk σ:=rfl
theorem x_4(c:Cf)(σ):ex c .cont σ=.cont σ:=rfl
theorem x_5(c:Cf)(i e σ):ex c (.set i e) σ=(ev c e σ).fl fun x σ=>wB (x.wZ.bind fun s=>cD i s σ):=rfl
theorem x_6(c:Cf)(is e σ):ex c (.setT is e) σ=(ev c e σ).lO fun x σ=>wB (bD (.tup is) x σ):=rfl
theorem x_7(c:Cf)(k ix e σ):ex c (.setIx k ix e) σ=(ev c e σ).lO fun x σ=>if (aN k σ).isNone then .bad else(ev c ix σ).lO fun y σ=>wB (cP k (qz y x) σ):=rfl
theorem x_8(c:Cf)(e σ):ex c (.expr e) σ=(ev c e σ).lO fun _ σ=>.next σ:=rfl
theorem x_9(c:Cf)(k e σ):ex c (.append k e) σ=if !dO (aN k σ)then .bad else(ev c e σ).lO fun x σ=>wB (cP k (vz fun xs=>if fits (xs.length+1)then some (xs++[x])else none) σ):=rfl
theorem yZ(c:Cf)(e σ):ex c (.ret e) σ=match e.au with
  |some i=>match σ[i]? with
   |some (.own o)=>.ret (.new o) (σ.set i .un)
   |_=>(ev c e σ).fl m8
  |none=>(ev c e σ).fl m8:=rfl
theorem adW(c:Cf)(t a b σ):ex c (.ite t a b) σ=(ev c t σ).Ai fun q σ=>if q then ex c a σ else ex c b σ:=rfl
theorem adV(c:Cf)(tg it b σ):ex c (.for_ tg it b) σ=(ev c it σ).lO fun x σ=>match items x with
  |some xs=>bj tg (ex c b) xs σ
  |none=>.bad:=rfl
theorem adU(c:Cf)(t b σ):ex c (.while_ t b) σ=b7 (ev c t) (ex c b) c.turns σ:=rfl
theorem adT(c:Cf)(k σ):ex c (.raise k) σ=.exc k σ:=rfl
theorem aif(i j):bV (.int i) (.int j)=(i==j):=rfl
theorem aie(x y):bV (.str x) (.str y)=decide (x=y):=rfl
theorem aid(a b):bV (.bl a) (.bl b)=(a==b):=rfl
theorem aic(a j):bV (.bl a) (.int j)=(b2i a==j):=rfl
theorem aib(i b):bV (.int i) (.bl b)=(i==b2i b):=rfl
theorem aia(xs ys):bV (.tup xs) (.tup ys)=ji xs ys:=rfl
theorem ah9(xs ys):bV (.lst xs) (.lst ys)=ji xs ys:=rfl
theorem ah8:bV .non .non=true:=rfl
theorem ah7(a):bV .non (.bl a)=false:=rfl
theorem ah6(i):bV .non (.int i)=false:=rfl
theorem agz(x):bV .non (.str x)=false:=rfl
theorem agy(a):bV (.bl a) .non=false:=rfl
theorem agx(a x):bV (.bl a) (.str x)=false:=rfl
theorem agw(i):bV (.int i) .non=false:=rfl
theorem agv(i x):bV (.int i) (.str x)=false:=rfl
theorem agu(x):bV (.str x) .non=false:=rfl
theorem agt(x a):bV (.str x) (.bl a)=false:=rfl
theorem ags(x i):bV (.str x) (.int i)=false:=rfl
theorem ajC(a b):aG .eq a b=if nZ a b then some (bV a b)else none:=rfl
theorem ajB(a b):aG .ne a b=if nZ a b then some (!bV a b)else none:=rfl
theorem ajA(a b):aG .lt a b=ltD a b:=rfl
end Mini
end
section
namespace Mini
open PySem L2
def Eh(K:QQq)(H:Hp)(a:Addr)(xs:List V):Prop:=
 (∃o,H a=some (.frz o (.lst xs)))\/
  ∃(o:Obj)(its:Array Value)(n:Nat),K.lookup a=some o/\o.cls=.type "list"/\o.dict=none/\o.data=.seq its n/\its.size<=sizeLine/\Vals xs its.toList
variable{H:Hp}{K:QQq}{a:Addr}
theorem Eh.sq{xs:List V}(h:Eh K H a xs):iY K H a xs:=by
 rcases h with ⟨o,h⟩|h
 ·exact .inl (.inr ⟨o,h⟩)
 ·exact .inr h
def bU:Key->D
 |.inl i=>.int i
 |.inr x=>.str x
def dX(k:SK):D:=.tup [.tup (k.1.map .bl),.int k.2]
mutual
def bz(K:QQq)(H:Hp):D->V->Prop
 |.non,v=>v=.non
 |.bl b,v=>v=.bl b
 |.int i,v=>v=.int i
 |.str x,v=>v=.str x
 |.tup ds,v=>∃a vs,v=.ref a/\gO K H a vs/\ao K H ds vs
 |.lst ds,v=>∃a vs,v=.ref a/\Eh K H a vs/\ao K H ds vs
 |.cH ks ds,v=>∃a o kvs,v=.ref a/\H a=some (.frz o (.dK kvs))/\ks=kvs.map (fun p=>bU p.1)/\ao K H ds (kvs.map (·.2))
 |.jf ks ds,v=>∃a o xs,v=.ref a/\H a=some (.frz o (.dS xs))/\ks=xs.map (fun x=>dX x.1)/\(∀x∈xs,cB K H x.1 x.2.1)/\ao K H ds (xs.map (·.2.2))
def ao(K:QQq)(H:Hp):List D->List V->Prop
 |[],vs=>vs=[]
 |d::ds,vs=>∃v r,vs=v::r/\bz K H d v/\ao K H ds r
end
structure bK(H H':Hp):Prop where
 tups:∀b xs,H b=some (.tup xs)->H' b=some (.tup xs)
 frzs:∀b o u,H b=some (.frz o u)->H' b=some (.frz o u)
theorem bK.refl(H:Hp):bK H H:=⟨fun _ _ h=>h,fun _ _ _ h=>h⟩
variable{H1 H2:Hp}
theorem bK.trans(a:bK H H1)(b:bK H1 H2):bK H H2:=⟨fun c xs h=>b.tups c xs (a.tups c xs h),fun c o u h=>b.frzs c o u (a.frzs c o u h)⟩
variable{v:V}{vs:List V}
section
variable{K:QQq}{H H':Hp}{a:Addr}
theorem bK.Et(p:bK H H'){xs:List V}(h:gO K H a xs):gO K H' a xs:=by
 rcases h with (h|⟨o,h⟩)|h
 ·exact .inl (.inl (p.tups _ _ h))
 ·exact .inl (.inr ⟨o,p.frzs _ _ _ h⟩)
 ·exact .inr h
theorem bK.QJ(p:bK H H'){xs:List V}(h:Eh K H a xs):Eh K H' a xs:=by
 rcases h with ⟨o,h⟩|h
 ·exact .inl ⟨o,p.frzs _ _ _ h⟩
 ·exact .inr h
mutual
theorem bz.mono(p:bK H H'):∀{d:D}{v:V},bz K H d v->bz K H' d v
 |.non,_,h=>h
 |.bl _,_,h=>h
 |.int _,_,h=>h
 |.str _,_,h=>h
 |.tup ds,v,h=>by
  unfold bz at h⊢
  obtain⟨a,vs,e,s,l⟩:=h
  exact⟨a,vs,e,p.Et s,ao.mono p l⟩
 |.lst ds,v,h=>by
  unfold bz at h⊢
  obtain⟨a,vs,e,s,l⟩:=h
  exact⟨a,vs,e,p.QJ s,ao.mono p l⟩
 |.cH ks ds,v,h=>by
  unfold bz at h⊢
  obtain⟨a,o,kvs,e,s,k,l⟩:=h
  exact⟨a,o,kvs,e,p.frzs _ _ _ s,k,ao.mono p l⟩
 |.jf ks ds,v,h=>by
  unfold bz at h⊢
  obtain⟨a,o,xs,e,s,k,ka,l⟩:=h
  exact⟨a,o,xs,e,p.frzs _ _ _ s,k,fun x hx=>let ⟨b,q1,q2⟩:=ka x hx;⟨b,p.Et q1,p.Et q2⟩,ao.mono p l⟩
theorem ao.mono(p:bK H H'):∀{ds:List D}{vs:List V},ao K H ds vs->ao K H' ds vs
 |[],_,h=>by unfold ao at h⊢;exact h
 |d::ds,vs,h=>by
  unfold ao at h⊢
  obtain⟨v,r,e,s,l⟩:=h
  exact⟨v,r,e,bz.mono p s,ao.mono p l⟩
end
theorem ao.bC:ao K H [] vs↔vs=[]:=by unfold ao;exact Iff.rfl
theorem ao.aH{d:D}{ds:List D}:ao K H (d::ds) vs↔ ∃v r,vs=v::r/\bz K H d v/\ao K H ds r:=by
 constructor
 ·intro h;unfold ao at h;exact h
 ·intro h;unfold ao;exact h
theorem ao.cN{d:D}{ds:List D}(h:bz K H d v)(t:ao K H ds vs):ao K H (d::ds) (v::vs):=ao.aH.mpr ⟨v,vs,rfl,h,t⟩
theorem ao.dY:ao K H [] []:=ao.bC.mpr rfl
theorem ao.length:∀{ds:List D}{vs:List V},ao K H ds vs->ds.length=vs.length
 |[],_,h=>by rw[ao.bC.mp h];rfl
 |d::ds,vs,h=>by
  obtain⟨v,r,rfl,_,t⟩:=ao.aH.mp h
  simp[ao.length t]
theorem ao.get:∀{ds:List D}{vs:List V}{i:Nat}{d:D},ao K H ds vs->ds[i]? =some d->∃v,vs[i]? =some v/\bz K H d v
 |[],_,_,_,_,e=>by simp at e
 |d::ds,vs,i,d',h,e=>by
  obtain⟨v,r,rfl,hd,t⟩:=ao.aH.mp h
  cases i with
  |zero=>simp at e;subst e;exact⟨v,rfl,hd⟩
  |succ i=>obtain⟨w,q,z⟩:=ao.get (i:=i) t (by simpa using e);exact⟨w,by simpa using q,z⟩
theorem ao.append:∀{ds es:List D}{vs ws:List V},ao K H ds vs->ao K H es ws->ao K H (ds++es) (vs++ws)
 |[],_,_,_,h,t=>by rw[ao.bC.mp h];exact t
 |d::ds,es,vs,ws,h,t=>by
  obtain⟨v,r,rfl,hd,q⟩:=ao.aH.mp h
  exact ao.cN hd (ao.append q t)
theorem ao.take:∀{ds:List D}{vs:List V}(n:Nat),ao K H ds vs->ao K H (ds.take n) (vs.take n)
 |_,_,0=>fun _=>ao.dY
 |[],_,_+1=>fun h=>by rw[ao.bC.mp h];exact ao.dY
 |d::ds,vs,n+1=>fun h=>by
  obtain⟨v,r,rfl,hd,q⟩:=ao.aH.mp h
  exact ao.cN hd (ao.take n q)
theorem ao.drop:∀{ds:List D}{vs:List V}(n:Nat),ao K H ds vs->ao K H (ds.drop n) (vs.drop n)
 |_,_,0=>fun h=>h
 |[],_,_+1=>fun h=>by rw[ao.bC.mp h];exact ao.dY
 |d::ds,vs,n+1=>fun h=>by
  obtain⟨v,r,rfl,hd,q⟩:=ao.aH.mp h
  exact ao.drop n q
theorem ao.eraseIdx:∀{ds:List D}{vs:List V}(n:Nat),ao K H ds vs->ao K H (ds.eraseIdx n) (vs.eraseIdx n)
 |[],_,_=>fun h=>by rw[ao.bC.mp h];exact ao.dY
 |d::ds,vs,0=>fun h=>by
  obtain⟨v,r,rfl,hd,q⟩:=ao.aH.mp h
  exact q
 |d::ds,vs,n+1=>fun h=>by
  obtain⟨v,r,rfl,hd,q⟩:=ao.aH.mp h
  exact ao.cN hd (ao.eraseIdx n q)
theorem ao.set{d:D}{v:V}(hd:bz K H d v):∀{ds:List D}{vs:List V}(n:Nat),ao K H ds vs->ao K H (ds.set n d) (vs.set n v)
 |[],_,_=>fun h=>by rw[ao.bC.mp h];exact ao.dY
 |e::ds,vs,0=>fun h=>by
  obtain⟨w,r,rfl,he,q⟩:=ao.aH.mp h
  exact ao.cN hd q
 |e::ds,vs,n+1=>fun h=>by
  obtain⟨w,r,rfl,he,q⟩:=ao.aH.mp h
  exact ao.cN he (ao.set hd n q)
end
def isOwn:Sl->Option Ob
 |.own o=>some o
 |.bor o=>some o
 |_=>none
def Hc(K:QQq)(H:Hp):Ob->HO->Prop
 |.lst xs,u=>∃vs,u=.lst vs/\ao K H xs vs
 |.dct ks ds,u=>∃kvs,u=.dK kvs/\ks=kvs.map (fun p=>bU p.1)/\ao K H ds (kvs.map (·.2))
 |.sdt ks ds,u=>∃xs,u=.dS xs/\ks=xs.map (fun x=>dX x.1)/\(∀x∈xs,cB K H x.1 x.2.1)/\ao K H ds (xs.map (·.2.2))
theorem Hc.mono{K:QQq}{H H':Hp}(p:bK H H'):∀{o:Ob}{u:HO},Hc K H o u->Hc K H' o u
 |.lst _,_,⟨vs,e,l⟩=>⟨vs,e,l.mono p⟩
 |.dct _ _,_,⟨kvs,e,k,l⟩=>⟨kvs,e,k,l.mono p⟩
 |.sdt _ _,_,⟨xs,e,k,ka,l⟩=>⟨xs,e,k,fun x hx=>let ⟨b,q1,q2⟩:=ka x hx;⟨b,p.Et q1,p.Et q2⟩,l.mono p⟩
structure M5(u:HO):Prop where
 tup:∀xs,u≠ .tup xs
 frz:∀q w,u≠ .frz q w
 tbl:∀ps,u≠ .tbl ps
 own:∀x,u≠ .own x
theorem Hc.uc:∀{o:Ob}{u:HO},Hc K H o u->M5 u
 |.lst _,_,⟨vs,e,_⟩=>by
  subst e
  constructor
  all_goals (intros;intro z;cases z)
 |.dct _ _,_,⟨kvs,e,_⟩=>by
  subst e
  constructor
  all_goals (intros;intro z;cases z)
 |.sdt _ _,_,⟨xs,e,_⟩=>by
  subst e
  constructor
  all_goals (intros;intro z;cases z)
def jk(K:QQq)(H:Hp)(o:Ob)(a:Addr):Prop:=∃u,H a=some u/\Hc K H o u
def Rg(K:QQq)(H:Hp):Sl->Option V->Prop
 |.un,_=>True
 |.val d,o=>∃v,o=some v/\bz K H d v
 |.own q,o=>∃a,o=some (.ref a)/\jk K H q a
 |.bor q,o=>∃a,o=some (.ref a)/\jk K H q a
def aJ(env:Ev)(σ:St)(i:Nat)(a:Addr):Prop:=(∃s xs,env[i]? =some s/\isOwn s=some xs)/\σ[i]? =some (some (.ref a))
structure Sat(K:QQq)(env:Ev)(σ:St)(H:Hp):Prop where
 len:env.length=σ.length
 sl:∀(i:Nat)s,env[i]? =some s->Rg K H s (σ[i]?).join
 ne:∀(i j:Nat)a,aJ env σ i a->aJ env σ j a->i=j
structure Nx(K:QQq)(env:Ev)(σ:St)(H:Hp)(env':Ev)(H':Hp):Prop where
 eU:Sat K env' σ H'
 sub:∀(i:Nat)a,aJ env' σ i a->aJ env σ i a
 pers:bK H H'
 keep:∀b u,H b=some u->(∀i,¬aJ env σ i b)->H' b=some u
 dom:∀b,H' b=none->H b=none
 bors:∀(i:Nat)xs,env[i]? =some (.bor xs)->∃ys,env'[i]? =some (.bor ys)
section
variable{K:QQq}{env env1 env2:Ev}{σ:St}{H H1 H2:Hp}
theorem Nx.refl(h:Sat K env σ H):Nx K env σ H env H:=⟨h,fun _ _ z=>z,bK.refl H,fun _ _ z _=>z,fun _ z=>z,fun _ xs e=>⟨xs,e⟩⟩
theorem Nx.trans(a:Nx K env σ H env1 H1)(b:Nx K env1 σ H1 env2 H2):Nx K env σ H env2 H2:=
 ⟨b.eU,fun i c z=>a.sub i c (b.sub i c z),a.pers.trans b.pers,fun c vs z n=>b.keep c vs (a.keep c vs z n) fun i w=>n i (a.sub i c w),fun c z=>a.dom c (b.dom c z),fun i xs e=>let ⟨ys,e1⟩:=a.bors i xs e;b.bors i ys e1⟩
theorem Sat.own(h:Sat K env σ H){i:Nat}{a:Addr}(o:aJ env σ i a):∃q,jk K H q a:=by
 obtain⟨⟨s,xs,e1,e2⟩,e3⟩:=o
 have q:=h.sl i s e1
 rw[e3]at q
 cases s with
 |un=>simp[isOwn]at e2
 |val d=>simp[isOwn]at e2
 |own ys=>obtain⟨b,e,z⟩:=q;cases e;exact⟨ys,z⟩
 |bor ys=>obtain⟨b,e,z⟩:=q;cases e;exact⟨ys,z⟩
theorem Sat.kZ(h:Sat K env σ H)(hn:H a=none)(i:Nat):¬aJ env σ i a:=fun o=>by
 obtain⟨q,u,z,_⟩:=h.own o
 rw[hn]at z;cases z
end
def gh(K:QQq)(σ:St)(H₀ H:Hp):Rv->V->Prop
 |.val d,v=>bz K H d v
 |.new q,v=>∃a,v=.ref a/\jk K H q a/\H₀ a=none
 |.tmp q,v=>∃a,v=.ref a/\jk K H q a/\H₀ a=none
 |.ref i,v=>σ[i]? =some (some v)
abbrev Wi:=Nat->Ev->St->Hp->Prop
def tM(K:QQq)(W:Wi)(env:Ev)(r:Out Rv):TE:=fun σ H Q=>Sat K env σ H/\match r with
 |.ok x env'=>∀v H',Nx K env σ H env' H'->gh K σ H H' x v->Q v H'
 |.exc c env'=>∀H',Nx K env σ H env' H'->W c env' σ H'
 |.bad=>False
def tD(K:QQq)(W:Wi)(env:Ev)(r:Out Rv):TE:=fun σ H Q=>Sat K env σ H/\match r with
 |.ok (.val d) env'=>∀v H',Nx K env σ H env' H'->bz K H' d v->Q v H'
 |.ok (.new q) env'=>∀v H',Nx K env σ H env' H'->bz K H' q.d v->Q v H'
 |.ok _ _=>False
 |.exc c env'=>∀H',Nx K env σ H env' H'->W c env' σ H'
 |.bad=>False
def tT(K:QQq)(W:Wi)(env:Ev)(r:Out Rv):TT:=fun σ H Q=>Sat K env σ H/\match r with
 |.ok x env'=>∃d b,x.jG=some d/\gP d=some b/\∀H',Nx K env σ H env' H'->Q b H'
 |.exc c env'=>∀H',Nx K env σ H env' H'->W c env' σ H'
 |.bad=>False
variable{X:Cx}{e:Expr}
theorem PE.imp{t t':TE}(h:PE X e t)(i:∀σ H Q,t' σ H Q->t σ H Q):PE X e t':=fun QLz s σ H Q I q=>h QLz s σ H Q I (i σ H Q q)
theorem PT.imp{t t':TT}(h:PT X e t)(i:∀σ H Q,t' σ H Q->t σ H Q):PT X e t':=fun QLz s σ H Q I q=>h QLz s σ H Q I (i σ H Q q)
theorem _root_.L2.bN.there{P:Program}{w:World}{h:Heap}{o:HO}(x:bN P w H h a o):∃u,h.get? a=some u:=by
 cases o with
 |lst xs=>obtain⟨_,_,_,_,e⟩:=x;exact⟨_,e⟩
 |tup xs=>obtain⟨_,_,_,p⟩:=x;obtain⟨o,e,_⟩:=p;exact⟨_,e⟩
 |dK kvs=>obtain⟨_,_,_,_,o,_,_,e,_⟩:=x;exact⟨_,e⟩
 |dT kvs=>obtain⟨_,_,_,_,o,_,_,e,_⟩:=x;exact⟨_,e⟩
 |dS xs=>obtain⟨_,_,_,_,o,_,_,_,e,_⟩:=x;exact⟨_,e⟩
 |set S n=>obtain⟨o,_,_,_,e,_⟩:=x;exact⟨_,e⟩
 |ins C dx fs=>obtain⟨_,_,_,e,_⟩:=x;exact⟨_,e⟩
 |own y=>obtain⟨_,e⟩:=x;exact⟨_,e⟩
 |xd fs=>obtain⟨_,⟨_,_,_,e,_⟩,_⟩:=x;exact⟨_,e⟩
 |rng lo hi=>obtain⟨_,_,_,e⟩:=x;exact⟨_,e⟩
 |frz ob u=>obtain⟨e,_⟩:=x;exact⟨_,e⟩
 |tbl ps=>exact⟨_,show h.get? a=some _ from x⟩
 |met f y=>exact⟨_,show h.get? a=some _ from x⟩
 |ext φ=>obtain⟨_,⟨_,e⟩,_⟩:=x;exact⟨_,e⟩
variable{QLz:QQz}{s:Shared}{σ:St}
theorem Inv.freeze{u:HO}(I:Inv X QLz σ H s)(h:H a=some u)(hu:M5 u):
  ∃o,Inv X QLz σ (upd H a (.frz o u)) s:=by
 obtain⟨o,ho⟩:=(I.hok a _ h).there
 refine⟨o,?_⟩
 have ne:∀b w,H b=some w->w≠u->b≠a:=fun b w q n z=>by subst z;rw[h]at q;cases q;exact n rfl
 have stay:∀b w,b≠a->H b=some w->upd H a (.frz o u) b=some w:=fun b w n q=>by rw[aB n];exact q
 have hok:lQ X.prog X.w (upd H a (.frz o u)) s.heap:=fun b w q=>by
  have st:∀c v,bN X.prog X.w H s.heap c v->bN X.prog X.w (upd H a (.frz o u)) s.heap c v:=fun c v z=>
   z.stay (fun c v _ q=>q) (fun e q=>stay e _ (ne e _ q (hu.own c).symm) q) fun e xs q=>stay e _ (ne e _ q (hu.tup xs).symm) q
  by_cases hb:b=a
  ·subst hb
   rw[aP]at q
   cases q
   exact⟨ho,st _ _ (I.hok b _ h)⟩
  ·rw[aB hb]at q
   exact st _ _ (I.hok b w q)
 have J:=I.step (h':=s.heap) (H':=upd H a (.frz o u)) (g':=s.gens) (t':=s.toks) (d':=s.drawn) (ch:=[]) (fun _ z=>nomatch z)
  (fun b o _ _ _ q _=>q) (fun b o _ _ _ q _=>⟨o.slots,q⟩) (fun b o _ q n=>by
   have hb:b≠a:=fun z=>by subst z;rw[h]at n;cases n
   rw[aB hb];exact n) (fun b o _ q=>⟨o,q⟩)
  (fun b xs q=>stay b _ (ne b _ q (hu.tup xs).symm) q) (fun b o w q=>stay b _ (ne b _ q (hu.frz o w).symm) q) (fun b ps q=>⟨#[],by rw[stay b _ (ne b _ q (hu.tbl ps).symm) q];simp⟩) (fun m q=>q) hok I.bare
 exact J
variable{i:Nat}
section
variable{K:QQq}{env:Ev}{σ:St}{H H1:Hp}{a:Addr}{u:HO}{o:Obj}{q:Ob}
theorem gk(h:H a=some u)(hu:M5 u):bK H (upd H a (.frz o u)):=by
 refine⟨fun b xs q=>?_,fun b o' w q=>?_⟩
 ·rw[aB (fun z=>by subst z;rw[h]at q;cases q;exact hu.tup xs rfl)];exact q
 ·rw[aB (fun z=>by subst z;rw[h]at q;cases q;exact hu.frz o' w rfl)];exact q
theorem Hc.den{H':Hp}(h:Hc K H' q u)(e:H' a=some (.frz o u)):bz K H' q.d (.ref a):=by
 cases q with
 |lst xs=>
  obtain⟨vs,rfl,l⟩:=h
  show bz K H' (.lst xs) (.ref a)
  unfold bz
  exact⟨a,vs,rfl,.inl ⟨o,e⟩,l⟩
 |dct ks ds=>
  obtain⟨kvs,rfl,k,l⟩:=h
  show bz K H' (.cH ks ds) (.ref a)
  unfold bz
  exact⟨a,o,kvs,rfl,e,k,l⟩
 |sdt ks ds=>
  obtain⟨xs,rfl,k,ka,l⟩:=h
  show bz K H' (.jf ks ds) (.ref a)
  unfold bz
  exact⟨a,o,xs,rfl,e,k,ka,l⟩
theorem Rg.keep{H':Hp}{sl:Sl}{v:Option V}(p:bK H H')(h:Rg K H sl v)(k:∀b u,isOwn sl≠none->v=some (.ref b)->H b=some u->H' b=some u):Rg K H' sl v:=by
 cases sl with
 |un=>trivial
 |val d=>obtain⟨v,e1,e2⟩:=h;exact⟨v,e1,e2.mono p⟩
 |own q=>
  obtain⟨b,e1,w,e2,e3⟩:=h
  exact⟨b,e1,w,k b w (by simp[isOwn]) e1 e2,e3.mono p⟩
 |bor q=>
  obtain⟨b,e1,w,e2,e3⟩:=h
  exact⟨b,e1,w,k b w (by simp[isOwn]) e1 e2,e3.mono p⟩
theorem vq{sl:Sl}{b:Addr}(e:env[i]? =some sl)(ho:isOwn sl≠none)(ev:(σ[i]?).join=some (.ref b)):aJ env σ i b:=by
 refine⟨?_,?_⟩
 ·cases q:isOwn sl with
  |none=>exact absurd q ho
  |some o=>exact⟨sl,o,e,q⟩
 ·cases w:σ[i]? with
  |none=>rw[w]at ev;cases ev
  |some y=>rw[w]at ev;simp at ev;rw[ev]
theorem Sat.keep{H':Hp}(S:Sat K env σ H)(p:bK H H')(k:∀i b u,aJ env σ i b->H b=some u->H' b=some u):Sat K env σ H':=
 ⟨S.len,fun i sl e=>(S.sl i sl e).keep p fun b u ho ev hb=>k i b u (vq e ho ev) hb,S.ne⟩
theorem Sat.freeze(S:Sat K env σ H)(h:H a=some u)(hu:M5 u)(no:∀i,¬aJ env σ i a):Sat K env σ (upd H a (.frz o u)):=
 S.keep (gk h hu) fun i b w ow hb=>by
  have nb:b≠a:=fun z=>by subst z;exact no i ow
  rw[aB nb];exact hb
end
variable{env:Ev}{r:Out Rv}
theorem Jk{W:Wi}(h:PE X e (tM X.K W env r)):PE X e (tD X.K W env r):=by
 intro QLz s σ H Q I q
 obtain⟨S,q⟩:=q
 cases r with
 |bad=>exact q.elim
 |exc c env'=>exact h QLz s σ H Q I ⟨S,q⟩
 |ok x env'=>
  cases x with
  |val d=>exact h QLz s σ H Q I ⟨S,q⟩
  |ref i=>exact False.elim q
  |tmp xs=>exact False.elim q
  |new xs=>
   refine bW (h QLz s σ H (fun v H'=>Nx X.K env σ H env' H'/\gh X.K σ H H' (.new xs) v) I ⟨S,fun v H' n k=>⟨n,k⟩⟩) fun u s1⟨v,H1,I1,r1,N,k⟩=>?_
   obtain⟨a,rfl,⟨u,ha,hl⟩,h0⟩:=k
   have hu:=hl.uc
   obtain⟨o,I2⟩:=Inv.freeze I1 ha hu
   have no:∀i,¬aJ env' σ i a:=fun i z=>S.kZ h0 i (N.sub i a z)
   have p:=gk (o:=o) ha hu
   refine⟨.ref a,_,I2,r1,q (.ref a) _ ⟨N.eU.freeze ha hu no,N.sub,N.pers.trans p,fun b ws z n=>?_,fun b z=>?_,N.bors⟩ ((hl.mono p).den aP)⟩
   ·rw[aB (fun w=>by subst w;rw[h0]at z;cases z)];exact N.keep b ws z n
   ·refine N.dom b ?_
    by_cases hb:b=a
    ·subst hb;rw[aP]at z;cases z
    ·rw[aB hb]at z;exact z
theorem yL:∀{bs:List D}{cs:List Bool},bools bs=some cs->bs=cs.map .bl
 |[],_,e=>by cases e;rfl
 |d::bs,cs,e=>by
  cases d with
  |bl b=>
   simp only[bools,QJz]at e
   obtain⟨r,e1,rfl⟩:=e
   simp[yL e1]
  |_=>cases e
theorem DQ{K:QQq}{H:Hp}:∀{cs:List Bool}{vs:List V},ao K H (cs.map .bl) vs->vs=cs.map .bl
 |[],vs,h=>ao.bC.mp h
 |c::cs,vs,h=>by
  obtain⟨v,r,rfl,h1,h2⟩:=ao.aH.mp h
  cases h1
  rw[DQ h2]
  rfl
theorem jC{x:D}(h:nR x=true):∃k:SK,x=dX k:=by
 unfold nR at h
 split at h
 ·rename_i bs j
  obtain⟨cs,e⟩:=Option.isSome_iff_exists.mp h
  exact⟨(cs,j),by rw[yL e];rfl⟩
 ·cases h
theorem p7{k:SK}(h:bz K H (dX k) v):∃a,v=.ref a/\cB K H k a:=by
 unfold dX bz at h
 obtain⟨a,vs,rfl,sq,l⟩:=h
 obtain⟨v1,r,rfl,h1,l⟩:=ao.aH.mp l
 obtain⟨v2,r2,rfl,h2,l⟩:=ao.aH.mp l
 cases ao.bC.mp l
 cases h2
 unfold bz at h1
 obtain⟨b,ws,rfl,sq2,l2⟩:=h1
 rw[DQ l2]at sq2
 exact⟨a,rfl,b,sq,sq2⟩
theorem Ds:∀a b:List Bool,ji (a.map .bl) (b.map .bl)=decide (a=b)
 |[],[]=>rfl
 |[],_::_=>by simp[ji]
 |_::_,[]=>by simp[ji]
 |x::a,y::b=>by
  simp only[Qyz,ji,bV,Ds a b]
  cases x<;>cases y<;>simp
theorem Aj(x y:SK):bV (dX x) (dX y)=decide (x=y):=by
 obtain⟨a,i⟩:=x
 obtain⟨b,j⟩:=y
 simp only[dX,bV,ji,Ds]
 by_cases p:a=b<;>by_cases q:i=j<;>simp[p,q]
theorem Di(k:SK):∀xs:List SV,aK (dX k) (xs.map fun x=>dX x.1)=(xX k xs).isSome
 |[]=>rfl
 |x::xs=>by
  simp only[Qyz,aK,xX,Aj,Di k xs]
  by_cases c:x.1=k<;>simp[c]
theorem Cw{K:QQq}{H:Hp}(k:SK):∀{xs:List SV}{ds:List D}{z:D},bT (dX k) (xs.map fun x=>dX x.1) ds=some z->ao K H ds (xs.map (·.2.2))->∃w,xX k xs=some w/\bz K H z w
 |[],ds,z,e,_=>by cases ds<;>cases e
 |x::xs,[],z,e,_=>by cases e
 |x::xs,d::ds,z,e,l=>by
  obtain⟨v,r,e1,h1,h2⟩:=ao.aH.mp l
  cases e1
  simp only[Qyz,bT,Aj]at e
  simp only[xX]
  by_cases c:x.1=k
  ·simp only[c,decide_true,if_true]at e
   cases e
   exact⟨_,if_pos c,h1⟩
  ·simp only[c,decide_false,Qxq,if_false]at e
   rw[if_neg c]
   exact Cw k e h2
theorem gh.weaken{H0:Hp}{x:Rv}(h:gh K σ H1 H x v)(d:∀b,H1 b=none->H0 b=none):gh K σ H0 H x v:=by
 cases x with
 |val d=>exact h
 |ref i=>exact h
 |new xs=>obtain⟨a,e,p,z⟩:=h;exact⟨a,e,p,d a z⟩
 |tmp xs=>obtain⟨a,e,p,z⟩:=h;exact⟨a,e,p,d a z⟩
variable{R:VK}{env1:Ev}
section
variable{K:QQq}{W:Wi}{env:Ev}{σ:St}{H:Hp}{Q:VK}
theorem RL(S:tM K W env r σ H Q)(N:Nx K env σ H env1 H1):tM K W env1 r σ H1 Q:=by
 obtain⟨_,h⟩:=S
 refine⟨N.eU,?_⟩
 cases r with
 |bad=>exact h
 |exc c env2=>exact fun H' N'=>h H' (N.trans N')
 |ok x env2=>exact fun v H' N' z=>h v H' (N.trans N') (z.weaken N.dom)
theorem aR{f:D->Ev->Out Rv}(h:tM K W env (r.ak f) σ H Q)
  (k:∀d env1 v H1,Nx K env σ H env1 H1->bz K H1 d v->tM K W env1 (f d env1) σ H1 Q->R v H1):tD K W env r σ H R:=by
 have step:∀d env1,r.ak f=f d env1->∀v H1,Nx K env σ H env1 H1->bz K H1 d v->R v H1:=fun d env1 e v H1 N D=>by
  rw[e]at h
  exact k d env1 v H1 N D (RL h N)
 obtain⟨S,h⟩:=h
 refine⟨S,?_⟩
 cases r with
 |bad=>exact h
 |exc c env1=>exact h
 |ok x env1=>
  cases x with
  |val d=>exact fun v H1 N D=>step d env1 rfl v H1 N D
  |new xs=>exact fun v H1 N D=>step xs.d env1 rfl v H1 N D
  |ref i=>exact h
  |tmp xs=>exact h
theorem wQ{f:Bool->Ev->Out Rv}{R:Bool->Hp->Prop}(h:tM K W env (r.cj gP f) σ H Q)
  (k:∀b env1 H1,Nx K env σ H env1 H1->tM K W env1 (f b env1) σ H1 Q->R b H1):tT K W env r σ H R:=by
 have step:∀d env1 x,x.jG=some d->r=.ok x env1->∃b,gP d=some b/\∀H1,Nx K env σ H env1 H1->R b H1:=fun d env1 x ex er=>by
  subst er
  cases q:gP d with
  |none=>
   cases x with
   |val d'=>cases ex;simp only[Out.cj,Out.ak,q]at h;exact h.2.elim
   |new xs=>cases ex;simp only[Out.cj,Out.ak,q]at h;exact h.2.elim
   |ref i=>cases ex
   |tmp xs=>cases ex
  |some b=>
   refine⟨b,rfl,fun H1 N=>k b env1 H1 N (RL ?_ N)⟩
   cases x with
   |val d'=>cases ex;simp only[Out.cj,Out.ak,q]at h;exact h
   |new xs=>cases ex;simp only[Out.cj,Out.ak,q]at h;exact h
   |ref i=>cases ex
   |tmp xs=>cases ex
 refine⟨h.1,?_⟩
 cases r with
 |bad=>exact h.2
 |exc c env1=>exact h.2
 |ok x env1=>
  cases x with
  |val d=>obtain⟨b,e,q⟩:=step d env1 _ rfl rfl;exact⟨d,b,rfl,e,q⟩
  |new xs=>obtain⟨b,e,q⟩:=step xs.d env1 _ rfl rfl;exact⟨xs.d,b,rfl,e,q⟩
  |ref i=>exact h.2.elim
  |tmp xs=>exact h.2.elim
theorem cF{o:Option Rv}(h:tM K W env (lift env o) σ H Q):∃z,o=some z/\Sat K env σ H/\∀v H',Nx K env σ H env H'->gh K σ H H' z v->Q v H':=by
 obtain⟨S,h⟩:=h
 cases o with
 |none=>exact h.elim
 |some z=>exact⟨z,rfl,S,h⟩
theorem dI{d:D}(h:tM K W env (.ok (.val d) env) σ H Q)(e:bz K H d v):Q v H:=h.2 v H (Nx.refl h.1) e
theorem Nx.laid{p:Addr}{o:HO}(S:Sat K env σ H)(hp:H p=none):Nx K env σ H env (upd H p o):=by
 have ne:∀b u,H b=some u->b≠p:=fun b u q z=>by subst z;rw[hp]at q;cases q
 have pe:bK H (upd H p o):=⟨fun b xs q=>by rw[aB (ne b _ q)];exact q,fun b o' u q=>by rw[aB (ne b _ q)];exact q⟩
 refine⟨S.keep pe fun i b u _ q=>by rw[aB (ne b _ q)];exact q,fun _ _ z=>z,pe,fun b vs q _=>by rw[aB (ne b _ q)];exact q,fun b q=>?_,fun _ xs e=>⟨xs,e⟩⟩
 ·by_cases hb:b=p
  ·subst hb;exact hp
  ·rw[aB hb]at q;exact q
end
def GE(X:Cx)(W:Wi)(c:Cf)(m:E)(e:Expr):Prop:=∀env,PE X e (tM X.K W env (ev c m env))
def aD(X:Cx)(W:Wi)(c:Cf)(m:E):TE:=fun σ H Q=>∃env,tD X.K W env (ev c m env) σ H Q
def aT(X:Cx)(W:Wi)(c:Cf)(m:E):TT:=fun σ H Q=>∃env,tT X.K W env (ev c m env) σ H Q
def GT(X:Cx)(W:Wi)(c:Cf)(m:E)(e:Expr):Prop:=PT X e (aT X W c m)
variable{x:Str}
section
variable{X:Cx}{W:Wi}{c:Cf}{m m1 m2 m3:E}{e a b:Expr}{pos:Pos}
theorem GE.d(h:GE X W c m e):PE X e (aD X W c m):=fun QLz s σ H Q I⟨env,q⟩=>Jk (h env) QLz s σ H Q I q
theorem bz.gP{K:QQq}{H:Hp}{x:D}{v:V}{k:Bool}(h:bz K H x v)(e:gP x=some k):Mr K v H k:=by
 cases x with
 |non=>cases h;simp[Mini.gP]at e;subst e;rfl
 |bl b=>cases h;simp[Mini.gP]at e;subst e;rfl
 |int i=>cases h;simp[Mini.gP]at e;subst e;rfl
 |str y=>simp[Mini.gP]at e
 |tup xs=>
  unfold bz at h
  obtain⟨p,vs,rfl,hq,l⟩:=h
  have e':(!xs.isEmpty)=k:=QEq e
  refine .inr (.inl ⟨vs,hq,?_⟩)
  have:=l.length
  rw[<-e']
  cases xs<;>cases vs<;>simp_all
 |lst xs=>
  unfold bz at h
  obtain⟨p,vs,rfl,hq,l⟩:=h
  have e':(!xs.isEmpty)=k:=QEq e
  refine .inl ⟨vs,hq.sq,?_⟩
  have:=l.length
  rw[<-e']
  cases xs<;>cases vs<;>simp_all
 |cH ks vs=>simp[Mini.gP]at e
 |jf ks vs=>simp[Mini.gP]at e
theorem wR{Q:Bool->Hp->Prop}(h:tT K W env r σ H Q):tD K W env r σ H (fun v H'=>∃k,Mr K v H' k/\Q k H'):=by
 obtain⟨S,h⟩:=h
 refine⟨S,?_⟩
 cases r with
 |bad=>exact h
 |exc c env1=>exact h
 |ok x env1=>
  obtain⟨d,b,e1,e2,q⟩:=h
  cases x with
  |val d'=>cases e1;exact fun v H' N D=>⟨b,D.gP e2,q H' N⟩
  |new xs=>cases e1;exact fun v H' N D=>⟨b,D.gP e2,q H' N⟩
  |ref i=>cases e1
  |tmp xs=>cases e1
theorem GE.t(h:GE X W c m e)(he:∀whole,isTrue e X.env whole=(do let v<-whole;standAt e.pos;holding [v] (truthy v))):GT X W c m e:=
 PT.imp (Jb h.d he) fun σ H Q⟨env,q⟩=>⟨env,wR q⟩
def Ci:D->Const->Bool
 |.non,.none=>true
 |.bl b,.bool b'=>b==b'
 |.int i,.int j=>i==j
 |.str x,.str y=>decide (x=y)
 |_,_=>false
theorem Xh{x:D}{k:Const}(h:Ci x k=true):GE X W c (.con x) (.Constant k i pos):=by
 intro env
 cases x with
 |non=>cases k<;>first|exact PE.imp Vw (fun σ H Q q=>dI q rfl)|simp[Ci]at h
 |bl y=>cases k<;>first|(simp[Ci]at h;subst h;exact PE.imp aaN (fun σ H Q q=>dI q rfl))|simp[Ci]at h
 |int y=>cases k<;>first|(simp[Ci]at h;subst h;exact PE.imp Vy (fun σ H Q q=>dI q rfl))|simp[Ci]at h
 |str y=>cases k<;>first|(simp[Ci]at h;subst h;exact PE.imp Vv (fun σ H Q q=>dI q rfl))|simp[Ci]at h
 |tup _=>cases k<;>simp[Ci]at h
 |lst _=>cases k<;>simp[Ci]at h
 |cH _ _=>cases k<;>simp[Ci]at h
 |jf _ _=>cases k<;>simp[Ci]at h
theorem bO(h:(σ[i]?).join=some v):σ[i]? =some (some v):=by
 cases w:σ[i]? with
 |none=>rw[w]at h;cases h
 |some y=>rw[w]at h;simp at h;rw[h]
theorem Nx.give{q:Ob}{a:Addr}{u:HO}{o:Obj}(S:Sat K env σ H)(e:env[i]? =some (.own q))(es:σ[i]? =some (some (.ref a)))
  (ha:H a=some u)(l:Hc K H q u):Nx K env σ H (env.set i (.val q.d)) (upd H a (.frz o u)):=by
 have hu:=l.uc
 have p:=gk (o:=o) ha hu
 have oa:aJ env σ i a:=⟨⟨_,q,e,rfl⟩,es⟩
 have hi:i<env.length:=(QCz.mp e).1
 have sub:∀j b,aJ (env.set i (.val q.d)) σ j b->aJ env σ j b/\j≠i:=fun j b z=>by
  obtain⟨⟨s,ys,e1,e2⟩,e3⟩:=z
  by_cases hj:i=j
  ·subst hj;rw[Qwq hi]at e1;cases e1;simp[isOwn]at e2
  ·rw[Qxz hj]at e1;exact⟨⟨⟨s,ys,e1,e2⟩,e3⟩,fun z=>hj z.symm⟩
 have ne:∀j b,aJ env σ j b->j≠i->b≠a:=fun j b z hj q=>hj (S.ne j i a (q▸z) oa)
 refine⟨⟨by simpa using S.len,fun j s ej=>?_,fun j k b z w=>S.ne j k b (sub j b z).1 (sub k b w).1⟩,fun j b z=>(sub j b z).1,p,fun b ws q n=>?_,fun b q=>?_,fun j ys ej=>?_⟩
 ·by_cases hj:i=j
  ·subst hj
   rw[Qwq hi]at ej
   cases ej
   exact⟨.ref a,by rw[es];rfl,(l.mono p).den aP⟩
  ·rw[Qxz hj]at ej
   refine(S.sl j s ej).keep p fun b w ho ev hb=>?_
   rw[aB (ne j b (vq ej ho ev) fun z=>hj z.symm)];exact hb
 ·rw[aB (fun z=>by subst z;exact n i oa)];exact q
 ·by_cases hb:b=a
  ·subst hb;rw[aP]at q;cases q
  ·rw[aB hb]at q;exact q
 ·by_cases hj:i=j
  ·subst hj;rw[e]at ej;cases ej
  ·exact⟨ys,by rw[Qxz hj];exact ej⟩
theorem W3(hN:X.N[i]? =some x)(hv:Zj X.env.scope x)(hd:(x==("__debug__":Str))=false)(hcd:(x==("__classdict__":Str))=false):GE X W c (.var i) (.Name x pos):=by
 intro env QLz s σ H Q I q
 have B:=Jj (X:=X) (pos:=pos) hN hv hd hcd
 simp only[v_0,qu]at q
 cases e:env[i]? with
 |none=>rw[e]at q;exact q.2.elim
 |some sl=>
  rw[e]at q
  cases sl with
  |un=>exact q.2.elim
  |bor xs=>exact q.2.elim
  |val d=>
   obtain⟨v,e1,e2⟩:=q.1.sl i _ e
   exact B QLz s σ H Q I ⟨v,bO e1,dI q e2⟩
  |own xs=>
   obtain⟨a,e1,w,e2,e3⟩:=q.1.sl i _ e
   refine bW (B QLz s σ H (fun v H'=>v=.ref a/\H'=H) I ⟨.ref a,bO e1,rfl,rfl⟩) fun u s1⟨v,H1,I1,r1,k1,k2⟩=>?_
   subst k1 k2
   obtain⟨o,I2⟩:=Inv.freeze I1 e2 e3.uc
   exact⟨.ref a,_,I2,r1,q.2 _ _ (Nx.give q.1 e (bO e1) e2 e3) ((e3.mono (gk e2 e3.uc)).den aP)⟩
end
section
variable{X:Cx}
end
def gY(K:QQq)(σ:St)(H₀ H:Hp):List Rv->List V->Prop
 |[],vs=>vs=[]
 |x::xs,vs=>∃v r,vs=v::r/\gh K σ H₀ H x v/\gY K σ H₀ H xs r
def RK(K:QQq)(W:Wi)(env:Ev)(r:Out (List Rv)):TA:=fun σ H Q=>Sat K env σ H/\match r with
 |.ok xs env'=>∀vs H',Nx K env σ H env' H'->gY K σ H H' xs vs->Q vs H'
 |.exc c env'=>∀H',Nx K env σ H env' H'->W c env' σ H'
 |.bad=>False
def tA(K:QQq)(W:Wi)(env:Ev)(r:Out Rv):TE:=fun σ H Q=>Sat K env σ H/\match r with
 |.ok x env'=>∀v H',Nx K env σ H env' H'->gh K σ H H' (argv x) v->Q v H'
 |.exc c env'=>∀H',Nx K env σ H env' H'->W c env' σ H'
 |.bad=>False
def GA(X:Cx)(W:Wi)(c:Cf)(m:E)(es:List Expr):Prop:=∀env,PA X es (RK X.K W env (evs c m env))
theorem gh.on{env2:Ev}{x:Rv}(S:Sat K env σ H)(N:Nx K env σ H env1 H1)(N2:Nx K env1 σ H1 env2 H2)(h:gh K σ H H1 x v):gh K σ H H2 x v:=by
 have no:∀a,H a=none->∀i,¬aJ env1 σ i a:=fun a h0 i z=>S.kZ h0 i (N.sub i a z)
 cases x with
 |val d=>exact bz.mono N2.pers h
 |ref i=>exact h
 |new xs=>obtain⟨a,e,⟨u,p,l⟩,z⟩:=h;exact⟨a,e,⟨u,N2.keep a u p (no a z),l.mono N2.pers⟩,z⟩
 |tmp xs=>obtain⟨a,e,⟨u,p,l⟩,z⟩:=h;exact⟨a,e,⟨u,N2.keep a u p (no a z),l.mono N2.pers⟩,z⟩
variable{xs:List D}
theorem jW{p:Addr}(S:Sat K env σ H)(l:ao K H xs vs)(hp:H p=none):gh K σ H (upd H p (.lst vs)) (.new (.lst xs)) (.ref p):=
 ⟨p,rfl,⟨_,aP,vs,rfl,l.mono (Nx.laid (o:=.lst vs) S hp).pers⟩,hp⟩
theorem gY.weaken{K:QQq}{σ:St}{H0 H1 H:Hp}:∀{xs:List Rv}{vs:List V},gY K σ H1 H xs vs->(∀b,H1 b=none->H0 b=none)->gY K σ H0 H xs vs
 |[],_,h,_=>h
 |x::xs,vs,h,d=>by
  obtain⟨v,r,e,h1,h2⟩:=h
  exact⟨v,r,e,h1.weaken d,gY.weaken h2 d⟩
variable{Q:VK}
section
variable{X:Cx}{W:Wi}{c:Cf}{m m1 m2 m3:E}{e a b:Expr}{es:List Expr}{pos:Pos}
theorem PA.imp{t t':TA}(h:PA X es t)(i:∀σ H Q,t' σ H Q->t σ H Q):PA X es t':=fun p QLz s σ H Q I q=>h p QLz s σ H Q I (i σ H Q q)
theorem GE.ag(h:GE X W c m e)(env:Ev):PE X e (tA X.K W env (ev c m env)):=by
 intro QLz s σ H Q I q
 obtain⟨S,q⟩:=q
 cases r:ev c m env with
 |bad=>rw[r]at q;exact q.elim
 |exc k env'=>rw[r]at q;exact h env QLz s σ H Q I ⟨S,by rw[r];exact q⟩
 |ok x env'=>
  rw[r]at q
  cases x with
  |new xs=>exact Jk (h env) QLz s σ H Q I ⟨S,by rw[r];exact q⟩
  |val d=>exact h env QLz s σ H Q I ⟨S,by rw[r];exact q⟩
  |ref i=>exact h env QLz s σ H Q I ⟨S,by rw[r];exact q⟩
  |tmp xs=>exact h env QLz s σ H Q I ⟨S,by rw[r];exact q⟩
theorem KZ:GA X W c .nil []:=fun env=>PA.imp eF fun σ H Q q=>by
 obtain⟨S,q⟩:=q
 simp only[evs]at q
 exact q [] H (Nx.refl S) rfl
theorem Dm(h:GE X W c m1 e)(t:GA X W c m2 es)(hs:starEach (e::es) X.env=(false,eval e X.env)::starEach es X.env):GA X W c (.cons m1 m2) (e::es):=by
 intro env
 have B:PA X (e::es) (HN (fun σ H Q=>∃env,tA X.K W env (ev c m1 env) σ H Q) (fun σ H Q=>∃env,RK X.K W env (evs c m2 env) σ H Q)):=
  cG (fun QLz s σ H Q I⟨env,q⟩=>h.ag env QLz s σ H Q I q) (fun p QLz s σ H Q I⟨env,q⟩=>t env p QLz s σ H Q I q) hs
 refine PA.imp B fun σ H Q q=>?_
 obtain⟨S,q⟩:=q
 refine⟨env,S,?_⟩
 simp only[evs]at q
 cases r:ev c m1 env with
 |bad=>rw[r]at q;exact q.elim
 |exc k env1=>rw[r]at q;exact q
 |ok x env1=>
  rw[r]at q
  intro v H1 N1 k1
  refine⟨env1,N1.eU,?_⟩
  simp only[Out.bind]at q
  cases r2:evs c m2 env1 with
  |bad=>rw[r2]at q;exact q.elim
  |exc k env2=>rw[r2]at q;exact fun H2 N2=>q H2 (N1.trans N2)
  |ok xs env2=>
   rw[r2]at q
   intro vs H2 N2 k2
   exact q (v::vs) H2 (N1.trans N2) ⟨v,vs,rfl,k1.on S N1 N2,k2.weaken N1.dom⟩
theorem gY.ds{K:QQq}{σ:St}{H₀ H:Hp}:∀{xs:List Rv}{vs:List V}{ds:List D},gY K σ H₀ H (xs.map argv) vs->aV xs=some ds->ao K H ds vs
 |[],vs,ds,h,e=>by
  simp[aV]at e
  subst e
  cases h
  exact ao.dY
 |x::xs,vs,ds,h,e=>by
  obtain⟨v,r,rfl,h1,h2⟩:=h
  cases x with
  |ref i=>simp[aV,Rv.jG]at e
  |tmp ys=>simp[aV,Rv.jG]at e
  |val d=>
   simp[aV,Rv.jG]at e
   obtain⟨ds',e1,e2⟩:=e
   subst e2
   exact ao.cN h1 (gY.ds h2 e1)
  |new ys=>
   simp[aV,Rv.jG]at e
   obtain⟨ds',e1,e2⟩:=e
   subst e2
   exact ao.cN h1 (gY.ds h2 e1)
theorem yC:∀(m:E)(env:Ev){xs:List Rv}{env':Ev},evs c m env=.ok xs env'->xs.map argv=xs:=by
 have aa:∀x:Rv,argv (argv x)=argv x:=fun x=>by cases x<;>rfl
 intro m
 induction m with
 |nil=>intro env xs env' h;simp only[evs]at h;cases h;rfl
 |cons h t _ ih=>
  intro env xs env' q
  simp only[evs]at q
  cases r:ev c h env with
  |bad=>rw[r]at q;cases q
  |exc k e1=>rw[r]at q;cases q
  |ok x e1=>
   rw[r]at q
   simp only[Out.bind]at q
   cases r2:evs c t e1 with
   |bad=>rw[r2]at q;cases q
   |exc k e2=>rw[r2]at q;cases q
   |ok ys e2=>
    rw[r2]at q
    cases q
    rw[Qyz,aa,ih e1 r2]
 |_=>intro env xs env' h;simp only[evs]at h;cases h
theorem dR{n:Nat}(h:fits n=true):n<=sizeLine:=by
 rw[sizeLine_eq]
 simpa[fits]using h
theorem wN{f:List D->Option Rv}{R:List V->Hp->Prop}
  (h:tM K W env ((evs c m env).bind fun rs σ=>lift σ ((aV rs).bind f)) σ H Q)
  (k:∀env1 H1 ds vs z,Nx K env σ H env1 H1->ao K H1 ds vs->f ds=some z->(∀v H',Nx K env1 σ H1 env1 H'->gh K σ H1 H' z v->Q v H')->R vs H1):RK K W env (evs c m env) σ H R:=by
 obtain⟨S,q⟩:=h
 refine⟨S,?_⟩
 cases r:evs c m env with
 |bad=>rw[r]at q;exact q.elim
 |exc k env1=>rw[r]at q;exact q
 |ok xs env1=>
  rw[r]at q
  simp only[Out.bind]at q
  intro vs H1 N1 k1
  cases e:aV xs with
  |none=>rw[e]at q;exact q.elim
  |some ds=>
   rw[e]at q
   simp only[Option.bind]at q
   cases e2:f ds with
   |none=>rw[e2]at q;exact q.elim
   |some z=>
    rw[e2]at q
    have k2:=k1
    rw[<-yC m env r]at k2
    exact k env1 H1 ds vs z N1 (gY.ds k2 e) e2 fun v H' N' w=>q v H' (N1.trans N') (w.weaken N1.dom)
theorem W4{k:Nat}(h:GA X W c m es):GE X W c (.tup m) (.Tuple es k pos):=by
 intro env
 refine PE.imp (Vu (h env)) fun σ H Q q=>?_
 simp only[v_3]at q
 refine wN q fun env1 H1 ds vs z N1 l e q=>?_
 split at e
 ·rename_i hf
  cases e
  have hl:=l.length
  refine⟨by rw[<-hl];exact dR hf,fun p hp=>q _ _ (Nx.laid N1.eU hp) ?_⟩
  show bz _ _ _ _
  unfold bz
  exact⟨p,vs,rfl,.inl (.inl aP),l.mono (Nx.laid (o:=.tup vs) N1.eU hp).pers⟩
 ·cases e
theorem Xb(h:GA X W c m es):GE X W c (.lis m) (.List es pos):=by
 intro env
 refine PE.imp (Vx (h env)) fun σ H Q q=>?_
 simp only[v_4]at q
 refine wN q fun env1 H1 ds vs z N1 l e q=>?_
 split at e
 ·rename_i hf
  cases e
  have hl:=l.length
  exact⟨by rw[<-hl];exact dR hf,fun p hp=>q _ _ (Nx.laid N1.eU hp) (jW N1.eU l hp)⟩
 ·cases e
def TQ(X:Cx)(r:R2)(f:D->D->Option Rv):Prop:=
 ∀(env:Ev)(σ:St)(H:Hp)(x y:D)(z:Rv)(v u:V)(Q:VK),Sat X.K env σ H->bz X.K H x v->bz X.K H y u->f x y=some z->(∀w H',Nx X.K env σ H env H'->gh X.K σ H H' z w->Q w H')->r v u H Q
theorem TQ.bin{r:R2}{f:D->D->Option Rv}(R:TQ X r f)(h:PE X e (Yl r (aD X W c m1) (aD X W c m2))):
  ∀env,PE X e (tM X.K W env ((ev c m1 env).ak fun x σ=>(ev c m2 σ).ak fun y σ=>lift σ (f x y))):=fun env=>
 PE.imp h fun σ H Q q=>⟨env,aR q fun d env1 v H1 N1 D1 q1=>⟨env1,aR q1 fun d2 env2 v2 H2 N2 D2 q2=>by
  obtain⟨z,ez,S,q3⟩:=cF q2
  exact R env2 σ H2 d d2 z v v2 Q S (D1.mono N2.pers) D2 ez q3⟩⟩
def aaV:M3->Operator
 |.add=>.Add
 |.sub=>.Sub
 |.mul=>.Mult
 |.mod=>.Mod
 |.fdiv=>.FloorDiv
 |.pow=>.Pow
def R7(K:QQq):R2:=fun x y H Q=>∃a b xs ys,x=.ref a/\y=.ref b/\gO K H a xs/\gO K H b ys/\xs.length+ys.length<=sizeLine/\
 (xs=[]->Q (.ref b) H)/\(xs≠[]->ys=[]->Q (.ref a) H)/\(xs≠[]->ys≠[]->∀p,H p=none->Q (.ref p) (upd H p (.tup (xs++ys))))
theorem PQ:fH X (binaryOp .Add) (R7 X.K):=by
 intro QLz s σ H x y v u Q I rx ry h
 obtain⟨a,b,xs,ys,rfl,rfl,ha,hb,hz,q0,q1,q2⟩:=h
 by_cases hx:xs=[]
 ·cases rx
  cases ry
  obtain⟨its,r1,p1,_⟩:=I.tuple ha
  obtain⟨its2,r2,p2,_⟩:=I.tuple hb
  obtain⟨⟨cls,dd,data,sl⟩,ho,hc,n,hd⟩:=id p1
  obtain⟨⟨cls2,dd2,data2,sl2⟩,ho2,hc2,n2,hd2⟩:=id p2
  simp only at hc hd hc2 hd2
  subst hc hd hc2 hd2
  have e0:its.toArray.isEmpty=true:=by
   have:its=[]:=r1.bC.mpr hx
   rw[this];rfl
  exact concat_meets ⟨_,ho,rfl⟩ ⟨_,ho2,rfl⟩ noFill_tuple_add seq_tuple_add PySem.F.slot_tuple_add PySem.F.entry_tuple_add (PySem.F.args_tuple_add_2 _ _)
   (PyProof.Rows.tuple_addW0 a b its.toArray its2.toArray n n2 dd dd2 sl sl2 e0) ⟨ho,ho2,⟨.ref b,H,I,rfl,q0 hx⟩⟩
 ·exact PL QLz s σ H _ _ v u Q I rx ry ⟨a,b,xs,ys,rfl,rfl,ha,hb,hx,hz,q1 hx,q2 hx⟩
def R6(K:QQq):R2:=fun x y H Q=>∃l b xs zs,x=.ref l/\y=.ref b/\iY K H l xs/\iY K H b zs/\xs.length+zs.length<=sizeLine/\∀p,H p=none->Q (.ref p) (upd H p (.lst (xs++zs)))
theorem PN:fH X (binaryOp .Add) (R6 X.K):=by
 intro QLz s σ H x y v u Q I rx ry h
 obtain⟨l,b,xs,zs,rfl,rfl,hH,hB,hz,q⟩:=h
 cases rx
 cases ry
 obtain⟨its,r1,pl,_⟩:=I.list hH
 obtain⟨its2,r2,pl2,_⟩:=I.list hB
 obtain⟨⟨cls,dd,data,sl⟩,n,ho,hc,_,hd⟩:=id pl
 obtain⟨⟨cls2,dd2,data2,sl2⟩,n2,ho2,hc2,_,hd2⟩:=id pl2
 simp only at hc hd hc2 hd2
 subst hc hd hc2 hd2
 have hl:=r1.length
 have hl2:=r2.length
 have ea:its.toArray++its2.toArray=(its++its2).toArray:=by simp
 refine concat_meets ⟨_,ho,rfl⟩ ⟨_,ho2,rfl⟩ noFill_list_add seq_list_add F.slot_list_add F.entry_list_add (F.args_list_add_2 _ _) (PyProof.Rows.list_addW l b its.toArray its2.toArray n n2 dd dd2 sl sl2 (by rw[Qyq,Qyq];omega)) ⟨ho,ho2,?_⟩
 rw[ea]
 exact⟨.ref _,_,I.ae7 (t':=s.toks) (r1.append r2) (by rw[QTq];omega),rfl,q _ I.fresh⟩
def R8(K:QQq):R2:=fun x y H Q=>I8 (fun i j=>.int (i+j)) x y H Q\/R7 K x y H Q\/R6 K x y H Q
theorem PX:fH X (binaryOp .Add) (R8 X.K):=V1.or (PQ.or PN)
theorem cI{ds:List D}(h:bz K H (.tup ds) v):∃a vs,v=.ref a/\gO K H a vs/\ao K H ds vs:=by unfold bz at h;exact h
theorem cV{ds:List D}(h:bz K H (.lst ds) v):∃a vs,v=.ref a/\Eh K H a vs/\ao K H ds vs:=by unfold bz at h;exact h
theorem dB{ds:List D}{a:Addr}(h:gO K H a vs)(l:ao K H ds vs):bz K H (.tup ds) (.ref a):=by unfold bz;exact⟨a,vs,rfl,h,l⟩
theorem qd{i:Int}(h:small i=true): -(2 ^64)<i/\i<2 ^64:=by
 simp only[small,QUz]at h
 exact⟨by omega,by omega⟩
theorem Ou:TQ X (R8 X.K) (binop .add):=by
 intro env σ H x y z v u Q S Dx Dy e q
 cases x with
 |int i=>
  cases y with
  |int j=>cases e;exact .inl ⟨i,j,Dx,Dy,q _ H (Nx.refl S) rfl⟩
  |_=>cases e
 |tup xs=>
  cases y with
  |tup ys=>
   unfold binop at e;dsimp only at e
   split at e
   ·rename_i hf
    cases e
    obtain⟨a,vs,rfl,ha,la⟩:=cI Dx
    obtain⟨b,ws,rfl,hb,lb⟩:=cI Dy
    refine .inr (.inl ⟨a,b,vs,ws,rfl,rfl,ha,hb,by rw[<-la.length,<-lb.length];exact dR hf,fun e0=>?_,fun _ e0=>?_,fun _ _ p hp=>?_⟩)
    ·subst e0
     have:xs=[]:=by have:=la.length;cases xs<;>simp_all
     subst this
     exact q _ H (Nx.refl S) (dB hb lb)
    ·subst e0
     have:ys=[]:=by have:=lb.length;cases ys<;>simp_all
     subst this
     exact q _ H (Nx.refl S) (by rw[List.append_nil];exact dB ha la)
    ·have N:=Nx.laid (o:=.tup (vs++ws)) S hp
     exact q _ _ N (dB (.inl (.inl aP)) ((la.append lb).mono N.pers))
   ·cases e
  |_=>cases e
 |lst xs=>
  cases y with
  |lst ys=>
   unfold binop at e;dsimp only at e
   split at e
   ·rename_i hf
    cases e
    obtain⟨a,vs,rfl,ha,la⟩:=cV Dx
    obtain⟨b,ws,rfl,hb,lb⟩:=cV Dy
    refine .inr (.inr ⟨a,b,vs,ws,rfl,rfl,ha.sq,hb.sq,by rw[<-la.length,<-lb.length];exact dR hf,fun p hp=>?_⟩)
    have N:=Nx.laid (o:=.lst (vs++ws)) S hp
    exact q _ _ N (jW S (la.append lb) hp)
   ·cases e
  |_=>cases e
 |_=>cases y<;>cases e
theorem mO{o:M3}(ho:o≠ .add)(hm:o≠ .mul){x y:D}{z:Rv}(e:binop o x y=some z):(∃i,x=.int i)/\∃j,y=.int j:=by
 cases x with
 |int i=>exact⟨⟨i,rfl⟩,by cases y with
  |int j=>exact⟨j,rfl⟩
  |_=>cases o<;>cases e⟩
 |tup _=>cases o<;>first|exact absurd rfl ho|exact absurd rfl hm|cases e
 |lst _=>cases o<;>first|exact absurd rfl ho|cases e
 |_=>cases o<;>cases e
theorem Oh:TQ X (I8 fun i j=>.int (i-j)) (binop .sub):=by
 intro env σ H x y z v u Q S Dx Dy e q
 obtain⟨⟨i,rfl⟩,j,rfl⟩:=mO (by intro h;cases h) (by intro h;cases h) e
 cases e
 exact⟨_,_,Dx,Dy,q _ H (Nx.refl S) rfl⟩
def R4(K:QQq):R2:=fun x y H Q=>rI Ri (fun i j=>.int (i*j)) x y H Q
theorem PJ:fH X (binaryOp .Mult) (R4 X.K):=VJ
theorem Oj:TQ X (R4 X.K) (binop .mul):=by
 intro env σ H x y z v u Q S Dx Dy e q
 cases x with
 |int i=>
  cases y with
  |int j=>
   unfold binop at e;dsimp only at e
   split at e
   ·rename_i hs
    cases e
    simp only[Bool.or_eq_true]at hs
    exact⟨i,j,Dx,Dy,hs.imp qd qd,q _ H (Nx.refl S) rfl⟩
   ·cases e
  |_=>cases e
 |_=>cases y<;>cases e
theorem Ol:TQ X (rI (fun _ j=>0<j) fun i j=>.int (i%j)) (binop .mod):=by
 intro env σ H x y z v u Q S Dx Dy e q
 obtain⟨⟨i,rfl⟩,j,rfl⟩:=mO (by intro h;cases h) (by intro h;cases h) e
 unfold binop at e;dsimp only at e
 split at e
 ·rename_i hs
  cases e
  exact⟨i,j,Dx,Dy,hs,q _ H (Nx.refl S) rfl⟩
 ·cases e
theorem Il:TQ X (rI acr fun i j=>.int (i/j)) (binop .fdiv):=by
 intro env σ H x y z v u Q S Dx Dy e q
 obtain⟨⟨i,rfl⟩,j,rfl⟩:=mO (by intro h;cases h) (by intro h;cases h) e
 unfold binop at e;dsimp only at e
 split at e
 ·rename_i hs
  cases e
  exact⟨i,j,Dx,Dy,hs,q _ H (Nx.refl S) rfl⟩
 ·cases e
theorem Oi:TQ X (rI acq fun i j=>.int (i ^j.toNat)) (binop .pow):=by
 intro env σ H x y z v u Q S Dx Dy e q
 obtain⟨⟨i,rfl⟩,j,rfl⟩:=mO (by intro h;cases h) (by intro h;cases h) e
 unfold binop at e;dsimp only at e
 split at e
 ·rename_i hs
  cases e
  have h1:=qd hs.2.2
  exact⟨i,j,Dx,Dy,⟨hs.1,by omega,by omega⟩,q _ H (Nx.refl S) rfl⟩
 ·cases e
theorem abK{o:M3}(ha:GE X W c m1 a)(hb:GE X W c m2 b):GE X W c (.op o m1 m2) (.BinOp a (aaV o) b pos):=by
 intro env
 simp only[Zu]
 cases o with
 |add=>exact Ou.bin (tZ PX ha.d hb.d) env
 |sub=>exact Oh.bin (tZ VF ha.d hb.d) env
 |mul=>exact Oj.bin (tZ PJ ha.d hb.d) env
 |mod=>exact Ol.bin (tZ VL ha.d hb.d) env
 |fdiv=>exact Il.bin (tZ PK ha.d hb.d) env
 |pow=>exact Oi.bin (tZ VG ha.d hb.d) env
theorem Xa(ha:GE X W c m1 a):GE X W c (.neg m1) (.UnaryOp .USub a pos):=by
 intro env
 refine PE.imp (aaK Um ha.d) fun σ H Q q=>?_
 simp only[v_6]at q
 refine⟨env,aR q fun d env1 v H1 N1 D1 q1=>?_⟩
 obtain⟨z,ez,S,q3⟩:=cF q1
 cases d<;>first
  |(cases ez;done)
  |(cases ez;exact⟨_,D1,q3 _ H1 (Nx.refl S) rfl⟩)
end
mutual
def py:D->PyData
 |.non=>.none
 |.bl b=>.bool b
 |.int i=>.int i
 |.str x=>.str x
 |.tup xs=>.tuple (xH xs)
 |.lst xs=>.list (xH xs)
 |.cH _ _=>.none
 |.jf _ _=>.none
def xH:List D->List PyData
 |[]=>[]
 |x::xs=>py x::xH xs
end
mutual
theorem vU:∀a b:D,nd a=true->nd b=true->PyData.eqv (py a) (py b)=bV a b
 |.cH _ _,_=>fun h _=>by simp[nd]at h
 |.jf _ _,_=>fun h _=>by simp[nd]at h
 |.non,.cH _ _=>fun _ h=>by simp[nd]at h
 |.non,.jf _ _=>fun _ h=>by simp[nd]at h
 |.bl _,.cH _ _=>fun _ h=>by simp[nd]at h
 |.bl _,.jf _ _=>fun _ h=>by simp[nd]at h
 |.int _,.cH _ _=>fun _ h=>by simp[nd]at h
 |.int _,.jf _ _=>fun _ h=>by simp[nd]at h
 |.str _,.cH _ _=>fun _ h=>by simp[nd]at h
 |.str _,.jf _ _=>fun _ h=>by simp[nd]at h
 |.tup _,.cH _ _=>fun _ h=>by simp[nd]at h
 |.tup _,.jf _ _=>fun _ h=>by simp[nd]at h
 |.lst _,.cH _ _=>fun _ h=>by simp[nd]at h
 |.lst _,.jf _ _=>fun _ h=>by simp[nd]at h
 |.tup xs,.tup ys=>fun h h'=>by simp only[py,PyData.eqv,bV];exact vR xs ys (by simpa[nd]using h) (by simpa[nd]using h')
 |.lst xs,.lst ys=>fun h h'=>by simp only[py,PyData.eqv,bV];exact vR xs ys (by simpa[nd]using h) (by simpa[nd]using h')
 |.non,.non=>fun _ _=>rfl
 |.non,.bl _=>fun _ _=>rfl
 |.non,.int _=>fun _ _=>rfl
 |.non,.str _=>fun _ _=>rfl
 |.non,.tup _=>fun _ _=>rfl
 |.non,.lst _=>fun _ _=>rfl
 |.bl _,.non=>fun _ _=>rfl
 |.bl _,.bl _=>fun _ _=>rfl
 |.bl a,.int j=>fun _ _=>rfl
 |.bl _,.str _=>fun _ _=>rfl
 |.bl _,.tup _=>fun _ _=>rfl
 |.bl _,.lst _=>fun _ _=>rfl
 |.int _,.non=>fun _ _=>rfl
 |.int i,.bl b=>fun _ _=>rfl
 |.int _,.int _=>fun _ _=>rfl
 |.int _,.str _=>fun _ _=>rfl
 |.int _,.tup _=>fun _ _=>rfl
 |.int _,.lst _=>fun _ _=>rfl
 |.str _,.non=>fun _ _=>rfl
 |.str _,.bl _=>fun _ _=>rfl
 |.str _,.int _=>fun _ _=>rfl
 |.str x,.str y=>fun _ _=>by simp only[py,PyData.eqv,bV];rw[Bool.beq_eq_decide_eq]
 |.str _,.tup _=>fun _ _=>rfl
 |.str _,.lst _=>fun _ _=>rfl
 |.tup _,.non=>fun _ _=>rfl
 |.tup _,.bl _=>fun _ _=>rfl
 |.tup _,.int _=>fun _ _=>rfl
 |.tup _,.str _=>fun _ _=>rfl
 |.tup _,.lst _=>fun _ _=>rfl
 |.lst _,.non=>fun _ _=>rfl
 |.lst _,.bl _=>fun _ _=>rfl
 |.lst _,.int _=>fun _ _=>rfl
 |.lst _,.str _=>fun _ _=>rfl
 |.lst _,.tup _=>fun _ _=>rfl
theorem vR:∀xs ys:List D,nG xs=true->nG ys=true->PyData.eqvAll (xH xs) (xH ys)=ji xs ys
 |[],[]=>fun _ _=>rfl
 |[],_::_=>fun _ _=>rfl
 |_::_,[]=>fun _ _=>rfl
 |x::xs,y::ys=>fun h h'=>by
  simp only[nG,QUq]at h h'
  simp only[xH,PyData.eqvAll,ji]
  rw[vU x y h.1 h'.1,vR xs ys h.2 h'.2]
end
theorem HQ(h:sOk x=true):PyData.strOk x=true:=by
 unfold sOk at h
 unfold PyData.strOk
 rw[Array.all_eq_true]at h⊢
 intro i hi
 have:=h i hi
 simp only[QUz]at this⊢
 omega
mutual
theorem iM:∀a:D,nd a=true->(py a).canLay0=true
 |.non=>fun _=>rfl
 |.bl _=>fun _=>rfl
 |.int _=>fun _=>rfl
 |.str x=>fun h=>HQ h
 |.tup xs=>fun h=>by simp only[py,PyData.canLay0];exact iK xs (by simpa[nd]using h)
 |.lst xs=>fun h=>by simp only[py,PyData.canLay0];exact iK xs (by simpa[nd]using h)
 |.cH _ _=>fun h=>by simp[nd]at h
 |.jf _ _=>fun h=>by simp[nd]at h
theorem iK:∀xs:List D,nG xs=true->PyData.canLayAll0 (xH xs)=true
 |[]=>fun _=>rfl
 |x::xs=>fun h=>by
  simp only[nG,QUq]at h
  simp only[xH,PyData.canLayAll0,QUq]
  exact⟨iM x h.1,iK xs h.2⟩
end
mutual
theorem vY:∀a:D,nd a=true->(py a).depth=dep a
 |.non=>fun _=>rfl
 |.bl _=>fun _=>rfl
 |.int _=>fun _=>rfl
 |.str _=>fun _=>rfl
 |.tup xs=>fun h=>by simp only[py,PyData.depth,dep];rw[vX xs (by simpa[nd]using h)]
 |.lst xs=>fun h=>by simp only[py,PyData.depth,dep];rw[vX xs (by simpa[nd]using h)]
 |.cH _ _=>fun h=>by simp[nd]at h
 |.jf _ _=>fun h=>by simp[nd]at h
theorem vX:∀xs:List D,nG xs=true->PyData.depthAll (xH xs)=n6 xs
 |[]=>fun _=>rfl
 |x::xs=>fun h=>by
  simp only[nG,QUq]at h
  simp only[xH,PyData.depthAll,n6]
  rw[vY x h.1,vX xs h.2]
end
def cQ(K:QQq)(H:Hp)(d:D)(v:V):Prop:=bz K H d v\/∃q a,d=Ob.d q/\v=.ref a/\jk K H q a
section
variable{X:Cx}{QLz:QQz}{s:Shared}{σ:St}{H:Hp}
mutual
theorem bz.reads(I:Inv X QLz σ H s):∀{d:D}{v:V}{u:Value},nd d=true->bz X.K H d v->RelV v u->∃as,Reads s.heap u (py d) as
 |.non,v,u,_,h,r=>by cases h;cases r;exact⟨_,.none⟩
 |.bl b,v,u,_,h,r=>by cases h;cases r;exact⟨_,.bool b⟩
 |.int i,v,u,_,h,r=>by cases h;obtain⟨t,rfl⟩:=r;exact⟨_,.int i t⟩
 |.str x,v,u,_,h,r=>by cases h;obtain⟨t,rfl⟩:=r;exact⟨_,.str x t⟩
 |.tup ds,v,u,hn,h,r=>by
  obtain⟨a,vs,rfl,hq,l⟩:=cI h
  cases r
  obtain⟨its,rv,⟨o,e,c,n,dt⟩,_⟩:=I.tuple hq
  obtain⟨as,q⟩:=ao.reads I (by simpa[nd]using hn) l rv
  exact⟨as,by rw[py];exact .tuple e c dt (by simpa using q)⟩
 |.lst ds,v,u,hn,h,r=>by
  obtain⟨a,vs,rfl,hq,l⟩:=cV h
  cases r
  obtain⟨its,rv,⟨o,n,e,c,_,dt⟩,_⟩:=I.list hq.sq
  obtain⟨as,q⟩:=ao.reads I (by simpa[nd]using hn) l rv
  exact⟨a::as,by rw[py];exact .list e c dt (by simpa using q)⟩
 |.cH _ _,_,_,h,_,_=>by simp[nd]at h
theorem ao.reads(I:Inv X QLz σ H s):∀{ds:List D}{vs:List V}{us:List Value},nG ds=true->ao X.K H ds vs->Vals vs us->∃as,ReadsAll s.heap us (xH ds) as
 |[],vs,us,_,h,r=>by rw[ao.bC.mp h]at r;cases r;exact⟨_,.nil⟩
 |d::ds,vs,us,hn,h,r=>by
  obtain⟨v,rs,rfl,h1,h2⟩:=ao.aH.mp h
  simp only[nG,QUq]at hn
  cases r with
  |cons r1 r2=>
   obtain⟨as,q1⟩:=bz.reads I hn.1 h1 r1
   obtain⟨bs,q2⟩:=ao.reads I hn.2 h2 r2
   exact⟨as++bs,.cons q1 q2⟩
end
theorem cQ.reads(I:Inv X QLz σ H s){d:D}{v:V}{u:Value}(hn:nd d=true)(h:cQ X.K H d v)(r:RelV v u):∃as,Reads s.heap u (py d) as:=by
 rcases h with h|⟨q,a,rfl,rfl,u',ha,hq⟩
 ·exact bz.reads I hn h r
 ·cases r
  cases q with
  |dct ks ds=>simp[Ob.d,nd]at hn
  |sdt ks ds=>simp[Ob.d,nd]at hn
  |lst ds=>
  obtain⟨vs,rfl,l⟩:=hq
  obtain⟨its,rv,⟨o,n,e,c,_,dt⟩,_⟩:=I.list (.inl (.inl ha))
  obtain⟨as,q⟩:=ao.reads I (by simpa[Ob.d,nd]using hn) l rv
  exact⟨a::as,by rw[Ob.d,py];exact .list e c dt (by simpa using q)⟩
end
variable{p q:D}
section
variable{X:Cx}{W:Wi}{c:Cf}{m m1 m2 m3:E}{e a b:Expr}{pos:Pos}
theorem cQ.flat{K:QQq}{H:Hp}{x:D}{v:V}(h:cQ K H x v)(f:flat x=true):bz K H x v:=by
 rcases h with h|⟨q,a,rfl,_⟩
 ·exact h
 ·cases q<;>simp[Ob.d,Mini.flat]at f
theorem Dn{x:D}(f:flat x=true)(hs:∀y,x≠ .str y):nd x=true/\dep x=0:=by
 cases x<;>simp_all[flat,nd,dep]
def aeZ(K:QQq):R2:=fun x y H Q=>∃p q,cQ K H p x/\cQ K H q y/\nZ p q=true/\Q (.bl (bV p q)) H
def aeW(K:QQq):R2:=fun x y H Q=>∃p q,cQ K H p x/\cQ K H q y/\nZ p q=true/\Q (.bl (!bV p q)) H
theorem Dr{x y:V}(Dp:bz K H p x)(Dq:bz K H q y)(fp:flat p=true)(fq:flat q=true)(hs:(∃z,p=.str z)\/∃z,q=.str z):Od x y=true/\decide (x=y)=bV p q:=by
 cases p<;>cases q<;>simp_all[flat]<;>(cases Dp;cases Dq;unfold Od bV;simp)
theorem Do{u:Nat}(hu:u+60<cLine)(hp:nd p=true)(hq:nd q=true)(hd:dep p<=50):u+min (py p).depth (py q).depth<cLine:=by
 rw[vY p hp,vY q hq]
 have:min (dep p) (dep q)<=dep p:=Nat.min_le_left _ _
 omega
theorem qX(h:nZ p q=true):(nd p=true/\nd q=true/\dep p<=50)\/(flat p=true/\flat q=true/\((∃z,p=.str z)\/∃z,q=.str z)):=by
 simp only[nZ,Bool.or_eq_true,QUq,QUz]at h
 rcases h with ⟨h1,h2⟩|⟨⟨h1,h2⟩,h3⟩
 ·by_cases hs:(∃z,p=.str z)\/∃z,q=.str z
  ·exact .inr ⟨h1,h2,hs⟩
  ·have n1:∀y,p≠ .str y:=fun y e=>hs (.inl ⟨y,e⟩)
   have n2:∀y,q≠ .str y:=fun y e=>hs (.inr ⟨y,e⟩)
   have k1:=Dn h1 n1
   have k2:=Dn h2 n2
   exact .inl ⟨k1.1,k2.1,by omega⟩
 ·exact .inl ⟨h1,h3,h2⟩
theorem V0(hu:X.A.units+60<cLine):fH X (compareOp .Eq) (aeZ X.K):=by
 intro QLz s σ H x y v u Q I rx ry h
 obtain⟨p,q,Dp,Dq,ok,k⟩:=h
 rcases qX ok with ⟨h1,h2,h3⟩|⟨h1,h2,h3⟩
 ·obtain⟨as,ra⟩:=Dp.reads I h1 rx
  obtain⟨bs,rb⟩:=Dq.reads I h2 ry
  exact SeqAt.compareEq_reads ra rb (iM p h1) (iM q h2) (Do hu h1 h2 h3) (by rw[vU p q h1 h2];exact⟨.bl _,H,I,rfl,k⟩)
 ·obtain⟨e1,e2⟩:=Dr (Dp.flat h1) (Dq.flat h2) h1 h2 h3
  exact aaU QLz s σ H x y v u Q I rx ry ⟨e1,by rw[e2];exact k⟩
theorem VH(hu:X.A.units+60<cLine):fH X (compareOp .NotEq) (aeW X.K):=by
 intro QLz s σ H x y v u Q I rx ry h
 obtain⟨p,q,Dp,Dq,ok,k⟩:=h
 rcases qX ok with ⟨h1,h2,h3⟩|⟨h1,h2,h3⟩
 ·obtain⟨as,ra⟩:=Dp.reads I h1 rx
  obtain⟨bs,rb⟩:=Dq.reads I h2 ry
  exact SeqAt.compareNe_reads ra rb (iM p h1) (iM q h2) (Do hu h1 h2 h3) (by rw[vU p q h1 h2];exact⟨.bl _,H,I,rfl,k⟩)
 ·obtain⟨e1,e2⟩:=Dr (Dp.flat h1) (Dq.flat h2) h1 h2 h3
  exact aaP QLz s σ H x y v u Q I rx ry ⟨e1,by rw[e2];exact k⟩
theorem vL{K:QQq}{H:Hp}{p:D}{x:V}(Dp:bz K H p x)(fp:flat p=true):∀{ds:List D}{vs:List V},ao K H ds vs->ds.all flat=true->vs.all gq=true/\inV x vs=aK p ds
 |[],vs,h,_=>by rw[ao.bC.mp h];exact⟨rfl,rfl⟩
 |d::ds,vs,h,f=>by
  obtain⟨v,r,rfl,h1,h2⟩:=ao.aH.mp h
  rw[List.all_cons,QUq]at f
  obtain⟨k1,k2⟩:=vL Dp fp h2 f.2
  have fv:gq v=true/\K6 v x=bV d p:=by
   obtain⟨f1,_⟩:=f
   cases d<;>cases p<;>simp_all[flat]<;>(cases h1;cases Dp;first|exact⟨rfl,rfl⟩|(refine⟨rfl,?_⟩;simp[K6,bV];try (rw[Bool.beq_eq_decide_eq])))
  refine⟨by rw[List.all_cons,fv.1,k1];rfl,?_⟩
  unfold inV at k2⊢
  rw[List.any_cons,fv.2,k2]
  rfl
theorem rK{p:D}(hp:nd p=true):∀{ds:List D},nG ds=true->((xH ds).any fun y=>PyData.eqv y (py p))=aK p ds
 |[]=>fun _=>rfl
 |d::ds=>fun h=>by
  simp only[nG,QUq]at h
  rw[xH,List.any_cons,vU d p h.1 hp,rK hp h.2]
  rfl
def Mt(K:QQq)(H:Hp)(xs:List D)(y:V):Prop:=∃a vs,y=.ref a/\(iY K H a vs\/gO K H a vs)/\ao K H xs vs
def aaE(K:QQq)(neg:Bool):R2:=fun x y H Q=>∃p xs,bz K H p x/\Mt K H xs y/\gF p xs=true/\Q (.bl (if neg then !aK p xs else aK p xs)) H
theorem pH{u:Nat}(hu:u+60<cLine)(hp:nd p=true)(hd:dep p<=50):u+1+min (PyData.depthAll (xH xs)) (py p).depth<cLine:=by
 rw[vY p hp]
 have:min (PyData.depthAll (xH xs)) (dep p)<=dep p:=Nat.min_le_right _ _
 omega
theorem Mt.reads{QLz:QQz}{s:Shared}{σ:St}{H:Hp}{xs:List D}{y:V}{u:Value}(I:Inv X QLz σ H s)(h:Mt X.K H xs y)(hn:nG xs=true)(r:RelV y u):
  ∃as,Reads s.heap u (.list (xH xs)) as\/Reads s.heap u (.tuple (xH xs)) as:=by
 obtain⟨a,vs,rfl,hq,l⟩:=h
 cases r
 rcases hq with hq|hq
 ·obtain⟨its,rv,⟨o,n,e,c,_,dt⟩,_⟩:=I.list hq
  obtain⟨as,q⟩:=ao.reads I hn l rv
  exact⟨a::as,.inl (.list e c dt (by simpa using q))⟩
 ·obtain⟨its,rv,⟨o,e,c,n,dt⟩,_⟩:=I.tuple hq
  obtain⟨as,q⟩:=ao.reads I hn l rv
  exact⟨as,.inr (.tuple e c dt (by simpa using q))⟩
theorem VR(hu:X.A.units+60<cLine):fH X (compareOp .In) (aaE X.K false):=by
 intro QLz s σ H x y v u Q I rx ry h
 obtain⟨p,xs,Dp,hS,ok,k⟩:=h
 simp only[gF,Bool.or_eq_true,QUq,QUz]at ok
 rcases ok with ⟨h1,h2⟩|⟨⟨h1,h2⟩,h3⟩
 ·obtain⟨a,vs,rfl,hq,l⟩:=hS
  obtain⟨k1,k2⟩:=vL Dp h1 l h2
  have fx:gq x=true:=by cases p<;>simp_all[flat]<;>(cases Dp;rfl)
  exact Gb QLz s σ H x _ v u Q I rx ry ⟨a,vs,rfl,hq,fx,k1,by simpa[k2]using k⟩
 ·obtain⟨bs,rb⟩:=bz.reads I h1 Dp rx
  obtain⟨as,ra|ra⟩:=hS.reads I h3 ry
  ·exact SeqAt.in_list_reads ra rb (iK xs h3) (iM p h1) (pH hu h1 h2) (by rw[rK h1 h3];exact⟨.bl _,H,I,rfl,k⟩)
  ·exact SeqAt.in_tuple_reads ra rb (iK xs h3) (iM p h1) (pH hu h1 h2) (by rw[rK h1 h3];exact⟨.bl _,H,I,rfl,k⟩)
theorem FZ(hu:X.A.units+60<cLine):fH X (compareOp .NotIn) (aaE X.K true):=by
 intro QLz s σ H x y v u Q I rx ry h
 obtain⟨p,xs,Dp,hS,ok,k⟩:=h
 simp only[gF,Bool.or_eq_true,QUq,QUz]at ok
 rcases ok with ⟨h1,h2⟩|⟨⟨h1,h2⟩,h3⟩
 ·obtain⟨a,vs,rfl,hq,l⟩:=hS
  obtain⟨k1,k2⟩:=vL Dp h1 l h2
  have fx:gq x=true:=by cases p<;>simp_all[flat]<;>(cases Dp;rfl)
  exact vy QLz s σ H x _ v u Q I rx ry ⟨a,vs,rfl,hq,fx,k1,by simpa[k2]using k⟩
 ·obtain⟨bs,rb⟩:=bz.reads I h1 Dp rx
  obtain⟨as,ra|ra⟩:=hS.reads I h3 ry
  ·exact SeqAt.notIn_list_reads ra rb (iK xs h3) (iM p h1) (pH hu h1 h2) (by rw[rK h1 h3];exact⟨.bl _,H,I,rfl,k⟩)
  ·exact SeqAt.notIn_tuple_reads ra rb (iK xs h3) (iM p h1) (pH hu h1 h2) (by rw[rK h1 h3];exact⟨.bl _,H,I,rfl,k⟩)
end
structure Gives(K:QQq)(J:It)(xs:List D)(H:Hp):Prop where
 go:∀H1,bK H H1->∀(i:Nat)d,xs[i]? =some d->J.go i H1
 yld:∀H1,bK H H1->∀(i:Nat)d,xs[i]? =some d->∀x H2,J.yld i H1 x H2->bz K H2 d x/\(H2=H1\/∃p vs,H1 p=none/\H2=upd H1 p (.tup vs))
 stop:∀H1,bK H H1->∀(i:Nat),xs.length<=i->J.stop i H1
 len:xs.length<=sizeLine
def tI(K:QQq)(W:Wi)(env:Ev)(r:Out Rv):TI:=fun σ H R=>Sat K env σ H/\match r with
 |.ok x env'=>∃d xs,x.jG=some d/\items d=some xs/\∀J H',Nx K env σ H env' H'->Gives K J xs H'->R J H'
 |.exc c env'=>∀H',Nx K env σ H env' H'->W c env' σ H'
 |.bad=>False
def GI(X:Cx)(W:Wi)(c:Cf)(m:E)(tg e:Expr):Prop:=∀env,PI X tg e (tI X.K W env (ev c m env))
variable{scope:Scope}
section
variable{prog:Program}{w:World}{A:Around}{R:Result->Shared->Prop}{s:Shared}
theorem v5{elt target iter:Expr}{ifs:List Expr}{pos:Pos}{it acc:Value}{env:Env}(I:Nat->Shared->Prop)
  (turn:∀n s,I n s->wpAny (model prog w) A (pyNext it) (fun r s₁=>match r with
   |none=>R (.ok .next) s₁
   |some v=>wpAny (model prog w) A (letOwnedTupleGo target it v) (fun _ s₁'=>wpAny (model prog w) A (assign target env v) (fun _ s₂=>
     wpAny (model prog w) A (forIn ifs true fun c r=>if r=true then do let ok<-isTrue c env (eval c env);pure (ForInStep.yield ok)else pure (ForInStep.yield r)) (fun ok s₃=>
      if ok=true then wpAny (model prog w) A (eval elt env) (fun x s₄=>
       wpAny (model prog w) A (call (.builtin "list.append") [acc,x]) (fun _ s₅=>∃m,m<n/\I m s₅) (fun _ _=>False) s₄) (fun _ _=>False) s₃
      else∃m,m<n/\I m s₃) (fun _ _=>False) s₂) (fun _ _=>False) s₁') (fun _ _=>False) s₁) (fun _ _=>False) s)
  (n:Nat)(h:I n s):
  codeAny (model prog w) A (.compLoop (.ListComp elt [⟨target,iter,ifs,0⟩] scope pos) 0 it acc env) R s:=by
 refine codeAny_loop rfl I (fun n s hI=>?_) n h
 show wpAny _ A ((compTurn (.ListComp elt [⟨target,iter,ifs,0⟩] scope pos) 0 it acc env).onRaise (fun x=>do noteFrame x env;theTreesLotGoes x)) _ _ s
 refine wpAny_noted ?_
 rw[compTurn_list]
 refine QKq (wpAny_standAt (QKq (QGq (turn n s hI) (fun r s₁ h₁=>?_) fun _ _ h'=>h'.elim)))
 cases r with
 |none=>exact QKz h₁
 |some v=>
  refine QKq (QGq h₁ (fun _ s₁' h₁'=>?_) fun _ _ h'=>h'.elim)
  refine QKq (QGq h₁' (fun _ s₂ h₂=>QKq (QGq h₂ (fun ok s₃ h₃=>?_) fun _ _ h'=>h'.elim)) fun _ _ h'=>h'.elim)
  cases ok with
  |false=>exact QKz ⟨rfl,h₃⟩
  |true=>
   exact QKq (QKq (QGq h₃ (fun x s₄ h₄=>QKq (QGq h₄ (fun _ s₅ h₅=>QKz (QKz ⟨rfl,h₅⟩)) fun _ _ h'=>h'.elim)) fun _ _ h'=>h'.elim))
end
def blk(X:Cx)(scope:Scope)(cl:List (Str×Addr))(N:List Str)(fp:List Addr)(s₀:Shared)(H₀:Hp):Cx where
 prog:=X.prog
 w:=X.w
 K:=X.K
 mg:=X.mg
 base:=X.base
 A:=X.A
 N:=N
 s₀:=s₀
 H₀:=H₀
 env:=compEnvC scope cl s₀.heap.objs.size X.env
 outer:=X.stack
 stack:=X.stack
 ex:=fp
 fn:=fun _=>false
 calm:=X.calm
 pn:=[]
 xe:=fun _ _=>False
def bG(tgs N:List Str):List Str:=tgs++N.map fun x=>if tgs.contains x then(".":Str)++x else x
structure Ha(sc inner:Scope)(tgs N:List Str):Prop where
 kind:inner.kind=.function
 nd:(bG tgs N).Nodup
 loc:∀x,inner.names.lookup x=some .local->x∈tgs\/x=(".0":Str)
 locs:∀x∈inner.names,x.2=.local->inner.names.lookup x.1=some .local
 tg:∀x∈tgs,inner.names.lookup x=some .local
 nocell:∀x∈inner.names,x.2≠ .cell
 fre:∀x∈inner.names,x.2=.free->sc.names.lookup x.1=some .cell\/sc.names.lookup x.1=some .free
 dot:∀x∈N,tgs.contains x=true->inner.names.lookup ((".":Str)++x)=none
 dot0:(".0":Str)∉N
structure Mz(scope:Scope)(env:Env)(cl:List (Str×Addr)):Prop where
 eq:closureFor scope env=pure cl
 to:∀x c,cl.lookup x=some c->env.cells.lookup x=some c
 has:∀x,scope.names.lookup x=some .free->∃c,cl.lookup x=some c
theorem bH{env:Env}:∀{names:List (Str×NameKind)}{x:Str}{k:NameKind},
  (names.map fun(n,k)=>if (k==NameKind.free&&env.scope.kind== .function&&env.kindOf n==some .cell)then(n,NameKind.cell)else(n,k)).lookup x=some k->
   names.lookup x=some k\/(k=.cell/\names.lookup x=some .free)
 |[],_,_,h=>by simp at h
 |(n,k')::r,x,k,h=>by
  have ih:=@bH env r x k
  rw[Qyz]at h
  cases hx:x==n with
  |true=>
   by_cases hc:(k'==NameKind.free&&env.scope.kind== .function&&env.kindOf n==some .cell)=true
   ·simp only[hc,if_true,QHz,hx]at h
    cases h
    simp only[QUq,beq_iff_eq]at hc
    exact .inr ⟨rfl,by simp[QHz,hx,hc.1.1]⟩
   ·simp only[eq_false_of_ne_true hc,Qxq,if_false,QHz,hx]at h
    exact .inl (by simpa[QHz,hx]using h)
  |false=>
   have h':(r.map fun(n,k)=>if (k==NameKind.free&&env.scope.kind== .function&&env.kindOf n==some .cell)then(n,NameKind.cell)else(n,k)).lookup x=some k:=by
    by_cases hc:(k'==NameKind.free&&env.scope.kind== .function&&env.kindOf n==some .cell)=true
    ·simpa only[hc,if_true,QHz,hx]using h
    ·simpa only[eq_false_of_ne_true hc,Qxq,if_false,QHz,hx]using h
   rcases ih h' with q|⟨q1,q2⟩
   ·exact .inl (by simpa[QHz,hx]using q)
   ·exact .inr ⟨q1,by simpa[QHz,hx]using q2⟩
variable{tgs:List Str}
theorem Lw{cl:List (Str×Addr)}{fp:List Addr}
  (I:Inv X QLz σ H s)(sc:Ha X.env.scope scope tgs X.N)(co:Mz scope X.env cl)(hf:∀b∈fp,gj X QLz H b)(hlt:∀b∈fp,b<s.heap.objs.size):
  (blk X scope cl (bG tgs X.N) fp s H).Ok where
 mod:=I.ok.mod
 kind:=sc.kind
 glob:=I.ok.glob
 blt:=I.ok.blt
 above:=QVz _
 inj:=fun x y c h1 h2=>I.ok.inj x y c (co.to x c h1) (co.to y c h2)
 has:=fun x h=>by
  have z:scope.names.lookup x=some .free:=by
   rcases h with h|h
   ·rcases bH (env:=X.env) h with q|⟨_,q⟩
    ·exact absurd rfl (sc.nocell (x,.cell) (PySem.mem_of_lookup q))
    ·exact q
   ·rcases bH (env:=X.env) h with q|⟨q,_⟩
    ·exact q
    ·cases q
  exact co.has x z
 cab:=fun x c h=>by cases h
 hd:=I.ok.hd
 frames:=I.ok.frames
 stk:=.inl rfl
 exf:=fun b hb=>⟨Qvz (hlt b hb),fun x c h=>(hf b hb).2.2.2.2.1 x c (co.to x c h)⟩
 bs:=I.bs
 bsz:=Nat.le_trans I.ok.bsz I.sz
 noex:=fun b o e hb=>by
  have e':X.base.get? b=some o:=e
  rcases (hf b hb).2.2.2.1 with z|z
  ·exact I.ok.noex b o e z
  ·have h2:=Qqz e'
   exact absurd (Qvq h2 (Nat.le_trans I.ok.bsz z)) (Nat.lt_irrefl _)
 exfs:=fun b hb hs=>by
  obtain⟨_,h1,h2,_⟩:=hf b hb
  rcases QCq.mp (I.zj b hs)with z|z
  ·exact h1 z
  ·exact h2 z
 lw:=I.stack
 frf:=I.Bx
theorem QZ{cl:List (Str×Addr)}{fp:List Addr}{h':Heap}{t:Nat}
  (I:Inv X QLz σ H s)(sc:Ha X.env.scope scope tgs X.N)(co:Mz scope X.env cl)(hf:∀b∈fp,gj X QLz H b)(hlt:∀b∈fp,b<s.heap.objs.size)
  (hn:h'.Ns s.heap.objs.size fun _=>none)(hk:∀b o,s.heap.get? b=some o->h'.get? b=some o):
  Inv (blk X scope cl (bG tgs X.N) fp s H) [] (List.replicate tgs.length none++σ) H {s with heap:=h',toks:=t}:=by
 have cellK:∀c v,s.heap.IsCell c v->h'.IsCell c v:=fun c v⟨o,e,d⟩=>⟨o,hk c o e,d⟩
 refine⟨Lw I sc co hf hlt,rfl,I.bare,Un.kept hk,⟨_,hn,fun i x v e1 e2 e3=>?_⟩,fun x c e=>?_,I.hok.fresh (QVz _),fun x c e=>I.freeC x c (co.to x c e),fun p hp=>absurd (show p∈([]:QQz)from hp) (by simp),I.hok.kept hk,?_⟩
 ·--an outer name that is seen within
  have hi:tgs.length<=i:=by
   refine Nat.le_of_not_lt fun q=>?_
   rw[Qwz (by simpa using q),List.getElem?_replicate]at e2
   split at e2<;>cases e2
  rw[QIz (by simpa using hi)]at e2
  simp only[List.length_replicate]at e2
  have e1':(bG tgs X.N)[i]? =some x:=e1
  unfold bG at e1'
  rw[QIz hi,QFz]at e1'
  cases ey:X.N[i-tgs.length]? with
  |none=>rw[ey]at e1';cases e1'
  |some y=>
   rw[ey]at e1'
   have e1'':(if tgs.contains y=true then(".":Str)++y else y)=x:=QEq e1'
   have e3':(relabel scope X.env).names.lookup x=some .local\/(relabel scope X.env).names.lookup x=some .cell\/(relabel scope X.env).names.lookup x=some .free:=e3
   by_cases hy:tgs.contains y=true
   ·rw[if_pos hy]at e1''
    subst e1''
    have no:=sc.dot y (QBz ey) hy
    rcases e3' with q|q|q
    ·rcases bH (env:=X.env) q with z|⟨z,_⟩
     ·rw[no]at z;cases z
     ·cases z
    ·rcases bH (env:=X.env) q with z|⟨_,z⟩
     ·rw[no]at z;cases z
     ·rw[no]at z;cases z
    ·rcases bH (env:=X.env) q with z|⟨z,_⟩
     ·rw[no]at z;cases z
     ·cases z
   ·rw[if_neg hy]at e1''
    subst e1''
    have fr:scope.names.lookup y=some .free:=by
     rcases e3' with q|q|q
     ·rcases bH (env:=X.env) q with z|⟨z,_⟩
      ·rcases sc.loc y z with w|w
       ·exact absurd (by simpa using w) hy
       ·exact absurd (w▸QBz ey) sc.dot0
      ·cases z
     ·rcases bH (env:=X.env) q with z|⟨_,z⟩
      ·exact absurd rfl (sc.nocell (y,.cell) (PySem.mem_of_lookup z))
      ·exact z
     ·rcases bH (env:=X.env) q with z|⟨z,_⟩
      ·exact z
      ·cases z
    have ou:=sc.fre (y,.free) (PySem.mem_of_lookup fr) rfl
    obtain⟨m,hm,hl⟩:=I.loc
    obtain⟨u,r,l⟩:=hl _ y v ey e2 (.inr ou)
    obtain⟨c,hc⟩:=co.has y fr
    refine⟨u,r,.inr ⟨?_,c,hc,?_⟩⟩
    ·have z:(relabel scope X.env).names.lookup y=some .local\/(relabel scope X.env).names.lookup y=some .cell\/(relabel scope X.env).names.lookup y=some .free:=e3'
     rcases z with z|z|z
     ·rcases bH (env:=X.env) z with w|⟨w,_⟩
      ·rw[fr]at w;cases w
      ·cases w
     ·exact .inl z
     ·exact .inr z
    ·rcases l with ⟨k,_⟩|⟨_,c',hc',z⟩
     ·have k':X.env.scope.names.lookup y=some .local:=k
      rcases ou with w|w
      ·rw[k']at w;cases w
      ·rw[k']at w;cases w
     ·rw[co.to y c hc]at hc'
      cases hc'
      exact cellK c _ z
 ·obtain⟨v,z⟩:=I.cell x c (co.to x c e)
  exact⟨v,cellK c v z⟩
 ·show(List.replicate tgs.length none++σ).length=(bG tgs X.N).length
  unfold bG
  simp only[QTq,List.length_replicate,QAq,I.len]
def slots:Tg->List Nat
 |.name i=>[i]
 |.tup is=>is
structure je(K:QQq)(tg:Tg)(env:Ev)(σ:St)(env':Ev)(σ':St)(H:Hp):Prop where
 eU:Sat K env' σ' H
 same:∀(i:Nat),i∉slots tg->env'[i]? =env[i]? /\σ'[i]? =σ[i]?
 vals:∀(i:Nat),i∈slots tg->∃d,env'[i]? =some (.val d)
 bors:∀(i:Nat)xs,env[i]? =some (.bor xs)->i∉slots tg
 len:σ'.length=σ.length
def tG(K:QQq)(tg:Tg):TG:=fun v σ H Q=>∃env d env',Sat K env σ H/\bz K H d v/\bD tg d env=some env'/\∀σ',je K tg env σ env' σ' H->Q σ' H
def GG(X:Cx)(tg:Tg)(e:Expr):Prop:=PG X e (tG X.K tg)
section
variable{K:QQq}{tg:Tg}{env env':Ev}{σ σ':St}{H:Hp}
theorem je.sub(h:je K tg env σ env' σ' H)(o:aJ env' σ' i a):aJ env σ i a:=by
 obtain⟨⟨s,xs,e1,e2⟩,e3⟩:=o
 by_cases hi:i∈slots tg
 ·obtain⟨d,e⟩:=h.vals i hi
  rw[e]at e1;cases e1;cases e2
 ·obtain⟨q1,q2⟩:=h.same i hi
  exact⟨⟨s,xs,by rw[<-q1];exact e1,e2⟩,by rw[<-q2];exact e3⟩
theorem qj{s:Sl}(h:cD i s env=some env'):env'=env.set i s/\i<env.length/\∀xs,env[i]? ≠some (.bor xs):=by
 unfold cD at h
 cases e:env[i]? with
 |none=>rw[e]at h;cases h
 |some t=>
  rw[e]at h
  have hi:=(QCz.mp e).1
  cases t with
  |bor xs=>cases h
  |un=>cases h;exact⟨rfl,hi,fun xs q=>by cases q⟩
  |val d=>cases h;exact⟨rfl,hi,fun xs q=>by cases q⟩
  |own ys=>cases h;exact⟨rfl,hi,fun xs q=>by cases q⟩
theorem Sat.put{d:D}(S:Sat K env σ H)(hi:i<env.length)(hd:bz K H d v):Sat K (env.set i (.val d)) (σ.set i (some v)) H:=by
 have hi':i<σ.length:=by rw[<-S.len];exact hi
 have own:∀j a,aJ (env.set i (.val d)) (σ.set i (some v)) j a->aJ env σ j a:=fun j a⟨⟨s,xs,e1,e2⟩,e3⟩=>by
  by_cases hj:i=j
  ·subst hj;rw[Qwq hi]at e1;cases e1;cases e2
  ·rw[Qxz hj]at e1 e3;exact⟨⟨s,xs,e1,e2⟩,e3⟩
 refine⟨by simpa using S.len,fun j s e=>?_,fun j k a h1 h2=>S.ne j k a (own j a h1) (own k a h2)⟩
 by_cases hj:i=j
 ·subst hj
  rw[Qwq hi]at e
  cases e
  rw[Qwq hi']
  exact⟨v,rfl,hd⟩
 ·rw[Qxz hj]at e⊢
  exact S.sl j s e
theorem NZ{d:D}(S:Sat K env σ H)(hd:bz K H d v)(h:cD i (.val d) env=some env'):je K (.name i) env σ env' (σ.set i (some v)) H:=by
 obtain⟨rfl,hi,hb⟩:=qj h
 refine⟨S.put hi hd,fun j hj=>?_,fun j hj=>?_,fun j xs e hj=>?_,by simp⟩
 ·have:i≠j:=fun z=>hj (by simp[slots,z])
  exact⟨Qxz this,Qxz this⟩
 ·have e:j=i:=by simpa[slots]using hj
  subst e
  exact⟨d,Qwq hi⟩
 ·have e':j=i:=by simpa[slots]using hj
  subst e'
  exact hb xs e
end
section
variable{X:Cx}{pos:Pos}
theorem vN(hN:X.N.Nodup)(hi:X.N[i]? =some x)(hx:Loc X.env.scope x)(hf:X.fn x=true\/X.env.scope.names.lookup x=some .local):GG X (.name i) (.Name x pos):=by
 intro QLz s σ H v u Q I r q
 obtain⟨env,d,env',S,hd,e,k⟩:=q
 exact Pj hN hi hx hf QLz s σ H v u Q I r (k _ (NZ S hd e))
def gm(sc:Scope)(N:List Str):List Nat->List Expr->Bool
 |[],[]=>true
 |i::is,.Name x _::es=>(N[i]? ==some x)&&(sc.names.lookup x==some .local)&&gm sc N is es
 |_,_=>false
inductive rN(X:Cx):List Nat->List Expr->Prop
 |nil:rN X [] []
 |cons {i:Nat} {is:List Nat} {x:Str} {p:Pos} {es:List Expr}:X.N[i]? =some x->Loc X.env.scope x->(X.fn x=true\/X.env.scope.names.lookup x=some .local)->rN X is es->rN X (i::is) (.Name x p::es)
theorem Jz:∀{is:List Nat}{es:List Expr},gm X.env.scope X.N is es=true->rN X is es
 |[],[]=>fun _=>.nil
 |[],_::_=>fun h=>by simp[gm]at h
 |_::_,[]=>fun h=>by simp[gm]at h
 |i::is,e::es=>fun h=>by
  cases e with
  |Name x p=>
   simp only[gm,QUq,beq_iff_eq]at h
   exact .cons h.1.1 (.inl h.1.2) (.inr h.1.2) (Jz h.2)
  |_=>simp[gm]at h
theorem yo(hN:X.N.Nodup):∀(is:List Nat)(es:List Expr),rN X is es->
  PGs X es (fun vs σ H Q=>∃env ds env',Sat X.K env σ H/\ao X.K H ds vs/\dJ is ds env=some env'/\∀σ',je X.K (.tup is) env σ env' σ' H->Q σ' H)
 |[],[],_=>fun QLz s σ H vs us Q I r⟨env,ds,env',S,l,e,k⟩=>by
  cases ds with
  |nil=>
   cases e
   refine Ph QLz s σ H vs us Q I r ⟨ao.bC.mp l,k σ ⟨S,fun i _=>⟨rfl,rfl⟩,fun i hi=>?_,fun i xs _=>?_,rfl⟩⟩
   ·simp[slots]at hi
   ·simp[slots]
  |cons d ds=>cases e
 |i::is,_,.cons (x:=x) (p:=p) (es:=es) h1 h2 h3 h4=>by
   have ih:=yo hN is es h4
   have one:GG X (.name i) (.Name x p):=vN hN h1 h2 h3
   intro QLz s σ H vs us Q I r q
   refine Ji (X:=X) one ih (by rfl) QLz s σ H vs us Q I r ?_
   obtain⟨env,ds,env',S,l,e,k⟩:=q
   cases ds with
   |nil=>cases e
   |cons d ds=>
    obtain⟨v,vr,rfl,hd,l'⟩:=ao.aH.mp l
    have e':(cD i (.val d) env).bind (dJ is ds)=some env':=e
    cases e1:cD i (.val d) env with
    |none=>rw[e1]at e';cases e'
    |some env1=>
     rw[e1]at e'
     refine⟨v,vr,rfl,env,d,env1,S,hd,e1,fun σ1 s1=>⟨env1,ds,env',s1.eU,l',e',fun σ2 s2=>k σ2 ⟨s2.eU,fun j hj=>?_,fun j hj=>?_,fun j xs q hj=>?_,s2.len.trans s1.len⟩⟩⟩
     ·have h1:j∉slots (.name i):=fun z=>hj (by simp[slots]at z⊢;exact .inl z)
      have h2:j∉slots (.tup is):=fun z=>hj (by simp[slots]at z⊢;exact .inr z)
      exact⟨(s2.same j h2).1.trans (s1.same j h1).1,(s2.same j h2).2.trans (s1.same j h1).2⟩
     ·by_cases h2:j∈slots (.tup is)
      ·exact s2.vals j h2
      ·have h1:j∈slots (.name i):=by simp[slots]at hj h2⊢;exact hj.resolve_right h2
       obtain⟨d',q⟩:=s1.vals j h1
       exact⟨d',(s2.same j h2).1.trans q⟩
     ·by_cases h1:j∈slots (.name i)
      ·exact s1.bors j xs q h1
      ·have h2:j∈slots (.tup is):=by simp[slots]at hj h1⊢;exact hj.resolve_left h1
       exact s2.bors j xs ((s1.same j h1).1.trans q) h2
theorem Ae{is:List Nat}{es:List Expr}{k:Nat}(hN:X.N.Nodup)(hc:X.calm=true)(h:rN X is es)(hl:(assignEach es X.env).length=is.length)(hst:(assignEach es X.env).findIdx? (·.1)=none):GG X (.tup is) (.Tuple es k pos):=by
 intro QLz s σ H v u Q I r q
 obtain⟨env,d,env',S,hd,e,k⟩:=q
 cases d with
 |tup ds=>
  obtain⟨a,vs,rfl,hq,l⟩:=cI hd
  refine Vs (n:=is.length) hc (yo hN is es h) hl hst QLz s σ H _ u Q I r ⟨a,vs,rfl,hq,?_,env,ds,env',S,l,e,k⟩
  have lens:∀(is:List Nat)(ds:List D)(env env':Ev),dJ is ds env=some env'->ds.length=is.length:=by
   intro is
   induction is with
   |nil=>intro ds env env' e;cases ds with|nil=>rfl|cons _ _=>cases e
   |cons i is ih=>
    intro ds env env' e
    cases ds with
    |nil=>cases e
    |cons d ds=>
     have e':(cD i (.val d) env).bind (dJ is ds)=some env':=e
     cases e1:cD i (.val d) env with
     |none=>rw[e1]at e';cases e'
     |some env1=>rw[e1]at e';simp[ih ds env1 env' e']
  rw[<-l.length]
  exact lens is ds env env' e
 |_=>cases e
end
def W0:Wi:=fun _ _ _ _=>False
theorem Sat.lay(S:Sat K env σ H)(h:H2=H\/∃p vs,H p=none/\H2=upd H p (.tup vs)):Nx K env σ H env H2:=by
 rcases h with rfl|⟨p,vs,hp,rfl⟩
 ·exact Nx.refl S
 ·exact Nx.laid S hp
variable{nl:Nat}
theorem qD:aJ (env.drop nl) (σ.drop nl) i a↔aJ env σ (nl+i) a:=by
 unfold aJ
 rw[List.getElem?_drop,List.getElem?_drop]
theorem Sat.drop{K:QQq}{env:Ev}{σ:St}{H:Hp}{nl:Nat}(S:Sat K env σ H):Sat K (env.drop nl) (σ.drop nl) H:=by
 refine⟨by rw[List.length_drop,List.length_drop,S.len],fun i s e=>?_,fun i j a h1 h2=>?_⟩
 ·rw[List.getElem?_drop]at e⊢
  exact S.sl _ s e
 ·have:=S.ne _ _ a (qD.mp h1) (qD.mp h2)
  omega
theorem gW(h:aJ (List.replicate nl .un++env) (List.replicate nl none++σ) i a):∃j,i=nl+j/\aJ env σ j a:=by
 obtain⟨⟨s,xs,e1,e2⟩,e3⟩:=h
 by_cases hi:i<nl
 ·rw[Qwz (by simpa using hi),List.getElem?_replicate,if_pos hi]at e1
  cases e1;cases e2
 ·refine⟨i-nl,by omega,?_⟩
  rw[QIz (by simp;omega)]at e1 e3
  simp only[List.length_replicate]at e1 e3
  exact⟨⟨s,xs,e1,e2⟩,e3⟩
theorem Sat.front(S:Sat K env σ H)(nl:Nat):Sat K (List.replicate nl .un++env) (List.replicate nl none++σ) H:=by
 refine⟨by simp[S.len],fun i s e=>?_,fun i j a h1 h2=>?_⟩
 ·by_cases hi:i<nl
  ·rw[Qwz (by simpa using hi),List.getElem?_replicate,if_pos hi]at e
   cases e;trivial
  ·rw[QIz (by simp;omega)]at e⊢
   simp only[List.length_replicate]at e⊢
   exact S.sl _ s e
 ·obtain⟨i',rfl,o1⟩:=gW h1
  obtain⟨j',rfl,o2⟩:=gW h2
  rw[S.ne i' j' a o1 o2]
structure yU(X:Cx)(c:Cf)(scope:Scope)(tgs:List Str)(tg:Tg)(cond elt:E)(tgE eltE:Expr)(ifs:List Expr):Prop where
 sc:Ha X.env.scope scope tgs X.N
 small:∀i∈slots tg,i<tgs.length
 tgt:∀cl fp s₀ H₀,(blk X scope cl (bG tgs X.N) fp s₀ H₀).Ok->GG (blk X scope cl (bG tgs X.N) fp s₀ H₀) tg tgE
 tests:(ifs=[]/\cond=.con (.bl true))\/∃ce,ifs=[ce]/\∀cl fp s₀ H₀,(blk X scope cl (bG tgs X.N) fp s₀ H₀).Ok->GT (blk X scope cl (bG tgs X.N) fp s₀ H₀) W0 c cond ce
 elts:∀cl fp s₀ H₀,(blk X scope cl (bG tgs X.N) fp s₀ H₀).Ok->GE (blk X scope cl (bG tgs X.N) fp s₀ H₀) W0 c elt eltE
structure LI(X:Cx)(c:Cf)(tg:Tg)(cond elt:E)(xs ys:List D)(τ env0:Ev)(σ σ0:St)(H3:Hp)(D:Addr)(nl i:Nat)(acc:List Mini.D)(vs:List V)(τ1:Ev)(σ1:St)(H1:Hp):Prop where
 le:i<=xs.length
 go:aU tg (ev c cond) (ev c elt) (xs.drop i) acc τ1=.ok ys τ
 eU:Sat X.K τ1 σ1 H1
 out:σ1.drop nl=σ
 acl:acc.length<=i
 cur:H1 D=some (.lst vs)
 den:ao X.K H1 acc vs
 sub:∀k a,aJ τ1 σ1 k a->aJ env0 σ0 k a
 pers:bK H3 H1
 keep:∀b u,H3 b=some u->b≠D->(∀k,¬aJ env0 σ0 k b)->H1 b=some u
 dom:∀b,H1 b=none->H3 b=none
 bors:∀(k:Nat)ws,env0[k]? =some (.bor ws)->∃ws',τ1[k]? =some (.bor ws')
section
variable{X:Cx}{c:Cf}{tg:Tg}{cond elt:E}{xs ys:List D}{τ env0:Ev}{σ σ0:St}{H3:Hp}{D:Addr}{nl i:Nat}{acc:List Mini.D}{vs:List V}{τ1 τ2:Ev}{σ1 σ2:St}{H1 H2:Hp}
theorem LI.no(L:LI X c tg cond elt xs ys τ env0 σ σ0 H3 D nl i acc vs τ1 σ1 H1)(hD:∀k,¬aJ env0 σ0 k D):∀k,¬aJ τ1 σ1 k D:=fun k z=>hD k (L.sub k D z)
end
structure Ch(K:QQq)(env:Ev)(σ:St)(H:Hp)(env':Ev)(σ':St)(H':Hp):Prop where
 eU:Sat K env' σ' H'
 sub:∀(i:Nat)a,aJ env' σ' i a->aJ env σ i a
 pers:bK H H'
 keep:∀b u,H b=some u->(∀i,¬aJ env σ i b)->H' b=some u
 dom:∀b,H' b=none->H b=none
 bors:∀(i:Nat)xs,env[i]? =some (.bor xs)->∃ys,env'[i]? =some (.bor ys)
variable{tg:Tg}
section
variable{K:QQq}{env env1 env2:Ev}{σ σ1 σ2:St}{H H1 H2:Hp}
theorem Nx.ch(N:Nx K env σ H env1 H1):Ch K env σ H env1 σ H1:=⟨N.eU,N.sub,N.pers,N.keep,N.dom,N.bors⟩
theorem je.ch(h:je K tg env σ env1 σ1 H):Ch K env σ H env1 σ1 H:=⟨h.eU,fun _ _ z=>h.sub z,bK.refl H,fun _ _ z _=>z,fun _ z=>z,fun i xs e=>⟨xs,(h.same i (h.bors i xs e)).1.trans e⟩⟩
theorem Ch.trans(a:Ch K env σ H env1 σ1 H1)(b:Ch K env1 σ1 H1 env2 σ2 H2):Ch K env σ H env2 σ2 H2:=
 ⟨b.eU,fun i c z=>a.sub i c (b.sub i c z),a.pers.trans b.pers,fun c vs z n=>b.keep c vs (a.keep c vs z n) fun i w=>n i (a.sub i c w),fun c z=>a.dom c (b.dom c z),fun i xs e=>let ⟨ys,e1⟩:=a.bors i xs e;b.bors i ys e1⟩
end
theorem je.out{σ1:St}(h:je K tg env σ env1 σ1 H)(hs:∀i∈slots tg,i<nl):σ1.drop nl=σ.drop nl:=by
 apply List.ext_getElem?
 intro i
 rw[List.getElem?_drop,List.getElem?_drop]
 exact(h.same (nl+i) fun z=>by have:=hs _ z;omega).2
section
variable{X:Cx}{c:Cf}{tg:Tg}{cond elt:E}{xs ys:List D}{τ env0:Ev}{σ σ0:St}{H3:Hp}{D:Addr}{nl i:Nat}{acc acc':List Mini.D}{vs:List V}{τ1 τ2:Ev}{σ1 σ2:St}{H1 H2:Hp}
theorem LI.skip(L:LI X c tg cond elt xs ys τ env0 σ σ0 H3 D nl i acc vs τ1 σ1 H1)(hD:∀k,¬aJ env0 σ0 k D)(C:Ch X.K τ1 σ1 H1 τ2 σ2 H2)(hi:i<xs.length)(ho:σ2.drop nl=σ)
  (go:aU tg (ev c cond) (ev c elt) (xs.drop (i+1)) acc τ2=.ok ys τ):LI X c tg cond elt xs ys τ env0 σ σ0 H3 D nl (i+1) acc vs τ2 σ2 H2 where
 le:=hi
 go:=go
 eU:=C.eU
 out:=ho
 acl:=Nat.le_succ_of_le L.acl
 cur:=C.keep D _ L.cur (L.no hD)
 den:=L.den.mono C.pers
 sub:=fun k a z=>L.sub k a (C.sub k a z)
 pers:=L.pers.trans C.pers
 keep:=fun b ws z n1 n2=>C.keep b ws (L.keep b ws z n1 n2) fun k o=>n2 k (L.sub k b o)
 dom:=fun b z=>L.dom b (C.dom b z)
 bors:=fun k ws e=>let ⟨w1,e1⟩:=L.bors k ws e;C.bors k w1 e1
theorem LI.push{d:Mini.D}(L:LI X c tg cond elt xs ys τ env0 σ σ0 H3 D nl i acc vs τ1 σ1 H1)(hD:∀k,¬aJ env0 σ0 k D)(C:Ch X.K τ1 σ1 H1 τ2 σ2 H2)(hi:i<xs.length)(ho:σ2.drop nl=σ)
  (go:aU tg (ev c cond) (ev c elt) (xs.drop (i+1)) (acc++[d]) τ2=.ok ys τ)(hd:bz X.K H2 d v):LI X c tg cond elt xs ys τ env0 σ σ0 H3 D nl (i+1) (acc++[d]) (vs++[v]) τ2 σ2 (upd H2 D (.lst (vs++[v]))):=by
 have cur:=C.keep D _ L.cur (L.no hD)
 have ne:∀b u,H2 b=some u->(∀ws,u≠ .lst ws)->b≠D:=fun b u q n z=>by subst z;rw[cur]at q;cases q;exact n vs rfl
 have p:bK H2 (upd H2 D (.lst (vs++[v]))):=⟨fun b ws q=>by rw[aB (ne b _ q (by intro ws z;cases z))];exact q,fun b o u q=>by rw[aB (ne b _ q (by intro ws z;cases z))];exact q⟩
 have no2:∀k,¬aJ τ2 σ2 k D:=fun k z=>L.no hD k (C.sub k D z)
 refine⟨hi,go,C.eU.keep p fun k b u ow hb=>?_,ho,by rw[QTq];exact Nat.succ_le_succ L.acl,aP,((L.den.mono C.pers).append (ao.cN hd ao.dY)).mono p,fun k a z=>L.sub k a (C.sub k a z),
  (L.pers.trans C.pers).trans p,fun b ws z n1 n2=>?_,fun b z=>L.dom b (C.dom b ?_),fun k ws e=>let ⟨w1,e1⟩:=L.bors k ws e;C.bors k w1 e1⟩
 ·have nb:b≠D:=fun z=>by subst z;exact no2 k ow
  rw[aB nb];exact hb
 ·rw[aB n1]
  exact C.keep b ws (L.keep b ws z n1 n2) fun k o=>n2 k (L.sub k b o)
 ·by_cases hb:b=D
  ·subst hb;rw[aP]at z;cases z
  ·rw[aB hb]at z;exact z
end
theorem uG{α:Type}{xs:List α}{d:α}(h:xs[i]? =some d):xs.drop i=d::xs.drop (i+1):=by
 obtain⟨hi,e⟩:=QCz.mp h
 rw[List.drop_eq_getElem_cons hi,e]
theorem uI{c:Cf}{cond elt:E}{tgE iterE eltE:Expr}{ifs:List Expr}{pos:Pos}{cl:List (Str×Addr)}
  {QLz:QQz}{σ:St}{H:Hp}{s:Shared}{env τ:Ev}{J:It}{fp:List Addr}{it:Addr}{tn:Nat->Heap->Prop}{xs ys:List D}{RR:Value->Addr->Result->Shared->Prop}{E:QZq}
  (B:yU X c scope tgs tg cond elt tgE eltE ifs)(hc:X.calm=true)(co:Mz scope X.env cl)
  (I:Inv X QLz σ H s)(S:Sat X.K env σ H)(T:Turn X.prog X.w X.K tgE J fp it tn)(t0:tn 0 s.heap)(hf:∀b∈fp,gj X QLz H b)(G:Gives X.K J xs H)
  (hgo:aU tg (ev c cond) (ev c elt) xs [] (List.replicate tgs.length .un++env)=.ok ys τ)
  (hRR:∀(D C:Addr)(s':Shared)(H':Hp)(vs:List V)(m:QZz),Inv X QLz σ H' s'->Nx X.K env σ H (τ.drop tgs.length) H'->H' D=some (.lst vs)->ao X.K H' ys vs->H D=none->
   s'.heap.Ns C m->gj X QLz H' C->RR (.ref D) C (.ok .next) s'):
  wpAny (model X.prog X.w) X.A (newList []) (fun acc s₃=>wpAny (model X.prog X.w) X.A (newFunctionEnv scope X.env.globals cl [] X.env.qual none .none (some X.env)) (fun cenv s₄=>
   codeAny (model X.prog X.w) X.A (.compStart (.ListComp eltE [⟨tgE,iterE,ifs,0⟩] scope pos) 0 (.ref it) acc {cenv with scope:=relabel scope X.env}) (RR acc cenv.locals) s₄) E s₃) E s:=by
 have hlt:∀b∈fp,b<s.heap.objs.size:=fun b hb=>by
  obtain⟨o,e,_⟩:=T.obj 0 _ t0 b hb
  exact Qqz e
 refine Qjq (wpAny_newFunctionEnv B.sc.nocell (by intro y hy;simp at hy) (fun h₁ hns₁ hsb₁=>?_) B.sc.kind)
 dsimp only at hns₁ hsb₁⊢
 generalize hDd:s.heap.objs.size=D at*
 have hDn:H D=none:=by rw[<-hDd];exact I.hok.fresh (QVz _)
 have I3:Inv X QLz σ (upd H D (.lst [])) {s with heap:=s.heap.push {cls:=.type "list",dict:=none,data:=.seq ([]:List Value).toArray}}:=by
  have:=I.laid (a:=s.heap.objs.size) (o:=.lst []) (t':=s.toks) (h':=s.heap.push {cls:=.type "list",dict:=none,data:=.seq ([]:List Value).toArray}) (fun b o e=>QWq _ e) (QVz _) ⟨QIq _,[],0,.nil,Qzq _ rfl⟩
  rw[hDd]at this
  exact this
 obtain⟨s3,hs3⟩:∃s3:Shared,s3={s with heap:=s.heap.push {cls:=.type "list",dict:=none,data:=.seq ([]:List Value).toArray}}:=⟨_,rfl⟩
 rw[<-hs3]at I3
 have hs3h:s.heap.push {cls:=.type "list",dict:=none,data:=.seq ([]:List Value).toArray}=s3.heap:=by rw[hs3]
 rw[hs3h]at hns₁ hsb₁⊢
 have hsz:s3.heap.objs.size=D+1:=by rw[<-hs3h,Heap.size_push,hDd]
 have hk3:∀b o,s3.heap.get? b=some o->h₁.get? b=some o:=fun b o e=>hsb₁.extBut b o (Qvz (Qqz e)) (QWq _ e)
 have hk:∀b o,s.heap.get? b=some o->s3.heap.get? b=some o:=fun b o e=>by rw[<-hs3h];exact QWq _ e
 have hf3:∀b∈fp,gj X QLz (upd H D (.lst [])) b:=fun b hb=>⟨by
  rw[aB (Qvz (hlt b hb))];exact(hf b hb).1,(hf b hb).2⟩
 have hlt3:∀b∈fp,b<s3.heap.objs.size:=fun b hb=>Qvq (hlt b hb) (by rw[hsz];exact Nat.le_succ _)
 have N3:Nx X.K env σ H env (upd H D (.lst [])):=Nx.laid S hDn
 generalize hH3:upd H D (.lst [])=H3 at I3 hf3 N3
 have hD3:H3 D=some (.lst []):=by rw[<-hH3];exact aP
 have noD:∀k,¬aJ (List.replicate tgs.length .un++env) (List.replicate tgs.length none++σ) k D:=fun k z=>by
  obtain⟨j,_,o⟩:=gW z
  obtain⟨_,_,q,_⟩:=S.own o
  rw[hDn]at q;cases q
 have ok':(blk X scope cl (bG tgs X.N) fp s3 H3).Ok:=Lw I3 B.sc co hf3 hlt3
 have hns':h₁.Ns s3.heap.objs.size fun _=>none:=by simpa using hns₁
 have fpk:∀{H1:Hp},(∀b∈fp,H1 b=none)->∀b∈fp,gj (blk X scope cl (bG tgs X.N) fp s3 H3) [] H1 b:=fun{H1}hn b hb=>
  ⟨hn b hb,(ok'.exf b hb).1,ok'.exfs b hb,.inl hb,fun x q e=>(ok'.exf b hb).2 x q e,fun p hp=>absurd (show p∈([]:QQz)from hp) (by simp)⟩
 have loop:∀s4:Shared,s4={s with heap:=h₁,toks:=s.toks+([]:List (Str×Value)).length}->
   codeAny (model X.prog X.w) X.A (.compLoop (.ListComp eltE [⟨tgE,iterE,ifs,0⟩] scope pos) 0 (.ref it) (.ref D) (compEnvC scope cl s3.heap.objs.size X.env)) (RR (.ref D) s3.heap.objs.size) s4:=by
  rintro s4 rfl
  have I4:Inv (blk X scope cl (bG tgs X.N) fp s3 H3) [] (List.replicate tgs.length none++σ) H3 {s with heap:=h₁,toks:=s.toks+([]:List (Str×Value)).length}:=by
   have:=QZ (t:=s.toks+([]:List (Str×Value)).length) I3 B.sc co hf3 hlt3 hns' hk3
   rw[hs3]at this⊢
   exact this
  refine v5 (fun n s'=>∃i acc vs τ1 σ1 H1,n=xs.length-i/\Inv (blk X scope cl (bG tgs X.N) fp s3 H3) [] σ1 H1 s'/\tn i s'.heap/\(∀b∈fp,H1 b=none)/\
   LI X c tg cond elt xs ys τ (List.replicate tgs.length .un++env) σ (List.replicate tgs.length none++σ) H3 D tgs.length i acc vs τ1 σ1 H1) ?_ xs.length ?_
  ·rintro n s1 ⟨i,acc,vs,τ1,σ1,H1,rfl,I1,t1,f1,L⟩
   by_cases hi:i<xs.length
   ·--one more turn
    obtain⟨d,hd⟩:∃d,xs[i]? =some d:=⟨xs[i],by simp[hi]⟩
    have q0:=L.go
    rw[uG hd,aU]at q0
    cases hset:bD tg d τ1 with
    |none=>rw[hset]at q0;cases q0
    |some τ2=>
     rw[hset]at q0
     simp only at q0
     have p1:bK H H1:=N3.pers.trans L.pers
     refine bW (T.item (blk X scope cl (bG tgs X.N) fp s3 H3) rfl rfl rfl hc i [] s1 σ1 H1 _ I1 (fpk f1) t1 (G.go H1 p1 i d hd)) fun r s2⟨u,hr,h2⟩=>?_
     subst hr
     refine bW h2 fun _ s3'⟨x,H2,I2,r2,y2,t2,f2⟩=>?_
     obtain⟨Dx,lay⟩:=G.yld H1 p1 i d hd x H2 y2
     have N2:=L.eU.lay lay
     have D2:H2 D=some (.lst vs):=N2.keep D _ L.cur (L.no noD)
     have I2':=I2.pinned (fpk f2) (T.obj _ _ t2)
     refine bW (B.tgt cl fp s3 H3 ok' _ s3' σ1 H2 x u (fun σ2 H'=>H'=H2/\je X.K tg τ1 σ1 τ2 σ2 H2) I2' r2 ⟨τ1,d,τ2,N2.eU,Dx,hset,fun σ2 st=>⟨rfl,st⟩⟩) fun _ s4'⟨σ2,H2',I3',hH,st⟩=>?_
     subst hH
     have ho:σ2.drop tgs.length=σ:=(st.out B.small).trans L.out
     have C2:Ch X.K τ1 σ1 H1 τ2 σ2 H2':=N2.ch.trans st.ch
     have again:∀{s7:Shared}{H7:Hp}{acc':List Mini.D}{vs':List V}{τ7:Ev},Inv (blk X scope cl (bG tgs X.N) fp s3 H3) ([]++nA fp s3'.heap) σ2 H7 s7->
       LI X c tg cond elt xs ys τ (List.replicate tgs.length .un++env) σ (List.replicate tgs.length none++σ) H3 D tgs.length (i+1) acc' vs' τ7 σ2 H7->
       ∃k,k<xs.length-i/\∃i acc vs τ1 σ1 H1,k=xs.length-i/\Inv (blk X scope cl (bG tgs X.N) fp s3 H3) [] σ1 H1 s7/\tn i s7.heap/\(∀b∈fp,H1 b=none)/\
        LI X c tg cond elt xs ys τ (List.replicate tgs.length .un++env) σ (List.replicate tgs.length none++σ) H3 D tgs.length i acc vs τ1 σ1 H1:=fun{s7 H7 acc' vs' τ7}I7 L7=>by
      refine⟨xs.length- (i+1),by omega,i+1,acc',vs',τ7,σ2,H7,rfl,I7.lV,T.keep _ _ _ t2 fun b hb o e=>(I7.pin (b,o) (QVq _ (QVq _ (iy hb e)))).1,fun b hb=>?_,L7⟩
      obtain⟨o,e,_⟩:=T.obj _ _ t2 b hb
      exact(I7.pin (b,o) (QVq _ (QVq _ (iy hb e)))).2.1
     obtain⟨xc,dc,bc,τ3,e1,e2,e3,q1⟩:∃xc dc bc τ3,ev c cond τ2=.ok xc τ3/\xc.jG=some dc/\gP dc=some bc/\
       (if bc then(ev c elt τ3).ak fun d σ₃=>aU tg (ev c cond) (ev c elt) (xs.drop (i+1)) (acc++[d]) σ₃ else aU tg (ev c cond) (ev c elt) (xs.drop (i+1)) acc τ3)=.ok ys τ:=by
      cases r:ev c cond τ2 with
      |bad=>rw[r]at q0;cases q0
      |exc k τ3=>rw[r]at q0;cases q0
      |ok xc τ3=>
       rw[r]at q0
       cases xc with
       |ref k=>cases q0
       |tmp zs=>cases q0
       |val dc=>
        simp only[Out.cj,Out.ak]at q0
        cases q:gP dc with
        |none=>rw[q]at q0;cases q0
        |some bc=>rw[q]at q0;exact⟨_,dc,bc,τ3,rfl,rfl,q,q0⟩
       |new zs=>
        simp only[Out.cj,Out.ak]at q0
        cases q:gP zs.d with
        |none=>rw[q]at q0;cases q0
        |some bc=>rw[q]at q0;exact⟨_,zs.d,bc,τ3,rfl,rfl,q,q0⟩
     have after:∀(s5:Shared)(H5:Hp),Inv (blk X scope cl (bG tgs X.N) fp s3 H3) ([]++nA fp s3'.heap) σ2 H5 s5->Nx X.K τ2 σ2 H2' τ3 H5->
       (if bc=true then wpAny (model X.prog X.w) X.A (eval eltE (compEnvC scope cl s3.heap.objs.size X.env)) (fun x s₄=>
        wpAny (model X.prog X.w) X.A (call (.builtin "list.append") [.ref D,x]) (fun _ s₅=>∃m,m<xs.length-i/\∃i acc vs τ1 σ1 H1,m=xs.length-i/\Inv (blk X scope cl (bG tgs X.N) fp s3 H3) [] σ1 H1 s₅/\tn i s₅.heap/\(∀b∈fp,H1 b=none)/\
        LI X c tg cond elt xs ys τ (List.replicate tgs.length .un++env) σ (List.replicate tgs.length none++σ) H3 D tgs.length i acc vs τ1 σ1 H1) (fun _ _=>False) s₄) (fun _ _=>False) s5
       else∃m,m<xs.length-i/\∃i acc vs τ1 σ1 H1,m=xs.length-i/\Inv (blk X scope cl (bG tgs X.N) fp s3 H3) [] σ1 H1 s5/\tn i s5.heap/\(∀b∈fp,H1 b=none)/\
        LI X c tg cond elt xs ys τ (List.replicate tgs.length .un++env) σ (List.replicate tgs.length none++σ) H3 D tgs.length i acc vs τ1 σ1 H1):=fun s5 H5 I5 N5=>by
      have C5:=C2.trans N5.ch
      cases bc with
      |false=>
       rw[if_neg Qjz]at q1⊢
       exact again I5 (L.skip noD C5 hi ho q1)
      |true=>
       rw[if_pos rfl]at q1⊢
       obtain⟨xe,de,τ4,e4,e5,q2⟩:∃xe de τ4,ev c elt τ3=.ok xe τ4/\xe.jG=some de/\aU tg (ev c cond) (ev c elt) (xs.drop (i+1)) (acc++[de]) τ4=.ok ys τ:=by
        cases r:ev c elt τ3 with
        |bad=>rw[r]at q1;cases q1
        |exc k τ3=>rw[r]at q1;cases q1
        |ok xe τ4=>
         rw[r]at q1
         cases xe with
         |ref k=>cases q1
         |tmp zs=>cases q1
         |val de=>exact⟨_,de,τ4,rfl,rfl,q1⟩
         |new zs=>exact⟨_,zs.d,τ4,rfl,rfl,q1⟩
       refine bW ((B.elts cl fp s3 H3 ok').d _ s5 σ2 H5 (fun v H6=>Nx X.K τ3 σ2 H5 τ4 H6/\bz X.K H6 de v) I5 ⟨τ3,N5.eU,?_⟩) fun u s6⟨v,H6,I6,r6,N6,D6⟩=>?_
       ·rw[e4]
        cases xe with
        |ref k=>cases e5
        |tmp zs=>cases e5
        |val d'=>cases e5;exact fun v H' N Dv=>⟨N,Dv⟩
        |new zs=>cases e5;exact fun v H' N Dv=>⟨N,Dv⟩
       ·have C6:=C5.trans N6.ch
        have cur:=C6.keep D _ L.cur (L.no noD)
        have lenv:vs.length<sizeLine:=by
         have h1:=L.den.length
         have h2:=L.acl
         have h3:=G.len
         omega
        refine bW (ug (X:=blk X scope cl (bG tgs X.N) fp s3 H3) _ s6 σ2 H6 (.ref D) [v] (.ref D) [u] (fun _ H7=>H7=upd H6 D (.lst (vs++[v]))) I6 rfl (.cons r6 .nil) ⟨D,vs,v,rfl,rfl,cur,lenv,rfl⟩) fun _ s7⟨_,H7,I7,_,e7⟩=>?_
        subst e7
        exact again I7 (L.push noD C6 hi ho q2 D6)
     rcases B.tests with ⟨ei,ec⟩|⟨ce,ei,hC⟩
     ·subst ei ec
      simp only[v_0,v_1,Zv,v_3,v_4,Zu,v_6,Yg,Zt,Ni,uV,Hs,Hr,El,Nr,Uk,Nq,Hq,Ho,Np,Nm,mX,Nk,Hn,Nj,Hm,lU]at e1
      cases e1
      cases e2
      cases e3
      exact QKz (after s4' H2' I3' (Nx.refl st.eU))
     ·subst ei
      refine wpAny_tests_one (bW (hC cl fp s3 H3 ok' _ s4' σ2 H2' (fun k H'=>k=bc/\Nx X.K τ2 σ2 H2' τ3 H') I3' ⟨τ2,st.eU,by rw[e1];exact⟨dc,bc,e2,e3,fun H' N=>⟨rfl,N⟩⟩⟩) fun k s5⟨H5,I5,hk',N5⟩=>?_)
      subst hk'
      exact after s5 H5 I5 N5
   ·--the end
    have e:i=xs.length:=Nat.le_antisymm L.le (Nat.le_of_not_lt hi)
    have q0:=L.go
    rw[e,List.drop_length,aU]at q0
    cases q0
    refine bW (T.done (blk X scope cl (bG tgs X.N) fp s3 H3) rfl rfl rfl hc i [] s1 σ1 H1 _ I1 (fpk f1) t1 (G.stop H1 (N3.pers.trans L.pers) i (by omega))) fun r s2⟨hr,I2⟩=>?_
    subst hr
    obtain⟨m,hm,_⟩:=I2.loc
    have IX:Inv X QLz σ H1 s2:=Inv.call' I3 I2.os I2.base I2.hok I2.bare fun b hb=>⟨(hf3 b hb).2.2.2.1,(hf3 b hb).2.1,(hf3 b hb).2.2.2.2.1,(hf3 b hb).2.2.2.2.2⟩
    refine hRR D s3.heap.objs.size s2 H1 vs m IX ⟨?_,fun k a z=>?_,N3.pers.trans L.pers,fun b ws z w=>?_,fun b z=>N3.dom b (L.dom b z),fun k ws z=>?_⟩ L.cur L.den hDn hm (I3.yt (QVz _) I2.free)
    ·have:=L.eU.drop (nl:=tgs.length)
     rw[L.out]at this
     exact this
    ·have z':aJ (τ.drop tgs.length) (σ1.drop tgs.length) k a:=by rw[L.out];exact z
     obtain⟨j,ej,o⟩:=gW (L.sub _ a (qD.mp z'))
     have:k=j:=by omega
     subst this
     exact o
    ·refine L.keep b ws (N3.keep b ws z w) (fun q=>?_) fun k o=>?_
     ·subst q;rw[hDn]at z;cases z
     ·obtain⟨j,_,o'⟩:=gW o
      exact w j o'
    ·obtain⟨ws',q⟩:=L.bors (tgs.length+k) ws (by rw[QIz (by simp)];simpa using z)
     exact⟨ws',by rw[List.getElem?_drop];exact q⟩
  ·refine⟨0,[],[],_,_,H3,rfl,I4,T.keep _ _ _ t0 fun b _ o e=>hk3 b o (hk b o e),fun b hb=>(hf3 b hb).1,⟨QIq _,hgo,N3.eU.front _,by simp,QVz _,hD3,ao.dY,fun _ _ z=>z,bK.refl _,fun _ _ z _ _=>z,fun _ z=>z,fun _ ws z=>⟨ws,z⟩⟩⟩
 exact codeAny_compStart_list (loop _ rfl) (T.self _ 0 _ _ _ (T.keep _ _ _ t0 fun b _ o e=>hk3 b o (hk b o e)) (loop _ rfl))
section
variable{X:Cx}{W:Wi}{c:Cf}{m m1 m2 m3:E}{e a b:Expr}{es:List Expr}{pos:Pos}
def dU:Cm->CmpOp
 |.eq=>.Eq
 |.ne=>.NotEq
 |.lt=>.Lt
 |.le=>.LtE
 |.gt=>.Gt
 |.ge=>.GtE
 |.isin=>.In
 |.notin=>.NotIn
 |.f9=>.Is
 |.notN=>.IsNot
def gM(X:Cx)(op:CmpOp)(f:D->D->Option Bool):Prop:=
 ∃r,fH X (compareOp op) r/\∀(H:Hp)(x y:D)(k:Bool)(v u:V)(Q:VK),bz X.K H x v->cQ X.K H y u->f x y=some k->Q (.bl k) H->r v u H Q
theorem cQ.int{K:QQq}{H:Hp}{i:Int}{v:V}(h:cQ K H (.int i) v):v=.int i:=by
 rcases h with h|⟨o,a,q,_⟩
 ·exact h
 ·cases o<;>cases q
theorem zA{op:CmpOp}{g:Int->Int->Bool}{f:D->D->Option Bool}(ho:fH X (compareOp op) (I8 fun i j=>.bl (g i j)))(hf:∀x y k,f x y=some k->∃i j,x=.int i/\y=.int j/\k=g i j):gM X op f:=
 ⟨_,ho,fun H x y k v u Q Dx Dy e q=>by
  obtain⟨i,j,rfl,rfl,rfl⟩:=hf x y k e
  exact⟨i,j,Dx,Dy.int,q⟩⟩
theorem aav(hu:X.A.units+60<cLine):gM X .Eq (aG .eq):=⟨_,V0 hu,fun H x y k v u Q Dx Dy e q=>by
 unfold aG at e;dsimp only at e
 split at e
 ·rename_i h;cases e;exact⟨x,y,.inl Dx,Dy,h,q⟩
 ·cases e⟩
theorem aap(hu:X.A.units+60<cLine):gM X .NotEq (aG .ne):=⟨_,VH hu,fun H x y k v u Q Dx Dy e q=>by
 unfold aG at e;dsimp only at e
 split at e
 ·rename_i h;cases e;exact⟨x,y,.inl Dx,Dy,h,q⟩
 ·cases e⟩
theorem aar:gM X .LtE (aG .le):=zA aaR fun x y k e=>by
 cases x<;>cases y<;>(unfold aG at e;simp at e)
 exact⟨_,_,rfl,rfl,e.symm⟩
theorem aau:gM X .GtE (aG .ge):=zA aaT fun x y k e=>by
 cases x<;>cases y<;>(unfold aG at e;simp at e)
 exact⟨_,_,rfl,rfl,e.symm⟩
theorem cQ.Oa(h:cQ K H (.tup xs) v):Mt K H xs v:=by
 rcases h with h|⟨o,a,q,_⟩
 ·obtain⟨a,vs,rfl,hq,l⟩:=cI h
  exact⟨a,vs,rfl,.inr hq,l⟩
 ·cases o<;>cases q
theorem cQ.H9(h:cQ K H (.lst xs) v):Mt K H xs v:=by
 rcases h with h|⟨o,a,q,rfl,u,ha,hq⟩
 ·obtain⟨a,vs,rfl,hq,l⟩:=cV h
  exact⟨a,vs,rfl,.inl hq.sq,l⟩
 ·cases o<;>cases q
  obtain⟨vs,rfl,l⟩:=hq
  exact⟨a,vs,rfl,.inl (.inl (.inl ha)),l⟩
theorem cQ.str{K:QQq}{H:Hp}{x:Str}{v:V}(h:cQ K H (.str x) v):v=.str x:=by
 rcases h with h|⟨o,a,q,_⟩
 ·exact h
 ·cases o<;>cases q
theorem Kp(x y:Str)(h:x.length=1):(!(Builtin.Str.occurrences y x 0 y.length 1).isEmpty)=aK (.str x) (signs y):=by
 obtain⟨cps⟩:=x
 obtain⟨l⟩:=cps
 have hl:l.length=1:=h
 match l,hl with
 |[k],_=>
  have:=PySem.StrLaws.found_one y k
  rw[this]
  unfold signs
  generalize y.cps.toList=cs
  induction cs with
  |nil=>rfl
  |cons z zs ih=>
   rw[Qyz]
   show decide (k∈z::zs)=(bV (.str ⟨#[z]⟩) (.str ⟨#[k]⟩)||aK (.str ⟨#[k]⟩) (zs.map fun c=>.str ⟨#[c]⟩))
   rw[<-ih]
   have e:bV (.str ⟨#[z]⟩) (.str ⟨#[k]⟩)=decide (k=z):=by
    simp only[bV]
    by_cases q:k=z
    ·subst q;simp
    ·have q':¬z=k:=fun e=>q e.symm
     simp[q,q']
   rw[e]
   by_cases q:k=z
   ·simp[q]
   ·simp[q]
theorem jR{kvs:List (Key×V)}(k:Key):(fP kvs k).isSome=aK (bU k) (kvs.map fun p=>bU p.1):=by
 induction kvs with
 |nil=>rfl
 |cons p r ih=>
  obtain⟨k',v⟩:=p
  show _=(bV (bU k') (bU k)||aK (bU k) (r.map fun p=>bU p.1))
  rw[<-ih]
  have e:bV (bU k') (bU k)=decide (k'=k):=by
   cases k'<;>cases k<;>simp[bU,bV,Bool.beq_eq_decide_eq]
  rw[e]
  by_cases q:k'=k
  ·subst q;simp[jo]
  ·simp[q,jq]
theorem eN{x:D}(h:keyOk x=true):∃k:Key,x=bU k:=by
 cases x<;>simp[keyOk]at h
 ·exact⟨.inl _,rfl⟩
 ·exact⟨.inr _,rfl⟩
theorem iI{k:Key}(h:bz K H (bU k) v):v=kV k:=by
 cases k<;>exact h
def IW(neg:Bool):R2:=fun x y H Q=>∃a k kvs,y=.ref a/\x=kV k/\Rd H a (.dK kvs)/\Q (.bl (if neg then !(fP kvs k).isSome else(fP kvs k).isSome)) H
theorem Jt(hu:X.A.units+1<cLine):fH X (compareOp .In) (IW false):=by
 intro QLz s σ H x y v u Q I rx ry h
 obtain⟨a,k,kvs,rfl,rfl,hd,q⟩:=h
 cases ry
 exact afZ hu I (.inl ⟨kvs,k,hd,rfl,rfl⟩) rx fun s3 I3=>⟨.bl _,H,I3,rfl,q⟩
theorem xN(hu:X.A.units+1<cLine):fH X (compareOp .NotIn) (IW true):=by
 intro QLz s σ H x y v u Q I rx ry h
 obtain⟨a,k,kvs,rfl,rfl,hd,q⟩:=h
 cases ry
 exact QQ hu I (.inl ⟨kvs,k,hd,rfl,rfl⟩) rx fun s3 I3=>⟨.bl _,H,I3,rfl,q⟩
theorem j6{ks ds:List D}(h:cQ K H (.cH ks ds) v):∃a kvs,v=.ref a/\Rd H a (.dK kvs)/\ks=kvs.map (fun p=>bU p.1)/\ao K H ds (kvs.map (·.2)):=by
 rcases h with h|⟨o,a,q,rfl,u,ha,hq⟩
 ·unfold bz at h;obtain⟨a,o,kvs,e,r,k⟩:=h;exact⟨a,kvs,e,.inr ⟨o,r⟩,k⟩
 ·cases o<;>cases q
  obtain⟨kvs,rfl,k,l⟩:=hq
  exact⟨a,kvs,rfl,.inl ha,k,l⟩
def aaD(K:QQq)(neg:Bool):R2:=fun x y H Q=>∃a d k xs,x=.ref a/\y=.ref d/\Rd H d (.dS xs)/\(∀x∈xs,cB K H x.1 x.2.1)/\cB K H k a/\Q (.bl (if neg then !(xX k xs).isSome else(xX k xs).isSome)) H
theorem VP(hu:X.A.units+2<cLine):fH X (compareOp .In) (aaD X.K false):=by
 intro QLz s σ H x y v u Q I rx ry h
 obtain⟨a,d,k,xs,rfl,rfl,hd,hk,ha,q⟩:=h
 cases rx
 cases ry
 exact aej hu I hd hk ha fun s3 I3=>⟨.bl _,H,I3,rfl,q⟩
theorem FW(hu:X.A.units+2<cLine):fH X (compareOp .NotIn) (aaD X.K true):=by
 intro QLz s σ H x y v u Q I rx ry h
 obtain⟨a,d,k,xs,rfl,rfl,hd,hk,ha,q⟩:=h
 cases rx
 cases ry
 exact Oe hu I hd hk ha fun s3 I3=>⟨.bl _,H,I3,rfl,q⟩
theorem vZ{ks ds:List D}(h:cQ K H (.jf ks ds) v):∃a xs,v=.ref a/\Rd H a (.dS xs)/\ks=xs.map (fun x=>dX x.1)/\(∀x∈xs,cB K H x.1 x.2.1)/\ao K H ds (xs.map (·.2.2)):=by
 rcases h with h|⟨o,a,q,rfl,u,ha,hq⟩
 ·unfold bz at h;obtain⟨a,o,xs,e,r,k⟩:=h;exact⟨a,xs,e,.inr ⟨o,r⟩,k⟩
 ·cases o<;>cases q
  obtain⟨xs,rfl,k⟩:=hq
  exact⟨a,xs,rfl,.inl ha,k⟩
theorem aas(hu:X.A.units+60<cLine):gM X .In (aG .isin):=
 ⟨_,(VR hu).or ((Jt (by omega)).or (Ga.or (VP (by omega)))),fun H x y k v u Q Dx Dy e q=>by
  cases y with
  |tup xs=>
   unfold aG at e;dsimp only at e
   split at e
   ·rename_i h;cases e;exact .inl ⟨x,xs,Dx,Dy.Oa,h,q⟩
   ·cases e
  |lst xs=>
   unfold aG at e;dsimp only at e
   split at e
   ·rename_i h;cases e;exact .inl ⟨x,xs,Dx,Dy.H9,h,q⟩
   ·cases e
  |cH ks vs=>
   unfold aG at e;dsimp only at e
   split at e
   ·rename_i h
    cases e
    obtain⟨k,rfl⟩:=eN h
    obtain⟨a,kvs,rfl,ha,rfl,l⟩:=j6 Dy
    exact .inr (.inl ⟨a,k,kvs,rfl,iI Dx,ha,by simpa[jR]using q⟩)
   ·cases e
  |jf ks vs=>
   unfold aG at e;dsimp only at e
   split at e
   ·rename_i h
    cases e
    obtain⟨k,rfl⟩:=jC h
    obtain⟨a,rfl,ka⟩:=p7 Dx
    obtain⟨d,xs,rfl,hd,rfl,hk,l⟩:=vZ Dy
    exact .inr (.inr (.inr ⟨a,d,k,xs,rfl,rfl,hd,hk,ka,by rw[Di]at q;simpa using q⟩))
   ·cases e
  |str y=>
   cases x with
   |str x=>
    unfold aG at e;dsimp only at e
    split at e
    ·rename_i h;cases e;exact .inr (.inr (.inl ⟨x,y,Dx,Dy.str,by rw[Kp x y h];exact q⟩))
    ·cases e
   |_=>unfold aG at e;simp at e
  |_=>unfold aG at e;simp at e⟩
theorem Ir(hu:X.A.units+60<cLine):gM X .NotIn (aG .notin):=
 ⟨_,(FZ hu).or ((xN (by omega)).or (FW (by omega))),fun H x y k v u Q Dx Dy e q=>by
  cases y with
  |tup xs=>
   unfold aG at e;dsimp only at e
   split at e
   ·rename_i h;cases e;exact .inl ⟨x,xs,Dx,Dy.Oa,h,q⟩
   ·cases e
  |lst xs=>
   unfold aG at e;dsimp only at e
   split at e
   ·rename_i h;cases e;exact .inl ⟨x,xs,Dx,Dy.H9,h,q⟩
   ·cases e
  |cH ks vs=>
   unfold aG at e;dsimp only at e
   split at e
   ·rename_i h
    cases e
    obtain⟨k,rfl⟩:=eN h
    obtain⟨a,kvs,rfl,ha,rfl,l⟩:=j6 Dy
    exact .inr (.inl ⟨a,k,kvs,rfl,iI Dx,ha,by simpa[jR]using q⟩)
   ·cases e
  |jf ks vs=>
   unfold aG at e;dsimp only at e
   split at e
   ·rename_i h
    cases e
    obtain⟨k,rfl⟩:=jC h
    obtain⟨a,rfl,ka⟩:=p7 Dx
    obtain⟨d,xs,rfl,hd,rfl,hk,l⟩:=vZ Dy
    exact .inr (.inr ⟨a,d,k,xs,rfl,rfl,hd,hk,ka,by rw[Di]at q;simpa using q⟩)
   ·cases e
  |_=>unfold aG at e;simp at e⟩
end
section
open PySem.SeqAt
open PySem.AutoSeq1 (wpAny_loadPart')
open PySem.MeetsSeq PySem.MeetsSeq2 PySem.MeetsSeq3
inductive BoolsAre:List Value->List Bool->Prop
 |nil:BoolsAre [] []
 |cons (b:Bool) {vs:List Value} {bs:List Bool}:BoolsAre vs bs->BoolsAre (.bool b::vs) (b::bs)
theorem BoolsAre.length{vs:List Value}{bs:List Bool}(h:BoolsAre vs bs):vs.length=bs.length:=by
 induction h with
 |nil=>rfl
 |cons b _ ih=>simp[ih]
theorem um(x y:Bool)(xs ys:List Bool):jg (x::xs) (y::ys)=if x=y then jg xs ys else(!x&&y):=rfl
theorem CN:jg [] []=false:=rfl
theorem CP(y:Bool)(ys:List Bool):jg [] (y::ys)=true:=rfl
theorem CQ(x:Bool)(xs:List Bool):jg (x::xs) []=false:=rfl
theorem tU(A:Around)(s:Shared)(a c:Bool)(prog:Program)(w:World)(E:QZq)(Q:QZq)(h:Q (.bool (!a&&c)) s):
  wpAny (model prog w) A (richCompare .Lt (.bool a) (.bool c)) Q E s:=
 (PyProof.Rows.lt_bool (by cases a<;>cases c<;>exact h):wpAny (model prog w) A (compareOp .Lt (.bool a) (.bool c)) Q E s)
theorem pQ(l b:Addr)(items items2:Array Value)(n n2:Nat)(dd dd2:Option Addr)(sl sl2:Array (Option Value))(ns ms:List Bool)(hi:BoolsAre items.toList ns)(hj:BoolsAre items2.toList ms):
  Meets (Builtin.«tuple.__lt__» ⟨[.ref l,.ref b],[]⟩)
   (fun _ R s=>s.heap.get? l=some {cls:=.type "tuple",dict:=dd,data:=.seq items n,slots:=sl}/\s.heap.get? b=some {cls:=.type "tuple",dict:=dd2,data:=.seq items2 n2,slots:=sl2}/\
    R (.ok (.ret (.bool (jg ns ms)))) s):=
 .of_wp fun prog w A R s h=>by
  obtain⟨hp,g,d,tk,os⟩:=s;obtain⟨hl,hb,h⟩:=h
  have f2:=AutoSeq1.sub_tuple_tuple
  have z1:items.size=ns.length:=by rw[<-hi.length];simp
  have z2:items2.size=ms.length:=by rw[<-hj.length];simp
  wp_walk using wpAny_loadPart' hl,wpAny_loadPart' hb,wpAny_forIn_list _ (fun rest b s'=>b.1=none/\s'=⟨hp,g,d,tk,os⟩/\∃(vs ws:List Value)(ns' ms':List Bool),rest=vs.zip ws/\
   BoolsAre vs ns'/\BoolsAre ws ms'/\ns'.length+items2.size=ms'.length+items.size/\R (.ok (.ret (.bool (jg ns' ms')))) ⟨hp,g,d,tk,os⟩) _
  case turn=>
   rintro ⟨y,x⟩ rest b s' ⟨hb',rfl,vs,ws,ns',ms',hz,hvi,hwi,hlen,hR⟩
   cases hvi with
   |nil=>rw[List.zip_nil_left]at hz;cases hz
   |cons a hvi'=>
    cases hwi with
    |nil=>rw[List.zip_nil_right]at hz;cases hz
    |cons c hwi'=>
     rw[List.zip_cons_cons]at hz
     injection hz with hyx hrest
     injection hyx with hy hx
     subst hy hx
     rw[um]at hR
     simp only[QBq]at hlen
     have he:=SeqAt.EqAt.bool_bool (A:=A.in1) (s:=⟨hp,g,d,tk,os⟩) a c
     refine QKq (he prog w _ _ ?_)
     by_cases hac:a=c
     ·subst hac
      rw[if_pos rfl]at hR
      rw[beq_self_eq_true]
      wp_walk
      exact⟨rfl,rfl,_,_,_,_,hrest,hvi',hwi',by omega,hR⟩
     ·rw[if_neg hac]at hR
      rw[beq_eq_false_iff_ne.mpr hac]
      have hri:=tU A.in1 ⟨hp,g,d,tk,os⟩ a c prog w
      wp_walk using hri
      exact⟨_,rfl,by simpa using hR⟩
  case fin=>
   rintro ⟨b1,b2⟩ s' ⟨hb',rfl,vs,ws,ns',ms',hz,hvi,hwi,hlen,hR⟩
   simp only at hb'
   subst hb'
   have hv:jg ns' ms'=decide (items.size<items2.size):=by
    cases hvi with
    |nil=>
     cases hwi with
     |nil=>
      simp only[List.length_nil]at hlen
      rw[CN]
      exact(QEz (by omega)).symm
     |cons c hw=>
      simp only[List.length_nil,QBq]at hlen
      rw[CP]
      exact(QFq (by omega)).symm
    |cons a hv=>
     cases hwi with
     |nil=>
      simp only[List.length_nil,QBq]at hlen
      rw[CQ]
      exact(QEz (by omega)).symm
     |cons c hw=>
      rw[List.zip_cons_cons]at hz
      cases hz
   rw[hv]at hR
   wp_walk
   exact⟨_,rfl,by simpa[Builtin.Tuple.tupleCompareSizes]using hR⟩
  case h=>
   exact⟨rfl,rfl,items.toList,items2.toList,ns,ms,rfl,hi,hj,by omega,h⟩
end
theorem fM{K:QQq}{H:Hp}:∀{ds:List D}{vs:List V}{us:List Value}{bs:List Bool},bools ds=some bs->ao K H ds vs->Vals vs us->BoolsAre us bs
 |[],vs,us,bs,e,l,r=>by
  cases e
  rw[ao.bC.mp l]at r
  cases r
  exact .nil
 |d::ds,vs,us,bs,e,l,r=>by
  obtain⟨v,w,rfl,h1,h2⟩:=ao.aH.mp l
  cases d with
  |bl b=>
   simp only[bools,QJz]at e
   obtain⟨bs',e1,rfl⟩:=e
   cases h1
   cases r with
   |cons r1 r2=>cases r1;exact .cons b (fM e1 h2 r2)
  |_=>cases e
variable{env':Ev}{o o₁ o₂:Cm}
section
variable{X:Cx}{W:Wi}{c:Cf}{m m1 m2 m3:E}{e a b:Expr}{es:List Expr}{pos:Pos}
def aeX(K:QQq):R2:=fun x y H Q=>∃xs ys bs cs,bz K H (.tup xs) x/\bz K H (.tup ys) y/\bools xs=some bs/\bools ys=some cs/\Q (.bl (jg bs cs)) H
theorem VM(hu:X.A.units<cLine):fH X (compareOp .Lt) (aeX X.K):=by
 intro QLz s σ H x y v u Q I rx ry h
 obtain⟨xs,ys,bs,cs,Dx,Dy,e1,e2,q⟩:=h
 obtain⟨a,vs,rfl,ha,la⟩:=cI Dx
 obtain⟨b,ws,rfl,hb,lb⟩:=cI Dy
 cases rx
 cases ry
 obtain⟨its,r1,p1,_⟩:=I.tuple ha
 obtain⟨its2,r2,p2,_⟩:=I.tuple hb
 obtain⟨⟨cls,dd,data,sl⟩,ho,hc,n,hd⟩:=id p1
 obtain⟨⟨cls2,dd2,data2,sl2⟩,ho2,hc2,n2,hd2⟩:=id p2
 simp only at hc hd hc2 hd2
 subst hc hd hc2 hd2
 exact richCompare_meets_room (op:=.Lt) ⟨_,ho,rfl⟩ ⟨_,ho2,rfl⟩ PySem.F.slot_tuple_lt PySem.F.entry_tuple_lt (PySem.F.args_tuple_lt_2 _ _)
  (pQ a b its.toArray its2.toArray n n2 dd dd2 sl sl2 bs cs (by simpa using fM e1 la r1) (by simpa using fM e2 lb r2))
  ⟨ho,ho2,show Value.bool (jg bs cs)≠Value.notImplemented/\EP X QLz σ Q (.bool (jg bs cs)) s from⟨(fun x=>nomatch x),⟨.bl _,H,I,rfl,q⟩⟩⟩ hu
theorem cQ.tup{K:QQq}{H:Hp}{xs:List D}{v:V}(h:cQ K H (.tup xs) v):bz K H (.tup xs) v:=by
 rcases h with h|⟨o,a,q,_⟩
 ·exact h
 ·cases o<;>cases q
theorem aaq(hu:X.A.units+60<cLine):gM X .Lt (aG .lt):=
 ⟨_,aaQ.or (VM (by omega)),fun H x y k v u Q Dx Dy e q=>by
  cases x with
  |int i=>
   cases y with
   |int j=>cases e;exact .inl ⟨i,j,Dx,Dy.int,q⟩
   |_=>cases e
  |tup xs=>
   cases y with
   |tup ys=>
    unfold aG at e;dsimp only[ltD]at e
    cases e1:bools xs with
    |none=>rw[e1]at e;cases e
    |some bs=>
     cases e2:bools ys with
     |none=>rw[e1,e2]at e;cases e
     |some cs=>
      rw[e1,e2]at e
      cases e
      exact .inr ⟨xs,ys,bs,cs,Dx,Dy.tup,e1,e2,q⟩
   |_=>cases e
  |_=>cases y<;>cases e⟩
theorem aat:gM X .Gt (aG .gt):=zA aaS fun x y k e=>by
 cases x<;>cases y<;>(unfold aG at e;simp at e)
 exact⟨_,_,rfl,rfl,e.symm⟩
theorem DP{d:D}(h:bz K H d v):decide (v=.non)=cg d:=by
 cases d<;>unfold bz at h<;>first
  |(obtain⟨a,_,rfl,_⟩:=h;rfl)
  |(obtain⟨a,_,_,rfl,_⟩:=h;rfl)
  |(subst h;rfl)
theorem Ve:gM X .Is (aG .f9):=⟨_,VN,fun H x y k v u Q Dx Dy e q=>by
 cases y<;>(unfold aG at e;dsimp only at e;cases e)
 rcases Dy with h|⟨o,a,z,_⟩
 ·exact⟨h,by rw[DP Dx];exact q⟩
 ·cases o<;>cases z⟩
theorem Ox:gM X .IsNot (aG .notN):=⟨_,PB,fun H x y k v u Q Dx Dy e q=>by
 cases y<;>(unfold aG at e;dsimp only at e;cases e)
 rcases Dy with h|⟨o,a,z,_⟩
 ·exact⟨h,by rw[DP Dx];exact q⟩
 ·cases o<;>cases z⟩
theorem m9(hu:X.A.units+60<cLine)(o:Cm):gM X (dU o) (aG o):=by
 cases o with
 |eq=>exact aav hu
 |ne=>exact aap hu
 |lt=>exact aaq hu
 |le=>exact aar
 |gt=>exact aat
 |ge=>exact aau
 |isin=>exact aas hu
 |notin=>exact Ir hu
 |f9=>exact Ve
 |notN=>exact Ox
theorem dj{k:Nat}{d:D}(S:Sat K env σ H)(h:aN k env=some d):∃v,σ[k]? =some (some v)/\cQ K H d v:=by
 unfold aN at h
 cases e:env[k]? with
 |none=>rw[e]at h;cases h
 |some s=>
  rw[e]at h
  have q:=S.sl k s e
  cases s with
  |un=>cases h
  |val d'=>cases h;obtain⟨v,e1,e2⟩:=q;exact⟨v,bO e1,.inl e2⟩
  |own xs=>cases h;obtain⟨a,e1,e2⟩:=q;exact⟨.ref a,bO e1,.inr ⟨xs,a,rfl,rfl,e2⟩⟩
  |bor xs=>cases h;obtain⟨a,e1,e2⟩:=q;exact⟨.ref a,bO e1,.inr ⟨xs,a,rfl,rfl,e2⟩⟩
structure gZ(X:Cx)(i:Nat)(x:Str):Prop where
 at_:X.N[i]? =some x
 vis:Zj X.env.scope x
 nd:(x==("__debug__":Str))=false
 nc:(x==("__classdict__":Str))=false
theorem gZ.pe(h:gZ X i x):PE X (.Name x pos) (HF i):=Jj h.at_ h.vis h.nd h.nc
theorem gZ.ge(h:gZ X i x):GE X W c (.var i) (.Name x pos):=W3 h.at_ h.vis h.nd h.nc
theorem Ea(R:gM X (dU o) (aG o))(hb:GE X W c m2 b)(hv:∀k,m2.au=some k->∃x p,b=.Name x p/\gZ X k x):
  ∃r tb,fH X (compareOp (dU o)) r/\PE X b tb/\∀env σ H Q,tM X.K W env (ev c (.cmp o m1 m2) env) σ H Q->Yl r (aD X W c m1) tb σ H Q:=by
 obtain⟨r,ho,rule⟩:=R
 cases q:m2.au with
 |some k=>
  obtain⟨x,p,rfl,nm⟩:=hv k q
  refine⟨r,HF k,ho,nm.pe,fun env σ H Q h=>?_⟩
  simp only[Yg,q]at h
  refine⟨env,aR h fun d env1 v H1 N1 D1 h1=>?_⟩
  obtain⟨z,ez,S,q3⟩:=cF h1
  cases e1:aN k env1 with
  |none=>rw[e1]at ez;cases ez
  |some d2=>
   rw[e1]at ez
   simp only[Option.bind]at ez
   obtain⟨u,eu,D2⟩:=dj S e1
   cases e2:aG o d d2 with
   |none=>rw[e2]at ez;cases ez
   |some k2=>
    rw[e2]at ez
    cases ez
    exact⟨u,eu,rule H1 d d2 k2 v u Q D1 D2 e2 (q3 _ H1 (Nx.refl S) rfl)⟩
 |none=>
  refine⟨r,aD X W c m2,ho,hb.d,fun env σ H Q h=>?_⟩
  simp only[Yg,q]at h
  refine⟨env,aR h fun d env1 v H1 N1 D1 h1=>⟨env1,aR h1 fun d2 env2 u H2 N2 D2 h2=>?_⟩⟩
  obtain⟨z,ez,S,q3⟩:=cF h2
  cases e2:aG o d d2 with
  |none=>rw[e2]at ez;cases ez
  |some k2=>
   rw[e2]at ez
   cases ez
   exact rule H2 d d2 k2 v u Q (D1.mono N2.pers) (.inl D2) e2 (q3 _ H2 (Nx.refl S) rfl)
theorem Xi(R:gM X (dU o) (aG o))(ha:GE X W c m1 a)(hb:GE X W c m2 b)(hv:∀k,m2.au=some k->∃x p,b=.Name x p/\gZ X k x)
  (hm:behindInMarks (dU o) b=false):GE X W c (.cmp o m1 m2) (.Compare a [dU o] [b] pos):=by
 intro env
 obtain⟨r,tb,ho,pb,imp⟩:=Ea (m1:=m1) R hb hv
 exact PE.imp (Pr ho ha.d pb hm) fun σ H Q h=>imp env σ H Q h
theorem wL{Q:Bool->Hp->Prop}(h:tT K W env r σ H Q)(hb:∀x env',r=.ok x env'->∃b,x=.val (.bl b)):
  tM K W env r σ H (fun v H'=>∃k,v=.bl k/\Q k H'):=by
 obtain⟨S,h⟩:=h
 refine⟨S,?_⟩
 cases r with
 |bad=>exact h
 |exc c env1=>exact h
 |ok x env1=>
  obtain⟨b,rfl⟩:=hb x env1 rfl
  obtain⟨d,k,e1,e2,q⟩:=h
  cases e1
  cases e2
  exact fun v H' N z=>⟨b,z,q H' N⟩
theorem jZ{o:Option Bool}{x:Rv}(h:lift env (o.map fun q=>Rv.val (.bl q))=.ok x env'):∃b,x=.val (.bl b):=by
 cases o with
 |none=>cases h
 |some b=>cases h;exact⟨b,rfl⟩
theorem yD{x:Rv}(h:ev c (.cmp o m1 m2) env=.ok x env'):∃b,x=.val (.bl b):=by
 simp only[Yg]at h
 cases r:ev c m1 env with
 |bad=>rw[r]at h;cases h
 |exc k env1=>rw[r]at h;cases h
 |ok x1 env1=>
  rw[r]at h
  have go:∀d,(match m2.au with
    |some k=>lift env1 ((aN k env1).bind fun d'=>(aG o d d').map fun q=>Rv.val (.bl q))
    |none=>(ev c m2 env1).ak fun y σ=>lift σ ((aG o d y).map fun q=>Rv.val (.bl q)))=.ok x env'->∃b,x=.val (.bl b):=fun d h=>by
   cases q:m2.au with
   |some k=>
    simp only[q]at h
    cases e:aN k env1 with
    |none=>simp only[e,Option.bind]at h;cases h
    |some d'=>simp only[e,Option.bind]at h;exact jZ h
   |none=>
    simp only[q]at h
    cases r2:ev c m2 env1 with
    |bad=>rw[r2]at h;cases h
    |exc k env2=>rw[r2]at h;cases h
    |ok x2 env2=>
     rw[r2]at h
     cases x2 with
     |val d2=>exact jZ h
     |new xs=>exact jZ h
     |ref i=>cases h
     |tmp xs=>cases h
  cases x1 with
  |val d=>exact go d h
  |new xs=>exact go xs.d h
  |ref i=>cases h
  |tmp xs=>cases h
theorem WP(R:gM X (dU o) (aG o))(ha:GE X W c m1 a)(hb:GE X W c m2 b)(hv:∀k,m2.au=some k->∃x p,b=.Name x p/\gZ X k x)
  (hm:behindInMarks (dU o) b=false):GT X W c (.cmp o m1 m2) (.Compare a [dU o] [b] pos):=by
 obtain⟨r,tb,ho,pb,imp⟩:=Ea (m1:=m1) R hb hv
 exact PT.imp (O6 ho ha.d pb hm) fun σ H Q⟨env,h⟩=>imp env σ H _ (wL h fun x env' e=>yD e)
theorem uJ(R1:gM X (dU o₁) (aG o₁))(R2:gM X (dU o₂) (aG o₂)):
  ∃r r',fH X (compareOp (dU o₁)) r/\fH X (compareOp (dU o₂)) r'/\∀env σ H Q,tM X.K W env (ev c (.chain o₁ o₂ m1 m2 m3) env) σ H Q->zf r r' (aD X W c m1) (aD X W c m2) (aD X W c m3) σ H Q:=by
 obtain⟨r,ho,rule⟩:=R1
 obtain⟨r',ho',rule'⟩:=R2
 refine⟨r,r',ho,ho',fun env σ H Q h=>?_⟩
 simp only[Zt]at h
 refine⟨env,aR h fun d env1 v H1 N1 D1 h1=>⟨env1,aR h1 fun d2 env2 u H2 N2 D2 h2=>?_⟩⟩
 cases e2:aG o₁ d d2 with
 |none=>rw[e2]at h2;exact h2.2.elim
 |some k=>
  rw[e2]at h2
  simp only[lift,Out.bind]at h2
  refine rule H2 d d2 k v u _ (D1.mono N2.pers) (.inl D2) e2 ⟨k,rfl,?_⟩
  cases k with
  |false=>
   rw[if_neg Qjz]at h2⊢
   exact dI h2 rfl
  |true=>
   rw[if_pos rfl]at h2⊢
   refine⟨env2,aR h2 fun d3 env3 w H3 N3 D3 h3=>?_⟩
   obtain⟨z,ez,S,q3⟩:=cF h3
   cases e3:aG o₂ d2 d3 with
   |none=>rw[e3]at ez;cases ez
   |some k2=>
    rw[e3]at ez
    cases ez
    exact rule' H3 d2 d3 k2 u w Q (D2.mono N3.pers) (.inl D3) e3 (q3 _ H3 (Nx.refl S) rfl)
theorem sy{x:Rv}(h:ev c (.chain o₁ o₂ m1 m2 m3) env=.ok x env'):∃b,x=.val (.bl b):=by
 have val:∀{r:Out Rv}{f:D->Ev->Out Rv},r.ak f=.ok x env'->∃d σ,f d σ=.ok x env':=fun{r f}q=>by
  cases r with
  |bad=>cases q
  |exc k e1=>cases q
  |ok y e1=>
   cases y with
   |val d=>exact⟨d,e1,q⟩
   |new xs=>exact⟨_,e1,q⟩
   |ref i=>cases q
   |tmp xs=>cases q
 simp only[Zt]at h
 obtain⟨d1,σ1,h⟩:=val h
 obtain⟨d2,σ2,h⟩:=val h
 cases e:aG o₁ d1 d2 with
 |none=>rw[e]at h;cases h
 |some k=>
  rw[e]at h
  simp only[lift,Out.bind]at h
  cases k with
  |false=>cases h;exact⟨false,rfl⟩
  |true=>
   rw[if_pos rfl]at h
   obtain⟨d3,σ3,h⟩:=val h
   exact jZ h
theorem KY{d:Expr}(R1:gM X (dU o₁) (aG o₁))(R2:gM X (dU o₂) (aG o₂))(ha:GE X W c m1 a)(hb:GE X W c m2 b)(hd:GE X W c m3 d)(hm:lastMarks [dU o₁,dU o₂] [b,d]=false):
  GE X W c (.chain o₁ o₂ m1 m2 m3) (.Compare a [dU o₁,dU o₂] [b,d] pos):=by
 obtain⟨r,r',ho,ho',imp⟩:=uJ (W:=W) (c:=c) (m1:=m1) (m2:=m2) (m3:=m3) R1 R2
 exact fun env=>PE.imp (Js ho ho' ha.d hb.d hd.d hm) fun σ H Q h=>imp env σ H Q h
theorem Kw{d:Expr}(R1:gM X (dU o₁) (aG o₁))(R2:gM X (dU o₂) (aG o₂))(ha:GE X W c m1 a)(hb:GE X W c m2 b)(hd:GE X W c m3 d)(hm:lastMarks [dU o₁,dU o₂] [b,d]=false):
  GT X W c (.chain o₁ o₂ m1 m2 m3) (.Compare a [dU o₁,dU o₂] [b,d] pos):=by
 obtain⟨r,r',ho,ho',imp⟩:=uJ (W:=W) (c:=c) (m1:=m1) (m2:=m2) (m3:=m3) R1 R2
 exact PT.imp (Jc ho ho' ha.d hb.d hd.d hm) fun σ H Q⟨env,h⟩=>imp env σ H _ (wL h fun x env' e=>sy e)
def ZS(K:QQq)(ta:TE):TE:=fun σ H Q=>ta σ H fun x H1=>∃k,Mr K x H1 k/\Q (.bl (!k)) H1
theorem Pk{ta:TE}(ha:PE X a ta):PE X (.UnaryOp .Not a pos) (ZS X.K ta):=by
 intro QLz s σ H Q I h
 refine PyProof.Rows.UnaryOp_ (bW (ha QLz s σ H _ I h) fun v s1⟨x,H1,I1,r1,k,t,q1⟩=>?_)
 exact PyProof.Rows.not_of (bW (Hx QLz s1 σ H1 x v (fun b H'=>Q (.bl (!b)) H') I1 r1 ⟨k,t,q1⟩) fun b s2⟨H2,I2,q2⟩=>⟨.bl (!b),H2,I2,rfl,q2⟩)
theorem W9(ha:GE X W c m1 a):GE X W c (.not m1) (.UnaryOp .Not a pos):=fun env=>
 PE.imp (Pk ha.d) fun σ H Q q=>⟨env,wR (wQ (f:=fun b σ=>.ok (.val (.bl (!b))) σ) (R:=fun k H1=>Q (.bl (!k)) H1) (by simpa only[Hs]using q) fun k env1 H1 N q1=>dI (d:=.bl (!k)) q1 rfl)⟩
theorem WM(ha:GT X W c m1 a):GT X W c (.not m1) (.UnaryOp .Not a pos):=by
 refine PT.imp (Vo ha) fun σ H Q⟨env,q⟩=>⟨env,q.1,?_⟩
 have q2:=q.2
 simp only[Hs]at q2
 cases r:ev c m1 env with
 |bad=>rw[r]at q2;exact q2
 |exc k env1=>rw[r]at q2;exact q2
 |ok x env1=>
  rw[r]at q2
  have go:∀d,x.jG=some d->(match (match gP d with|some b=>Out.ok (Rv.val (.bl (!b))) env1|none=>.bad)with
    |.ok x env'=>∃d b,x.jG=some d/\gP d=some b/\∀H',Nx X.K env σ H env' H'->Q b H'
    |.exc c env'=>∀H',Nx X.K env σ H env' H'->W c env' σ H'
    |.bad=>False)->∃d b,x.jG=some d/\gP d=some b/\∀H',Nx X.K env σ H env1 H'->Q (!b) H':=fun d ed z=>by
   cases t:gP d with
   |none=>rw[t]at z;exact z.elim
   |some b=>
    rw[t]at z
    obtain⟨d',b',e1,e2,z⟩:=z
    cases e1
    cases e2
    exact⟨d,b,ed,t,z⟩
  cases x with
  |val d=>exact go d rfl q2
  |new o=>exact go o.d rfl q2
  |ref i=>exact q2.elim
  |tmp xs=>exact q2.elim
theorem QH(ha:GE X W c m1 a):GE X W c (.and (.cons m1 .nil)) (.BoolOp .And [a] pos):=fun env=>by
 have:=Jm (X:=X) (op:=.And) (pos:=pos) (ha env)
 simpa only[Ni,eX]using this
theorem W8(ha:GE X W c m1 a):GE X W c (.or (.cons m1 .nil)) (.BoolOp .Or [a] pos):=fun env=>by
 have:=Jm (X:=X) (op:=.Or) (pos:=pos) (ha env)
 simpa only[uV,jE]using this
end
def aM(X:Cx)(W:Wi)(c:Cf)(m:E):TE:=fun σ H Q=>∃env,tM X.K W env (ev c m env) σ H Q
theorem RG{W:Wi}{Q:Bool->Hp->Prop}(h:tT K W env r σ H Q)(N:Nx K env σ H env1 H1):tT K W env1 r σ H1 Q:=by
 obtain⟨_,h⟩:=h
 refine⟨N.eU,?_⟩
 cases r with
 |bad=>exact h
 |exc c env2=>exact fun H' N'=>h H' (N.trans N')
 |ok x env2=>
  obtain⟨d,b,e1,e2,q⟩:=h
  exact⟨d,b,e1,e2,fun H' N'=>q H' (N.trans N')⟩
section
variable{X:Cx}{W:Wi}{c:Cf}{m m1 m2 m3:E}{e a b:Expr}{es rest:List Expr}{pos:Pos}
theorem GE.am(h:GE X W c m e):PE X e (aM X W c m):=fun QLz s σ H Q I⟨env,q⟩=>h env QLz s σ H Q I q
theorem Xj(ha:GE X W c m1 a)(hb:GE X W c (.and (.cons m2 m3)) (.BoolOp .And (b::rest) pos)):GE X W c (.and (.cons m1 (.cons m2 m3))) (.BoolOp .And (a::b::rest) pos):=by
 intro env
 refine PE.imp (VB ha.d hb.am) fun σ H Q q=>?_
 simp only[Ni,eX]at q
 refine⟨env,aR q fun d env1 v H1 N1 D1 q1=>?_⟩
 cases d with
 |bl k=>
  refine⟨k,D1,?_⟩
  cases k with
  |true=>rw[if_pos rfl];exact⟨env1,by simpa only[Ni,eX]using q1⟩
  |false=>rw[if_neg Qjz];exact dI q1 rfl
 |_=>exact q1.2.elim
theorem abJ(ha:GE X W c m1 a)(hb:GE X W c (.or (.cons m2 m3)) (.BoolOp .Or (b::rest) pos)):GE X W c (.or (.cons m1 (.cons m2 m3))) (.BoolOp .Or (a::b::rest) pos):=by
 intro env
 refine PE.imp (aaL ha.d hb.am) fun σ H Q q=>?_
 simp only[uV,jE]at q
 refine⟨env,aR q fun d env1 v H1 N1 D1 q1=>?_⟩
 cases d with
 |bl k=>
  refine⟨k,D1,?_⟩
  cases k with
  |true=>rw[if_pos rfl];exact dI q1 rfl
  |false=>rw[if_neg Qjz];exact⟨env1,by simpa only[uV,jE]using q1⟩
 |_=>exact q1.2.elim
def GW(X:Cx)(W:Wi)(c:Cf)(m:E)(e:Expr):Prop:=PW X e (aT X W c m)
theorem PW.imp{t t':TT}(h:PW X e t)(i:∀σ H Q,t' σ H Q->t σ H Q):PW X e t':=fun wh QLz s σ H Q I q=>h wh QLz s σ H Q I (i σ H Q q)
theorem GW.t(h:GW X W c m e):GT X W c m e:=PW.pt h
theorem wM{Q R:Bool->Hp->Prop}{f:D->Ev->Out Rv}(h:tT K W env (r.ak f) σ H Q)
  (hf:∀d env1,(∀k,d≠ .bl k)->f d env1=.bad)
  (k:∀b env1 H1,Nx K env σ H env1 H1->tT K W env1 (f (.bl b) env1) σ H1 Q->R b H1):tT K W env r σ H R:=by
 have step:∀d env1 x,x.jG=some d->r=.ok x env1->∃b,gP d=some b/\∀H1,Nx K env σ H env1 H1->R b H1:=fun d env1 x ex er=>by
  subst er
  have h':tT K W env (f d env1) σ H Q:=by
   cases x with
   |val d'=>cases ex;exact h
   |new xs=>cases ex;exact h
   |ref i=>cases ex
   |tmp xs=>cases ex
  by_cases hb:∃b,d=.bl b
  ·obtain⟨b,rfl⟩:=hb
   exact⟨b,rfl,fun H1 N=>k b env1 H1 N (RG h' N)⟩
  ·rw[hf d env1 fun b e=>hb ⟨b,e⟩]at h'
   exact h'.2.elim
 refine⟨h.1,?_⟩
 cases r with
 |bad=>exact h.2
 |exc c env1=>exact h.2
 |ok x env1=>
  cases x with
  |val d=>obtain⟨b,e,q⟩:=step d env1 _ rfl rfl;exact⟨d,b,rfl,e,q⟩
  |new xs=>obtain⟨b,e,q⟩:=step (xs.d) env1 _ rfl rfl;exact⟨xs.d,b,rfl,e,q⟩
  |ref i=>exact h.2.elim
  |tmp xs=>exact h.2.elim
theorem Qt(ha:GT X W c m1 a):GW X W c (.and (.cons m1 .nil)) (.BoolOp .And [a] pos):=PW.imp (O3 ha) fun σ H Q⟨env,q⟩=>⟨env,by simpa only[Ni,eX]using q⟩
theorem WL(ha:GT X W c m1 a):GW X W c (.or (.cons m1 .nil)) (.BoolOp .Or [a] pos):=PW.imp (Vl ha) fun σ H Q⟨env,q⟩=>⟨env,by simpa only[uV,jE]using q⟩
theorem WQ(ha:GT X W c m1 a)(hb:GW X W c (.and (.cons m2 m3)) (.BoolOp .And (b::rest) pos)):GW X W c (.and (.cons m1 (.cons m2 m3))) (.BoolOp .And (a::b::rest) pos):=by
 refine PW.imp (Vm ha hb) fun σ H Q⟨env,q⟩=>⟨env,?_⟩
 simp only[Ni,eX]at q
 refine wM q (fun d env1 hd=>?_) fun k env1 H1 N q1=>?_
 ·cases d with
  |bl k=>exact absurd rfl (hd k)
  |_=>rfl
 ·cases k with
  |true=>rw[if_pos rfl];exact⟨env1,by simpa only[Ni,eX]using q1⟩
  |false=>
   rw[if_neg Qjz]
   obtain⟨d,k',e1,e2,q3⟩:=q1.2
   cases e1
   cases e2
   exact q3 H1 (Nx.refl q1.1)
theorem abE(ha:GT X W c m1 a)(hb:GW X W c (.or (.cons m2 m3)) (.BoolOp .Or (b::rest) pos)):GW X W c (.or (.cons m1 (.cons m2 m3))) (.BoolOp .Or (a::b::rest) pos):=by
 refine PW.imp (aaG ha hb) fun σ H Q⟨env,q⟩=>⟨env,?_⟩
 simp only[uV,jE]at q
 refine wM q (fun d env1 hd=>?_) fun k env1 H1 N q1=>?_
 ·cases d with
  |bl k=>exact absurd rfl (hd k)
  |_=>rfl
 ·cases k with
  |false=>rw[if_neg Qjz];exact⟨env1,by simpa only[uV,jE]using q1⟩
  |true=>
   rw[if_pos rfl]
   obtain⟨d,k',e1,e2,q3⟩:=q1.2
   cases e1
   cases e2
   exact q3 H1 (Nx.refl q1.1)
theorem Xc{t:Expr}(ht:GT X W c m1 t)(ha:GE X W c m2 a)(hb:GE X W c m3 b):GE X W c (.ite m1 m2 m3) (.IfExp t a b pos):=by
 intro env
 refine PE.imp (Jo ht ha.am hb.am) fun σ H Q q=>?_
 simp only[Hr]at q
 refine⟨env,wQ q fun k env1 H1 N q1=>?_⟩
 cases k with
 |true=>rw[if_pos rfl]at q1⊢;exact⟨env1,q1⟩
 |false=>rw[if_neg Qjz]at q1⊢;exact⟨env1,q1⟩
theorem Bk{i:Int}{d:D}(h:at? xs i=some d)(l:ao K H xs vs):∃v,XD vs i=some v/\bz K H d v:=by
 unfold at? at h
 cases e:ix? xs.length i with
 |none=>rw[e]at h;cases h
 |some j=>
  rw[e]at h
  obtain⟨v,q1,q2⟩:=l.get (show xs[j]? =some d from h)
  refine⟨v,?_,q2⟩
  have hl:=l.length
  unfold XD
  have:Qo vs.length i=some j:=by
   unfold ix? at e
   unfold Qo
   rw[<-hl]
   by_cases h0:i<0
   ·simp only[h0,if_true]at e
    split at e
    ·rename_i hc
     cases e
     rw[if_neg (by omega),if_pos (by omega)]
    ·cases e
   ·simp only[h0,if_false]at e
    split at e
    ·rename_i hc
     cases e
     rw[if_pos (by omega),if_pos (by omega)]
    ·cases e
  rw[this]
  exact q1
theorem jY{K:QQq}{H:Hp}(k:Key):∀{kvs:List (Key×V)}{ds:List D}{d:D},bT (bU k) (kvs.map fun p=>bU p.1) ds=some d->ao K H ds (kvs.map (·.2))->∃v,fP kvs k=some v/\bz K H d v
 |[],ds,d,h,_=>by cases h
 |(k',v)::r,ds,d,h,l=>by
  rw[Qyz]at h l
  cases ds with
  |nil=>obtain⟨⟩:=ao.bC.mp l
  |cons d' ds=>
   obtain⟨w,ws,e,h1,h2⟩:=ao.aH.mp l
   cases e
   have e:bV (bU k') (bU k)=decide (k'=k):=by
    cases k'<;>cases k<;>simp[bU,bV,Bool.beq_eq_decide_eq]
   simp only[bT,e]at h
   by_cases q:k'=k
   ·simp only[q,decide_true,if_true]at h
    cases h
    exact⟨v,jo q,h1⟩
   ·simp only[q,decide_false,Qxq,if_false]at h
    obtain⟨u,q1,q2⟩:=jY k h h2
    exact⟨u,by rw[jq q];exact q1,q2⟩
def aaB:R2:=fun x y H Q=>∃a k kvs v,x=.ref a/\y=kV k/\Rd H a (.dK kvs)/\fP kvs k=some v/\Q v H
theorem Ww(hu:X.A.units+1<cLine):Hd X aaB:=by
 intro value slice QLz s σ H x y v u Q I rx ry h hs
 obtain⟨a,k,kvs,w,rfl,rfl,hd,hv,q⟩:=h
 cases rx
 have g:pC H a (kV k) (some w):=.inl ⟨kvs,k,hd,rfl,hv.symm⟩
 exact PyProof.Rows.tail_any (yH I g) PySem.F.slot_dict_getitem.lookup (GX hu I g ry fun w' s3 I3 rw'=>⟨w,H,I3,rw',q⟩) hs
def IV(K:QQq):R2:=fun x y H Q=>∃d a k xs v,x=.ref d/\y=.ref a/\Rd H d (.dS xs)/\(∀x∈xs,cB K H x.1 x.2.1)/\cB K H k a/\xX k xs=some v/\Q v H
theorem abB(hu:X.A.units+2<cLine):Hd X (IV X.K):=by
 intro value slice QLz s σ H x y v u Q I rx ry h hs
 obtain⟨d,a,k,xs,w,rfl,rfl,hd,hk,ka,hv,q⟩:=h
 cases rx
 cases ry
 obtain⟨ys,_,dd,_⟩:=gA I hd hk
 exact PyProof.Rows.tail_any dd.typeIs PySem.F.slot_dict_getitem.lookup (Fe hu I hd hk ka hv fun u s3 I3 ru=>⟨w,H,I3,ru,q⟩) hs
def aaC(K:QQq):R2:=fun x y H Q=>Vj K x y H Q\/Vi K x y H Q\/aaB x y H Q\/IV K x y H Q
theorem J6(hu:X.A.units+2<cLine):Hd X (aaC X.K):=Dg.or (J4.or ((Ww (by omega)).or (abB hu)))
theorem uF{d y z:D}{u:V}(D1:cQ K H d v)(D2:bz K H y u)(e:getD d y=some z)(q:∀w,bz K H z w->Q w H):aaC K v u H Q:=by
 cases d with
 |tup xs=>
  cases y with
  |int i=>
   obtain⟨a,vs,rfl,hq,l⟩:=cI D1.tup
   obtain⟨w,e1,e2⟩:=Bk e l
   exact .inr (.inl ⟨a,vs,i,w,rfl,D2,hq,e1,q w e2⟩)
  |_=>cases e
 |lst xs=>
  cases y with
  |int i=>
   obtain⟨a,vs,rfl,hq,l⟩:=D1.H9
   rcases hq with hq|hq
   ·obtain⟨w,e1,e2⟩:=Bk e l
    exact .inl ⟨a,vs,i,w,rfl,D2,hq,e1,q w e2⟩
   ·obtain⟨w,e1,e2⟩:=Bk e l
    exact .inr (.inl ⟨a,vs,i,w,rfl,D2,hq,e1,q w e2⟩)
  |_=>cases e
 |cH ks ds=>
  have e':(if keyOk y=true then bT y ks ds else none)=some z:=by cases y<;>exact e
  split at e'
  ·rename_i hk
   obtain⟨k,rfl⟩:=eN hk
   obtain⟨a,kvs,rfl,ha,rfl,l⟩:=j6 D1
   obtain⟨w,e1,e2⟩:=jY k e' l
   exact .inr (.inr (.inl ⟨a,k,kvs,w,rfl,iI D2,ha,e1,q w e2⟩))
  ·cases e'
 |jf ks ds=>
  have e':(if nR y=true then bT y ks ds else none)=some z:=by cases y<;>exact e
  split at e'
  ·rename_i hk
   obtain⟨k,rfl⟩:=jC hk
   obtain⟨a,rfl,ka⟩:=p7 D2
   obtain⟨d,xs,rfl,hd,rfl,hks,l⟩:=vZ D1
   obtain⟨w,e1,e2⟩:=Cw k e' l
   exact .inr (.inr (.inr ⟨d,a,k,xs,w,rfl,rfl,hd,hks,ka,e1,q w e2⟩))
  ·cases e'
 |_=>cases y<;>cases e
theorem Xe(hu:X.A.units+2<cLine)(ha:GE X W c m1 a)(hb:GE X W c m2 b)(hv:∀k,m1.au=some k->∃x p,a=.Name x p/\gZ X k x)(hs:wy b):GE X W c (.idx m1 m2) (.Subscript a b pos):=by
 intro env
 cases q:m1.au with
 |some k=>
  obtain⟨x,p,rfl,nm⟩:=hv k q
  refine PE.imp (Sg (J6 hu) nm.pe hb.d hs) fun σ H Q h=>?_
  simp only[El,q]at h
  cases e0:aN k env with
  |none=>rw[e0]at h;exact h.2.elim
  |some d0=>
   rw[e0]at h
   simp only[Option.isNone_some,Qxq,if_false]at h
   obtain⟨u,eu,_⟩:=dj h.1 e0
   refine⟨u,eu,env,aR h fun d env1 v H1 N1 D1 h1=>?_⟩
   obtain⟨z,ez,S,q3⟩:=cF h1
   cases e1:aN k env1 with
   |none=>rw[e1]at ez;cases ez
   |some d2=>
    rw[e1]at ez
    simp only[Option.bind]at ez
    obtain⟨u',eu',D2⟩:=dj S e1
    rw[eu]at eu'
    cases eu'
    cases e2:getD d2 d with
    |none=>rw[e2]at ez;cases ez
    |some w=>
     rw[e2]at ez
     cases ez
     exact uF D2 D1 e2 fun w' hw=>q3 w' H1 (Nx.refl S) hw
 |none=>
  refine PE.imp (Sg (J6 hu) ha.d hb.d hs) fun σ H Q h=>?_
  simp only[El,q]at h
  refine⟨env,aR h fun d env1 v H1 N1 D1 h1=>⟨env1,aR h1 fun d2 env2 u H2 N2 D2 h2=>?_⟩⟩
  obtain⟨z,ez,S,q3⟩:=cF h2
  cases e2:getD d d2 with
  |none=>rw[e2]at ez;cases ez
  |some w=>
   rw[e2]at ez
   cases ez
   exact uF (.inl (D1.mono N2.pers)) D2 e2 fun w' hw=>q3 w' H2 (Nx.refl S) hw
end
structure Nz(K:QQq)(env:Ev)(σ:St)(H:Hp)(env':Ev)(σ':St)(H':Hp):Prop where
 eU:Sat K env' σ' H'
 sub:∀(i:Nat)a,aJ env' σ' i a->aJ env σ i a\/H a=none
 pers:bK H H'
 keep:∀b u,H b=some u->(∀i,¬aJ env σ i b)->H' b=some u
 dom:∀b,H' b=none->H b=none
 bors:∀(i:Nat)xs,env[i]? =some (.bor xs)->(∃ys,env'[i]? =some (.bor ys))/\σ'[i]? =σ[i]?
section
variable{K:QQq}{env env1 env2:Ev}{σ σ1 σ2:St}{H H1 H2:Hp}
theorem Nx.z(N:Nx K env σ H env1 H1):Nz K env σ H env1 σ H1:=⟨N.eU,fun i a z=>.inl (N.sub i a z),N.pers,N.keep,N.dom,fun i xs e=>⟨N.bors i xs e,rfl⟩⟩
theorem Nz.refl(S:Sat K env σ H):Nz K env σ H env σ H:=(Nx.refl S).z
theorem Nz.trans(a:Nz K env σ H env1 σ1 H1)(b:Nz K env1 σ1 H1 env2 σ2 H2):Nz K env σ H env2 σ2 H2 where
 eU:=b.eU
 sub:=fun i c z=>by
  rcases b.sub i c z with q|q
  ·exact a.sub i c q
  ·exact .inr (a.dom c q)
 pers:=a.pers.trans b.pers
 keep:=fun c vs z n=>b.keep c vs (a.keep c vs z n) fun i w=>by
  rcases a.sub i c w with q|q
  ·exact n i q
  ·rw[q]at z;cases z
 dom:=fun c z=>a.dom c (b.dom c z)
 bors:=fun i xs e=>by
  obtain⟨⟨ys,e1⟩,s1⟩:=a.bors i xs e
  obtain⟨q,s2⟩:=b.bors i ys e1
  exact⟨q,s2.trans s1⟩
def Mv(K:QQq)(env:Ev)(σ:St)(H H':Hp):Rv->V->Prop
 |.val d,v=>bz K H' d v
 |.new q,v=>∃a,v=.ref a/\jk K H' q a/\(H a=none\/∃(i:Nat)(ys:Ob),env[i]? =some (.own ys)/\σ[i]? =some (some (.ref a)))
 |_,_=>False
theorem Mv.back{r:Rv}(N:Nz K env σ H env1 σ1 H1)(h:Mv K env1 σ1 H1 H2 r v):Mv K env σ H H2 r v:=by
 cases r with
 |val d=>exact h
 |new xs=>
  obtain⟨a,e,p,z⟩:=h
  refine⟨a,e,p,?_⟩
  rcases z with z|⟨i,ys,z1,z2⟩
  ·exact .inl (N.dom a z)
  ·rcases N.sub i a ⟨⟨_,ys,z1,rfl⟩,z2⟩with ⟨⟨s,xs',q1,q2⟩,q3⟩|q
   ·cases s with
    |own w=>exact .inr ⟨i,w,q1,q3⟩
    |bor w=>
     obtain⟨⟨w',q⟩,_⟩:=N.bors i w q1
     rw[z1]at q;cases q
    |un=>cases q2
    |val d=>cases q2
   ·exact .inl q
 |ref i=>exact h.elim
 |tmp xs=>exact h.elim
end
def tS(K:QQq)(W:Wi)(env:Ev)(f:Fl):TS:=fun D σ H=>Sat K env σ H/\match f with
 |.next env'=>∀σ' H',Nz K env σ H env' σ' H'->D.nx σ' H'
 |.ret r env'=>∀v σ' H',Nz K env σ H env' σ' H'->Mv K env σ H H' r v->D.rt v H'
 |.brk env'=>∀σ' H',Nz K env σ H env' σ' H'->D.bk σ' H'
 |.cont env'=>∀σ' H',Nz K env σ H env' σ' H'->D.ct σ' H'
 |.exc c env'=>∀σ' H',Nz K env σ H env' σ' H'->W c env' σ' H'
 |.bad=>False
def GS(X:Cx)(W:Wi)(c:Cf)(m:S)(st:Stmt):Prop:=∀env,PS X st (tS X.K W env (ex c m env))
def M4(X:Cx)(W:Wi)(c:Cf)(m:S)(st:List Stmt):Prop:=∀env,wz X st (tS X.K W env (ex c m env))
section
variable{X:Cx}{W:Wi}{c:Cf}{m m1 m2:S}{st:Stmt}{sts:List Stmt}{e:Expr}{pos:Pos}
theorem PS.imp{t t':TS}(h:PS X st t)(i:∀D σ H,t' D σ H->t D σ H):PS X st t':=fun QLz s σ H D I q=>h QLz s σ H D I (i D σ H q)
theorem wz.imp{t t':TS}(h:wz X sts t)(i:∀D σ H,t' D σ H->t D σ H):wz X sts t':=fun QLz s σ H D I q=>h QLz s σ H D I (i D σ H q)
theorem pU{σ1:St}{f:Fl}{D:Ends}(h:tS K W env f D σ H)(N:Nz K env σ H env1 σ1 H1):tS K W env1 f D σ1 H1:=by
 obtain⟨_,h⟩:=h
 refine⟨N.eU,?_⟩
 cases f with
 |next env2=>exact fun σ' H' N'=>h σ' H' (N.trans N')
 |ret r env2=>exact fun v σ' H' N' k=>h v σ' H' (N.trans N') (k.back N)
 |brk env2=>exact fun σ' H' N'=>h σ' H' (N.trans N')
 |cont env2=>exact fun σ' H' N'=>h σ' H' (N.trans N')
 |exc k env2=>exact fun σ' H' N'=>h σ' H' (N.trans N')
 |bad=>exact h
theorem Qu:M4 X W c .nil []:=fun env=>wz.imp O7 fun D σ H q=>by
 simp only[x_0]at q
 exact q.2 σ H (Nz.refl q.1)
theorem Kz(h:GS X W c m1 st)(t:M4 X W c m2 sts):M4 X W c (.cons m1 m2) (st::sts):=by
 intro env
 have B:wz X (st::sts) (ZM (fun D σ H=>∃env,tS X.K W env (ex c m1 env) D σ H) (fun D σ H=>∃env,tS X.K W env (ex c m2 env) D σ H)):=
  Jd (fun QLz s σ H D I⟨env,q⟩=>h env QLz s σ H D I q) (fun QLz s σ H D I⟨env,q⟩=>t env QLz s σ H D I q)
 refine wz.imp B fun D σ H q=>?_
 simp only[x_1]at q
 refine⟨env,q.1,?_⟩
 cases r:ex c m1 env with
 |next env1=>
  rw[r]at q
  exact fun σ1 H1 N1=>⟨env1,pU q N1⟩
 |_=>rw[r]at q;exact q.2
theorem pW{D:Ends}{f:Mini.D->Ev->Fl}(h:tS K W env (r.lO f) D σ H)
  (k:∀d env1 v H1,Nx K env σ H env1 H1->bz K H1 d v->tS K W env1 (f d env1) D σ H1->R v H1):tD K W env r σ H R:=by
 have step:∀d env1,r.lO f=f d env1->∀v H1,Nx K env σ H env1 H1->bz K H1 d v->R v H1:=fun d env1 e v H1 N Dv=>by
  rw[e]at h
  exact k d env1 v H1 N Dv (pU h N.z)
 obtain⟨S,h⟩:=h
 refine⟨S,?_⟩
 cases r with
 |bad=>exact h
 |exc c env1=>exact fun H' N=>h σ H' N.z
 |ok x env1=>
  cases x with
  |val d=>exact fun v H1 N Dv=>step d env1 rfl v H1 N Dv
  |new xs=>exact fun v H1 N Dv=>step xs.d env1 rfl v H1 N Dv
  |ref i=>exact h
  |tmp xs=>exact h
theorem HJ{D:Ends}{f:Bool->Ev->Fl}{R:Bool->Hp->Prop}(h:tS K W env (r.Ai f) D σ H)
  (k:∀b env1 H1,Nx K env σ H env1 H1->tS K W env1 (f b env1) D σ H1->R b H1):tT K W env r σ H R:=by
 have step:∀d env1 x,x.jG=some d->r=.ok x env1->∃b,gP d=some b/\∀H1,Nx K env σ H env1 H1->R b H1:=fun d env1 x ex er=>by
  subst er
  cases q:gP d with
  |none=>
   cases x with
   |val d'=>cases ex;simp only[Out.Ai,Out.lO,q]at h;exact h.2.elim
   |new xs=>cases ex;simp only[Out.Ai,Out.lO,q]at h;exact h.2.elim
   |ref i=>cases ex
   |tmp xs=>cases ex
  |some b=>
   refine⟨b,rfl,fun H1 N=>k b env1 H1 N (pU ?_ N.z)⟩
   cases x with
   |val d'=>cases ex;simp only[Out.Ai,Out.lO,q]at h;exact h
   |new xs=>cases ex;simp only[Out.Ai,Out.lO,q]at h;exact h
   |ref i=>cases ex
   |tmp xs=>cases ex
 refine⟨h.1,?_⟩
 cases r with
 |bad=>exact h.2
 |exc c env1=>exact fun H' N=>h.2 σ H' N.z
 |ok x env1=>
  cases x with
  |val d=>obtain⟨b,e,q⟩:=step d env1 _ rfl rfl;exact⟨d,b,rfl,e,q⟩
  |new xs=>obtain⟨b,e,q⟩:=step xs.d env1 _ rfl rfl;exact⟨xs.d,b,rfl,e,q⟩
  |ref i=>exact h.2.elim
  |tmp xs=>exact h.2.elim
theorem abF{t:E}{te:Expr}{s1 s2:List Stmt}(ht:GT X W c t te)(h1:M4 X W c m1 s1)(h2:M4 X W c m2 s2):GS X W c (.ite t m1 m2) (.If te s1 s2 pos):=by
 intro env
 refine PS.imp (aaJ ht (t:=fun D σ H=>∃env,tS X.K W env (ex c m1 env) D σ H) (u:=fun D σ H=>∃env,tS X.K W env (ex c m2 env) D σ H)
  (fun QLz s σ H D I⟨env,q⟩=>h1 env QLz s σ H D I q) (fun QLz s σ H D I⟨env,q⟩=>h2 env QLz s σ H D I q)) fun D σ H q=>?_
 simp only[adW]at q
 refine⟨env,HJ q fun b env1 H1 N q1=>?_⟩
 cases b with
 |true=>rw[if_pos rfl]at q1⊢;exact⟨env1,q1⟩
 |false=>rw[if_neg Qjz]at q1⊢;exact⟨env1,q1⟩
theorem Qx{m:E}(h:GE X W c m e)(hs:swapsWith e none pos.line X.env=pure false):GS X W c (.expr m) (.Expr e pos):=by
 intro env
 refine PS.imp (Cd h.d hs) fun D σ H q=>?_
 simp only[x_8]at q
 exact⟨env,pW q fun d env1 v H1 N Dv q1=>q1.2 σ H1 (Nz.refl q1.1)⟩
theorem KJ{k:Nat}:GS X W0 c (.raise k) st:=fun env QLz s σ H D I q=>by
 simp only[adT]at q
 exact(q.2 σ H (Nz.refl q.1)).elim
end
section
variable{K:QQq}{env env1 env2:Ev}{σ σ1 σ2:St}{H H1 H2:Hp}
theorem jU{j:Nat}{s:Sl}(h:aJ (env.set i s) (σ.set i (some v)) j a)(hj:i≠j):aJ env σ j a:=by
 obtain⟨⟨t,xs,e1,e2⟩,e3⟩:=h
 rw[Qxz hj]at e1 e3
 exact⟨⟨t,xs,e1,e2⟩,e3⟩
theorem mj{s:Sl}(hi:i<env.length)(hs:i<σ.length)(h:aJ (env.set i s) (σ.set i (some v)) i a):isOwn s≠none/\v=.ref a:=by
 obtain⟨⟨t,xs,e1,e2⟩,e3⟩:=h
 rw[Qwq hi]at e1
 rw[Qwq hs]at e3
 cases e1
 cases e3
 exact⟨by rw[e2];simp,rfl⟩
theorem Sat.vo{q:Ob}(S:Sat K env σ H)(hi:i<env.length)(ha:jk K H q a)(no:∀k,¬aJ env σ k a):Sat K (env.set i (.own q)) (σ.set i (some (.ref a))) H:=by
 have hs:i<σ.length:=by rw[<-S.len];exact hi
 refine⟨by simpa using S.len,fun j s e=>?_,fun j k b h1 h2=>?_⟩
 ·by_cases hj:i=j
  ·subst hj
   rw[Qwq hi]at e
   cases e
   exact⟨a,by rw[Qwq hs];rfl,ha⟩
  ·rw[Qxz hj]at e⊢
   exact S.sl j s e
 ·by_cases hj:i=j
  ·subst hj
   by_cases hk:i=k
   ·exact hk
   ·obtain⟨_,z⟩:=mj hi hs h1
    cases z
    exact absurd (jU h2 hk) (no k)
  ·by_cases hk:i=k
   ·subst hk
    obtain⟨_,z⟩:=mj hi hs h2
    cases z
    exact absurd (jU h1 hj) (no j)
   ·exact S.ne j k b (jU h1 hj) (jU h2 hk)
theorem Nz.put{i:Nat}{x:Rv}{s:Sl}{v:V}(S:Sat K env σ H)(N:Nx K env σ H env1 H1)(hx:gh K σ H H1 x v)(hs:x.wZ=some s)(h:cD i s env1=some env2):Nz K env σ H env2 (σ.set i (some v)) H1:=by
 obtain⟨rfl,hi,nb⟩:=qj h
 have hsl:i<σ.length:=by rw[<-N.eU.len];exact hi
 have bors:∀(j:Nat)xs,env[j]? =some (.bor xs)->(∃ys,(env1.set i s)[j]? =some (.bor ys))/\(σ.set i (some v))[j]? =σ[j]? :=fun j xs e=>by
  obtain⟨ys,e1⟩:=N.bors j xs e
  have hj:i≠j:=fun z=>by subst z;exact nb ys e1
  exact⟨⟨ys,by rw[Qxz hj];exact e1⟩,by rw[Qxz hj]⟩
 cases x with
 |val d=>
  cases hs
  refine⟨N.eU.put hi hx,fun j a z=>.inl ?_,N.pers,N.keep,N.dom,bors⟩
  by_cases hj:i=j
  ·subst hj
   exact absurd rfl (mj hi hsl z).1
  ·exact N.sub j a (jU z hj)
 |new q=>
  cases hs
  obtain⟨a,rfl,oa,h0⟩:=hx
  refine⟨N.eU.vo hi oa fun k z=>S.kZ h0 k (N.sub k a z),fun j b z=>?_,N.pers,N.keep,N.dom,bors⟩
  by_cases hj:i=j
  ·subst hj
   obtain⟨_,z⟩:=mj hi hsl z
   cases z
   exact .inr h0
  ·exact .inl (N.sub j b (jU z hj))
 |ref j=>cases hs
 |tmp q=>cases hs
end
section
variable{X:Cx}{W:Wi}{c:Cf}{m:E}{st:Stmt}{e:Expr}{pos pos':Pos}
theorem RJ{D:Ends}{f:Rv->Ev->Fl}(h:tS K W env (r.fl f) D σ H)
  (k:∀x env1 v H1,Nx K env σ H env1 H1->gh K σ H H1 x v->tS K W env (f x env1) D σ H->R v H1):tM K W env r σ H R:=by
 obtain⟨S,h⟩:=h
 refine⟨S,?_⟩
 cases r with
 |bad=>exact h
 |exc c env1=>exact fun H' N=>h σ H' N.z
 |ok x env1=>exact fun v H1 N z=>k x env1 v H1 N z ⟨S,h⟩
theorem BL{D:Ends}(q:tS K W env (ex c (.set i m) env) D σ H):tM K W env (ev c m env) σ H fun v H1=>D.nx (σ.set i (some v)) H1:=by
 simp only[x_5]at q
 refine RJ q fun x env1 v H1 N z q1=>?_
 cases e1:x.wZ with
 |none=>rw[e1]at q1;exact q1.2.elim
 |some s=>
  rw[e1]at q1
  simp only[Option.bind]at q1
  cases e2:cD i s env1 with
  |none=>rw[e2]at q1;exact q1.2.elim
  |some env2=>
   rw[e2]at q1
   exact q1.2 _ _ (Nz.put q1.1 N z e1 e2)
theorem KH(h:GE X W c m e)(hN:X.N.Nodup)(hi:X.N[i]? =some x)(hx:Loc X.env.scope x)(hf:X.fn x=true\/X.env.scope.names.lookup x=some .local)
  (hs:swapsWith e (some (.Name x pos')) pos.line X.env=pure false):GS X W c (.set i m) (.Assign [.Name x pos'] e pos):=fun env=>
 PS.imp (Vp hN hi hx h.am hs hf) fun D σ H q=>⟨env,BL q⟩
theorem HY{is:List Nat}{D:Ends}(q:tS K W env (ex c (.setT is m) env) D σ H):tD K W env (ev c m env) σ H fun v H1=>tG K (.tup is) v σ H1 D.nx:=by
 simp only[x_6]at q
 refine pW q fun d env1 v H1 N Dv q1=>?_
 cases e2:bD (.tup is) d env1 with
 |none=>rw[e2]at q1;exact q1.2.elim
 |some env2=>
  rw[e2]at q1
  exact⟨env1,d,env2,q1.1,Dv,e2,fun σ' st=>q1.2 σ' H1 ⟨st.eU,fun i a z=>.inl (st.sub z),bK.refl _,fun _ _ z _=>z,fun _ z=>z,fun i xs e=>⟨⟨xs,(st.same i (st.bors i xs e)).1.trans e⟩,(st.same i (st.bors i xs e)).2⟩⟩⟩
theorem Qv{is:List Nat}{tg:Expr}(h:GE X W c m e)(hg:GG X (.tup is) tg)(hs:swapsWithSole [tg] e pos.line X.env=pure false)(hw:swappedStores [tg] e X.env=pure none)
  (h1:(assignEach [tg] X.env).map (·.2)=[assign tg X.env]):GS X W c (.setT is m) (.Assign [tg] e pos):=fun env=>
 PS.imp (Jf h.d hg hs hw h1) fun D σ H q=>⟨env,HY q⟩
end
theorem Ax(env:Env):∀(names:List (Str×NameKind))(cs:List (Str×Addr)),(∀x∈names,x.2=.free->∃c,env.cells.lookup x.1=some c)->(∀x c,cs.lookup x=some c->env.cells.lookup x=some c)->
  ∃cl,(do
   let s<-forIn names cs (fun(x:Str×NameKind)cs=>match x with
    |(name,kind)=>if (kind==NameKind.free)=true then do
      let a<-cellOf env name
      pure (ForInStep.yield ((name,a)::cs))
     else pure (ForInStep.yield cs))
   pure s:Sem (List (Str×Addr)))=(pure cl:Sem _)/\
   (∀x c,cl.lookup x=some c->env.cells.lookup x=some c)/\(∀x,(x,NameKind.free)∈names->∃c,cl.lookup x=some c)/\∀x c,cs.lookup x=some c->∃c,cl.lookup x=some c:=by
 intro names
 induction names with
 |nil=>intro cs h1 h2;exact⟨cs,rfl,h2,by simp,fun x c e=>⟨c,e⟩⟩
 |cons p r ih=>
  intro cs h1 h2
  obtain⟨n,k⟩:=p
  by_cases hk:k=.free
  ·subst hk
   obtain⟨c,hc⟩:=h1 (n,.free) QYz rfl
   have q2:∀x d,((n,c)::cs).lookup x=some d->env.cells.lookup x=some d:=fun x d e=>by
    rw[QHz]at e
    cases hx:x==n with
    |true=>rw[hx]at e;cases e;rw[eq_of_beq hx];exact hc
    |false=>rw[hx]at e;exact h2 x d e
   obtain⟨cl,e1,e2,e3,e4⟩:=ih ((n,c)::cs) (fun x hx=>h1 x (QYq _ hx)) q2
   have own:∃d,cl.lookup n=some d:=e4 n c (by simp[QHz])
   refine⟨cl,?_,e2,fun x hx=>?_,fun x d e=>?_⟩
   ·rw[<-e1]
    have:cellOf env n=pure c:=by unfold cellOf;rw[hc]
    simp only[List.forIn_cons]
    rw[if_pos (show(NameKind.free==NameKind.free)=true from rfl),this]
    rfl
   ·rcases QCq.mp hx with z|z
    ·cases z;exact own
    ·exact e3 x z
   ·cases hx:x==n with
    |true=>rw[eq_of_beq hx];exact own
    |false=>exact e4 x d (by rw[QHz,hx];exact e)
  ·obtain⟨cl,e1,e2,e3,e4⟩:=ih cs (fun x hx=>h1 x (QYq _ hx)) h2
   refine⟨cl,?_,e2,fun x hx=>?_,e4⟩
   ·rw[<-e1]
    simp only[List.forIn_cons]
    have hk':¬(k==NameKind.free)=true:=fun z=>hk (eq_of_beq z)
    rw[if_neg hk']
    rfl
   ·rcases QCq.mp hx with z|z
    ·cases z;exact absurd rfl hk
    ·exact e3 x z
theorem af1{env:Env}(h:∀x∈scope.names,x.2=.free->∃c,env.cells.lookup x.1=some c):∃cl,Mz scope env cl:=by
 obtain⟨cl,e1,e2,e3,_⟩:=Ax env scope.names [] h (by simp)
 refine⟨cl,?_,e2,fun x hx=>e3 x (PySem.mem_of_lookup hx)⟩
 have q:closureFor scope env=(forIn scope.names [] (fun(x:Str×NameKind)cs=>match x with
    |(name,kind)=>if (kind==NameKind.free)=true then do
      let a<-cellOf env name
      pure (ForInStep.yield ((name,a)::cs))
     else pure (ForInStep.yield cs)):Sem (List (Str×Addr)))>>=pure:=rfl
 rw[q,e1]
 rfl
section
variable{X:Cx}{W:Wi}{c:Cf}{scope:Scope}{tgs:List Str}{tg:Tg}{it cond elt:E}{tgE iterE eltE:Expr}{ifs:List Expr}{pos spos py:Pos}
theorem DY{R:It->Hp->Prop}
  (q:tM K W env (ev c (.comp nl tg it cond elt) env) σ H Q)
  (k:∀J H1 env1 xs ys τ,Nx K env σ H env1 H1->Gives K J xs H1->aU tg (ev c cond) (ev c elt) xs [] (List.replicate nl Sl.un++env1)=.ok ys τ->
   (∀v H2,Nx K env σ H (τ.drop nl) H2->gh K σ H H2 (.new (.lst ys)) v->Q v H2)->R J H1):tI K W env (ev c it env) σ H R:=by
 simp only[lU]at q
 obtain⟨S,q⟩:=q
 refine⟨S,?_⟩
 cases r:ev c it env with
 |bad=>rw[r]at q;exact q
 |exc k env1=>rw[r]at q;exact q
 |ok x env1=>
  rw[r]at q
  have go:∀d,x.jG=some d->(match (match items d with
    |some xs=>match aU tg (ev c cond) (ev c elt) xs [] (List.replicate nl Sl.un++env1)with
     |.ok ys τ=>Out.ok (Rv.new (.lst ys)) (τ.drop nl)
     |_=>.bad
    |none=>.bad)with
   |.ok x env'=>∀v H',Nx K env σ H env' H'->gh K σ H H' x v->Q v H'
   |.exc c env'=>∀H',Nx K env σ H env' H'->W c env' σ H'
   |.bad=>False)->∃d xs,x.jG=some d/\items d=some xs/\∀J H',Nx K env σ H env1 H'->Gives K J xs H'->R J H':=fun d ed z=>by
   cases e1:items d with
   |none=>rw[e1]at z;exact z.elim
   |some xs=>
    rw[e1]at z
    simp only at z
    cases e2:aU tg (ev c cond) (ev c elt) xs [] (List.replicate nl Sl.un++env1)with
    |bad=>rw[e2]at z;exact z.elim
    |exc k τ=>rw[e2]at z;exact z.elim
    |ok ys τ=>
     rw[e2]at z
     exact⟨d,xs,ed,e1,fun J H1 N G=>k J H1 env1 xs ys τ N G e2 z⟩
  cases x with
  |val d=>exact go d rfl q
  |new o=>exact go o.d rfl q
  |ref i=>exact q.elim
  |tmp o=>exact q.elim
theorem Inv.letGo{C:Addr}{h':Heap}(I:Inv X QLz σ H s)(f:gj X QLz H C)(hs:Heap.SameBut C s.heap h'):Inv X QLz σ H {s with heap:=h'}:=by
 exact I.turned (t':=s.toks) (fun b o hb e=>(hs.2 b hb).trans e) f.1 f.2.1 f.2.2.2.1 f.2.2.2.2.1 f.2.2.2.2.2
theorem Ha.cl{QLz:QQz}{σ:St}{H:Hp}{s:Shared}(sc:Ha X.env.scope scope tgs X.N)(I:Inv X QLz σ H s):∃cl,Mz scope X.env cl:=
 af1 fun x hx hf=>I.ok.has x.1 (sc.fre x hx hf)
theorem QF(B:yU X c scope tgs tg cond elt tgE eltE ifs)(hi:GI X W c it tgE iterE)(hc:X.calm=true)(hs:∀x,foldedSetIterable iterE X.env x=pure x):
  GE X W c (.comp tgs.length tg it cond elt) (.ListComp eltE [⟨tgE,iterE,ifs,0⟩] scope pos):=by
 intro env QLz s σ H Q I q
 obtain⟨cl,co⟩:=B.sc.cl I
 rw[eval_ListComp]
 refine wpAny_comprehension_free (use:=none) rfl hs co.eq B.sc.kind B.sc.locs (bW (hi env QLz s σ H _ I (DY q (R:=fun J H1=>∃env1 xs ys τ,Nx X.K env σ H env1 H1/\Gives X.K J xs H1/\aU tg (ev c cond) (ev c elt) xs [] (List.replicate tgs.length Sl.un++env1)=.ok ys τ/\
  (∀v H2,Nx X.K env σ H (τ.drop tgs.length) H2->gh X.K σ H H2 (.new (.lst ys)) v->Q v H2)) fun J H1 env1 xs ys τ N G e z=>⟨env1,xs,ys,τ,N,G,e,z⟩)) fun v s1 h1=>bW h1 fun itv s2 h2=>?_)
 obtain⟨ita,fp,tn,J,H1,rfl,I1,T,t0,hf,env1,xs,ys,τ,N,G,e,z⟩:=h2
 refine uI (RR:=fun acc C=>compPost (model X.prog X.w) X.A X.xe none (EP X QLz σ Q) acc C) B hc co I1 N.eU T t0 hf G e fun D C s' H' vs m I' N' hD hl hn hC fC=>?_
 refine⟨m,hC,fun h' hs'=>⟨.ref D,H',Inv.letGo I' fC hs',rfl,z _ _ (N.trans N') ⟨D,rfl,⟨_,hD,vs,rfl,hl⟩,N.dom D hn⟩⟩⟩
theorem Ac(B:yU X c scope tgs tg cond elt tgE eltE ifs)(hi:GI X W c it tgE iterE)(hc:X.calm=true)(hs:∀x,foldedSetIterable iterE X.env x=pure x)
  (hN:X.N.Nodup)(hx:X.N[i]? =some x)(hl:Loc X.env.scope x)(hf:X.fn x=true\/X.env.scope.names.lookup x=some .local)
  (hsw:swapsWith (.ListComp eltE [⟨tgE,iterE,ifs,0⟩] scope pos) (some (.Name x py)) spos.line X.env=pure true):
  GS X W c (.set i (.comp tgs.length tg it cond elt)) (.Assign [.Name x py] (.ListComp eltE [⟨tgE,iterE,ifs,0⟩] scope pos) spos):=by
 intro env QLz s σ H D I q
 have q:=BL q
 obtain⟨cl,co⟩:=B.sc.cl I
 rw[exec_Assign_Name_used _ _ _ _ hsw]
 refine QKq (wpAny_standAt (QKq ?_))
 show wpAny _ _ (do let _<-comprehension (.ListComp eltE [⟨tgE,iterE,ifs,0⟩] scope pos) scope X.env _ (newList []) false (eval iterE X.env) (some (assign (.Name x py) X.env))) _ _ s
 refine QKq (QGq (wpAny_comprehension_free (use:=some (assign (.Name x py) X.env)) (Q:=fun _ s'=>SP X QLz D .next s') rfl hs co.eq B.sc.kind B.sc.locs
  (bW (hi env QLz s σ H _ I (DY q (R:=fun J H1=>∃env1 xs ys τ,Nx X.K env σ H env1 H1/\Gives X.K J xs H1/\aU tg (ev c cond) (ev c elt) xs [] (List.replicate tgs.length Sl.un++env1)=.ok ys τ/\
  (∀v H2,Nx X.K env σ H (τ.drop tgs.length) H2->gh X.K σ H H2 (.new (.lst ys)) v->D.nx (σ.set i (some v)) H2)) fun J H1 env1 xs ys τ N G e z=>⟨env1,xs,ys,τ,N,G,e,z⟩)) fun v s1 h1=>bW h1 fun itv s2 h2=>?_))
  (fun _ s' hq=>QKz (QKz hq)) fun _ _ e=>e)
 obtain⟨ita,fp,tn,J,H1,rfl,I1,T,t0,hf',env1,xs,ys,τ,N,G,e,z⟩:=h2
 refine uI (RR:=fun acc C=>compPost (model X.prog X.w) X.A X.xe (some (assign (.Name x py) X.env)) (fun _ s'=>SP X QLz D .next s') acc C) B hc co I1 N.eU T t0 hf' G e fun A C s' H' vs m I' N' hD hl' hn hC fC=>?_
 show wpAny _ _ (assign (.Name x py) X.env (.ref A)) _ _ _
 refine wpAny_assign_Name (sV (v:=.ref A) I' hN hx hl rfl (fun s'' I''⟨a,ha,hor⟩=>?_) hf)
 have hCa:C≠a:=by
  rcases hor with rfl|hor
  ·exact fC.2.1
  ·exact fun z=>fC.2.2.2.2.1 x a hor z.symm
 refine⟨m,hC.sameBut ha hCa,fun h' hs'=>⟨_,H',Inv.letGo I'' fC hs',z _ _ (N.trans N') ⟨A,rfl,⟨_,hD,vs,rfl,hl'⟩,N.dom A hn⟩⟩⟩
end
section
variable{K:QQq}{H:Hp}{a:Addr}{xs:List D}{vs:List V}
theorem GD(hq:gO K H a vs)(l:ao K H xs vs)(hz:vs.length<=sizeLine):Gives K (Itt K a) xs H where
 go:=fun H1 p i d e=>by
  obtain⟨v,ev,_⟩:=l.get e
  exact⟨vs,v,p.Et hq,ev⟩
 yld:=fun H1 p i d e x H2 y=>by
  obtain⟨rfl,y⟩:=y
  obtain⟨v,ev,dv⟩:=l.get e
  have:=y vs (p.Et hq)
  rw[ev]at this
  cases this
  exact⟨dv.mono p,.inl rfl⟩
 stop:=fun H1 p i hi=>⟨vs,p.Et hq,by rw[<-l.length];exact hi⟩
 len:=by rw[l.length];exact hz
theorem GF(hq:Eh K H a vs)(l:ao K H xs vs)(hz:vs.length<=sizeLine):Gives K (Itl K a) xs H where
 go:=fun H1 p i d e=>by
  obtain⟨v,ev,_⟩:=l.get e
  exact⟨vs,v,(p.QJ hq).sq,ev⟩
 yld:=fun H1 p i d e x H2 y=>by
  obtain⟨rfl,y⟩:=y
  obtain⟨v,ev,dv⟩:=l.get e
  have:=y vs (p.QJ hq).sq
  rw[ev]at this
  cases this
  exact⟨dv.mono p,.inl rfl⟩
 stop:=fun H1 p i hi=>⟨vs,(p.QJ hq).sq,by rw[<-l.length];exact hi⟩
 len:=by rw[l.length];exact hz
def Its(x:Str):It:=⟨fun i _=>i<x.cps.size,fun i H v H'=>H'=H/\∃c,x.cps[i]? =some c/\v=.str ⟨#[c]⟩,fun i _=>x.cps.size<=i⟩
theorem signs_get{d:D}(h:(signs x)[i]? =some d):∃c,x.cps[i]? =some c/\d=.str ⟨#[c]⟩:=by
 unfold signs at h
 rw[QFz]at h
 cases e:x.cps.toList[i]? with
 |none=>rw[e]at h;cases h
 |some c=>rw[e]at h;cases h;exact⟨c,by simpa using e,rfl⟩
theorem m5(x:Str):(signs x).length=x.cps.size:=by simp[signs]
theorem uE(hz:x.cps.size<=sizeLine):Gives K (Its x) (signs x) H where
 go:=fun H1 p i d e=>by
  have:=(QCz.mp e).1
  rw[m5]at this
  exact this
 yld:=fun H1 p i d e v H2 y=>by
  obtain⟨rfl,c,e1,rfl⟩:=y
  obtain⟨c',e2,rfl⟩:=signs_get e
  rw[e1]at e2
  cases e2
  exact⟨rfl,.inl rfl⟩
 stop:=fun H1 p i hi=>by rw[m5]at hi;exact hi
 len:=by rw[m5];exact hz
end
section
variable{P:Program}{w:World}{K:QQq}{tg:Expr}
theorem wI(it:Addr)(x:Str)(t:Tok)(ty:String)(W:∀A':Around,A'.handled=none->Walks P w A' it [it] [it] x.cps.size (SignAt x) (fun i h=>h.IsStrIter it ty x t i))
  (hn:["enumerate","zip","dict_itemiterator","dict_reverseitemiterator","odict_iterator","itertools.zip_longest","itertools.pairwise"].contains ty=false)
  (hself:∀(A:Around)(i:Nat)(s:Shared)(Q:QZq)(E:QZq),s.heap.IsStrIter it ty x t i->Q (.ref it) s->wpAny (model P w) A (pyIter (.ref it)) Q E s):
  Turn P w K tg (Its x) [it] it (fun i h=>h.IsStrIter it ty x t i/\i<=x.cps.size) where
 mem:=by simp
 obj:=fun i h st b hb=>by
  have e:b=it:=by simpa using hb
  subst e
  obtain⟨⟨o,e,_,d⟩,_⟩:=st
  exact⟨o,e,fun v z=>by rw[d]at z;cases z⟩
 keep:=fun i h h' st k=>⟨let ⟨o,e,r⟩:=st.1;⟨o,k it (by simp) o e,r⟩,st.2⟩
 item:=by
  intro X hP hw hK hc i QLz s σ H E I hf st hg
  subst hP hw hK
  obtain⟨f0,f1,f2,f3,f4,f5⟩:=hf it (by simp)
  refine(W X.A (I.ok.hd hc)).item i s _ _ hg st.1 fun v h' tk hv st' kk=>?_
  obtain⟨c,t,hx,rfl⟩:=hv
  have I1:Inv X QLz σ H {s with heap:=h',toks:=tk}:=I.turned (fun b o hb e=>kk b o (by simpa using hb) e) f0 f1 f3 f4 f5
  obtain⟨o,e,cl,d⟩:=id st'
  exact⟨_,rfl,Dl (s:={s with heap:=h',toks:=tk}) e cl d hn ⟨.str ⟨#[c]⟩,H,I1,⟨t,rfl⟩,⟨rfl,c,hx,rfl⟩,⟨st',hg⟩,fun b hb=>(hf b hb).1⟩⟩
 done:=by
  intro X hP hw hK hc i QLz s σ H E I hf st hg
  subst hP hw hK
  obtain⟨f0,f1,f2,f3,f4,f5⟩:=hf it (by simp)
  have e:i=x.cps.size:=Nat.le_antisymm st.2 hg
  subst e
  exact(W X.A (I.ok.hd hc)).done s _ _ st.1 fun h' tk kk=>⟨rfl,I.turned (fun b o hb e=>kk b o (by simpa using hb) e) f0 f1 f3 f4 f5⟩
 self:=fun A i s Q E st h=>hself A i s Q E st.1 h
end
section
variable{K:QQq}{H:Hp}{a:Addr}
theorem DN{H:Hp}:∀cs:List Bool,ao K H (cs.map .bl) (cs.map .bl)
 |[]=>ao.dY
 |c::cs=>ao.aH.mpr ⟨_,_,rfl,by rfl,DN cs⟩
theorem Xr{k:SK}(h:cB K H k a):bz K H (dX k) (.ref a):=by
 obtain⟨b,q1,q2⟩:=h
 unfold dX bz
 refine⟨a,_,rfl,q1,ao.aH.mpr ⟨_,_,rfl,?_,ao.aH.mpr ⟨_,_,rfl,by rfl,ao.dY⟩⟩⟩
 unfold bz
 exact⟨b,_,rfl,q2,DN _⟩
end
section
variable{P:Program}{w:World}{K:QQq}{tg:Expr}
end
section
variable{X:Cx}{W:Wi}{c:Cf}{m:E}{tg e:Expr}
theorem J7{R:It->Hp->Prop}{d:D}{u:Value}(I:Inv X QLz σ H s)(rv:RelV v u)(hd:bz X.K H d v)(hi:items d=some xs)(q:∀J,Gives X.K J xs H->R J H):
  wpAny (model X.prog X.w) X.A (pyIter u) (PIE X QLz σ tg R) X.xe s:=by
 have fp:∀(s':Shared),s.heap.objs.size<=s'.heap.objs.size->True:=fun _ _=>trivial
 cases d with
 |tup ds=>
  cases hi
  obtain⟨a,vs,rfl,hq,l⟩:=cI hd
  cases rv
  obtain⟨its,r,p,hz⟩:=I.tuple hq
  refine wpAny_pyIter_tuple (show s.heap.IsTuple a its.toArray from p) ?_
  refine⟨s.heap.objs.size,[s.heap.objs.size],_,_,H,rfl,I.kept (t':=s.toks) fun b o e=>QWq _ e,za a _,⟨_,Qzq _ rfl,rfl,rfl⟩,fun b hb=>?_,q _ (GD hq l hz)⟩
  have e:b=s.heap.objs.size:=by simpa using hb
  subst e
  exact I.yt (QVz _) (I.hok.fresh (QVz _))
 |lst ds=>
  cases hi
  obtain⟨a,vs,rfl,hq,l⟩:=cV hd
  cases rv
  obtain⟨its,r,p,hz⟩:=I.list hq.sq
  refine wpAny_pyIter_list p.isList ?_
  refine⟨s.heap.objs.size,[s.heap.objs.size],_,_,H,rfl,I.kept (t':=s.toks) fun b o e=>QWq _ e,Em a _,⟨_,Qzq _ rfl,rfl,rfl⟩,fun b hb=>?_,q _ (GF hq l hz)⟩
  have e:b=s.heap.objs.size:=by simpa using hb
  subst e
  exact I.yt (QVz _) (I.hok.fresh (QVz _))
 |str x=>
  simp only[items]at hi
  split at hi
  ·rename_i hf
   cases hi
   cases hd
   obtain⟨t,rfl⟩:=rv
   have hz:x.cps.size<=sizeLine:=dR hf
   have fin:∀b∈[s.heap.objs.size],gj X QLz H b:=fun b hb=>by
    have e:b=s.heap.objs.size:=by simpa using hb
    subst e
    exact I.yt (QVz _) (I.hok.fresh (QVz _))
   cases ha:x.cps.all (· <128)
   ·refine wpAny_pyIter_wide ha ?_
    exact⟨s.heap.objs.size,[s.heap.objs.size],_,_,H,rfl,I.kept (t':=s.toks) fun b o e=>QWq _ e,wI _ x t "str_iterator" (fun A' hA=>Walks.strWide hA _ x t) (by decide) (fun A i s Q E st h=>wpAny_pyIter_striter_wide st h),⟨⟨_,Qzq _ rfl,rfl,rfl⟩,QIq _⟩,fin,q _ (uE hz)⟩
   ·refine wpAny_pyIter_ascii ha ?_
    exact⟨s.heap.objs.size,[s.heap.objs.size],_,_,H,rfl,I.kept (t':=s.toks) fun b o e=>QWq _ e,wI _ x t "str_ascii_iterator" (fun A' hA=>Walks.strAscii hA _ x t) (by decide) (fun A i s Q E st h=>wpAny_pyIter_striter_ascii st h),⟨⟨_,Qzq _ rfl,rfl,rfl⟩,QIq _⟩,fin,q _ (uE hz)⟩
  ·cases hi
 |_=>cases hi
theorem abH(h:GE X W c m e):GI X W c m tg e:=by
 intro env QLz s σ H R I q
 refine bW (h.d QLz s σ H (fun v H'=>∃d xs,bz X.K H' d v/\items d=some xs/\∀J,Gives X.K J xs H'->R J H') I ⟨env,q.1,?_⟩) fun u s1⟨v,H1,I1,r1,d,xs,hd,hi,q1⟩=>J7 I1 r1 hd hi q1
 have q2:=q.2
 cases r:ev c m env with
 |bad=>rw[r]at q2;exact q2
 |exc k env1=>rw[r]at q2;exact q2
 |ok x env1=>
  rw[r]at q2
  obtain⟨d,xs,ed,ei,q3⟩:=q2
  cases x with
  |val d'=>cases ed;exact fun v H' N Dv=>⟨d,xs,Dv,ei,fun J G=>q3 J H' N G⟩
  |new o=>cases ed;exact fun v H' N Dv=>⟨o.d,xs,Dv,ei,fun J G=>q3 J H' N G⟩
  |ref i=>cases ed
  |tmp o=>cases ed
end
def Zx:Ty->String
 |.tup=>"tuple"
 |.lst=>"list"
 |.str=>"str"
 |.bool=>"bool"
 |.int=>"int"
 |.cH=>"dict"
section
variable{X:Cx}{W:Wi}{c:Cf}{m m1 m2:E}{a b e:Expr}{pos p p':Pos}
def aeY(K:QQq):List V->Hp->VK->Prop:=fun xs H Q=>∃d v t,xs=[v,.ty (Zx t)]/\bz K H d v/\Q (.bl (lu t d)) H
theorem Lr:fJ X (.builtin "isinstance") (aeY X.K):=by
 intro QLz s σ H xs us Q I r h
 obtain⟨d,v,t,rfl,hd,q⟩:=h
 obtain⟨u,u',rfl,ru,rt⟩:=Vals.two r
 cases rt
 have fin:∀k,Q (.bl k) H->EP X QLz σ Q (.bool k) {s with toks:=s.toks+1}:=fun k z=>⟨.bl k,H,I.tok _,rfl,z⟩
 have fin0:∀k,Q (.bl k) H->EP X QLz σ Q (.bool k) s:=fun k z=>⟨.bl k,H,I,rfl,z⟩
 cases d with
 |non=>
  cases hd;cases ru
  cases t with
  |tup=>exact IsiPair.NoneType_tuple (fin _ q)
  |lst=>exact IsiPair.NoneType_list (fin _ q)
  |str=>exact IsiPair.NoneType_str (fin _ q)
  |bool=>exact IsiPair.NoneType_bool (fin _ q)
  |int=>exact IsiPair.NoneType_int (fin _ q)
  |cH=>exact IsiPair.NoneType_dict (fin _ q)
 |bl k=>
  cases hd;cases ru
  cases t with
  |tup=>exact IsiPair.bool_tuple (fin _ q)
  |lst=>exact IsiPair.bool_list (fin _ q)
  |str=>exact IsiPair.bool_str (fin _ q)
  |bool=>exact IsiPair.bool_bool (fin0 _ q)
  |int=>exact IsiPair.bool_int (fin0 _ q)
  |cH=>exact IsiPair.bool_dict (fin _ q)
 |int k=>
  cases hd;obtain⟨tk,rfl⟩:=ru
  cases t with
  |tup=>exact IsiPair.int_tuple (fin _ q)
  |lst=>exact IsiPair.int_list (fin _ q)
  |str=>exact IsiPair.int_str (fin _ q)
  |bool=>exact IsiPair.int_bool (fin _ q)
  |int=>exact IsiPair.int_int (fin0 _ q)
  |cH=>exact IsiPair.int_dict (fin _ q)
 |str k=>
  cases hd;obtain⟨tk,rfl⟩:=ru
  cases t with
  |tup=>exact IsiPair.str_tuple (fin _ q)
  |lst=>exact IsiPair.str_list (fin _ q)
  |str=>exact IsiPair.str_str (fin0 _ q)
  |bool=>exact IsiPair.str_bool (fin _ q)
  |int=>exact IsiPair.str_int (fin _ q)
  |cH=>exact IsiPair.str_dict (fin _ q)
 |tup ds=>
  obtain⟨a,vs,rfl,hq,_⟩:=cI hd
  cases ru
  obtain⟨its,_,⟨o,e,cl,_⟩,_⟩:=I.tuple hq
  cases t with
  |tup=>exact IsiPair.tuple_tuple e cl (fin0 _ q)
  |lst=>exact IsiPair.tuple_list e cl (fin _ q)
  |str=>exact IsiPair.tuple_str e cl (fin _ q)
  |bool=>exact IsiPair.tuple_bool e cl (fin _ q)
  |int=>exact IsiPair.tuple_int e cl (fin _ q)
  |cH=>exact IsiPair.tuple_dict e cl (fin _ q)
 |lst ds=>
  obtain⟨a,vs,rfl,hq,_⟩:=cV hd
  cases ru
  obtain⟨its,_,⟨o,n,e,cl,_⟩,_⟩:=I.list hq.sq
  cases t with
  |tup=>exact IsiPair.list_tuple e cl (fin _ q)
  |lst=>exact IsiPair.list_list e cl (fin0 _ q)
  |str=>exact IsiPair.list_str e cl (fin _ q)
  |bool=>exact IsiPair.list_bool e cl (fin _ q)
  |int=>exact IsiPair.list_int e cl (fin _ q)
  |cH=>exact IsiPair.list_dict e cl (fin _ q)
 |cH ks ds=>
  unfold bz at hd
  obtain⟨a,o,kvs,rfl,ha,_⟩:=hd
  cases ru
  obtain⟨e,_,_,_,_,o',_,_,e',ex,_⟩:=I.hok a _ ha
  rw[e]at e'
  cases e'
  have cl:=ex.1
  cases t with
  |tup=>exact IsiPair.dict_tuple e cl (fin _ q)
  |lst=>exact IsiPair.dict_list e cl (fin _ q)
  |str=>exact IsiPair.dict_str e cl (fin _ q)
  |bool=>exact IsiPair.dict_bool e cl (fin _ q)
  |int=>exact IsiPair.dict_int e cl (fin _ q)
  |cH=>exact IsiPair.dict_dict e cl (fin0 _ q)
 |jf ks ds=>
  unfold bz at hd
  obtain⟨a,o,kvs,rfl,ha,_⟩:=hd
  cases ru
  obtain⟨e,_,_,_,_,o',_,_,_,e',ex,_⟩:=I.hok a _ ha
  rw[e]at e'
  cases e'
  have cl:=ex.1
  cases t with
  |tup=>exact IsiPair.dict_tuple e cl (fin _ q)
  |lst=>exact IsiPair.dict_list e cl (fin _ q)
  |str=>exact IsiPair.dict_str e cl (fin _ q)
  |bool=>exact IsiPair.dict_bool e cl (fin _ q)
  |int=>exact IsiPair.dict_int e cl (fin _ q)
  |cH=>exact IsiPair.dict_dict e cl (fin0 _ q)
theorem Xd{t:Ty}(ha:GE X W c m a)(hx:x=Str.ofString (Zx t))(hg:Gl X x)(hm:X.mg x=none)(hi:Gl X "isinstance")(hmi:X.mg "isinstance"=none)
  (hs:starEach [a,.Name x p'] X.env=(false,eval a X.env)::starEach [.Name x p'] X.env):
  GE X W c (.isi m t) (.Call (.Name "isinstance" p) [a,.Name x p'] [] pos):=by
 intro env
 have hv:bootBuiltins x=some (.type (Zx t)):=by subst hx;cases t<;>kernel_rfl
 have hn:x≠"__name__":=by subst hx;cases t<;>decide+kernel
 have hd:(x==("__debug__":Str))=false:=by subst hx;cases t<;>decide+kernel
 have N:PE X (.Name x p') (tC (.ty (Zx t))):=Px hg hm hv rfl hn hd
 refine PE.imp (qC Lr hi hmi (by kernel_rfl) (cG ha.d (cG N eF rfl) hs) (by decide+kernel) (by decide+kernel) hs rfl) fun σ H Q q=>?_
 simp only[Nm]at q
 exact⟨env,aR q fun d env1 v H1 N1 D1 q1=>⟨d,v,t,rfl,D1,dI q1 rfl⟩⟩
end
def pB(X:Cx)(r:List V->Hp->VK->Prop)(f:D->Option Rv):Prop:=
 ∀(env:Ev)(σ:St)(H:Hp)(x:D)(z:Rv)(v:V)(Q:VK),Sat X.K env σ H->cQ X.K H x v->f x=some z->(∀w H',Nx X.K env σ H env H'->gh X.K σ H H' z w->Q w H')->r [v] H Q
variable{bb:Bi}
section
variable{X:Cx}{W:Wi}{c:Cf}{m m1 m2:E}{a b e:Expr}{pos p p':Pos}
theorem Lx{r:List V->Hp->VK->Prop}(R:pB X r (b1 bb))(hv:m.au=none)(q:tM X.K W env (ev c (.bi bb m) env) σ H Q):aD X W c m σ H fun v H1=>r [v] H1 Q:=by
 simp only[mX,hv]at q
 refine⟨env,aR q fun d env1 v H1 N1 D1 q1=>?_⟩
 obtain⟨z,ez,S,q3⟩:=cF q1
 exact R env1 σ H1 d z v Q S (.inl D1) ez q3
theorem Ef{r:List V->Hp->VK->Prop}(R:pB X r (b1 bb)){k:Nat}(hv:m.au=some k)(q:tM X.K W env (ev c (.bi bb m) env) σ H Q):HF k σ H fun v H1=>r [v] H1 Q:=by
 simp only[mX,hv]at q
 obtain⟨z,ez,S,q3⟩:=cF q
 cases e0:aN k env with
 |none=>rw[e0]at ez;cases ez
 |some d0=>
  rw[e0]at ez
  obtain⟨u,eu,Du⟩:=dj S e0
  exact⟨u,eu,R env σ H d0 z u Q S Du ez q3⟩
theorem vP{id:String}{r:List V->Hp->VK->Prop}(C:fJ X (.builtin id) r)(R:pB X r (b1 bb))(ha:GE X W c m a)(hv:∀k,m.au=some k->∃x p,a=.Name x p/\gZ X k x)
  (hg:Gl X x)(hm:X.mg x=none)(hb:bootBuiltins x=some (.builtin id))(hn:x≠"__name__")(hd:(x==("__debug__":Str))=false)(hs:starEach [a] X.env=[(false,eval a X.env)]):
  GE X W c (.bi bb m) (.Call (.Name x p) [a] [] pos):=by
 intro env
 cases q:m.au with
 |none=>exact PE.imp (qC C hg hm hb (cG ha.d eF hs) hn hd hs rfl) fun σ H Q h=>Lx R q h
 |some k=>
  obtain⟨y,p',rfl,nm⟩:=hv k q
  exact PE.imp (qC C hg hm hb (cG nm.pe eF hs) hn hd hs rfl) fun σ H Q h=>Ef R q h
theorem Ah{id:String}{r:List V->Hp->VK->Prop}(C:fJ X (.type id) r)(R:pB X r (b1 bb))(ha:GE X W c m a)(hv:∀k,m.au=some k->∃x p,a=.Name x p/\gZ X k x)
  (hg:Gl X x)(hm:X.mg x=none)(hb:bootBuiltins x=some (.type id))(hn:x≠"__name__")(hd:(x==("__debug__":Str))=false)(hs:starEach [a] X.env=[(false,eval a X.env)]):
  GE X W c (.bi bb m) (.Call (.Name x p) [a] [] pos):=by
 intro env
 cases q:m.au with
 |none=>exact PE.imp (nC C hg hm hb (cG ha.d eF hs) hn hd hs rfl) fun σ H Q h=>Lx R q h
 |some k=>
  obtain⟨y,p',rfl,nm⟩:=hv k q
  exact PE.imp (nC C hg hm hb (cG nm.pe eF hs) hn hd hs rfl) fun σ H Q h=>Ef R q h
theorem cQ.seq{d:D}(h:cQ K H d v)(e:bw d=some xs):∃a vs,v=.ref a/\(iY K H a vs\/gO K H a vs)/\ao K H xs vs:=by
 cases d with
 |tup ys=>cases e;exact h.Oa
 |lst ys=>cases e;exact h.H9
 |_=>cases e
theorem cQ.cH{K:QQq}{H:Hp}{ks ds:List D}{v:V}(h:cQ K H (.cH ks ds) v):∃a kvs,v=.ref a/\Rd H a (.dK kvs)/\ks=kvs.map (fun p=>bU p.1)/\ao K H ds (kvs.map (·.2)):=by
 rcases h with h|⟨o,a,q,rfl,u,ha,hq⟩
 ·unfold bz at h
  obtain⟨a,o,kvs,rfl,ha,k,l⟩:=h
  exact⟨a,kvs,rfl,.inr ⟨o,ha⟩,k,l⟩
 ·cases o<;>cases q
  obtain⟨kvs,rfl,k,l⟩:=hq
  exact⟨a,kvs,rfl,.inl ha,k,l⟩
def Vh(K:QQq):List V->Hp->VK->Prop:=fun xs H Q=>(∃x n,xs=[x]/\XQ K x H n/\Q (.int n) H)\/∃a kvs,xs=[.ref a]/\Rd H a (.dK kvs)/\Q (.int kvs.length) H
theorem G3:fJ X (.builtin "len") (Vh X.K):=by
 intro QLz s σ H xs us Q I r h
 rcases h with h|⟨a,kvs,rfl,e,q⟩
 ·exact Lq QLz s σ H xs us Q I r h
 ·obtain⟨u,rfl,ru⟩:=vals1 r
  cases ru
  exact abY I e fun t s' I'=>⟨.int kvs.length,H,I',⟨t,rfl⟩,q⟩
theorem Om:pB X (Vh X.K) (b1 .len):=by
 intro env σ H x z v Q S Dx e q
 have go:∀(n:Nat),Gm x=some n->XQ X.K v H n->Vh X.K [v] H Q:=fun n en ln=>by
  simp only[b1,en]at e
  cases e
  exact .inl ⟨v,n,rfl,ln,q _ H (Nx.refl S) rfl⟩
 cases x with
 |tup xs=>
  obtain⟨a,vs,rfl,hq,l⟩:=Dx.Oa
  refine go xs.length rfl ?_
  rcases hq with hq|hq
  ·exact .inl ⟨vs,hq,l.length⟩
  ·exact .inr ⟨vs,hq,l.length⟩
 |lst xs=>
  obtain⟨a,vs,rfl,hq,l⟩:=Dx.H9
  refine go xs.length rfl ?_
  rcases hq with hq|hq
  ·exact .inl ⟨vs,hq,l.length⟩
  ·exact .inr ⟨vs,hq,l.length⟩
 |str y=>
  have:=Dx.str
  subst this
  by_cases hf:fits y.length=true
  ·exact go y.length (by simp[Gm,hf]) ⟨dR hf,rfl⟩
  ·simp[b1,Gm,hf]at e
 |cH ks ds=>
  cases e
  obtain⟨a,kvs,rfl,hr,hk,l⟩:=Dx.cH
  have e2:ks.length=kvs.length:=by rw[hk,QAq]
  exact .inr ⟨a,kvs,rfl,hr,by rw[<-e2];exact q _ H (Nx.refl S) rfl⟩
 |_=>cases e
theorem Oo:pB X (fun xs H Q=>(∃i,xs=[.int i]/\Q (.int i) H)\/∃k,xs=[.bl k]/\Q (.int (if k then 1 else 0)) H) (b1 .int):=by
 intro env σ H x z v Q S Dx e q
 cases x with
 |int i=>
  cases e
  have:=Dx.int
  subst this
  exact .inl ⟨i,rfl,q _ H (Nx.refl S) rfl⟩
 |bl k=>
  cases e
  rcases Dx with h|⟨o,a,q',_⟩
  ·cases h
   exact .inr ⟨k,rfl,q _ H (Nx.refl S) (by cases k<;>rfl)⟩
  ·cases o<;>cases q'
 |_=>cases e
theorem Fj:pB X (fun xs H Q=>∃p ys,xs=[.ref p]/\((iY X.K H p ys/\∀l,H l=none->Q (.ref l) (upd H l (.tup ys)))\/(gO X.K H p ys/\Q (.ref p) H))) (b1 .tuple):=by
 intro env σ H x z v Q S Dx e q
 simp only[b1]at e
 cases es:bw x with
 |none=>rw[es]at e;cases e
 |some xs=>
  rw[es]at e
  cases e
  obtain⟨a,vs,rfl,hq,l⟩:=Dx.seq es
  refine⟨a,vs,rfl,?_⟩
  rcases hq with hq|hq
  ·refine .inl ⟨hq,fun p hp=>?_⟩
   have N:=Nx.laid (o:=.tup vs) S hp
   exact q _ _ N (dB (.inl (.inl aP)) (l.mono N.pers))
  ·exact .inr ⟨hq,q _ H (Nx.refl S) (dB hq l)⟩
theorem cQ.jf{K:QQq}{H:Hp}{ks ds:List D}{v:V}(h:cQ K H (.jf ks ds) v):∃a xs,v=.ref a/\Rd H a (sD xs)/\ks=xs.map (fun x=>dX x.1)/\∀x∈xs,cB K H x.1 x.2.1:=by
 rcases h with h|⟨o,a,q,rfl,u,ha,hq⟩
 ·unfold bz at h
  obtain⟨a,o,xs,rfl,ha,k,ka,l⟩:=h
  exact⟨a,xs,rfl,.inr ⟨o,ha⟩,k,ka⟩
 ·cases o<;>cases q
  obtain⟨xs,rfl,k,ka,l⟩:=hq
  exact⟨a,xs,rfl,.inl ha,k,ka⟩
theorem DK{K:QQq}{H:Hp}:∀{xs:List SV},(∀x∈xs,cB K H x.1 x.2.1)->ao K H (xs.map fun x=>dX x.1) (xs.map fun x=>.ref x.2.1)
 |[]=>fun _=>ao.dY
 |x::xs=>fun h=>ao.aH.mpr ⟨_,_,rfl,Xr (h x QYz),DK fun y hy=>h y (QYq _ hy)⟩
theorem Ik:pB X (fun xs H Q=>(∃p ys,xs=[.ref p]/\(iY X.K H p ys\/gO X.K H p ys)/\∀l,H l=none->Q (.ref l) (upd H l (.lst ys)))\/∃a ks,xs=[.ref a]/\Rd H a (sD ks)/\∀l,H l=none->Q (.ref l) (upd H l (.lst (ks.map fun x=>.ref x.2.1)))) (b1 .list):=by
 intro env σ H x z v Q S Dx e q
 simp only[b1]at e
 have go:∀{xs:List D},bw x=some xs->MN .list xs=some z->∃p ys,[v]=[V.ref p]/\(iY X.K H p ys\/gO X.K H p ys)/\∀l,H l=none->Q (.ref l) (upd H l (.lst ys)):=fun es e=>by
  cases e
  obtain⟨a,vs,rfl,hq,l⟩:=Dx.seq es
  exact⟨a,vs,rfl,hq,fun p hp=>q _ _ (Nx.laid S hp) (jW S l hp)⟩
 cases x with
 |jf ks ds=>
  cases e
  obtain⟨a,xs,rfl,hr,rfl,ka⟩:=Dx.jf
  exact .inr ⟨a,xs,rfl,hr,fun p hp=>q _ _ (Nx.laid S hp) (jW S (DK ka) hp)⟩
 |tup xs=>exact .inl (go rfl e)
 |lst xs=>exact .inl (go rfl e)
 |_=>cases e
theorem BoolsAre.get{vs:List Value}{bs:List Bool}(h:BoolsAre vs bs):∀{i:Nat}{v:Value},vs[i]? =some v->∃b,bs[i]? =some b/\v=.bool b:=by
 induction h with
 |nil=>intro i v e;simp at e
 |cons b t ih=>
  intro i v e
  cases i with
  |zero=>simp at e;subst e;exact⟨b,rfl,rfl⟩
  |succ i=>exact ih (by simpa using e)
theorem range_all(bs:List Bool):((List.range bs.length).all fun i=>bs.getD i false)=bs.all id:=by
 rw[Bool.eq_iff_iff]
 simp only[List.all_eq_true,List.mem_range,id]
 constructor
 ·intro h b hb
  obtain⟨i,hi,e⟩:=List.mem_iff_getElem.mp hb
  have:=h i hi
  rw[List.getD_eq_getElem?_getD,QXq hi]at this
  simpa[e]using this
 ·intro h i hi
  rw[List.getD_eq_getElem?_getD,QXq hi]
  exact h _ (List.getElem_mem hi)
theorem range_any(bs:List Bool):((List.range bs.length).any fun i=>bs.getD i false)=bs.any id:=by
 rw[Bool.eq_iff_iff]
 simp only[List.any_eq_true,List.mem_range,id]
 constructor
 ·rintro ⟨i,hi,h⟩
  rw[List.getD_eq_getElem?_getD,QXq hi]at h
  exact⟨bs[i],List.getElem_mem hi,by simpa using h⟩
 ·rintro ⟨b,hb,h⟩
  obtain⟨i,hi,e⟩:=List.mem_iff_getElem.mp hb
  exact⟨i,hi,by rw[List.getD_eq_getElem?_getD,QXq hi];simpa[e]using h⟩
def Yr(K:QQq)(f:List Bool->Bool):List V->Hp->VK->Prop:=fun xs H Q=>∃p vs ds bs,xs=[.ref p]/\(iY K H p vs\/gO K H p vs)/\ao K H ds vs/\bools ds=some bs/\Q (.bl (f bs)) H
theorem oO{P:Program}{w:World}{A:Around}{its:List Value}{bs:List Bool}(hb:BoolsAre its bs):TruthOf P w A (fun i v=>its.toArray[i]? =some v) fun i=>bs.getD i false:=by
 intro i v s Q E hv h
 obtain⟨b,e,rfl⟩:=hb.get (i:=i) (v:=v) (by simpa using hv)
 have h:Q (bs.getD i false) s:=h
 rw[List.getD_eq_getElem?_getD,e]at h
 exact wpAny_truthy_bool h
theorem rB{id:String}{f:List Bool->Bool}{g:Nat->(Nat->Bool)->Bool}(hc:X.calm=true)(hg:∀bs:List Bool,g bs.length (fun i=>bs.getD i false)=f bs)
  (hcall:∀{E:QZq}{s:Shared}{x:Value}{Q:QZq},
   wpAny (model X.prog X.w) X.A.in1 (pyIter x) (fun it s₂=>∃I fp wr n P St tr,it=.ref I/\Walks X.prog X.w X.A.in1 I fp wr n P St/\St 0 s₂.heap/\TruthOf X.prog X.w X.A.in1 P tr/\
    ∀h' tk,(∀b o,b∉wr->s₂.heap.get? b=some o->h'.get? b=some o)->Q (.bool (g n tr)) {s₂ with heap:=h',toks:=tk}) E s->wpAny (model X.prog X.w) X.A (call (.builtin id) [x]) Q E s):
  fJ X (.builtin id) (Yr X.K f):=by
 intro QLz s σ H xs us Q I r h
 obtain⟨a,vs,ds,bs,rfl,hq,l,hb,q⟩:=h
 obtain⟨u,rfl,ru⟩:=Vals.one r
 cases ru
 have hh:X.A.in1.handled=none:=I.ok.hd hc
 refine hcall ?_
 have fin:∀(its:List Value)(o:Obj),Vals vs its->∀h' tk,(∀b o',b∉[s.heap.objs.size]->(s.heap.push o).get? b=some o'->h'.get? b=some o')->EP X QLz σ Q (.bool (g its.toArray.size fun i=>bs.getD i false)) {s with heap:=h',toks:=tk}:=fun its o rv h' tk k=>by
  have hl:its.toArray.size=bs.length:=by
   have:=(fM hb l rv).length
   simpa using this
  rw[hl,hg]
  refine⟨.bl (f bs),H,I.kept fun b o' e=>k b o' ?_ (QWq _ e),rfl,q⟩
  simp only[QDz]
  exact Qvz (Qqz e)
 rcases hq with hq|hq
 ·obtain⟨its,rv,p,hz⟩:=I.list hq
  have hlt:a≠s.heap.objs.size:=by
   obtain⟨o,n,e,_⟩:=p
   exact Qvz (Qqz e)
  refine wpAny_pyIter_list p.isList ⟨s.heap.objs.size,[s.heap.objs.size,a],[s.heap.objs.size],its.toArray.size,_,_,_,rfl,Walks.list hh _ a hlt its.toArray,⟨⟨_,Qzq _ rfl,rfl,rfl⟩,p.isList.at fun o e=>QWq _ e⟩,oO (fM hb l rv),fin its _ rv⟩
 ·obtain⟨its,rv,p,hz⟩:=I.tuple hq
  have hlt:a≠s.heap.objs.size:=by
   obtain⟨o,e,_⟩:=p
   exact Qvz (Qqz e)
  have p':s.heap.IsTuple a its.toArray:=p
  refine wpAny_pyIter_tuple p' ⟨s.heap.objs.size,[s.heap.objs.size,a],[s.heap.objs.size],its.toArray.size,_,_,_,rfl,Walks.tuple hh _ a hlt its.toArray,⟨⟨_,Qzq _ rfl,rfl,rfl⟩,p'.at fun o e=>QWq _ e⟩,oO (fM hb l rv),fin its _ rv⟩
theorem G6(hc:X.calm=true):fJ X (.builtin "all") (Yr X.K (·.all id)):=rB (g:=fun n tr=>(List.range n).all tr) hc range_all call_all_walk
theorem G5(hc:X.calm=true):fJ X (.builtin "any") (Yr X.K (·.any id)):=rB (g:=fun n tr=>(List.range n).any tr) hc range_any call_any_walk
theorem tE{f:List Bool->Bool}(hb:∀xs,MN bb xs=(bools xs).map fun bs=>.val (.bl (f bs)))(h1:∀x,b1 bb x=(bw x).bind (MN bb)):pB X (Yr X.K f) (b1 bb):=by
 intro env σ H x z v Q S Dx e q
 rw[h1]at e
 cases es:bw x with
 |none=>rw[es]at e;cases e
 |some xs=>
  rw[es]at e
  simp only[Option.bind,hb]at e
  cases eb:bools xs with
  |none=>rw[eb]at e;cases e
  |some bs=>
   rw[eb]at e
   cases e
   obtain⟨a,vs,rfl,hq,l⟩:=Dx.seq es
   exact⟨a,vs,xs,bs,rfl,hq,l,eb,q _ H (Nx.refl S) rfl⟩
theorem Ot:pB X (Yr X.K (·.all id)) (b1 .all):=tE (fun _=>rfl) fun _=>rfl
theorem Oq:pB X (Yr X.K (·.any id)) (b1 .any):=tE (fun _=>rfl) fun _=>rfl
end
end Mini
end
section
namespace HT
open PySem PySem.Spec PyProof.Rows
section
variable{prog:Program}{w:World}{A:Around}{E:QZq}{s:Shared}
theorem j9{t sl:Addr}{items:Array Value}{vl vu:Value}{lo hi:Option Int}{Q:QZq}(ht:IsTup s.heap t items)(hs:s.heap.IsSliceOf sl vl vu .none)(pl:IsPart vl lo)(pu:IsPart vu hi)
  (hw:cY items.size 0 lo=0/\cY items.size items.size hi=items.size)(h:Q (.ref t) s):wpAny (model prog w) A (getItem (.ref t) (.ref sl)) Q E s:=by
 obtain⟨os,hos,hcs,hds⟩:=id hs
 have hTs:s.TypeIs (.ref sl) "slice":=⟨os,hos,hcs⟩
 unfold getItem
 try with_reducible refine Qqq ?_
 first|refine QKq (QKz ?_)|skip
 refine QKq (wpAny_sequenceKey ht.typeIs (by decide) ?_)
 refine QKq (wpAny_callSpecial?_slot (name:=Str.ofString "__getitem__") ht.typeIs PyProof.Rows.slot_tuple_getitem
  (Qzz PyProof.Rows.slot_tuple_getitem ht.typeIs entry_tuple_getitem ?_ (args_tuple_getitem _ _)))
 show wpAny _ _ (Builtin.Tuple.tupleItemsOf (.ref t)>>=_) _ _ s
 refine QKq (tupleItemsOf_ ht ?_)
 refine QKq (wpAny_typeOf hTs ?_)
 rw[if_pos (by decide)]
 refine QKq (gQ hs pl pu ?_)
 have hno:((((cY items.size 0 lo:Nat):Int)==0&&(1:Int)==1&&(cY items.size items.size hi-cY items.size 0 lo)==items.size)=true):=by
  rw[hw.1,hw.2];simp
 show wpAny _ _ (if (((cY items.size 0 lo:Nat):Int)==0&&(1:Int)==1&&(cY items.size items.size hi-cY items.size 0 lo)==items.size)=true then _ else _) _ _ s
 rw[if_pos hno]
 refine QKq ?_
 unfold Builtin.Tuple.tupleIsExact
 refine QKq (wpAny_typeOf ht.typeIs (QKz ?_))
 rw[if_pos (by decide)]
 exact QKq (wpAny_rule (QKz ⟨_,rfl,QKz h⟩))
end
end HT
namespace Mini
open PySem L2
variable{H:Hp}{K:QQq}{env:Ev}{v:V}{vs:List V}{x:Str}{σ:St}
section
variable{X:Cx}{W:Wi}{c:Cf}{m m1 m2 m3:E}{a b e:Expr}{pos p p2:Pos}
def RW(K:QQq):V->Option Int->Option Int->Hp->VK->Prop:=fun x lo hi H Q=>∃a xs,x=.ref a/\gO K H a xs/\
 (HT.cY xs.length 0 lo=0/\HT.cY xs.length xs.length hi=xs.length)/\Q (.ref a) H
theorem NQ:Rf X (RW X.K):=by
 intro QLz s σ H x v vl vu lo hi sl Q I rx hs pl pu h
 obtain⟨a,xs,rfl,hx,hw,q⟩:=h
 cases rx
 obtain⟨its,r,ht,hz⟩:=I.tuple hx
 have hlen:its.toArray.size=xs.length:=by rw[Qyq];exact r.length.symm
 exact⟨"tuple",_,PyProof.Rows.slot_tuple_getitem.lookup,ht.typeIs,HT.j9 ht hs pl pu (by rw[hlen];exact hw) ⟨.ref a,H,I,rfl,q⟩⟩
def aaz(K:QQq):V->Option Int->Option Int->Hp->VK->Prop:=fun x lo hi H Q=>aax K x lo hi H Q\/RW K x lo hi H Q\/aay K x lo hi H Q
theorem U6:Rf X (aaz X.K):=U5.or (NQ.or NT)
theorem pK(n:Nat)(i:Int)(d:Nat):clip n i=HT.cY n d (some i):=by
 unfold clip HT.cY
 dsimp only
 by_cases h:i<0
 ·rw[if_pos h,if_pos h]
  split
  ·omega
  ·split<;>omega
 ·rw[if_neg h,if_neg h,if_neg h]
  split<;>omega
theorem Xv{α:Type}(xs:List α)(a b:Nat):(xs.take b).drop a=(xs.drop a).take (b-a):=by
 rw[List.drop_take]
theorem v4{ds:List D}(l:ao K H ds vs)(lo hi:Option Int):ao K H (cut ds lo hi) (q9 vs lo hi):=by
 have hl:=l.length
 unfold cut q9
 dsimp only
 rw[Xv]
 cases lo with
 |none=>
  cases hi with
  |none=>rw[HT.lX,HT.lX,<-hl];exact(l.drop _).take _
  |some j=>rw[HT.lX,<-hl,<-pK];exact(l.drop _).take _
 |some i=>
  cases hi with
  |none=>rw[HT.lX,<-hl,<-pK];exact(l.drop _).take _
  |some j=>rw[<-hl,<-pK,<-pK];exact(l.drop _).take _
theorem GZ{lo hi:Option Int}(h:HT.cY vs.length 0 lo=0/\HT.cY vs.length vs.length hi=vs.length):q9 vs lo hi=vs:=by
 unfold q9
 rw[h.1,h.2]
 simp
theorem zp{d:D}{z:Rv}{lo hi:Option Int}{Q:VK}(S:Sat K env σ H)(D1:bz K H d v)(e:fQ d lo hi=some z)(q:∀w H',Nx K env σ H env H'->gh K σ H H' z w->Q w H'):aaz K v lo hi H Q:=by
 cases d with
 |tup xs=>
  cases e
  obtain⟨a,vs,rfl,hq,l⟩:=cI D1
  by_cases hw:HT.cY vs.length 0 lo=0/\HT.cY vs.length vs.length hi=vs.length
  ·refine .inr (.inl ⟨a,vs,rfl,hq,hw,q _ H (Nx.refl S) ?_⟩)
   have:=v4 l lo hi
   rw[GZ hw]at this
   exact dB hq this
  ·refine .inl ⟨a,vs,rfl,hq,hw,fun p hp=>?_⟩
   have N:=Nx.laid (o:=.tup (q9 vs lo hi)) S hp
   exact q _ _ N (dB (.inl (.inl aP)) ((v4 l lo hi).mono N.pers))
 |lst xs=>
  cases e
  obtain⟨a,vs,rfl,hq,l⟩:=cV D1
  exact .inr (.inr ⟨a,vs,rfl,hq.sq,fun p hp=>q _ _ (Nx.laid S hp) (jW S (v4 l lo hi) hp)⟩)
 |_=>cases e
def GO(X:Cx)(W:Wi)(c:Cf)(m:E)(eo:Option Expr):Prop:=(m=.noneE/\eo=Option.none)\/∃e,eo=Option.some e/\m.f9=false/\GE X W c m e
def tPt(X:Cx)(W:Wi)(c:Cf)(m:E):TO:=fun σ H Q=>∃env,tD X.K W env (ev c m env) σ H fun v H1=>∀d,bz X.K H1 d v->∃o,cM m.f9 d=some o/\Q o H1
theorem GO.po{eo:Option Expr}(h:GO X W c m eo):PO X eo (tPt X W c m):=by
 rcases h with ⟨rfl,rfl⟩|⟨e,rfl,hn,h⟩
 ·intro QLz s σ H Q I q
  obtain⟨env,q⟩:=q
  simp only[v_0,v_1,Zv,v_3,v_4,Zu,v_6,Yg,Zt,Ni,uV,Hs,Hr,El,Nr,Uk,Nq,Hq,Ho,Np,Nm,mX,Nk,Hn,Nj,Hm,lU]at q
  obtain⟨o,e,z⟩:=q.2 .non H (Nx.refl q.1) rfl .non rfl
  cases e
  exact Pb QLz s σ H Q I z
 ·intro QLz s σ H Q I q
  obtain⟨env,q⟩:=q
  refine Pa h.d QLz s σ H Q I ⟨env,q.1,?_⟩
  have q2:=q.2
  have go:∀d v H',bz X.K H' d v->(∀d,bz X.K H' d v->∃o,cM m.f9 d=some o/\Q o H')->∃i,v=.int i/\Q (some i) H':=fun d v H' Dv z=>by
   obtain⟨o,e,z⟩:=z d Dv
   rw[hn]at e
   cases d with
   |int i=>cases e;exact⟨i,Dv,z⟩
   |_=>cases e
  cases r:ev c m env with
  |bad=>rw[r]at q2;exact q2
  |exc k env1=>rw[r]at q2;exact q2
  |ok x env1=>
   rw[r]at q2
   cases x with
   |val d=>exact fun v H' N Dv=>go d v H' Dv (q2 v H' N Dv)
   |new o=>exact fun v H' N Dv=>go o.d v H' Dv (q2 v H' N Dv)
   |ref i=>exact q2
   |tmp o=>exact q2
theorem xM{f9:Bool}{d d':D}{o:Option Int}(h:bz K H d v)(e:cM f9 d=some o)(h':bz K H d' v):cM f9 d'=some o:=by
 cases f9 with
 |true=>exact e
 |false=>
  cases d with
  |int i=>
   have hv:v=.int i:=h
   subst hv
   cases d' with
   |int j=>cases (show V.int i=V.int j from h');exact e
   |non=>cases (show V.int i=V.non from h')
   |bl b=>cases (show V.int i=V.bl b from h')
   |str x=>cases (show V.int i=V.str x from h')
   |tup ds=>obtain⟨a,vs,z,_⟩:=cI h';cases z
   |lst ds=>obtain⟨a,vs,z,_⟩:=cV h';cases z
   |cH ks ds=>unfold bz at h';obtain⟨a,o,kvs,z,_⟩:=h';cases z
   |jf ks ds=>unfold bz at h';obtain⟨a,o,xs,z,_⟩:=h';cases z
  |_=>cases e
theorem W6{lo hi:Option Expr}(ha:GE X W c m1 a)(hl:GO X W c m2 lo)(hh:GO X W c m3 hi):GE X W c (.slc m1 m2 m3) (.Subscript a (.Slice lo hi none p2) pos):=by
 intro env
 refine PE.imp (Jl U6 ha.d hl.po hh.po) fun σ H Q q=>?_
 simp only[Nr]at q
 refine⟨env,aR q fun d env1 v H1 N1 D1 q1=>⟨env1,aR q1 fun dl env2 vl H2 N2 D2 q2 dl' D2'=>?_⟩⟩
 cases el:cM m2.f9 dl with
 |none=>rw[el]at q2;exact q2.2.elim
 |some l=>
  rw[el]at q2
  refine⟨l,xM D2 el D2',env2,aR q2 fun dh env3 vh H3 N3 D3 q3 dh' D3'=>?_⟩
  obtain⟨z,ez,S,q4⟩:=cF q3
  cases eh:cM m3.f9 dh with
  |none=>rw[eh]at ez;cases ez
  |some h=>
   rw[eh]at ez
   exact⟨h,xM D3 eh D3',zp S (D1.mono (N2.trans N3).pers) ez q4⟩
def aco(X:Cx)(x:Str)(d:D):Prop:=∃v u,X.mg x=some u/\RelV v u/\∀H,bz X.K H d v
theorem QB{k:Nat}{d:D}(hk:c.gl k=some d)(h:aco X x d)(hg:Gl X x)(hd:(x==("__debug__":Str))=false):GE X W c (.glob k) (.Name x pos):=by
 obtain⟨v,u,hm,r,hD⟩:=h
 intro env
 refine PE.imp (Pn hg hm r hd) fun σ H Q q=>?_
 simp only[Zv,hk]at q
 exact dI q (hD H)
end
theorem gU{a:Addr}{u u':HO}(h:H a=some u)(hu:M5 u):bK H (upd H a u'):=by
 refine⟨fun b xs q=>?_,fun b o' w q=>?_⟩
 ·rw[aB (fun z=>by subst z;rw[h]at q;cases q;exact hu.tup xs rfl)];exact q
 ·rw[aB (fun z=>by subst z;rw[h]at q;cases q;exact hu.frz o' w rfl)];exact q
variable{env':Ev}
theorem pP{k:Nat}{f:Ob->Option Ob}(h:cP k f env=some env'):∃o o',f o=some o'/\((env[k]? =some (.own o)/\env'=env.set k (.own o'))\/(env[k]? =some (.bor o)/\env'=env.set k (.bor o'))):=by
 unfold cP at h
 cases e:env[k]? with
 |none=>rw[e]at h;cases h
 |some s=>
  rw[e]at h
  cases s with
  |un=>cases h
  |val d=>cases h
  |own o=>
   cases e2:f o with
   |none=>simp only[e2]at h;cases h
   |some o'=>simp only[e2]at h;cases h;exact⟨o,o',e2,.inl ⟨rfl,rfl⟩⟩
  |bor o=>
   cases e2:f o with
   |none=>simp only[e2]at h;cases h
   |some o'=>simp only[e2]at h;cases h;exact⟨o,o',e2,.inr ⟨rfl,rfl⟩⟩
variable{o':Ob}
theorem Nx.turn{k:Nat}{sl sl':Sl}{o:Ob}{a:Addr}{u u':HO}(S:Sat K env σ H)(hs:(sl=.own o/\sl'=.own o')\/(sl=.bor o/\sl'=.bor o'))(e:env[k]? =some sl)(es:σ[k]? =some (some (.ref a)))
  (ha:H a=some u)(hu:M5 u)(hd:Hc K H o' u'):Nx K env σ H (env.set k sl') (upd H a u'):=by
 have p:=gU (u':=u') ha hu
 have ow:isOwn sl=some o/\isOwn sl'=some o':=by rcases hs with ⟨rfl,rfl⟩|⟨rfl,rfl⟩<;>exact⟨rfl,rfl⟩
 have oa:aJ env σ k a:=⟨⟨_,o,e,ow.1⟩,es⟩
 have hi:k<env.length:=(QCz.mp e).1
 have sub:∀j b,aJ (env.set k sl') σ j b->aJ env σ j b:=fun j b z=>by
  obtain⟨⟨s,ys,e1,e2⟩,e3⟩:=z
  by_cases hj:k=j
  ·subst hj;exact⟨⟨sl,o,e,ow.1⟩,e3⟩
  ·rw[Qxz hj]at e1;exact⟨⟨s,ys,e1,e2⟩,e3⟩
 refine⟨⟨by simpa using S.len,fun j s ej=>?_,fun j l b z w=>S.ne j l b (sub j b z) (sub l b w)⟩,sub,p,fun b w q n=>?_,fun b q=>?_,fun j ys ej=>?_⟩
 ·by_cases hj:k=j
  ·subst hj
   rw[Qwq hi]at ej
   cases ej
   have at_:jk K (upd H a u') o' a:=⟨u',aP,hd.mono p⟩
   rcases hs with ⟨_,rfl⟩|⟨_,rfl⟩
   ·exact⟨a,by rw[es];rfl,at_⟩
   ·exact⟨a,by rw[es];rfl,at_⟩
  ·rw[Qxz hj]at ej
   refine(S.sl j s ej).keep p fun b w ho ev hb=>?_
   have nb:b≠a:=fun z=>by
    subst z
    exact hj (S.ne k j b oa (vq ej ho ev))
   rw[aB nb];exact hb
 ·rw[aB (fun z=>by subst z;exact n k oa)];exact q
 ·by_cases hb:b=a
  ·subst hb;rw[aP]at q;cases q
  ·rw[aB hb]at q;exact q
 ·by_cases hj:k=j
  ·subst hj
   rw[e]at ej
   cases ej
   rcases hs with ⟨z,_⟩|⟨_,rfl⟩
   ·cases z
   ·exact⟨o',by rw[Qwq hi]⟩
  ·exact⟨ys,by rw[Qxz hj];exact ej⟩
theorem uX{k:Nat}{f:Ob->Option Ob}(S:Sat K env σ H)(h:cP k f env=some env'):
  ∃o o' a u,f o=some o'/\σ[k]? =some (some (.ref a))/\H a=some u/\Hc K H o u/\aN k env=some o.d/\∀u',Hc K H o' u'->Nx K env σ H env' (upd H a u'):=by
 obtain⟨o,o',ef,hh⟩:=pP h
 rcases hh with ⟨e,rfl⟩|⟨e,rfl⟩
 ·obtain⟨a,e1,u,e2,e3⟩:=S.sl k _ e
  exact⟨o,o',a,u,ef,bO e1,e2,e3,by unfold aN;rw[e],fun u' hd=>Nx.turn S (.inl ⟨rfl,rfl⟩) e (bO e1) e2 e3.uc hd⟩
 ·obtain⟨a,e1,u,e2,e3⟩:=S.sl k _ e
  exact⟨o,o',a,u,ef,bO e1,e2,e3,by unfold aN;rw[e],fun u' hd=>Nx.turn S (.inr ⟨rfl,rfl⟩) e (bO e1) e2 e3.uc hd⟩
theorem Jv{f:List D->Option (List D)}{o:Ob}(h:vz f o=some o'):∃xs ys,o=.lst xs/\f xs=some ys/\o'=.lst ys:=by
 cases o with
 |lst xs=>
  simp only[vz]at h
  cases e:f xs with
  |none=>rw[e]at h;cases h
  |some ys=>rw[e]at h;cases h;exact⟨xs,ys,rfl,e,rfl⟩
 |dct ks vs=>cases h
 |sdt ks vs=>cases h
theorem wJ{k:Nat}{f:List D->Option (List D)}(S:Sat K env σ H)(h:cP k (vz f) env=some env'):
  ∃xs ys a vs,f xs=some ys/\σ[k]? =some (some (.ref a))/\H a=some (.lst vs)/\ao K H xs vs/\aN k env=some (.lst xs)/\∀ws,ao K H ys ws->Nx K env σ H env' (upd H a (.lst ws)):=by
 obtain⟨o,o',a,u,ef,es,ha,hd,lk,N⟩:=uX S h
 obtain⟨xs,ys,rfl,e,rfl⟩:=Jv ef
 obtain⟨vs,rfl,l⟩:=hd
 exact⟨xs,ys,a,vs,e,es,ha,l,lk,fun ws hw=>N _ ⟨ws,rfl,hw⟩⟩
theorem cQ.lst{K:QQq}{H:Hp}{xs:List D}{v:V}(h:cQ K H (.lst xs) v):∃a vs,v=.ref a/\iY K H a vs/\ao K H xs vs:=by
 rcases h with h|⟨o,a,q,rfl,u,ha,hq⟩
 ·obtain⟨a,vs,rfl,hq,l⟩:=cV h
  exact⟨a,vs,rfl,hq.sq,l⟩
 ·cases o<;>cases q
  obtain⟨vs,rfl,l⟩:=hq
  exact⟨a,vs,rfl,.inl (.inl ha),l⟩
structure yR(X:Cx)(o:Expr)(name:Str)(apos:Pos)(e:Expr)(cpos:Pos):Prop where
 base:attributeBase o name X.env (eval o X.env)=eval o X.env
 line:(apos.endLine==cpos.line)=true
 star:starEach [e] X.env=[(false,eval e X.env)]
variable{i:Int}{j:Nat}
section
variable{X:Cx}{W:Wi}{c:Cf}{m m1 m2 m3:E}{o a b e:Expr}{pos p p2 apos cpos:Pos}{name:Str}
theorem yR.few(h:yR X o name apos e cpos):((backTo cpos (starEach [e] X.env)).all (fun x=> !x.1)&&(backToKw cpos (keywordEach [] X.env)).all (fun x=>x.1.isSome)
   &&decide ([e].length+([]:List Keyword).length+(if ([]:List Keyword).isEmpty then 0 else 1)<30))=true:=by
 rw[h.star];rfl
theorem R9{id:String}{r:V->List V->Hp->VK->Prop}{to:TE}{te:TE}(M:yR X o name apos e cpos)(slot:Slot "list" name id)(hty:typeOf (.builtin id)=pure (.type "method_descriptor"))(hm:MtR X id r)(ho:PE X o to)(he:PE X e te):
  PE X (.Call (.Attribute o name apos) [e] [] cpos) (tBM X.K "list" r to (HN te ZV)):=
 aaM PySem.F.plainAttrs_list slot hty hm ho (cG he eF M.star) M.base M.few M.line M.star rfl
theorem countV{p:D}{x:V}(Dp:bz K H p x)(fp:flat p=true):∀{ds:List D}{vs:List V}{us:List Value},ao K H ds vs->Vals vs us->ds.all flat=true->vs.all gq=true/\us.countP (wC x)=eO p ds:=by
 intro ds
 induction ds with
 |nil=>intro vs us l r _;rw[ao.bC.mp l]at r⊢;cases r;exact⟨rfl,rfl⟩
 |cons d ds ih=>
  intro vs us l r f
  obtain⟨v,vs',rfl,hd,l'⟩:=ao.aH.mp l
  rw[List.all_cons,QUq]at f
  cases r with
  |cons r1 r2=>
   obtain⟨i1,i2⟩:=ih l' r2 f.2
   obtain⟨j1,j2⟩:=vL Dp fp (ao.cN hd ao.dY) (by simp[f.1])
   simp only[List.all_cons,List.all_nil,Bool.and_true]at j1
   have j3:K6 v x=bV d p:=by simpa[inV,aK]using j2
   refine⟨by rw[List.all_cons,j1,i1];rfl,?_⟩
   rw[List.countP_cons,i2,Ak r1 j1,j3,eO]
   split<;>omega
def O1(K:QQq):V->List V->Hp->VK->Prop:=fun x ys H Q=>∃a vs ds d y,x=.ref a/\ys=[y]/\(iY K H a vs\/gO K H a vs)/\ao K H ds vs/\bz K H d y/\flat d=true/\ds.all flat=true/\Q (.int (eO d ds)) H
theorem K3{d:D}(h:bz K H d v)(f:flat d=true):gq v=true:=by
 cases d with
 |non=>cases h;rfl
 |bl b=>cases h;rfl
 |int i=>cases h;rfl
 |str x=>cases h;rfl
 |_=>cases f
theorem Gg:MtR X "list.count" (fun x ys H Q=>(∃a vs,x=.ref a/\iY X.K H a vs)/\O1 X.K x ys H Q):=by
 intro QLz s σ H x ys v us Q I rx ry h
 obtain⟨⟨a,vs,rfl,hq⟩,a',vs',ds,d,y,e1,rfl,hq',l,hd,f1,f2,q⟩:=h
 cases e1
 cases rx
 obtain⟨u,rfl,ru⟩:=Vals.one ry
 have hv:vs'=vs:=by
  rcases hq' with z|z
  ·exact I.xY z hq
  ·obtain⟨_,_,⟨o,e,c,_⟩,_⟩:=I.tuple z
   obtain⟨_,_,⟨o',_,e',c',_⟩,_⟩:=I.list hq
   rw[e]at e';cases e';rw[c]at c';injection c' with z;exact absurd z (by decide)
 subst hv
 obtain⟨its,r,pl,hz⟩:=I.list hq
 obtain⟨⟨cls,dd,data,sl⟩,n,ho,hc,hdd,hdt⟩:=id pl
 simp only at hc hdt
 subst hc hdt
 obtain⟨g1,g2⟩:=countV hd f1 l r f2
 refine call_meets PySem.F.slot_list_count ⟨_,ho,rfl⟩ PySem.F.entry_list_count (PySem.F.args_list_count_2 _ _) (SeqAt.list_countAt a its.toArray n dd sl u (wC y)) ⟨ho,fun w hw=>fX ru (K3 hd f1) r g1 w (by simpa using hw),?_⟩
 refine⟨.int (eO d ds),H,I.tok _,⟨s.toks,?_⟩,q⟩
 rw[show its.toArray.toList=its from rfl,g2]
theorem Gf:MtR X "tuple.count" (fun x ys H Q=>(∃a vs,x=.ref a/\gO X.K H a vs)/\O1 X.K x ys H Q):=by
 intro QLz s σ H x ys v us Q I rx ry h
 obtain⟨⟨a,vs,rfl,hq⟩,a',vs',ds,d,y,e1,rfl,hq',l,hd,f1,f2,q⟩:=h
 cases e1
 cases rx
 obtain⟨u,rfl,ru⟩:=Vals.one ry
 have hv:vs'=vs:=by
  rcases hq' with z|z
  ·obtain⟨_,_,⟨o,e,c,_⟩,_⟩:=I.tuple hq
   obtain⟨_,_,⟨o',_,e',c',_⟩,_⟩:=I.list z
   rw[e]at e';cases e';rw[c]at c';injection c' with z;exact absurd z (by decide)
  ·exact I.sS z hq
 subst hv
 obtain⟨its,r,pl,hz⟩:=I.tuple hq
 obtain⟨⟨cls,dd,data,sl⟩,ho,hc,n,hdt⟩:=id pl
 simp only at hc hdt
 subst hc hdt
 obtain⟨g1,g2⟩:=countV hd f1 l r f2
 refine call_meets PySem.F.slot_tuple_count ⟨_,ho,rfl⟩ PySem.F.entry_tuple_count (PySem.F.args_tuple_count_2 _ _) (SeqAt.tuple_countAt a its.toArray n dd sl u (wC y)) ⟨ho,fun w hw=>fX ru (K3 hd f1) r g1 w (by simpa using hw),?_⟩
 refine⟨.int (eO d ds),H,I.tok _,⟨s.toks,?_⟩,q⟩
 rw[show its.toArray.toList=its from rfl,g2]
def ad9(K:QQq)(to te:TE):TE:=fun σ H Q=>to σ H fun x H1=>∃a vs,x=.ref a/\((iY K H1 a vs/\te σ H1 fun y H2=>(∃a vs,x=.ref a/\iY K H2 a vs)/\O1 K x [y] H2 Q)\/(gO K H1 a vs/\te σ H1 fun y H2=>(∃a vs,x=.ref a/\gO K H2 a vs)/\O1 K x [y] H2 Q))
theorem Vz{to te:TE}(M:yR X o "count" apos e cpos)(ho:PE X o to)(he:PE X e te):PE X (.Call (.Attribute o "count" apos) [e] [] cpos) (ad9 X.K to te):=by
 intro QLz s σ H Q I h
 refine wpAny_Call_method_late M.base M.few M.line rfl (bW (ho QLz s σ H _ I h) fun v s1⟨x,H1,I1,r1,a,vs,ex,q1⟩=>?_)
 subst ex
 cases r1
 have arg:∀{id:String}{r:V->List V->Hp->VK->Prop},MtR X id r->(te σ H1 fun y H2=>r (.ref a) [y] H2 Q)->wpAny (model X.prog X.w) X.A (callWith cpos (.builtin id) [.ref a] (backTo cpos (starEach [e] X.env)) (backToKw cpos (keywordEach [] X.env))) (EP X QLz σ Q) X.xe s1:=fun{id r}hm z=>by
  have hA:=cG (X:=X) he eF M.star cpos QLz s1 σ H1 (fun vs H2=>r (.ref a) vs H2 Q) I1 z
  rw[M.star]at hA⊢
  exact Calls.callWith_builtin rfl (Calls.evalArgs_plain (bW hA fun us s2⟨vs,H2,I2,r2,q2⟩=>hm QLz s2 σ H2 (.ref a) vs (.ref a) us Q I2 rfl r2 q2))
 rcases q1 with ⟨hq,z⟩|⟨hq,z⟩
 ·obtain⟨its,r,pl,hz⟩:=I1.list hq
  refine⟨"list","list.count",PySem.F.plainAttrs_list,PySem.F.slot_list_count,PySem.F.type_list_count,pl.isList.typeIs,fun b eb=>?_,arg Gg z⟩
  cases eb
  obtain⟨o,n,e,c,hd,_⟩:=pl
  exact⟨o,e,hd⟩
 ·obtain⟨its,r,⟨o,eo,ec,hd,n,dt⟩,hz⟩:=I1.zc hq
  refine⟨"tuple","tuple.count",PySem.F.plainAttrs_tuple,PySem.F.slot_tuple_count,PySem.F.type_tuple_count,⟨o,eo,ec⟩,fun b eb=>?_,arg Gf z⟩
  cases eb
  exact⟨o,eo,hd⟩
theorem KR(M:yR X o "count" apos e cpos)(ho:GE X W c m1 o)(he:GE X W c m2 e):GE X W c (.count m1 m2) (.Call (.Attribute o "count" apos) [e] [] cpos):=by
 intro env
 refine PE.imp (Vz M ho.d he.d) fun σ H Q q=>?_
 simp only[Nj]at q
 refine⟨env,aR q fun d env1 v H1 N1 D1 q1=>?_⟩
 cases d with
 |tup xs=>
  simp only[bw,Option.isNone_some,Qxq,if_false]at q1
  obtain⟨a,vs,rfl,hq,l⟩:=cI D1
  refine⟨a,vs,rfl,.inr ⟨hq,env1,aR q1 fun d2 env2 y H2 N2 D2 q2=>?_⟩⟩
  obtain⟨z,ez,S,q3⟩:=cF q2
  simp only[v7]at ez
  split at ez
  ·rename_i hf
   cases ez
   rw[QUq]at hf
   exact⟨⟨a,vs,rfl,N2.pers.Et hq⟩,a,vs,xs,d2,y,rfl,rfl,.inr (N2.pers.Et hq),l.mono N2.pers,D2,hf.1,hf.2,q3 _ H2 (Nx.refl S) rfl⟩
  ·cases ez
 |lst xs=>
  simp only[bw,Option.isNone_some,Qxq,if_false]at q1
  obtain⟨a,vs,rfl,hq,l⟩:=cV D1
  refine⟨a,vs,rfl,.inl ⟨hq.sq,env1,aR q1 fun d2 env2 y H2 N2 D2 q2=>?_⟩⟩
  obtain⟨z,ez,S,q3⟩:=cF q2
  simp only[v7]at ez
  split at ez
  ·rename_i hf
   cases ez
   rw[QUq]at hf
   exact⟨⟨a,vs,rfl,(N2.pers.QJ hq).sq⟩,a,vs,xs,d2,y,rfl,rfl,.inl (N2.pers.QJ hq).sq,l.mono N2.pers,D2,hf.1,hf.2,q3 _ H2 (Nx.refl S) rfl⟩
  ·cases ez
 |_=>exact q1.2.elim
theorem J5{n:Nat}(h:ix? n i=some j)(hn:n<=sizeLine): -(2 ^63)<=i/\i<2 ^63/\seqIndex? i n=some j/\j<n:=by
 have hl:sizeLine=16777216:=sizeLine_eq
 unfold ix? at h
 by_cases h0:i<0
 ·simp only[h0,if_true]at h
  by_cases hj:0<=i+(n:Int)/\i+(n:Int)<n
  ·rw[if_pos hj]at h
   have e:(i+(n:Int)).toNat=j:=QEq h
   exact⟨by omega,by omega,by rw[seqIndex_neg (by omega) (by omega),e],by omega⟩
  ·rw[if_neg hj]at h;cases h
 ·simp only[h0,if_false]at h
  by_cases hj:0<=i/\i< (n:Int)
  ·rw[if_pos hj]at h
   have e:i.toNat=j:=QEq h
   exact⟨by omega,by omega,by rw[seqIndex_of (by omega) (by omega),e],by omega⟩
  ·rw[if_neg hj]at h;cases h
theorem qN{d:Option D}(h:dO d=true):∃xs,d=some (.lst xs):=by
 cases d with
 |none=>cases h
 |some d=>cases d with
  |lst xs=>exact⟨xs,rfl⟩
  |_=>cases h
theorem JV(k k':Key):bV (bU k') (bU k)=decide (k'=k):=by
 cases k'<;>cases k<;>simp[bU,bV,Bool.beq_eq_decide_eq]
theorem uH{K:QQq}{H:Hp}(k:Key):∀{kvs:List (Key×V)}{ds:List D},ao K H ds (kvs.map (·.2))->
  (jd (bU k) (kvs.map fun p=>bU p.1) ds).1=(gw kvs k).map (fun p=>bU p.1)/\ao K H (jd (bU k) (kvs.map fun p=>bU p.1) ds).2 ((gw kvs k).map (·.2))
 |[],ds,l=>by
  have:ds=[]:=by have:=l.length;cases ds<;>simp_all
  subst this
  exact⟨rfl,ao.dY⟩
 |p::kvs,ds,l=>by
  obtain⟨d,ds',rfl,h1,h2⟩:∃d ds',ds=d::ds'/\bz K H d p.2/\ao K H ds' (kvs.map (·.2)):=by
   cases ds with
   |nil=>have:=l.length;simp at this
   |cons d ds'=>
    obtain⟨v,w,e,h1,h2⟩:=ao.aH.mp l
    cases e
    exact⟨d,ds',rfl,h1,h2⟩
  obtain⟨g1,g2⟩:=uH k h2
  simp only[Qyz,jd,JV]
  by_cases q:p.1=k
  ·rw[show gw (p::kvs) k=gw kvs k by simp[gw,List.filter_cons,q]]
   simp only[q,decide_true,if_true]
   exact⟨g1,g2⟩
  ·rw[show gw (p::kvs) k=p::gw kvs k by simp[gw,List.filter_cons,q]]
   simp only[q,decide_false,Qxq,if_false,Qyz]
   exact⟨by rw[g1],ao.cN h1 g2⟩
theorem Qz{k:Nat}(M:yR X (.Name x p) "pop" apos e cpos)(nm:gZ X k x)(he:GE X W c m e)(hd:fG (aN k env)=true):PE X (.Call (.Attribute (.Name x p) "pop" apos) [e] [] cpos) (fun σ H Q=>tM X.K W env ((ev c m env).ak fun y σ=>xK k y σ) σ H Q):=by
 refine PE.imp (Jp nm.pe he.d ⟨M.base,M.few,M.line,by rw[M.star];rfl⟩) fun σ H Q q=>?_
 cases e0:aN k env with
 |none=>rw[e0]at hd;cases hd
 |some d0=>
  rw[e0]at hd
  obtain⟨u,eu,D0⟩:=dj q.1 e0
  cases d0 with
  |cH ks0 ds0=>
   obtain⟨a,kvs0,rfl,ha0,_,_⟩:=j6 D0
   refine⟨.ref a,eu,a,rfl,.inl ⟨kvs0,ha0⟩,env,aR q fun d env1 y H1 N1 D1 q1=>?_⟩
   unfold xK at q1
   cases e1:(aN k env1).bind fun z=>getD z d with
   |none=>rw[e1]at q1;exact q1.2.elim
   |some w=>
    cases e4:cP k (Dz d) env1 with
    |none=>rw[e1,e4]at q1;exact q1.2.elim
    |some env2=>
     rw[e1,e4]at q1
     obtain⟨o,o',a',u',ef,es,hA,hO,lk,N⟩:=uX q1.1 e4
     rw[eu]at es
     cases es
     cases o with
     |dct ks ds=>
      obtain⟨kvs,rfl,rfl,l⟩:=hO
      simp only[Dz]at ef
      split at ef
      ·rename_i hk
       cases ef
       obtain⟨kk,rfl⟩:=eN hk
       have ek:=iI D1
       subst ek
       rw[lk]at e1
       have e1':bT (bU kk) (kvs.map fun p=>bU p.1) ds=some w:=by
        have:(if keyOk (bU kk)=true then bT (bU kk) (kvs.map fun p=>bU p.1) ds else none)=some w:=by
         revert e1
         cases kk<;>exact fun z=>z
        rw[if_pos hk]at this
        exact this
       obtain⟨z,ez,dz⟩:=jY kk e1' l
       obtain⟨g1,g2⟩:=uH kk l
       exact⟨kvs,kk,z,hA,rfl,ez,q1.2 z _ (N _ ⟨_,rfl,g1,g2⟩) (dz.mono (N _ ⟨_,rfl,g1,g2⟩).pers)⟩
      ·cases ef
     |_=>cases ef
  |_=>cases hd
theorem KQ{k:Nat}(M:yR X (.Name x p) "pop" apos e cpos)(nm:gZ X k x)(he:GE X W c m e):GE X W c (.popAt k m) (.Call (.Attribute (.Name x p) "pop" apos) [e] [] cpos):=by
 intro env QLz s σ H Q I q
 cases hd:fG (aN k env)with
 |true=>
  simp only[Hm,hd,if_true]at q
  exact Qz M nm he hd QLz s σ H Q I q
 |false=>
 refine PE.imp (R9 M PySem.F.slot_list_pop PySem.F.type_list_pop JK nm.pe he.d) (t':=fun σ' H' Q'=>σ'=σ/\H'=H/\Q'=Q) (fun σ' H' Q'⟨e1,e2,e3⟩=>?_) QLz s σ H Q I ⟨rfl,rfl,rfl⟩
 subst e1 e2 e3
 simp only[Hm,hd,Qxq,if_false]at q
 cases hl:dO (aN k env)with
 |false=>rw[hl]at q;exact q.2.elim
 |true=>
  rw[hl]at q
  simp only[Bool.not_true,Qxq,if_false]at q
  obtain⟨xs0,e0⟩:=qN hl
  obtain⟨u,eu,Du⟩:=dj q.1 e0
  obtain⟨a0,vs0,rfl,hq0,l0⟩:=Du.lst
  refine⟨.ref a0,eu,.inl ⟨rfl,vs0,hq0⟩,env,aR q fun d env1 y H1 N1 D1 q1=>?_⟩
  unfold oW at q1
  cases d with
  |int i=>
   cases e1:aN k env1 with
   |none=>rw[e1]at q1;exact q1.2.elim
   |some d1=>
    rw[e1]at q1
    cases d1 with
    |lst xs=>
     simp only at q1
     cases hz:fits xs.length with
     |false=>rw[hz]at q1;exact q1.2.elim
     |true=>
     rw[hz]at q1
     simp only[Bool.not_true,Qxq,if_false]at q1
     cases e2:ix? xs.length i with
     |none=>rw[e2]at q1;exact q1.2.elim
     |some j=>
      rw[e2]at q1
      simp only at q1
      cases e3:xs[j]? with
      |none=>rw[e3]at q1;exact q1.2.elim
      |some dd=>
       cases e4:cP k (vz fun xs=>some (xs.eraseIdx j)) env1 with
       |none=>rw[e3,e4]at q1;exact q1.2.elim
       |some env2=>
        rw[e3,e4]at q1
        obtain⟨zs,ys,a,vs,ef,es,ha,l,lk,N⟩:=wJ q1.1 e4
        rw[e1]at lk
        cases lk
        cases ef
        rw[eu]at es
        cases es
        have D1':y=.int i:=D1
        subst D1'
        obtain⟨w,ew,dw⟩:=l.get e3
        obtain⟨b1,b2,b3,b4⟩:=J5 e2 (dR hz)
        refine⟨a0,vs,i,j,w,rfl,rfl,ha,b1,b2,by rw[<-l.length];exact b3,ew,?_⟩
        exact q1.2 w _ (N _ (l.eraseIdx j)) (dw.mono (N _ (l.eraseIdx j)).pers)
    |_=>exact q1.2.elim
  |_=>exact q1.2.elim
theorem GC{k:Nat}(M:yR X (.Name x p) "append" apos e cpos)(nm:gZ X k x)(he:GE X W c m e):GS X W c (.append k m) (.Expr (.Call (.Attribute (.Name x p) "append" apos) [e] [] cpos) pos):=by
 intro env
 refine PS.imp (Cd (R9 M PySem.F.slot_list_append PySem.F.type_list_append ug nm.pe he.d) rfl) fun D σ H q=>?_
 simp only[x_9]at q
 cases hl:dO (aN k env)with
 |false=>rw[hl]at q;exact q.2.elim
 |true=>
  rw[hl]at q
  simp only[Bool.not_true,Qxq,if_false]at q
  obtain⟨xs0,e0⟩:=qN hl
  obtain⟨u,eu,Du⟩:=dj q.1 e0
  obtain⟨a0,vs0,rfl,hq0,l0⟩:=Du.lst
  refine⟨.ref a0,eu,.inl ⟨rfl,vs0,hq0⟩,env,pW q fun d env1 y H1 N1 D1 q1=>?_⟩
  cases e4:cP k (vz fun xs=>if fits (xs.length+1)then some (xs++[d])else none) env1 with
  |none=>rw[e4]at q1;exact q1.2.elim
  |some env2=>
   rw[e4]at q1
   obtain⟨zs,ys,a,vs,ef,es,ha,l,lk,N⟩:=wJ q1.1 e4
   rw[eu]at es
   cases es
   split at ef
   ·rename_i hf
    cases ef
    have l2:=l.append (ao.cN D1 ao.dY)
    have:=dR hf
    refine⟨a0,vs,y,rfl,rfl,ha,by rw[<-l.length];omega,q1.2 _ _ (N _ l2).z⟩
   ·cases ef
def R3:V->V->V->Hp->(Hp->Prop)->Prop:=fun o i v H Q=>∃a H',o=.ref a/\Bq H a i v H'/\Q H'
theorem N7(hu:X.A.units+1<cLine):Mx X R3:=by
 intro QLz s σ H o i v ov iv u Q I ro ri rv h
 obtain⟨a,H',rfl,g,q⟩:=h
 cases ro
 exact GR hu I g ri rv fun s4 I4=>⟨H',I4,q⟩
def RX(K:QQq):V->V->V->Hp->(Hp->Prop)->Prop:=fun o i v H Q=>∃d a k xs,o=.ref d/\i=.ref a/\H d=some (.dS xs)/\(∀x∈xs,cB K H x.1 x.2.1)/\cB K H k a/\xs.length<sizeLine/\Q (upd H d (.dS (rT k a v xs)))
theorem U7(hu:X.A.units+2<cLine):Mx X (RX X.K):=by
 intro QLz s σ H o i v ov iv u Q I ro ri rv h
 obtain⟨d,a,k,xs,rfl,rfl,hd,hk,ka,hl,q⟩:=h
 cases ro
 cases ri
 exact Fd hu I hd hk ka hl rv fun s4 I4=>⟨_,I4,q⟩
def aaA(K:QQq):V->V->V->Hp->(Hp->Prop)->Prop:=fun o i v H Q=>RZ o i v H Q\/R3 o i v H Q\/RX K o i v H Q
theorem N8(hu:X.A.units+2<cLine):Mx X (aaA X.K):=by
 intro QLz s σ H o i v ov iv u Q I ro ri rv h
 rcases h with h|h|h
 ·exact set_list QLz s σ H o i v ov iv u Q I ro ri rv h
 ·exact N7 (by omega) QLz s σ H o i v ov iv u Q I ro ri rv h
 ·exact U7 hu QLz s σ H o i v ov iv u Q I ro ri rv h
theorem Wv{n:Nat}(h:ix? n i=some j):Qo n i=some j:=by
 unfold ix? at h
 unfold Qo
 by_cases h0:i<0
 ·simp only[h0,if_true]at h
  rw[if_neg (by omega)]
  by_cases hj:0<=i+(n:Int)/\i+(n:Int)<n
  ·rw[if_pos hj]at h;rw[if_pos (by omega)];exact h
  ·rw[if_neg hj]at h;cases h
 ·simp only[h0,if_false]at h
  rw[if_pos (by omega)]
  by_cases hj:0<=i/\i< (n:Int)
  ·rw[if_pos hj]at h;rw[if_pos hj.2];exact h
  ·rw[if_neg hj]at h;cases h
theorem xf{K:QQq}{H:Hp}{k:Key}{d:D}{v:V}(hv:bz K H d v):∀{kvs:List (Key×V)}{ds:List D},ao K H ds (kvs.map (·.2))->
  ao K H (tR (bU k) d (kvs.map fun p=>bU p.1) ds) ((kvs.map fun kv=>if kv.1=k then(kv.1,v)else kv).map (·.2))
 |[],ds,l=>by
  rw[List.map_nil]at l
  have:ds=[]:=by have:=l.length;cases ds<;>simp_all
  subst this
  exact ao.dY
 |(k',u)::r,ds,l=>by
  rw[Qyz]at l
  cases ds with
  |nil=>have:=l.length;simp at this
  |cons x ds=>
   obtain⟨w,ws,e,h1,h2⟩:=ao.aH.mp l
   cases e
   have ih:=xf (k:=k) hv h2
   simp only[Qyz,tR,JV]
   by_cases q:k'=k
   ·simp only[q,decide_true,if_true]
    exact ao.cN hv ih
   ·simp only[q,decide_false,Qxq,if_false]
    exact ao.cN h1 ih
theorem tQ{k:Key}{v:V}:∀(kvs:List (Key×V)),(kvs.map fun kv=>if kv.1=k then(kv.1,v)else kv).map (fun p=>bU p.1)=kvs.map fun p=>bU p.1
 |[]=>rfl
 |(k',u)::r=>by
  simp only[Qyz,tQ r]
  split<;>rfl
theorem Ca{k:Key}{d:D}(hv:bz K H d v){kvs:List (Key×V)}{ds:List D}(l:ao K H ds (kvs.map (·.2))):
  (putD (bU k) d (kvs.map fun p=>bU p.1) ds).1=(putK kvs k v).map (fun p=>bU p.1)/\ao K H (putD (bU k) d (kvs.map fun p=>bU p.1) ds).2 ((putK kvs k v).map (·.2)):=by
 unfold putD putK
 rw[<-jR,<-pM]
 split
 ·rename_i h
  exact⟨(tQ kvs).symm,xf hv l⟩
 ·refine⟨by simp,?_⟩
  rw[List.map_append]
  exact l.append (ao.cN hv ao.dY)
theorem RT{K:QQq}{H:Hp}{k:SK}{d:D}{v:V}(hv:bz K H d v):∀{xs:List SV}{ds:List D},ao K H ds (xs.map (·.2.2))->
  ao K H (tR (dX k) d (xs.map fun x=>dX x.1) ds) ((xs.map fun x=>if x.1=k then(x.1,x.2.1,v)else x).map (·.2.2))
 |[],ds,l=>by
  have:ds=[]:=by have:=l.length;cases ds<;>simp_all
  subst this
  exact ao.dY
 |x::r,ds,l=>by
  rw[Qyz]at l
  cases ds with
  |nil=>have:=l.length;simp at this
  |cons z ds=>
   obtain⟨w,ws,e,h1,h2⟩:=ao.aH.mp l
   cases e
   have ih:=RT (k:=k) hv h2
   simp only[Qyz,tR,Aj]
   by_cases q:x.1=k
   ·simp only[q,decide_true,if_true]
    exact ao.cN hv ih
   ·simp only[q,decide_false,Qxq,if_false]
    exact ao.cN h1 ih
theorem qp{k:SK}{v:V}:∀xs:List SV,(xs.map fun x=>if x.1=k then(x.1,x.2.1,v)else x).map (fun x=>dX x.1)=xs.map fun x=>dX x.1
 |[]=>rfl
 |x::r=>by
  simp only[Qyz,qp r]
  split<;>rfl
theorem Vn{k:SK}{a:Addr}{d:D}(hv:bz K H d v)(ka:cB K H k a){xs:List SV}{ds:List D}(hk:∀x∈xs,cB K H x.1 x.2.1)(l:ao K H ds (xs.map (·.2.2))):
  (putD (dX k) d (xs.map fun x=>dX x.1) ds).1=(rT k a v xs).map (fun x=>dX x.1)/\(∀x∈rT k a v xs,cB K H x.1 x.2.1)/\ao K H (putD (dX k) d (xs.map fun x=>dX x.1) ds).2 ((rT k a v xs).map (·.2.2)):=by
 unfold putD rT
 rw[Di]
 split
 ·refine⟨(qp xs).symm,fun x hx=>?_,RT hv l⟩
  obtain⟨y,hy,rfl⟩:=QDq.mp hx
  split
  ·exact hk y hy
  ·exact hk y hy
 ·refine⟨by simp,fun x hx=>?_,?_⟩
  ·rcases QXz.mp hx with z|z
   ·exact hk x z
   ·rw[QDz.mp z];exact ka
  ·rw[List.map_append]
   exact l.append (ao.cN hv ao.dY)
theorem KD{k:Nat}{ix:E}{ixe:Expr}{tp:Pos}(nm:gZ X k x)(he:GE X W c m e)(hi:GE X W c ix ixe)
  (ha:∀v,assign (.Subscript (.Name x p) ixe tp) X.env v=(do
   let ov<-holding [v] (eval (.Name x p) X.env)
   let iv<-holding [v,ov] (eval ixe X.env)
   standAt tp
   holding [v,ov,iv] (setItem ov iv v)
   release [v,ov,iv] []))
  (hs:swapsWithSole [.Subscript (.Name x p) ixe tp] e pos.line X.env=pure false)(hw:swappedStores [.Subscript (.Name x p) ixe tp] e X.env=pure none)(hu:X.A.units+2<cLine)
  (h1:(assignEach [.Subscript (.Name x p) ixe tp] X.env).map (·.2)=[assign (.Subscript (.Name x p) ixe tp) X.env]):
  GS X W c (.setIx k ix m) (.Assign [.Subscript (.Name x p) ixe tp] e pos):=by
 intro env
 refine PS.imp (Jf he.d (Vt nm.pe hi.d (N8 hu) ha) hs hw h1) fun D σ H q=>?_
 simp only[x_7]at q
 refine⟨env,pW q fun d env1 v H1 N1 D1 q1=>?_⟩
 cases e0:aN k env1 with
 |none=>rw[e0]at q1;exact q1.2.elim
 |some d0=>
  rw[e0]at q1
  simp only[Option.isNone_some,Qxq,if_false]at q1
  obtain⟨u,eu,Du⟩:=dj q1.1 e0
  refine⟨u,eu,env1,pW q1 fun d2 env2 y H2 N2 D2 q2=>?_⟩
  cases e4:cP k (qz d2 d) env2 with
  |none=>rw[e4]at q2;exact q2.2.elim
  |some env3=>
   rw[e4]at q2
   obtain⟨o,o',a,w,ef,es,hA,hd,lk,N⟩:=uX q2.1 e4
   rw[eu]at es
   cases es
   cases o with
   |lst xs=>
    obtain⟨vs,rfl,l⟩:=hd
    cases d2 with
    |int i=>
     simp only[qz]at ef
     cases e5:ix? xs.length i with
     |none=>rw[e5]at ef;cases ef
     |some j=>
      rw[e5]at ef
      cases ef
      have D2':y=.int i:=D2
      subst D2'
      exact .inl ⟨a,vs,i,j,rfl,rfl,hA,by rw[<-l.length];exact Wv e5,q2.2 _ _ (N _ ⟨_,rfl,l.set (D1.mono N2.pers) j⟩).z⟩
    |_=>cases ef
   |dct ks ds=>
    obtain⟨kvs,rfl,rfl,l⟩:=hd
    simp only[qz]at ef
    split at ef
    ·rename_i hk
     rw[QUq]at hk
     cases ef
     obtain⟨kk,rfl⟩:=eN hk.1
     have ek:=iI D2
     subst ek
     obtain⟨g1,g2⟩:=Ca (k:=kk) (D1.mono N2.pers) l
     have hf:=dR hk.2
     rw[QAq]at hf
     exact .inr (.inl ⟨a,_,rfl,Bq.k hA (by omega),q2.2 _ _ (N _ ⟨_,rfl,g1,g2⟩).z⟩)
    ·cases ef
   |sdt ks ds=>
    obtain⟨xs,rfl,rfl,hks,l⟩:=hd
    simp only[qz]at ef
    split at ef
    ·rename_i hk
     rw[QUq]at hk
     cases ef
     obtain⟨kk,rfl⟩:=jC hk.1
     obtain⟨b,rfl,kb⟩:=p7 D2
     obtain⟨g1,g2,g3⟩:=Vn (D1.mono N2.pers) kb hks l
     have hf:=dR hk.2
     rw[QAq]at hf
     exact .inr (.inr ⟨a,b,kk,xs,rfl,rfl,hA,hks,kb,by omega,q2.2 _ _ (N _ ⟨_,rfl,g1,g2,g3⟩).z⟩)
    ·cases ef
end
section
variable{X:Cx}{W:Wi}{c:Cf}{m m1 m2 m3:E}{o a b e:Expr}{pos p p2 apos cpos:Pos}{name:Str}
theorem WR(he:GE X W c m e)(hv:∀k,m.au=some k->∃x p,e=.Name x p/\gZ X k x):GS X W c (.ret m) (.Return (some e) pos):=by
 intro env
 have plain:∀D σ H,tS X.K W env ((ev c m env).fl m8) D σ H->ZQ (aM X W c m) D σ H:=fun D σ H q=>by
  refine⟨env,RJ q fun x env1 v H1 N z q1=>?_⟩
  cases x with
  |val d=>exact q1.2 v σ H1 N.z z
  |new o=>
   obtain⟨a,e1,e2,e3⟩:=z
   exact q1.2 v σ H1 N.z ⟨a,e1,e2,.inl e3⟩
  |ref i=>exact q1.2.elim
  |tmp o=>exact q1.2.elim
 cases q0:m.au with
 |none=>exact PS.imp (nu he.am) fun D σ H q=>plain D σ H (by simpa only[yZ,q0]using q)
 |some k=>
  cases e0:env[k]? with
  |none=>exact PS.imp (nu he.am) fun D σ H q=>plain D σ H (by simpa only[yZ,q0,e0]using q)
  |some sl=>
   cases sl with
   |un=>exact PS.imp (nu he.am) fun D σ H q=>plain D σ H (by simpa only[yZ,q0,e0]using q)
   |val d=>exact PS.imp (nu he.am) fun D σ H q=>plain D σ H (by simpa only[yZ,q0,e0]using q)
   |bor o=>exact PS.imp (nu he.am) fun D σ H q=>plain D σ H (by simpa only[yZ,q0,e0]using q)
   |own o=>
    obtain⟨x,p,rfl,nm⟩:=hv k q0
    refine PS.imp (nu nm.pe) fun D σ H q=>?_
    simp only[yZ,q0,e0]at q
    obtain⟨a,e1,e2⟩:=q.1.sl k _ e0
    have es:=bO e1
    have hi:k<env.length:=(QCz.mp e0).1
    have sub:∀j b,aJ (env.set k .un) σ j b->aJ env σ j b:=fun j b z=>by
     obtain⟨⟨s,ys,z1,z2⟩,z3⟩:=z
     by_cases hj:k=j
     ·subst hj;rw[Qwq hi]at z1;cases z1;cases z2
     ·rw[Qxz hj]at z1;exact⟨⟨s,ys,z1,z2⟩,z3⟩
    refine⟨.ref a,es,q.2 (.ref a) σ H ⟨⟨by simpa using q.1.len,fun j s ej=>?_,fun j l b z w=>q.1.ne j l b (sub j b z) (sub l b w)⟩,fun j b z=>.inl (sub j b z),bK.refl H,fun _ _ z _=>z,fun _ z=>z,fun j ys ej=>?_⟩ ⟨a,rfl,e2,.inr ⟨k,o,e0,es⟩⟩⟩
    ·by_cases hj:k=j
     ·subst hj;rw[Qwq hi]at ej;cases ej;trivial
     ·rw[Qxz hj]at ej;exact q.1.sl j s ej
    ·have hj:k≠j:=fun z=>by subst z;rw[e0]at ej;cases ej
     exact⟨⟨ys,by rw[Qxz hj];exact ej⟩,rfl⟩
theorem Qw:GS X W c (.ret ACJ) (.Return none pos):=fun env=>PS.imp O8 fun D σ H q=>by
 simp only[yZ,E.au,v_0,v_1,Zv,v_3,v_4,Zu,v_6,Yg,Zt,Ni,uV,Hs,Hr,El,Nr,Uk,Nq,Hq,Ho,Np,Nm,mX,Nk,Hn,Nj,Hm,lU,Out.fl,m8]at q
 exact q.2 .non σ H (Nz.refl q.1) rfl
theorem ik(lo:Int):∀(n i:Nat)(d:D),(aW lo n)[i]? =some d->d=.int (lo+i)/\i<n
 |0,i=>fun d h=>by simp[aW]at h
 |n+1,0=>fun d h=>by simp[aW]at h;exact⟨by rw[<-h];simp,by omega⟩
 |n+1,i+1=>fun d h=>by
  rw[aW,List.getElem?_cons_succ]at h
  obtain⟨e,l⟩:=ik (lo+1) n i d h
  refine⟨by rw[e];congr 1;push_cast;omega,by omega⟩
theorem fV(lo:Int):∀n,(aW lo n).length=n
 |0=>rfl
 |n+1=>by rw[aW,QBq,fV]
theorem yq{lo:Int}{n:Nat}(hz:n<=sizeLine):Gives K (Itr lo n) (aW lo n) H where
 go:=fun H1 p i d e=>(ik lo n i d e).2
 yld:=fun H1 p i d e x H2 y=>by
  obtain⟨rfl,rfl⟩:=y
  rw[(ik lo n i d e).1]
  exact⟨rfl,.inl rfl⟩
 stop:=fun H1 p i hi=>by rw[fV]at hi;exact hi
 len:=by rw[fV];exact hz
theorem JN(h:Cu i=true): -(2 ^62)<=i/\i<2 ^62:=by
 simp only[Cu,QUz]at h
 omega
theorem GJ{tg:Expr}(ha:GE X W c m a)(hg:Gl X "range")(hm:X.mg "range"=none)(hs:starEach [a] X.env=[(false,eval a X.env)]):GI X W c (.range1 m) tg (.Call (.Name "range" p) [a] [] pos):=by
 intro env QLz s σ H R I q
 refine FQ hg hm (cG ha.d eF hs) hs QLz s σ H R I ⟨env,q.1,?_⟩
 have q2:=q.2
 simp only[Nk]at q2
 have go:∀d env1 v H',Nx X.K env σ H env1 H'->bz X.K H' d v->(match (lift env1 (match d with|.int n=>if fits n.toNat&&Cu n then some (Rv.val (.lst (aW 0 n.toNat)))else none|_=>none))with
   |.ok x env'=>∃d xs,x.jG=some d/\items d=some xs/\∀J H',Nx X.K env σ H env' H'->Gives X.K J xs H'->R J H'
   |.exc c env'=>∀H',Nx X.K env σ H env' H'->W c env' σ H'
   |.bad=>False)->∃j:Int,[v]=[.int j]/\ -(2 ^62)<=j/\j<2 ^62/\R (Itr 0 j.toNat) H':=fun d env1 v H' N Dv z=>by
  cases d with
  |int n=>
   simp only at z
   by_cases hf:(fits n.toNat&&Cu n)=true
   ·rw[if_pos hf]at z
    rw[QUq]at hf
    obtain⟨d',xs,e1,e2,z⟩:=z
    cases e1
    cases e2
    have hv:v=.int n:=Dv
    subst hv
    exact⟨n,rfl,(JN hf.2).1,(JN hf.2).2,z _ H' N (yq (dR hf.1))⟩
   ·rw[if_neg hf]at z;exact z.elim
  |_=>exact z.elim
 cases r:ev c m env with
 |bad=>rw[r]at q2;exact q2
 |exc k env1=>rw[r]at q2;exact q2
 |ok x env1=>
  rw[r]at q2
  cases x with
  |val d=>exact fun v H' N Dv=>go d env1 v H' N Dv q2
  |new o=>exact fun v H' N Dv=>go o.d env1 v H' N Dv q2
  |ref i=>exact q2
  |tmp o=>exact q2
theorem je.z{K:QQq}{tg:Tg}{env env':Ev}{σ σ':St}{H:Hp}(st:je K tg env σ env' σ' H):Nz K env σ H env' σ' H:=
 ⟨st.eU,fun i a z=>.inl (st.sub z),bK.refl _,fun _ _ z _=>z,fun _ z=>z,fun i xs e=>⟨⟨xs,(st.same i (st.bors i xs e)).1.trans e⟩,(st.same i (st.bors i xs e)).2⟩⟩
theorem Bw{f:Fl}{g:Ev->Fl}{D:Ends}{N:St->Hp->Prop}(q:tS K W env (f.turn g) D σ H)
  (k:∀env2 σ2 H2,Nz K env σ H env2 σ2 H2->tS K W env2 (g env2) D σ2 H2->N σ2 H2):tS K W env f {D with nx:=N,ct:=N,bk:=D.nx} σ H:=by
 refine⟨q.1,?_⟩
 cases f with
 |next env2=>exact fun σ2 H2 N2=>k env2 σ2 H2 N2 (pU q N2)
 |cont env2=>exact fun σ2 H2 N2=>k env2 σ2 H2 N2 (pU q N2)
 |brk env2=>exact q.2
 |ret r env2=>exact q.2
 |exc j env2=>exact q.2
 |bad=>exact q.2
theorem WT{tg:Tg}{tgE iterE:Expr}{it:E}{b:S}{body:List Stmt}(hp:PassesOwn (model X.prog X.w) X.A X.env X.xe)(hc:X.calm=true)(hi:GI X W c it tgE iterE)(hg:GG X tg tgE)(hb:M4 X W c b body)
  (hs:∀x,foldedSetIterable iterE X.env x=pure x):GS X W c (.for_ tg it b) (.For tgE iterE body [] pos):=by
 intro env QLz s σ H D I q
 have P:=Vq (pos:=pos) hp hc (wi:=fun σ' H' R=>σ'=σ/\H'=H/\tI X.K W env (ev c it env) σ H R) (fun QLz s σ' H' R I'⟨e1,e2,z⟩=>by subst e1 e2;exact hi env QLz s _ _ R I' z) hg (tb:=fun D σ H=>∃env,tS X.K W env (ex c b env) D σ H) (fun QLz s σ H D I⟨env,z⟩=>hb env QLz s σ H D I z) hs
 refine P QLz s σ H D I ⟨rfl,rfl,?_⟩
 simp only[adV]at q
 have tur:∀env1 xs J H1,Nx X.K env σ H env1 H1->Gives X.K J xs H1->tS X.K W env1 (bj tg (ex c b) xs env1) D σ H1->∃W':Nat->Nat->St->Hp->Prop,(∃m,W' 0 m σ H1)/\∀i m σ H,W' i m σ H->
   (J.stop i H/\D.nx σ H)\/(J.go i H/\∃N:St->Hp->Prop,(∀σ' H',N σ' H'->∃m',m'<m/\W' (i+1) m' σ' H')/\∀x H',J.yld i H x H'->tG X.K tg x σ H' fun σ2 H2=>∃env,tS X.K W env (ex c b env) {D with nx:=N,ct:=N,bk:=D.nx} σ2 H2):=fun env1 xs J H1 N1 G z=>by
  refine⟨fun i m σ' H'=>i<=xs.length/\m=xs.length-i/\bK H1 H'/\∃env',tS X.K W env' (bj tg (ex c b) (xs.drop i) env') D σ' H',⟨xs.length,QIq _,by simp,bK.refl _,env1,z⟩,?_⟩
  rintro i m σ' H' ⟨hi,rfl,pe,env',z⟩
  by_cases hl:i<xs.length
  ·obtain⟨d,hd⟩:∃d,xs[i]? =some d:=⟨xs[i],by simp[hl]⟩
   rw[uG hd,bj]at z
   cases e:bD tg d env' with
   |none=>rw[e]at z;exact z.2.elim
   |some env2=>
    rw[e]at z
    simp only at z
    refine .inr ⟨G.go H' pe i d hd,fun σ2 H2=>bK H1 H2/\∃env3,tS X.K W env3 (bj tg (ex c b) (xs.drop (i+1)) env3) D σ2 H2,fun σ2 H2⟨p2,w⟩=>⟨xs.length- (i+1),by omega,hl,rfl,p2,w⟩,fun x H2 y=>?_⟩
    obtain⟨Dx,lay⟩:=G.yld H' pe i d hd x H2 y
    have N2:=z.1.lay lay
    refine⟨env',d,env2,N2.eU,Dx,e,fun σ2 st=>⟨env2,Bw (pU z (N2.z.trans st.z)) fun env3 σ3 H3 N3 w=>⟨(pe.trans N2.pers).trans N3.pers,env3,w⟩⟩⟩
  ·have e:i=xs.length:=by omega
   subst e
   rw[List.drop_length,bj]at z
   exact .inl ⟨G.stop H' pe _ (QVz _),z.2 σ' H' (Nz.refl z.1)⟩
 refine⟨q.1,?_⟩
 have go:∀(x:Rv)env1 d,x.jG=some d->(match (match items d with|some xs=>bj tg (ex c b) xs env1|none=>Fl.bad)with
   |.next env'=>∀σ' H',Nz X.K env σ H env' σ' H'->D.nx σ' H'
   |.ret r env'=>∀v σ' H',Nz X.K env σ H env' σ' H'->Mv X.K env σ H H' r v->D.rt v H'
   |.brk env'=>∀σ' H',Nz X.K env σ H env' σ' H'->D.bk σ' H'
   |.cont env'=>∀σ' H',Nz X.K env σ H env' σ' H'->D.ct σ' H'
   |.exc c env'=>∀σ' H',Nz X.K env σ H env' σ' H'->W c env' σ' H'
   |.bad=>False)->∃d xs,x.jG=some d/\items d=some xs/\∀J H',Nx X.K env σ H env1 H'->Gives X.K J xs H'->∃W':Nat->Nat->St->Hp->Prop,(∃m,W' 0 m σ H')/\∀i m σ H,W' i m σ H->
   (J.stop i H/\D.nx σ H)\/(J.go i H/\∃N:St->Hp->Prop,(∀σ' H',N σ' H'->∃m',m'<m/\W' (i+1) m' σ' H')/\∀x H',J.yld i H x H'->tG X.K tg x σ H' fun σ2 H2=>∃env,tS X.K W env (ex c b env) {D with nx:=N,ct:=N,bk:=D.nx} σ2 H2):=fun x env1 d ed z=>by
  cases e1:items d with
  |none=>rw[e1]at z;exact z.elim
  |some xs=>
   rw[e1]at z
   exact⟨d,xs,ed,e1,fun J H1 N G=>tur env1 xs J H1 N G (pU (env:=env) (σ:=σ) (H:=H) ⟨q.1,z⟩ N.z)⟩
 have q2:=q.2
 cases r:ev c it env with
 |bad=>rw[r]at q2;exact q2
 |exc k env1=>rw[r]at q2;exact fun H' N=>q2 σ H' N.z
 |ok x env1=>
  rw[r]at q2
  cases x with
  |val d=>exact go _ env1 d rfl q2
  |new o=>exact go _ env1 o.d rfl q2
  |ref i=>exact q2.elim
  |tmp o=>exact q2.elim
theorem KC{t:E}{te:Expr}{b:S}{body:List Stmt}(hp:PassesOwn (model X.prog X.w) X.A X.env X.xe)(ht:GT X W c t te)(hb:M4 X W c b body):GS X W c (.while_ t b) (.While te body [] pos):=by
 intro env
 refine PS.imp (Je hp ht (tb:=fun D σ H=>∃env,tS X.K W env (ex c b env) D σ H) (fun QLz s σ H D I⟨env,z⟩=>hb env QLz s σ H D I z)) fun D σ H q=>?_
 simp only[adU]at q
 refine⟨fun n σ' H'=>∃env',tS X.K W env' (b7 (ev c t) (ex c b) n env') D σ' H',⟨c.turns,env,q⟩,?_⟩
 rintro n σ1 H1 ⟨env1,q1⟩
 cases n with
 |zero=>exact q1.2.elim
 |succ n=>
  rw[b7]at q1
  refine⟨env1,HJ q1 fun k env2 H2 N2 q2=>?_⟩
  cases k with
  |true=>
   rw[if_pos rfl]at q2⊢
   refine⟨fun σ' H'=>∃env',tS X.K W env' (b7 (ev c t) (ex c b) n env') D σ' H',fun σ' H' w=>⟨n,Nat.lt_succ_self n,w⟩,env2,Bw q2 fun env3 σ3 H3 N3 w=>⟨env3,w⟩⟩
  |false=>
   rw[if_neg Qjz]at q2⊢
   exact q2.2 σ1 H2 (Nz.refl q2.1)
end
structure Cz(K:QQq)(ps:List Sl)(vs:List V)(H:Hp)(qs:List Sl)(H':Hp):Prop where
 bor:∀(i:Nat)o,ps[i]? =some (.bor o)->∃o' a,qs[i]? =some (.bor o')/\vs[i]? =some (.ref a)/\jk K H' o' a
 pers:bK H H'
 keep:∀b u,H b=some u->(∀i,¬aJ ps (vs.map some) i b)->H' b=some u
 dom:∀b,H' b=none->H b=none
def agb(K:QQq)(H H':Hp):Rv->V->Prop
 |.val d,v=>bz K H' d v
 |.new q,v=>∃a,v=.ref a/\jk K H' q a/\H a=none
 |_,_=>False
def noOwn(ps:List Sl):Prop:=∀(i:Nat)o,ps[i]? ≠some (.own o)
def rP(K:QQq)(n:Nat)(f:List Sl->Res):Sp:=fun vs H Q _=>∃ps,vs.length=n/\Sat K ps (vs.map some) H/\noOwn ps/\match f ps with
 |.ok r qs=>∀v H',Cz K ps vs H qs H'->agb K H H' r v->Q v H'
 |.exc _ qs=>∀H',Cz K ps vs H qs H'->False
 |.bad=>False
variable{ps:List Sl}
theorem vp{i k:Nat}{b:Addr}(hl:ps.length=vs.length):aJ (ps++List.replicate k .un) (vs.map some++List.replicate k none) i b↔aJ ps (vs.map some) i b:=by
 constructor
 ·rintro ⟨⟨s,o,e1,e2⟩,e3⟩
  by_cases hi:i<ps.length
  ·rw[Qwz hi]at e1
   rw[Qwz (by simpa[<-hl]using hi)]at e3
   exact⟨⟨s,o,e1,e2⟩,e3⟩
  ·rw[QIz (by omega),List.getElem?_replicate]at e1
   split at e1
   ·cases e1;cases e2
   ·cases e1
 ·rintro ⟨⟨s,o,e1,e2⟩,e3⟩
  have hi:i<ps.length:=(QCz.mp e1).1
  exact⟨⟨s,o,by rw[Qwz hi];exact e1,e2⟩,by rw[Qwz (by simpa[<-hl]using hi)];exact e3⟩
theorem Sat.pad(S:Sat K ps (vs.map some) H)(k:Nat):Sat K (ps++List.replicate k .un) (vs.map some++List.replicate k none) H:=by
 have hl:ps.length=vs.length:=by simpa using S.len
 refine⟨by simp[hl],fun i s e=>?_,fun i j a h1 h2=>S.ne i j a ((vp hl).mp h1) ((vp hl).mp h2)⟩
 by_cases hi:i<ps.length
 ·rw[Qwz hi]at e
  rw[Qwz (by simpa[<-hl]using hi)]
  exact S.sl i s e
 ·rw[QIz (by omega),List.getElem?_replicate]at e
  split at e
  ·cases e;trivial
  ·cases e
theorem Nz.cz{H':Hp}{k n:Nat}{σ':St}(S:Sat K ps (vs.map some) H)(hn:vs.length=n)(N:Nz K (ps++List.replicate k .un) (vs.map some++List.replicate k none) H env' σ' H'):Cz K ps vs H (env'.take n) H':=by
 have hl:ps.length=vs.length:=by simpa using S.len
 refine⟨fun i o e=>?_,N.pers,fun b u hb no=>N.keep b u hb fun i z=>no i ((vp hl).mp z),N.dom⟩
 have hi:i<ps.length:=(QCz.mp e).1
 obtain⟨⟨o',e1⟩,e2⟩:=N.bors i o (by rw[Qwz hi];exact e)
 obtain⟨a,z1,z2⟩:=N.eU.sl i _ e1
 rw[e2,Qwz (by simpa[<-hl]using hi),QFz]at z1
 refine⟨o',a,by rw[List.getElem?_take_of_lt (by omega)];exact e1,?_,z2⟩
 cases q:vs[i]? with
 |none=>rw[q]at z1;cases z1
 |some v=>rw[q]at z1;simp at z1;rw[z1]
section
variable{P:Program}{w:World}{K:QQq}{mg:QZz}{base:Heap}
theorem QK{qual:Str}{st:Stmt}{f:Addr}{fd:FuncData}{N ps:List Str}{k:Nat}{c:Cf}{g:Fn}(F:XS K x qual st f fd)(S:j8 N ps (aZ st))(hp:g.pars=ps.length)(hn:g.names=N.length)
  (hb:∀(cdv:Value)(A:Around)(outer:List Env)(s:Shared)(H:Hp)(E:XK),jj k (A.deeper (PyProof.Rows.envOfC qual (aZ st) s.heap.objs.size f cdv))->M4 (Ao Hg P w K mg base N qual (aZ st) f cdv A outer s H E).nox W0 c g.body (dF st)):
  oN P w K mg base Hg (k+1) f fd ps (rP K ps.length (gR c g)):=by
 refine F.ok S (fun vs H Q E h=>?_) (fun cdv A outer s H vs Q E hr h=>?_)
 ·obtain⟨_,h,_⟩:=h
  exact h
 ·obtain⟨sl,hl,S0,no,q⟩:=h
  refine⟨_,hb cdv A outer s H E hr (sl++List.replicate (g.names-g.pars) .un),?_⟩
  have hlen:sl.length=vs.length:=by simpa using S0.len
  have hst:L2.start N vs=vs.map some++List.replicate (g.names-g.pars) none:=by
   unfold L2.start
   rw[hn,hp,hl]
  have e0:gR c g sl=match ex c g.body (sl++List.replicate (g.names-g.pars) .un)with
    |.next σ=>.ok (.val .non) (σ.take g.pars)
    |.ret r σ=>.ok r (σ.take g.pars)
    |.exc k σ=>.exc k (σ.take g.pars)
    |_=>.bad:=by
   unfold gR
   rw[if_pos (by rw[hp,<-hl,hlen])]<;>cases ex c g.body (sl++List.replicate (g.names-g.pars) .un)<;>rfl
  rw[e0]at q
  rw[hst]
  refine⟨S0.pad _,?_⟩
  have hg:vs.length=g.pars:=by rw[hl,hp]
  cases r:ex c g.body (sl++List.replicate (g.names-g.pars) .un)with
  |next env'=>rw[r]at q;exact fun σ' H' N=>q .non H' (N.cz S0 hg) rfl
  |ret rv env'=>
   rw[r]at q
   refine fun v σ' H' N z=>q v H' (N.cz S0 hg) ?_
   cases rv with
   |val d=>exact z
   |new o=>
    obtain⟨a,e1,e2,e3⟩:=z
    refine⟨a,e1,e2,?_⟩
    rcases e3 with e3|⟨i,ys,e3,_⟩
    ·exact e3
    ·by_cases hi:i<sl.length
     ·rw[Qwz hi]at e3
      exact absurd e3 (no i ys)
     ·rw[QIz (by omega),List.getElem?_replicate]at e3
      split at e3<;>cases e3
   |ref i=>exact z.elim
   |tmp o=>exact z.elim
  |brk env'=>rw[r]at q;exact q.elim
  |cont env'=>rw[r]at q;exact q.elim
  |exc j env'=>rw[r]at q;exact fun σ' H' N=>q H' (N.cz S0 hg)
  |bad=>rw[r]at q;exact q.elim
end
inductive En(K:QQq)(env:Ev)(σ:St)(H0 H:Hp):List Rv->List Sl->List V->Prop
 |nil:En K env σ H0 H [] [] []
 |val {d:D} {v:V} {rs:List Rv} {ps:List Sl} {vs:List V}:bz K H d v->En K env σ H0 H rs ps vs->En K env σ H0 H (.val d::rs) (.val d::ps) (v::vs)
 |tmp {o:Ob} {a:Addr} {rs:List Rv} {ps:List Sl} {vs:List V}:jk K H o a->H0 a=none->(∀q,Rv.tmp q∉rs)->En K env σ H0 H rs ps vs->En K env σ H0 H (.tmp o::rs) (.bor o::ps) (.ref a::vs)
 |ref {o:Ob} {j:Nat} {a:Addr} {s:Sl} {rs:List Rv} {ps:List Sl} {vs:List V}:env[j]? =some s->isOwn s=some o->σ[j]? =some (some (.ref a))->jk K H o a->Rv.ref j∉rs->En K env σ H0 H rs ps vs->En K env σ H0 H (.ref j::rs) (.bor o::ps) (.ref a::vs)
variable{rs:List Rv}
section
variable{K:QQq}{env env1 env2:Ev}{σ:St}{H0 H H2:Hp}
theorem jF(S:Sat K env σ H):∀{rs:List Rv}{ps:List Sl}{vs:List V},enter rs env=some ps->gY K σ H0 H rs vs->En K env σ H0 H rs ps vs
 |[],ps,vs,h,r=>by
  cases h
  have:vs=[]:=r
  subst this
  exact .nil
 |x::rs,ps,vs,h,r=>by
  obtain⟨v,vr,rfl,h1,h2⟩:=r
  cases x with
  |val d=>
   simp only[enter]at h
   cases e:enter rs env with
   |none=>rw[e]at h;cases h
   |some ps'=>rw[e]at h;cases h;exact .val h1 (jF S e h2)
  |new o=>cases h
  |tmp o=>
   simp only[enter]at h
   split at h
   ·cases h
   ·rename_i hn
    cases e:enter rs env with
    |none=>rw[e]at h;cases h
    |some ps'=>
     rw[e]at h
     cases h
     obtain⟨a,rfl,oa,ha⟩:=h1
     refine .tmp oa ha (fun q hq=>hn ?_) (jF S e h2)
     exact List.any_eq_true.mpr ⟨_,hq,rfl⟩
  |ref j=>
   simp only[enter]at h
   split at h
   ·cases h
   ·rename_i hn
    have nr:Rv.ref j∉rs:=fun hq=>hn (List.any_eq_true.mpr ⟨_,hq,by simp[iG]⟩)
    cases e1:env[j]? with
    |none=>rw[e1]at h;cases h
    |some s=>
     rw[e1]at h
     have h1':σ[j]? =some (some v):=h1
     cases s with
     |un=>cases h
     |val d=>cases h
     |own o=>
      cases e:enter rs env with
      |none=>simp only[e]at h;cases h
      |some ps'=>
       simp only[e]at h
       cases h
       obtain⟨a,z1,z2⟩:=S.sl j _ e1
       rw[h1']at z1
       cases z1
       exact .ref e1 rfl h1' z2 nr (jF S e h2)
     |bor o=>
      cases e:enter rs env with
      |none=>simp only[e]at h;cases h
      |some ps'=>
       simp only[e]at h
       cases h
       obtain⟨a,z1,z2⟩:=S.sl j _ e1
       rw[h1']at z1
       cases z1
       exact .ref e1 rfl h1' z2 nr (jF S e h2)
theorem En.len(h:En K env σ H0 H rs ps vs):ps.length=vs.length/\rs.length=vs.length:=by
 induction h with
 |nil=>exact⟨rfl,rfl⟩
 |val _ _ ih=>simp[ih.1,ih.2]
 |tmp _ _ _ _ ih=>simp[ih.1,ih.2]
 |ref _ _ _ _ _ _ ih=>simp[ih.1,ih.2]
theorem En.noOwn{rs:List Rv}{ps:List Sl}{vs:List V}(h:En K env σ H0 H rs ps vs):noOwn ps:=by
 induction h with
 |nil=>intro i o e;simp at e
 |val _ _ ih=>intro i o e;cases i with
  |zero=>simp at e
  |succ i=>exact ih i o (by simpa using e)
 |tmp _ _ _ _ ih=>intro i o e;cases i with
  |zero=>simp at e
  |succ i=>exact ih i o (by simpa using e)
 |ref _ _ _ _ _ _ ih=>intro i o e;cases i with
  |zero=>simp at e
  |succ i=>exact ih i o (by simpa using e)
theorem En.lent(h:En K env σ H0 H rs ps vs):∀{i:Nat}{a:Addr},aJ ps (vs.map some) i a->(∃o,rs[i]? =some (.tmp o)/\H0 a=none)\/∃j,rs[i]? =some (.ref j)/\aJ env σ j a:=by
 induction h with
 |nil=>rintro i a ⟨⟨s,o,e,_⟩,_⟩;simp at e
 |val _ _ ih=>
  rintro i a ⟨⟨s,o,e1,e2⟩,e3⟩
  cases i with
  |zero=>simp at e1;subst e1;cases e2
  |succ i=>simpa using ih ⟨⟨s,o,by simpa using e1,e2⟩,by simpa using e3⟩
 | @tmp o b rs ps vs oa h0 _ _ ih=>
  rintro i a ⟨⟨s,o',e1,e2⟩,e3⟩
  cases i with
  |zero=>
   simp at e3
   subst e3
   exact .inl ⟨o,rfl,h0⟩
  |succ i=>simpa using ih ⟨⟨s,o',by simpa using e1,e2⟩,by simpa using e3⟩
 | @ref o j b s rs ps vs e1 e2 e3 oa nr _ ih=>
  rintro i a ⟨⟨s',o',z1,z2⟩,z3⟩
  cases i with
  |zero=>
   simp at z3
   subst z3
   exact .inr ⟨j,rfl,⟨⟨s,o,e1,e2⟩,e3⟩⟩
  |succ i=>simpa using ih ⟨⟨s',o',by simpa using z1,z2⟩,by simpa using z3⟩
theorem En.eU{env0:Ev}(S0:Sat K env0 σ H0)(S:Sat K env σ H)(sub:∀(i:Nat)a,aJ env σ i a->aJ env0 σ i a)(h:En K env σ H0 H rs ps vs):Sat K ps (vs.map some) H:=by
 refine⟨by simpa using h.len.1,?_,?_⟩
 ·clear S0 sub
  induction h with
  |nil=>intro i s e;simp at e
  |val hd _ ih=>
   intro i s e
   cases i with
   |zero=>simp at e;subst e;exact⟨_,rfl,hd⟩
   |succ i=>simpa using ih i s (by simpa using e)
  |tmp oa _ _ _ ih=>
   intro i s e
   cases i with
   |zero=>simp at e;subst e;exact⟨_,rfl,oa⟩
   |succ i=>simpa using ih i s (by simpa using e)
  |ref _ _ _ oa _ _ ih=>
   intro i s e
   cases i with
   |zero=>simp at e;subst e;exact⟨_,rfl,oa⟩
   |succ i=>simpa using ih i s (by simpa using e)
 ·--no two slots have one address
  have fresh:∀a,H0 a=none->∀j,¬aJ env σ j a:=fun a ha j z=>S0.kZ ha j (sub j a z)
  induction h with
  |nil=>rintro i j a ⟨⟨s,o,e,_⟩,_⟩;simp at e
  |val hd t ih=>
   rintro i j a ⟨⟨s,o,e1,e2⟩,e3⟩ ⟨⟨s',o',e1',e2'⟩,e3'⟩
   cases i with
   |zero=>simp at e1;subst e1;cases e2
   |succ i=>cases j with
    |zero=>simp at e1';subst e1';cases e2'
    |succ j=>rw[ih i j a ⟨⟨s,o,by simpa using e1,e2⟩,by simpa using e3⟩ ⟨⟨s',o',by simpa using e1',e2'⟩,by simpa using e3'⟩]
  | @tmp o b rs ps vs oa h0 nt t ih=>
   have clash:∀i,¬aJ ps (vs.map some) i b:=fun i z=>by
    rcases t.lent z with ⟨q,e,_⟩|⟨q,_,ow⟩
    ·exact nt q (QBz e)
    ·exact fresh b h0 q ow
   rintro i j a ⟨⟨s,o,e1,e2⟩,e3⟩ ⟨⟨s',o',e1',e2'⟩,e3'⟩
   cases i with
   |zero=>
    simp at e3
    subst e3
    cases j with
    |zero=>rfl
    |succ j=>exact absurd ⟨⟨s',o',by simpa using e1',e2'⟩,by simpa using e3'⟩ (clash j)
   |succ i=>cases j with
    |zero=>
     simp at e3'
     subst e3'
     exact absurd ⟨⟨s,o,by simpa using e1,e2⟩,by simpa using e3⟩ (clash i)
    |succ j=>rw[ih i j a ⟨⟨s,o,by simpa using e1,e2⟩,by simpa using e3⟩ ⟨⟨s',o',by simpa using e1',e2'⟩,by simpa using e3'⟩]
  | @ref o k b s0 rs ps vs z1 z2 z3 oa nr t ih=>
   have ok:aJ env σ k b:=⟨⟨s0,o,z1,z2⟩,z3⟩
   have clash:∀i,¬aJ ps (vs.map some) i b:=fun i z=>by
    rcases t.lent z with ⟨q,e,h0⟩|⟨q,e,ow⟩
    ·exact fresh b h0 k ok
    ·have:=S.ne k q b ok ow
     subst this
     exact nr (QBz e)
   rintro i j a ⟨⟨s,o,e1,e2⟩,e3⟩ ⟨⟨s',o',e1',e2'⟩,e3'⟩
   cases i with
   |zero=>
    simp at e3
    subst e3
    cases j with
    |zero=>rfl
    |succ j=>exact absurd ⟨⟨s',o',by simpa using e1',e2'⟩,by simpa using e3'⟩ (clash j)
   |succ i=>cases j with
    |zero=>
     simp at e3'
     subst e3'
     exact absurd ⟨⟨s,o,by simpa using e1,e2⟩,by simpa using e3⟩ (clash i)
    |succ j=>rw[ih i j a ⟨⟨s,o,by simpa using e1,e2⟩,by simpa using e3⟩ ⟨⟨s',o',by simpa using e1',e2'⟩,by simpa using e3'⟩]
end
def Sl.CK(o':Ob):Sl->Option Sl
 |.own _=>some (.own o')
 |.bor _=>some (.bor o')
 |_=>none
theorem Hu(h:cP j (fun _=>some o') env=some env'):∃s s',env[j]? =some s/\s.CK o'=some s'/\env'=env.set j s':=by
 obtain⟨o,q,e,hh⟩:=pP h
 cases e
 rcases hh with ⟨e,rfl⟩|⟨e,rfl⟩
 ·exact⟨_,_,e,rfl,rfl⟩
 ·exact⟨_,_,e,rfl,rfl⟩
theorem nW:∀{rs:List Rv}{qs:List Sl}{env env2:Ev},giveBack rs qs env=some env2->env2.length=env.length/\∀j:Nat,
  ((∀i:Nat,rs[i]? ≠some (Rv.ref j))/\env2[j]? =env[j]?)\/∃(i:Nat)(o':Ob)(s s':Sl),rs[i]? =some (.ref j)/\qs[i]? =some (.bor o')/\env[j]? =some s/\s.CK o'=some s'/\env2[j]? =some s'
 |[],[],env,env2,h=>by
  cases h
  exact⟨rfl,fun j=>.inl ⟨fun i=>by simp,rfl⟩⟩
 |[],_::_,env,env2,h=>by cases h
 |x::rs,[],env,env2,h=>by cases x<;>cases h
 |x::rs,q::qs,env,env2,h=>by
  have skip:giveBack rs qs env=some env2->(∀j,x≠ .ref j)->env2.length=env.length/\∀j:Nat,
    ((∀i:Nat,(x::rs)[i]? ≠some (Rv.ref j))/\env2[j]? =env[j]?)\/∃(i:Nat)(o':Ob)(s s':Sl),(x::rs)[i]? =some (.ref j)/\(q::qs)[i]? =some (.bor o')/\env[j]? =some s/\s.CK o'=some s'/\env2[j]? =some s':=fun h nx=>by
   obtain⟨l,g⟩:=nW h
   refine⟨l,fun j=>?_⟩
   rcases g j with ⟨g1,g2⟩|⟨i,o',s,s',g1,g2,g3⟩
   ·refine .inl ⟨fun i e=>?_,g2⟩
    cases i with
    |zero=>simp at e;exact nx j e
    |succ i=>exact g1 i (by simpa using e)
   ·exact .inr ⟨i+1,o',s,s',by simpa using g1,by simpa using g2,g3⟩
  cases x with
  |val d=>exact skip h fun j z=>by cases z
  |new o=>exact skip h fun j z=>by cases z
  |tmp o=>exact skip h fun j z=>by cases z
  |ref k=>
   cases q with
   |bor o=>
    change Option.bind (cP k (fun _=>some o) env) (giveBack rs qs)=some env2 at h
    cases e:cP k (fun _=>some o) env with
    |none=>rw[e]at h;cases h
    |some env1=>
     rw[e]at h
     obtain⟨s0,s1,z1,z2,rfl⟩:=Hu e
     have hk:k<env.length:=(QCz.mp z1).1
     obtain⟨l,g⟩:=nW h
     refine⟨by simpa using l,fun j=>?_⟩
     rcases g j with ⟨g1,g2⟩|⟨i,o',s,s',g1,g2,g3,g4,g5⟩
     ·by_cases hj:k=j
      ·subst hj
       rw[Qwq hk]at g2
       exact .inr ⟨0,o,s0,s1,rfl,rfl,z1,z2,g2⟩
      ·rw[Qxz hj]at g2
       refine .inl ⟨fun i e=>?_,g2⟩
       cases i with
       |zero=>simp at e;exact hj e
       |succ i=>exact g1 i (by simpa using e)
     ·by_cases hj:k=j
      ·subst hj
       rw[Qwq hk]at g3
       cases g3
       refine .inr ⟨i+1,o',s0,s',by simpa using g1,by simpa using g2,z1,?_,g5⟩
       cases s0 with
       |own q=>cases z2;exact g4
       |bor q=>cases z2;exact g4
       |un=>cases z2
       |val d=>cases z2
      ·rw[Qxz hj]at g3
       exact .inr ⟨i+1,o',s,s',by simpa using g1,by simpa using g2,g3,g4,g5⟩
   |un=>cases h
   |val d=>cases h
   |own o=>cases h
theorem JQ{s s':Sl}(h:s.CK o'=some s'):(∃o,isOwn s=some o)/\isOwn s'=some o':=by
 cases s with
 |own q=>cases h;exact⟨⟨q,rfl⟩,rfl⟩
 |bor q=>cases h;exact⟨⟨q,rfl⟩,rfl⟩
 |un=>cases h
 |val d=>cases h
section
variable{K:QQq}{env0 env env2:Ev}{σ:St}{H0 H H2:Hp}{rs:List Rv}{ps qs:List Sl}{vs:List V}
theorem En.Vc(h:En K env σ H0 H rs ps vs):∀{i j:Nat},rs[i]? =some (.ref j)->∃o a,ps[i]? =some (.bor o)/\vs[i]? =some (.ref a)/\σ[j]? =some (some (.ref a)):=by
 induction h with
 |nil=>intro i j e;simp at e
 |val _ _ ih=>intro i j e;cases i with
  |zero=>simp at e
  |succ i=>simpa using ih (by simpa using e)
 |tmp _ _ _ _ ih=>intro i j e;cases i with
  |zero=>simp at e
  |succ i=>simpa using ih (by simpa using e)
 | @ref o k a s rs ps vs e1 e2 e3 oa nr t ih=>
  intro i j e
  cases i with
  |zero=>simp at e;subst e;exact⟨o,a,rfl,rfl,e3⟩
  |succ i=>simpa using ih (by simpa using e)
theorem QX(S0:Sat K env0 σ H0)(N:Nx K env0 σ H0 env H)(E:En K env σ H0 H rs ps vs)(C:Cz K ps vs H qs H2)(g:giveBack rs qs env=some env2):Nx K env0 σ H0 env2 H2:=by
 have S:=N.eU
 have sub:=N.sub
 obtain⟨gl,gs⟩:=nW g
 have fresh:∀a,H0 a=none->∀j,¬aJ env σ j a:=fun a ha j z=>S0.kZ ha j (sub j a z)
 have own2:∀j b,aJ env2 σ j b->aJ env σ j b:=fun j b z=>by
  obtain⟨⟨s,o,e1,e2⟩,e3⟩:=z
  rcases gs j with ⟨_,g2⟩|⟨i,o',s0,s1,_,_,g3,g4,g5⟩
  ·rw[g2]at e1;exact⟨⟨s,o,e1,e2⟩,e3⟩
  ·obtain⟨⟨q,hq⟩,_⟩:=JQ g4
   exact⟨⟨s0,q,g3,hq⟩,e3⟩
 have notLent:∀j b,aJ env σ j b->(∀i:Nat,rs[i]? ≠some (Rv.ref j))->∀i,¬aJ ps (vs.map some) i b:=fun j b ow nr i z=>by
  rcases E.lent z with ⟨q,_,h0⟩|⟨k,e,ow'⟩
  ·exact fresh b h0 j ow
  ·have:=S.ne j k b ow ow'
   subst this
   exact nr i e
 refine⟨⟨by rw[gl];exact S.len,fun j s e=>?_,fun j k b z w=>S.ne j k b (own2 j b z) (own2 k b w)⟩,fun j b z=>sub j b (own2 j b z),N.pers.trans C.pers,fun b u hb no=>C.keep b u (N.keep b u hb no) fun i z=>?_,fun b z=>N.dom b (C.dom b z),fun j xs e=>?_⟩
 ·rcases gs j with ⟨g1,g2⟩|⟨i,o',s0,s1,g1,g2,g3,g4,g5⟩
  ·rw[g2]at e
   refine(S.sl j s e).keep C.pers fun b u ho ev hb=>?_
   exact C.keep b u hb (notLent j b (vq e ho ev) g1)
  ·rw[g5]at e
   cases e
   obtain⟨o,a,p1,p2,p3⟩:=E.Vc g1
   obtain⟨o'',a',c1,c2,c3⟩:=C.bor i o p1
   rw[g2]at c1
   cases c1
   rw[p2]at c2
   cases c2
   cases s0 with
   |own q=>cases g4;exact⟨a,by rw[p3];rfl,c3⟩
   |bor q=>cases g4;exact⟨a,by rw[p3];rfl,c3⟩
   |un=>cases g4
   |val d=>cases g4
 ·rcases E.lent z with ⟨q,_,h0⟩|⟨k,e,ow⟩
  ·rw[h0]at hb;cases hb
  ·exact no k (sub k b ow)
 ·obtain⟨xs,e⟩:=N.bors j xs e
  rcases gs j with ⟨g1,g2⟩|⟨i,o',s0,s1,g1,g2,g3,g4,g5⟩
  ·exact⟨xs,by rw[g2];exact e⟩
  ·rw[e]at g3
   cases g3
   cases g4
   exact⟨o',g5⟩
end
section
variable{X:Cx}{W:Wi}{c:Cf}{m:E}{e:Expr}{es:List Expr}{pos p:Pos}{CX:Hf}{k:Nat}{f:Addr}{fd:FuncData}{ps:List Str}{x:Str}{g:Nat}
theorem QG(F:oN X.prog X.w X.K X.mg X.base Hg k f fd ps (rP X.K ps.length (c.fn g)))(hr:jj k X.A)(hg:Gl X x)(hm:X.mg x=some (.ref f))(hk:PySem.W.keepIn X.K (.ref f)=true)(hb:Binds X.K fd ps [])
  (hd:(x==("__debug__":Str))=false)(ha:GA X W c m (e::es))(he:starEach (e::es) X.env=(false,eval e X.env)::starEach es X.env)(hpl:(backTo pos (starEach es X.env)).any (·.1)=false)(hn:∀sl,c.fn g sl=.bad\/sl.length=ps.length):
  GE X W c (.call g m) (.Call (.Name x p) (e::es) [] pos):=by
 intro env QLz s σ H Q I q
 refine Pu F hr hg hm hk hb .nil aaO (t:=fun σ' H' R=>σ'=σ/\H'=H/\RK X.K W env (evs c m env) σ H R) (fun p QLz s σ' H' R I'⟨e1,e2,z⟩=>by subst e1 e2;exact ha env p QLz s _ _ R I' z) hd he hpl QLz s σ H Q I ⟨rfl,rfl,?_⟩
 simp only[Nq]at q
 obtain⟨S,q⟩:=q
 refine⟨S,?_⟩
 cases r:evs c m env with
 |bad=>rw[r]at q;exact q
 |exc j env1=>rw[r]at q;exact q
 |ok rs env1=>
  rw[r]at q
  simp only[Out.bind,rD]at q
  intro vs H1 N rv
  rw[List.append_nil]
  cases e1:enter rs env1 with
  |none=>rw[e1]at q;exact q.elim
  |some sl=>
   rw[e1]at q
   simp only at q
   have E:=jF N.eU e1 rv
   refine⟨sl,?_,E.eU S N.eU N.sub,E.noOwn,?_⟩
   ·rcases hn sl with z|z
    ·rw[z]at q;exact q.elim
    ·rw[<-E.len.1,z]
   ·cases e2:c.fn g sl with
    |bad=>rw[e2]at q;exact q.elim
    |ok rv qs=>
     rw[e2]at q
     simp only at q
     intro v H2 C z
     cases e3:giveBack rs qs env1 with
     |none=>rw[e3]at q;exact q.elim
     |some env2=>
      rw[e3]at q
      refine q v H2 (QX S N E C e3) ?_
      cases rv with
      |val d=>exact z
      |new o=>obtain⟨a,z1,z2,z3⟩:=z;exact⟨a,z1,z2,N.dom a z3⟩
      |ref i=>exact z.elim
      |tmp o=>exact z.elim
    |exc j qs=>rw[e2]at q;exact q.elim
end
theorem Fg(c:Cf)(g:Fn)(sl:List Sl):gR c g sl=.bad\/sl.length=g.pars:=by
 unfold gR
 split
 ·exact .inr (by assumption)
 ·exact .inl rfl
end Mini
end
section
namespace Mini
open PySem L2 PyProof.Rows
def o5(b:Bool)(h:Heap)(it l:Addr)(k:Nat):Prop:=match b with|true=>h.IsListIter it l k|false=>h.IsTupleIter it l k
def wD(b:Bool)(h:Heap)(l:Addr)(xs:Array Value):Prop:=match b with|true=>h.IsList l xs|false=>h.IsTuple l xs
variable{b:Bool}{h h':Heap}{it l:Addr}
theorem o5.at{k:Nat}(x:o5 b h it l k)(e:∀o,h.get? it=some o->h'.get? it=some o):o5 b h' it l k:=by
 cases b<;>exact Exists.elim x fun o⟨h1,h2⟩=>⟨o,e o h1,h2⟩
variable{xs:Array Value}
theorem wD.at(x:wD b h l xs)(e:∀o,h.get? l=some o->h'.get? l=some o):wD b h' l xs:=by
 cases b<;>exact Exists.elim x fun o⟨h1,h2⟩=>⟨o,e o h1,h2⟩
theorem o5.obj{k:Nat}(x:o5 b h it l k):∃o,h.get? it=some o/\∀v,o.data≠ .cell v:=by
 cases b<;>exact Exists.elim x fun o⟨h1,_,h2⟩=>⟨o,h1,fun v z=>by rw[h2]at z;cases z⟩
theorem o5.lt{k:Nat}(x:o5 b h it l k):it<h.objs.size:=let ⟨_,e,_⟩:=x.obj;Qqz e
variable{Q:QZq}{i:Nat}{x:Value}
section
variable{prog:Program}{w:World}{A:Around}{E:QZq}{s:Shared}
theorem my{items}(hit:s.heap.IsTupleIter it l i)
  (hl:s.heap.IsTuple l items)(hx:items[i]? =some x)
  (hQ:∀h',h'.IsTupleIter it l (i+1)->Heap.SameBut it s.heap h'->Q x {s with heap:=h'}):
  wpAny (model prog w) A (Builtin.SmallTypes.nextOf (.ref it)) Q E s:=by
 obtain⟨o,ho,hc,hd⟩:=id hit
 obtain⟨ol,hol,_,nl,hdl⟩:=hl
 unfold Builtin.SmallTypes.nextOf
 refine QKq (wpAny_callSpecial?_slot (name:=Str.ofString "__next__") hit.typeIs PySem.F.slot_tuple_iterator_next
  (Qzz PySem.F.slot_tuple_iterator_next hit.typeIs PySem.F.entry_tuple_iterator_next ?_ (PySem.F.args_tuple_iterator_next_1 _)))
 show wpAny _ _ (field (.ref it) 0>>=_) _ _ s
 refine QKq (QGz ho hd (x:=.ref l) rfl ?_)
 show wpAny _ _ (if (Value.ref l==Value.none)=true then _ else _) _ _ s
 rw[if_neg (show¬((Value.ref l==Value.none)=true)from Qjz)]
 show wpAny _ _ (field (.ref it) 1>>=_) _ _ s
 refine QKq (QGz ho hd (x:=.int i 0) rfl ?_)
 show wpAny _ _ (seqItems? (.ref l)>>=_) _ _ s
 refine QKq (wpAny_seqItems hol hdl ?_)
 simp only[Int.toNat_natCast,hx]
 refine QKq (wpAny_setField ho hd (by simp) (QKz ⟨x,rfl,QKz (hQ _ ?_ (Heap.SameBut.update ..))⟩))
 exact⟨_,Heap.get?_update_self _ ho (Obj.isFreed_of_fields (Obj.data_mapFields hd _)),(Obj.cls_mapFields ..).trans hc,by
  rw[Obj.data_mapFields hd];simp[rawInt]⟩
theorem nD{items}(hh:A.handled=none)
  (hit:s.heap.IsTupleIter it l i)(hl:s.heap.IsTuple l items)(hx:items[i]? =none)
  (hE:∀h' e,Heap.ExtBut it s.heap h'->(∃o,h'.get? e=some o/\o.cls=.type "StopIteration")->E (.ref e) {s with heap:=h'}):
  wpAny (model prog w) A (Builtin.SmallTypes.nextOf (.ref it)) Q E s:=by
 obtain⟨o,ho,hc,hd⟩:=id hit
 obtain⟨ol,hol,_,nl,hdl⟩:=hl
 unfold Builtin.SmallTypes.nextOf
 refine QKq (wpAny_callSpecial?_slot (name:=Str.ofString "__next__") hit.typeIs PySem.F.slot_tuple_iterator_next
  (Qzz PySem.F.slot_tuple_iterator_next hit.typeIs PySem.F.entry_tuple_iterator_next ?_ (PySem.F.args_tuple_iterator_next_1 _)))
 show wpAny _ _ (field (.ref it) 0>>=_) _ _ s
 refine QKq (QGz ho hd (x:=.ref l) rfl ?_)
 show wpAny _ _ (if (Value.ref l==Value.none)=true then _ else _) _ _ s
 rw[if_neg (show¬((Value.ref l==Value.none)=true)from Qjz)]
 show wpAny _ _ (field (.ref it) 1>>=_) _ _ s
 refine QKq (QGz ho hd (x:=.int i 0) rfl ?_)
 show wpAny _ _ (seqItems? (.ref l)>>=_) _ _ s
 refine QKq (wpAny_seqItems hol hdl ?_)
 simp only[Int.toNat_natCast,hx]
 refine QKq (wpAny_rule (QKq (wpAny_setField ho hd (by simp) ?_)))
 show wpAny _ _ (newExc (.type "StopIteration") []>>=_) _ _ _
 refine QKq ?_
 simp only[newExc,newTuple]
 refine QKq (Qjq ?_ (by size_fits))
 refine QKq (m:=firstArgMember _ _) (wpAny_of_eq (a:=Value.none) (by first|rfl|(simp only[firstArgMember];rfl)) ?_)
 refine Qjq ?_ (by size_fits)
 simp only[raiseNew]
 refine QKq (wpAny_handled ?_)
 first|rw[show A.in1.handled=none from hh]|rw[hh]
 refine QKq (QKz (wpAny_throw (hE _ _ (((Heap.SameBut.update ..).extBut.push _).push _) ⟨_,Qzq _ rfl,rfl⟩)))
theorem eG{items}(hit:o5 b s.heap it l i)
  (hl:wD b s.heap l items)(hx:items[i]? =some x)(hQ:∀h',o5 b h' it l (i+1)->Heap.SameBut it s.heap h'->Q x {s with heap:=h'}):
  wpAny (model prog w) A (Builtin.SmallTypes.nextOf (.ref it)) Q E s:=by
 cases b with
 |true=>exact wpAny_nextOf_list_item hit hl hx hQ
 |false=>exact my hit hl hx hQ
theorem jV{items}(hh:A.handled=none)
  (hit:o5 b s.heap it l i)(hl:wD b s.heap l items)(hx:items[i]? =none)
  (hE:∀h' e,Heap.ExtBut it s.heap h'->(∃o,h'.get? e=some o/\o.cls=.type "StopIteration")->E (.ref e) {s with heap:=h'}):
  wpAny (model prog w) A (Builtin.SmallTypes.nextOf (.ref it)) Q E s:=by
 cases b with
 |true=>exact wpAny_nextOf_list_end hh hit hl hx hE
 |false=>exact nD hh hit hl hx hE
end
def gK(h:Heap)(z TI TO:Addr)(f0 f1:Value):Prop:=
 h.get? z=some {cls:=.type "zip",dict:=none,data:=.fields #[f0,f1,.bool false,.ref TI,.ref TO],slots:= #[]}
def F0(f0:Value):Prop:=f0=.none\/∃T:Nat,f0=rawInt T
variable{a f0 f1:Value}{b2:Bool}{i1 i2 l1 l2:Addr}{k1 k2:Nat}{ys:Array Value}
section
variable{prog:Program}{w:World}{A:Around}{E:QZq}{s:Shared}
theorem lR{M:Model}{a:Addr}{Q:Option Obj->Shared->Prop}(h:Q (s.heap.get? a) s):wpAny M A (loadIfAlive a) Q E s:=fun Γ p hΓ=>by
 show Sem.wp M Γ (.loadIfAlive a .pure) _ _ p s
 rw[Sem.wp_loadIfAlive]
 exact(QKz (M:=M) (A:=A) (E:=E) h) Γ p hΓ
theorem wH{z TI TO:Addr}{Q:Bool->Shared->Prop}(hz:gK s.heap z TI TO f0 f1)(h0:F0 f0)(hQ1:Q true s)
  (hQ2:∀h' g1,gK h' z TI TO f0 g1->Heap.SameBut z s.heap h'->Q false {s with heap:=h'}):wpAny (model prog w) A (Builtin.SmallTypes.ownedTupleIsFree (.ref z)) Q E s:=by
 unfold Builtin.SmallTypes.ownedTupleIsFree
 rcases h0 with rfl|⟨T,rfl⟩
 ·exact QKq (QGz hz rfl (x:=.none) rfl (QKz hQ1))
 ·refine QKq (QGz hz rfl (x:=rawInt T) rfl ?_)
  show wpAny _ _ (loadIfAlive ((T:Int).toNat)>>=_) _ _ s
  refine QKq (lR ?_)
  cases hT:s.heap.get? ((T:Int).toNat)with
  |none=>exact QKz hQ1
  |some o=>
   show wpAny _ _ (field (.ref z) 1>>=_) _ _ s
   refine QKq (QGz hz rfl (x:=f1) rfl ?_)
   by_cases hf:(f1 != .bool true)=true
   ·rw[if_pos hf]
    refine QKq (wpAny_setField_rec hz (by simp) fun h' hz' hs'=>QKz (hQ2 h' (.bool true) hz' hs'))
   ·rw[if_neg hf]
    exact QKz (hQ2 s.heap f1 hz (Heap.SameBut.refl ..))
structure Mq(z TI TO i1 i2:Addr)(b1 b2:Bool)(l1 l2:Addr)(k1 k2:Nat)(T:Addr)(x y:Value)(h h':Heap):Prop where
 zr:∃f0 f1,gK h' z TI TO f0 f1/\F0 f0
 ti:IsPair h' TI (.ref i1) (.ref i2)
 to:∃a b,IsPair h' TO a b
 it1:o5 b1 h' i1 l1 k1
 it2:o5 b2 h' i2 l2 k2
 new:IsPair h' T x y
 size:h'.objs.size=T+1
 keep:∀c o,c≠z->c≠TO->c≠i1->c≠i2->h.get? c=some o->h'.get? c=some o
theorem Ej{z TI TO:Addr}{b1:Bool}{y b:Value}(D:ZipApart z TI TO i1 i2 l1 l2)
  (hz:gK s.heap z TI TO f0 f1)(h0:F0 f0)(hTI:IsPair s.heap TI (.ref i1) (.ref i2))(hTO:IsPair s.heap TO a b)
  (h1:o5 b1 s.heap i1 l1 k1)(h2:o5 b2 s.heap i2 l2 k2)(hl1:wD b1 s.heap l1 xs)(hl2:wD b2 s.heap l2 ys)(hx:xs[k1]? =some x)(hy:ys[k2]? =some y)
  (hQ:∀h',Mq z TI TO i1 i2 b1 b2 l1 l2 (k1+1) (k2+1) s.heap.objs.size x y s.heap h'->Q (.ref s.heap.objs.size) {s with heap:=h'}):
  wpAny (model prog w) A (Builtin.«zip.__next__» ⟨[.ref z],[]⟩) (fun fin s'=>∃v,fin=.done (.ret v)/\Q v s') E s:=by
 show wpAny _ _ (field (.ref z) 2>>=_) _ _ _
 refine QKq (QGz hz rfl (x:=.bool false) rfl ?_)
 show wpAny _ _ (field (.ref z) 3>>=_) _ _ _
 refine QKq (QGz hz rfl (x:=.ref TI) rfl ?_)
 refine QKq (wpAny_seqItems hTI rfl ?_)
 show wpAny _ _ (Builtin.SmallTypes.ownedTupleIsFree (.ref z)>>=_) _ _ _
 refine QKq (wH hz h0 ?_ ?_)
 ·--the tuple of its own is used again
  simp only[if_true]
  refine QKq (wpAny_rule ?_)
  refine QKq (QGz hz rfl (x:=.ref TO) rfl ?_)
  refine QKq (wpAny_setField_rec hz (by simp) fun h₁ hz₁ hs₁=>?_)
  replace hz₁:gK h₁ z TI TO .ellipsis f1:=hz₁
  refine QKq ?_
  simp only[List.zipIdx_cons,List.zipIdx_nil,List.forIn_cons,List.forIn_nil]
  refine QKq (QKq (wpAny_onRaise ?_))
  show wpAny _ _ (Builtin.SmallTypes.nextOf (.ref i1)>>=_) _ _ _
  refine QKq (eG (h1.at fun o e=>hs₁.extBut _ _ D.i1z e) (hl1.at fun o e=>hs₁.extBut _ _ D.l1z e) hx fun h₂ h1₂ hs₂=>QKz ?_)
  have hTO₂:IsPair h₂ TO a b:=hs₂.extBut _ _ D.TOi1 (hs₁.extBut _ _ D.TOz hTO)
  refine QKq (wpAny_seqItems hTO₂ rfl ?_)
  refine QKq (wpAny_updateSeq_pair hTO₂ fun h₃ hTO₃ hs₃=>?_)
  replace hTO₃:IsPair h₃ TO x b:=hTO₃
  refine QKq (wpAny_letGo (QKz ?_))
  refine QKq (QKq (wpAny_onRaise ?_))
  show wpAny _ _ (Builtin.SmallTypes.nextOf (.ref i2)>>=_) _ _ _
  refine QKq (eG (h2.at fun o e=>hs₃.extBut _ _ D.TOi2.symm (hs₂.extBut _ _ D.i12.symm (hs₁.extBut _ _ D.i2z e)))
   (hl2.at fun o e=>hs₃.extBut _ _ D.l2TO (hs₂.extBut _ _ D.l2i1 (hs₁.extBut _ _ D.l2z e))) hy fun h₄ h2₄ hs₄=>QKz ?_)
  have hTO₄:IsPair h₄ TO x b:=hs₄.extBut _ _ D.TOi2 hTO₃
  refine QKq (wpAny_seqItems hTO₄ rfl ?_)
  refine QKq (wpAny_updateSeq_pair hTO₄ fun h₅ hTO₅ hs₅=>?_)
  replace hTO₅:IsPair h₅ TO x y:=hTO₅
  refine QKq (wpAny_letGo (QKz (QKz ?_)))
  refine QKq (wpAny_seqItems hTO₅ rfl ?_)
  refine QKq (wpAny_newTuple ?_)
  have hsz:h₅.objs.size=s.heap.objs.size:=by rw[hs₅.1,hs₄.1,hs₃.1,hs₂.1,hs₁.1]
  have hz₅:gK h₅ z TI TO .ellipsis f1:=hs₅.extBut _ _ D.TOz.symm (hs₄.extBut _ _ D.i2z.symm (hs₃.extBut _ _ D.TOz.symm (hs₂.extBut _ _ D.i1z.symm hz₁)))
  have hk₅:∀c o,c≠z->c≠TO->c≠i1->c≠i2->s.heap.get? c=some o->h₅.get? c=some o:=fun c o c1 c2 c3 c4 e=>
   hs₅.extBut _ _ c2 (hs₄.extBut _ _ c4 (hs₃.extBut _ _ c2 (hs₂.extBut _ _ c3 (hs₁.extBut _ _ c1 e))))
  have h1₅:o5 b1 h₅ i1 l1 (k1+1):=h1₂.at fun o e=>hs₅.extBut _ _ D.TOi1.symm (hs₄.extBut _ _ D.i12 (hs₃.extBut _ _ D.TOi1.symm e))
  have h2₅:o5 b2 h₅ i2 l2 (k2+1):=h2₄.at fun o e=>hs₅.extBut _ _ D.TOi2.symm e
  have hzlt:z<h₅.objs.size:=Qqz hz₅
  show wpAny _ _ (Builtin.SmallTypes.ownedTupleHandOut (.ref z) (.ref h₅.objs.size)>>=_) _ _ _
  refine QKq ?_
  unfold Builtin.SmallTypes.ownedTupleHandOut
  have hz₆:gK (h₅.push {cls:=.type "tuple",data:=.seq #[x,y]}) z TI TO .ellipsis f1:=QWq _ hz₅
  refine QKq (wpAny_setField_rec hz₆ (by simp) fun h₇ hz₇ hs₇=>?_)
  replace hz₇:gK h₇ z TI TO (rawInt h₅.objs.size) f1:=hz₇
  refine wpAny_setField_rec hz₇ (by simp) fun h₈ hz₈ hs₈=>?_
  replace hz₈:gK h₈ z TI TO (rawInt h₅.objs.size) (.bool false):=hz₈
  have up:∀c o,c≠z->h₅.get? c=some o->h₈.get? c=some o:=fun c o c1 e=>hs₈.extBut _ _ c1 (hs₇.extBut _ _ c1 (QWq _ e))
  have hT₈:IsPair h₈ h₅.objs.size x y:=hs₈.extBut _ _ (Nat.ne_of_gt hzlt) (hs₇.extBut _ _ (Nat.ne_of_gt hzlt) (Qzq _ rfl))
  have hz8:h₈.objs.size=h₅.objs.size+1:=by rw[hs₈.1,hs₇.1,Heap.size_push]
  rw[hsz]at hz₈ hT₈ hz8
  refine QKz ⟨_,rfl,?_⟩
  show Q (.ref h₅.objs.size) _
  rw[hsz]
  have hTI₅:IsPair h₅ TI (.ref i1) (.ref i2):=hk₅ _ _ D.TIz D.TITO D.TIi1 D.TIi2 hTI
  exact hQ h₈ ⟨⟨_,_,hz₈,.inr ⟨_,rfl⟩⟩,up _ _ D.TIz hTI₅,⟨_,_,up _ _ D.TOz hTO₅⟩,h1₅.at fun o e=>up _ o D.i1z e,h2₅.at fun o e=>up _ o D.i2z e,hT₈,hz8,fun c o c1 c2 c3 c4 e=>up c o c1 (hk₅ c o c1 c2 c3 c4 e)⟩
 ·--it was kept:a new one
  intro h₁ g1 hz₁ hs₁
  simp only[Qxq,if_false]
  refine QKq ?_
  show wpAny _ _ (forIn #[Value.ref i1,Value.ref i2] _ _) _ _ _
  rw[<-Array.forIn_toList]
  simp only[List.forIn_cons,List.forIn_nil]
  refine QKq (QKq (Qqq ?_))
  show wpAny _ _ (Builtin.SmallTypes.nextOf (.ref i1)>>=_) _ _ _
  refine QKq (eG (h1.at fun o e=>hs₁.extBut _ _ D.i1z e) (hl1.at fun o e=>hs₁.extBut _ _ D.l1z e) hx fun h₂ h1₂ hs₂=>QKz ?_)
  refine QKz ?_
  refine QKq (QKq (Qqq ?_))
  show wpAny _ _ (Builtin.SmallTypes.nextOf (.ref i2)>>=_) _ _ _
  refine QKq (eG (h2.at fun o e=>hs₂.extBut _ _ D.i12.symm (hs₁.extBut _ _ D.i2z e))
   (hl2.at fun o e=>hs₂.extBut _ _ D.l2i1 (hs₁.extBut _ _ D.l2z e)) hy fun h₄ h2₄ hs₄=>QKz ?_)
  refine QKz (QKz ?_)
  have hsz:h₄.objs.size=s.heap.objs.size:=by rw[hs₄.1,hs₂.1,hs₁.1]
  have hk:∀c o,c≠z->c≠i1->c≠i2->s.heap.get? c=some o->h₄.get? c=some o:=fun c o c1 c3 c4 e=>hs₄.extBut _ _ c4 (hs₂.extBut _ _ c3 (hs₁.extBut _ _ c1 e))
  refine QKq (wpAny_newTuple (QKz ⟨_,rfl,?_⟩) (by show 2<=sizeLine;rw[sizeLine_eq];decide))
  show Q (.ref h₄.objs.size) {s with heap:=h₄.push {cls:=.type "tuple",data:=.seq #[x,y]}}
  have T:Mq z TI TO i1 i2 b1 b2 l1 l2 (k1+1) (k2+1) s.heap.objs.size x y s.heap (h₄.push {cls:=.type "tuple",data:=.seq #[x,y]}):=by
   refine⟨⟨f0,g1,QWq _ (hs₄.extBut _ _ D.i2z.symm (hs₂.extBut _ _ D.i1z.symm hz₁)),h0⟩,QWq _ (hk _ _ D.TIz D.TIi1 D.TIi2 hTI),⟨a,b,QWq _ (hk _ _ D.TOz D.TOi1 D.TOi2 hTO)⟩,
    h1₂.at fun o e=>QWq _ (hs₄.extBut _ _ D.i12 e),h2₄.at fun o e=>QWq _ e,?_,by rw[Heap.size_push,hsz],fun c o c1 c2 c3 c4 e=>QWq _ (hk c o c1 c3 c4 e)⟩
   rw[<-hsz]
   exact Qzq _ rfl
  rw[hsz]
  exact hQ _ T
theorem Hi{z TI TO:Addr}{b1:Bool}{b:Value}{Q:Fin->Shared->Prop}(hh:A.handled=none)(D:ZipApart z TI TO i1 i2 l1 l2)
  (hz:gK s.heap z TI TO f0 f1)(h0:F0 f0)(hTI:IsPair s.heap TI (.ref i1) (.ref i2))(hTO:IsPair s.heap TO a b)
  (h1:o5 b1 s.heap i1 l1 k1)(h2:o5 b2 s.heap i2 l2 k2)(hl1:wD b1 s.heap l1 xs)(hl2:wD b2 s.heap l2 ys)(hend:xs[k1]? =none\/ys[k2]? =none)
  (hE:∀h' e,(∀c o,c≠z->c≠TO->c≠i1->c≠i2->s.heap.get? c=some o->h'.get? c=some o)->(∃o,h'.get? e=some o/\o.cls=.type "StopIteration")->E (.ref e) {s with heap:=h'}):
  wpAny (model prog w) A (Builtin.«zip.__next__» ⟨[.ref z],[]⟩) Q E s:=by
 show wpAny _ _ (field (.ref z) 2>>=_) _ _ _
 refine QKq (QGz hz rfl (x:=.bool false) rfl ?_)
 show wpAny _ _ (field (.ref z) 3>>=_) _ _ _
 refine QKq (QGz hz rfl (x:=.ref TI) rfl ?_)
 refine QKq (wpAny_seqItems hTI rfl ?_)
 show wpAny _ _ (Builtin.SmallTypes.ownedTupleIsFree (.ref z)>>=_) _ _ _
 refine QKq (wH hz h0 ?_ ?_)
 ·simp only[if_true]
  refine QKq (wpAny_rule ?_)
  refine QKq (QGz hz rfl (x:=.ref TO) rfl ?_)
  refine QKq (wpAny_setField_rec hz (by simp) fun h₁ hz₁ hs₁=>?_)
  replace hz₁:gK h₁ z TI TO .ellipsis f1:=hz₁
  refine QKq ?_
  simp only[List.zipIdx_cons,List.zipIdx_nil,List.forIn_cons,List.forIn_nil]
  refine QKq (QKq (wpAny_onRaise ?_))
  show wpAny _ _ (Builtin.SmallTypes.nextOf (.ref i1)>>=_) _ _ _
  cases hx:xs[k1]? with
  |none=>
   refine QKq (jV hh (h1.at fun o e=>hs₁.extBut _ _ D.i1z e) (hl1.at fun o e=>hs₁.extBut _ _ D.l1z e) hx fun h₂ e hs₂ he=>?_)
   obtain⟨oe,hoe,hce⟩:=he
   have hz₂:gK h₂ z TI TO .ellipsis f1:=hs₂ _ _ D.i1z.symm hz₁
   have hez:e≠z:=fun x=>by subst x;unfold gK at hz₂;rw[hz₂]at hoe;cases hoe;simp at hce
   refine wpAny_setField_rec hz₂ (by simp) fun h₃ _ hs₃=>hE h₃ e (fun c o c1 _ c3 _ x=>hs₃.extBut _ _ c1 (hs₂ _ _ c3 (hs₁.extBut _ _ c1 x))) ⟨oe,hs₃.extBut _ _ hez hoe,hce⟩
  |some x=>
   have hy:ys[k2]? =none:=by
    rcases hend with h|h
    ·rw[hx]at h;cases h
    ·exact h
   refine QKq (eG (h1.at fun o e=>hs₁.extBut _ _ D.i1z e) (hl1.at fun o e=>hs₁.extBut _ _ D.l1z e) hx fun h₂ h1₂ hs₂=>QKz ?_)
   have hTO₂:IsPair h₂ TO a b:=hs₂.extBut _ _ D.TOi1 (hs₁.extBut _ _ D.TOz hTO)
   refine QKq (wpAny_seqItems hTO₂ rfl ?_)
   refine QKq (wpAny_updateSeq_pair hTO₂ fun h₃ hTO₃ hs₃=>?_)
   refine QKq (wpAny_letGo (QKz ?_))
   refine QKq (QKq (wpAny_onRaise ?_))
   show wpAny _ _ (Builtin.SmallTypes.nextOf (.ref i2)>>=_) _ _ _
   refine QKq (jV hh (h2.at fun o e=>hs₃.extBut _ _ D.TOi2.symm (hs₂.extBut _ _ D.i12.symm (hs₁.extBut _ _ D.i2z e)))
    (hl2.at fun o e=>hs₃.extBut _ _ D.l2TO (hs₂.extBut _ _ D.l2i1 (hs₁.extBut _ _ D.l2z e))) hy fun h₄ e hs₄ he=>?_)
   obtain⟨oe,hoe,hce⟩:=he
   have hz₄:gK h₄ z TI TO .ellipsis f1:=hs₄ _ _ D.i2z.symm (hs₃.extBut _ _ D.TOz.symm (hs₂.extBut _ _ D.i1z.symm hz₁))
   have hez:e≠z:=fun x=>by subst x;unfold gK at hz₄;rw[hz₄]at hoe;cases hoe;simp at hce
   refine wpAny_setField_rec hz₄ (by simp) fun h₅ _ hs₅=>hE h₅ e (fun c o c1 c2 c3 c4 x=>hs₅.extBut _ _ c1 (hs₄ _ _ c4 (hs₃.extBut _ _ c2 (hs₂.extBut _ _ c3 (hs₁.extBut _ _ c1 x))))) ⟨oe,hs₅.extBut _ _ hez hoe,hce⟩
 ·intro h₁ g1 hz₁ hs₁
  simp only[Qxq,if_false]
  refine QKq ?_
  show wpAny _ _ (forIn #[Value.ref i1,Value.ref i2] _ _) _ _ _
  rw[<-Array.forIn_toList]
  simp only[List.forIn_cons,List.forIn_nil]
  refine QKq (QKq (Qqq ?_))
  show wpAny _ _ (Builtin.SmallTypes.nextOf (.ref i1)>>=_) _ _ _
  cases hx:xs[k1]? with
  |none=>
   exact QKq (jV hh (h1.at fun o e=>hs₁.extBut _ _ D.i1z e) (hl1.at fun o e=>hs₁.extBut _ _ D.l1z e) hx fun h₂ e hs₂ he=>hE h₂ e (fun c o c1 _ c3 _ x=>hs₂ _ _ c3 (hs₁.extBut _ _ c1 x)) he)
  |some x=>
   have hy:ys[k2]? =none:=by
    rcases hend with h|h
    ·rw[hx]at h;cases h
    ·exact h
   refine QKq (eG (h1.at fun o e=>hs₁.extBut _ _ D.i1z e) (hl1.at fun o e=>hs₁.extBut _ _ D.l1z e) hx fun h₂ h1₂ hs₂=>QKz ?_)
   refine QKz ?_
   refine QKq (QKq (Qqq ?_))
   show wpAny _ _ (Builtin.SmallTypes.nextOf (.ref i2)>>=_) _ _ _
   exact QKq (jV hh (h2.at fun o e=>hs₂.extBut _ _ D.i12.symm (hs₁.extBut _ _ D.i2z e))
    (hl2.at fun o e=>hs₂.extBut _ _ D.l2i1 (hs₁.extBut _ _ D.l2z e)) hy fun h₄ e hs₄ he=>hE h₄ e (fun c o c1 _ c3 c4 x=>hs₄ _ _ c4 (hs₂.extBut _ _ c3 (hs₁.extBut _ _ c1 x))) he)
theorem o8{z TI TO:Addr}{b1:Bool}{y b:Value}{Q:Option Value->Shared->Prop}(D:ZipApart z TI TO i1 i2 l1 l2)
  (hz:gK s.heap z TI TO f0 f1)(h0:F0 f0)(hTI:IsPair s.heap TI (.ref i1) (.ref i2))(hTO:IsPair s.heap TO a b)
  (h1:o5 b1 s.heap i1 l1 k1)(h2:o5 b2 s.heap i2 l2 k2)(hl1:wD b1 s.heap l1 xs)(hl2:wD b2 s.heap l2 ys)(hx:xs[k1]? =some x)(hy:ys[k2]? =some y)
  (hQ:∀h',Mq z TI TO i1 i2 b1 b2 l1 l2 (k1+1) (k2+1) s.heap.objs.size x y s.heap h'->Q (some (.ref s.heap.objs.size)) {s with heap:=h'}):
  wpAny (model prog w) A (pyNext (.ref z)) Q E s:=by
 have hT:s.TypeIs (.ref z) "zip":=⟨_,hz,rfl⟩
 unfold pyNext
 exact QKq (wpAny_attempt (wpAny_callSpecial?_slot (name:=Str.ofString "__next__") hT PySem.F.slot_zip_next
  (Qzz PySem.F.slot_zip_next hT PySem.F.entry_zip_next
   (Ej D hz h0 hTI hTO h1 h2 hl1 hl2 hx hy fun h' T=>QKz (hQ h' T)) (PySem.F.args_zip_next_1 _))))
theorem qy{z TI TO:Addr}{b1:Bool}{b:Value}{Q:Option Value->Shared->Prop}(hh:A.handled=none)(D:ZipApart z TI TO i1 i2 l1 l2)
  (hz:gK s.heap z TI TO f0 f1)(h0:F0 f0)(hTI:IsPair s.heap TI (.ref i1) (.ref i2))(hTO:IsPair s.heap TO a b)
  (h1:o5 b1 s.heap i1 l1 k1)(h2:o5 b2 s.heap i2 l2 k2)(hl1:wD b1 s.heap l1 xs)(hl2:wD b2 s.heap l2 ys)(hend:xs[k1]? =none\/ys[k2]? =none)
  (hQ:∀h',(∀c o,c≠z->c≠TO->c≠i1->c≠i2->s.heap.get? c=some o->h'.get? c=some o)->Q none {s with heap:=h'}):wpAny (model prog w) A (pyNext (.ref z)) Q E s:=by
 have hT:s.TypeIs (.ref z) "zip":=⟨_,hz,rfl⟩
 unfold pyNext
 refine QKq (wpAny_attempt (wpAny_callSpecial?_slot (name:=Str.ofString "__next__") hT PySem.F.slot_zip_next
  (Qzz PySem.F.slot_zip_next hT PySem.F.entry_zip_next (Hi hh D hz h0 hTI hTO h1 h2 hl1 hl2 hend fun h' e hk he=>?_) (PySem.F.args_zip_next_1 _))))
 obtain⟨o,ho,hc⟩:=he
 refine QKq (wpAny_isInstance (T:="StopIteration") (b:=true) ⟨o,ho,hc⟩ isSubtype_stop ?_)
 exact QKz (hQ _ hk)
end
section
variable{prog:Program}{w:World}{A:Around}{E:QZq}{s:Shared}
theorem Gk{tg:Expr}{z TI TO T:Addr}{Q:Unit->Shared->Prop}(hz:gK s.heap z TI TO f0 f1)(h0:F0 f0)
  (hQ:∀h' g0,gK h' z TI TO g0 f1->F0 g0->Heap.SameBut z s.heap h'->Q () {s with heap:=h'}):wpAny (model prog w) A (letOwnedTupleGo tg (.ref z) (.ref T)) Q E s:=by
 have same:Q () s:=hQ s.heap f0 hz h0 (Heap.SameBut.refl ..)
 have go:wpAny (model prog w) A (do
   let o<-load z
   match o.cls,o.data with
   |.type n,.fields vs=>
    if ["enumerate","zip","dict_itemiterator","dict_reverseitemiterator","odict_iterator","itertools.zip_longest","itertools.pairwise"].contains n&&vs[0]? ==some (rawInt T)then
     rule "for.unpacks-the-owned-tuple"
     updateField z 0 .none
   |_,_=>pure ()) Q E s:=by
  refine QKq (wpAny_load hz ?_)
  show wpAny _ _ (if (["enumerate","zip","dict_itemiterator","dict_reverseitemiterator","odict_iterator","itertools.zip_longest","itertools.pairwise"].contains "zip"&&
   (#[f0,f1,.bool false,.ref TI,.ref TO]:Array Value)[0]? ==some (rawInt T))=true then _ else _) Q E s
  split
  ·refine QKq (wpAny_rule ?_)
   show wpAny _ _ (setField (.ref z) 0 .none) Q E s
   exact wpAny_setField_rec hz (by simp) fun h' hz' hs'=>hQ h' .none hz' (.inl rfl) hs'
  ·exact QKz same
 unfold letOwnedTupleGo
 cases tg<;>first
  |exact QKz same
  |exact go
theorem ir{z TI TO:Addr}(hz:gK s.heap z TI TO f0 f1)(h:Q (.ref z) s):wpAny (model prog w) A (pyIter (.ref z)) Q E s:=by
 have hT:s.TypeIs (.ref z) "zip":=⟨_,hz,rfl⟩
 refine wpAny_pyIter_slot hT PySem.F.slot_zip_iter (Qzz PySem.F.slot_zip_iter hT PySem.F.entry_zip_iter ?_ (PySem.F.args_zip_iter_1 _))
 show wpAny _ _ (ret (.ref z)) _ _ s
 exact QKz ⟨_,rfl,"zip",_,hT,PySem.F.slot_zip_next.lookup,h⟩
end
def itN(b:Bool):String:=if b then "list_iterator" else "tuple_iterator"
abbrev zH1(b1:Bool)(h:Heap)(l1:Addr):Heap:=h.push {cls:=.type (itN b1),data:=.fields #[.ref l1,.int 0 0]}
abbrev zH2(b1 b2:Bool)(h:Heap)(l1 l2:Addr):Heap:=(zH1 b1 h l1).push {cls:=.type (itN b2),data:=.fields #[.ref l2,.int 0 0]}
abbrev zH3(b1 b2:Bool)(h:Heap)(l1 l2:Addr):Heap:=(zH2 b1 b2 h l1 l2).push {cls:=.type "tuple",data:=.seq #[.ref h.objs.size,.ref (zH1 b1 h l1).objs.size]}
abbrev zH4(b1 b2:Bool)(h:Heap)(l1 l2:Addr):Heap:=(zH3 b1 b2 h l1 l2).push {cls:=.type "tuple",data:=.seq #[.none,.none]}
abbrev M6(b1 b2:Bool)(h:Heap)(l1 l2:Addr):Heap:=(zH4 b1 b2 h l1 l2).push {cls:=.type "zip",data:=.fields #[.none,.bool false,.bool false,.ref (zH2 b1 b2 h l1 l2).objs.size,.ref (zH3 b1 b2 h l1 l2).objs.size]}
theorem Hh(b1 b2:Bool)(l1 l2:Addr)(xs ys:Array Value):
  Meets (Builtin.«zip.__new__» ⟨[.type "zip",.ref l1,.ref l2],[]⟩) (fun _ R s=>wD b1 s.heap l1 xs/\wD b2 s.heap l2 ys/\
   R (.ok (.ret (.ref (zH4 b1 b2 s.heap l1 l2).objs.size))) {s with heap:=M6 b1 b2 s.heap l1 l2}):=
 .of_wp fun prog w A R s h=>by
  obtain⟨hp,g,d,tk,os⟩:=s;obtain⟨hl1,hl2,h⟩:=h
  have hsub:=sub_zip
  cases b1<;>cases b2
  ·have hL1:Heap.IsTuple (Shared.heap ⟨hp,g,d,tk,os⟩) l1 xs:=hl1
   have hL2:Heap.IsTuple (Shared.heap ⟨hp.push {cls:=.type "tuple_iterator",data:=.fields #[.ref l1,.int 0 0]},g,d,tk,os⟩) l2 ys:=hl2.at (b:=false) fun o e=>QWq _ e
   wp_walk using wpAny_pyIter_tuple hL1,wpAny_pyIter_tuple hL2
   exact⟨_,rfl,h⟩
  ·have hL1:Heap.IsTuple (Shared.heap ⟨hp,g,d,tk,os⟩) l1 xs:=hl1
   have hL2:Heap.IsList (Shared.heap ⟨hp.push {cls:=.type "tuple_iterator",data:=.fields #[.ref l1,.int 0 0]},g,d,tk,os⟩) l2 ys:=hl2.at (b:=true) fun o e=>QWq _ e
   wp_walk using wpAny_pyIter_tuple hL1,wpAny_pyIter_list hL2
   exact⟨_,rfl,h⟩
  ·have hL1:Heap.IsList (Shared.heap ⟨hp,g,d,tk,os⟩) l1 xs:=hl1
   have hL2:Heap.IsTuple (Shared.heap ⟨hp.push {cls:=.type "list_iterator",data:=.fields #[.ref l1,.int 0 0]},g,d,tk,os⟩) l2 ys:=hl2.at (b:=false) fun o e=>QWq _ e
   wp_walk using wpAny_pyIter_list hL1,wpAny_pyIter_tuple hL2
   exact⟨_,rfl,h⟩
  ·have hL1:Heap.IsList (Shared.heap ⟨hp,g,d,tk,os⟩) l1 xs:=hl1
   have hL2:Heap.IsList (Shared.heap ⟨hp.push {cls:=.type "list_iterator",data:=.fields #[.ref l1,.int 0 0]},g,d,tk,os⟩) l2 ys:=hl2.at (b:=true) fun o e=>QWq _ e
   wp_walk using wpAny_pyIter_list hL1,wpAny_pyIter_list hL2
   exact⟨_,rfl,h⟩
structure yP(z TI TO i1 i2:Addr)(b1 b2:Bool)(l1 l2:Addr)(k:Nat)(h:Heap):Prop where
 zr:∃f0 f1,gK h z TI TO f0 f1/\F0 f0
 ti:IsPair h TI (.ref i1) (.ref i2)
 to:∃a b,IsPair h TO a b
 it1:o5 b1 h i1 l1 k
 it2:o5 b2 h i2 l2 k
section
variable{prog:Program}{w:World}{A:Around}{E:QZq}{s:Shared}
theorem uK{b1:Bool}(hl1:wD b1 s.heap l1 xs)(hl2:wD b2 s.heap l2 ys)
  (h:∀h',yP (s.heap.objs.size+4) (s.heap.objs.size+2) (s.heap.objs.size+3) s.heap.objs.size (s.heap.objs.size+1) b1 b2 l1 l2 0 h'->h'.objs.size=s.heap.objs.size+5->
   (∀c o,s.heap.get? c=some o->h'.get? c=some o)->Q (.ref (s.heap.objs.size+4)) {s with heap:=h'}):
  wpAny (model prog w) A (call (.type "zip") [.ref l1,.ref l2]) Q E s:=by
 refine callType_new PySem.F.called_zip (by decide) (PySem.F.typeCall_zip_2 _ _) (PySem.F.newCall_zip_2 _ _) (fun obj=>PySem.F.args_object_init_3 obj _ _) PySem.F.entry_zip_new
  (Hh b1 b2 l1 l2 xs ys) ⟨hl1,hl2,?_⟩
 have z1:(zH1 b1 s.heap l1).objs.size=s.heap.objs.size+1:=Heap.size_push ..
 have z2:(zH2 b1 b2 s.heap l1 l2).objs.size=s.heap.objs.size+2:=by rw[Heap.size_push,z1]
 have z3:(zH3 b1 b2 s.heap l1 l2).objs.size=s.heap.objs.size+3:=by rw[Heap.size_push,z2]
 have z4:(zH4 b1 b2 s.heap l1 l2).objs.size=s.heap.objs.size+4:=by rw[Heap.size_push,z3]
 have z5:(M6 b1 b2 s.heap l1 l2).objs.size=s.heap.objs.size+5:=by rw[Heap.size_push,z4]
 have g5:(M6 b1 b2 s.heap l1 l2).get? (zH4 b1 b2 s.heap l1 l2).objs.size=some _:=Qzq _ rfl
 have g4:(M6 b1 b2 s.heap l1 l2).get? (zH3 b1 b2 s.heap l1 l2).objs.size=some _:=QWq _ (Qzq _ rfl)
 have g3:(M6 b1 b2 s.heap l1 l2).get? (zH2 b1 b2 s.heap l1 l2).objs.size=some _:=QWq _ (QWq _ (Qzq _ rfl))
 have g2:(M6 b1 b2 s.heap l1 l2).get? (zH1 b1 s.heap l1).objs.size=some _:=QWq _ (QWq _ (QWq _ (Qzq _ rfl)))
 have g1:(M6 b1 b2 s.heap l1 l2).get? s.heap.objs.size=some _:=QWq _ (QWq _ (QWq _ (QWq _ (Qzq _ rfl))))
 show _/\_
 rw[z2,z3,z4]at g5
 rw[z1,z2]at g3
 rw[z3]at g4
 rw[z1]at g2
 rw[z4]
 have i1:o5 b1 (M6 b1 b2 s.heap l1 l2) s.heap.objs.size l1 0:=by cases b1<;>exact⟨_,g1,rfl,rfl⟩
 have i2:o5 b2 (M6 b1 b2 s.heap l1 l2) (s.heap.objs.size+1) l2 0:=by cases b2<;>exact⟨_,g2,rfl,rfl⟩
 exact⟨⟨_,g5,rfl⟩,h _ ⟨⟨_,_,g5,.inl rfl⟩,g3,⟨_,_,g4⟩,i1,i2⟩ z5 fun c o x=>
  QWq _ (QWq _ (QWq _ (QWq _ (QWq _ x))))⟩
end
theorem sH{n:Addr}(h1:l1<n)(h2:l2<n):ZipApart (n+4) (n+2) (n+3) n (n+1) l1 l2:=zipApart_new h1 h2
variable{H:Hp}{QLz:QQz}{X:Cx}{s:Shared}{σ:L2.St}
theorem Inv.Bv{t':Nat}{ch:List Addr}(I:Inv X QLz σ H s)(k:∀b o,b∉ch->s.heap.get? b=some o->h'.get? b=some o)(hf:∀b∈ch,gj X QLz H b):
  Inv X QLz σ H {s with heap:=h',toks:=t'}:=by
 have nit:∀b u,H b=some u->b∉ch:=fun b u e z=>by rw[(hf b z).1]at e;cases e
 have nL:X.env.locals∉ch:=fun z=>(hf _ z).2.1 rfl
 refine I.step (g':=s.gens) (d':=s.drawn) (ch:=ch) (fun b hb=>⟨(hf b hb).2.2.2.1,(hf b hb).2.1,(hf b hb).2.2.2.2.1,(hf b hb).2.2.2.2.2⟩) (fun b o _ _ hc e _=>k b o hc e) (fun b o _ _ hc e _=>⟨o.slots,k b o hc e⟩) (fun _ _ _ _ n=>n)
  (fun b o hc e=>⟨o,k b o hc e⟩) (fun _ _ e=>e) (fun _ _ _ e=>e) (fun b ps e=>⟨#[],by rw[e];simp⟩) (fun m hm=>?_) (fun b u e=>?_) I.bare
 ·obtain⟨o,es,ep,ho,r⟩:=hm
  exact⟨o,es,ep,k _ o nL ho,r⟩
 ·refine(I.hok b u e).stay (fun c v hc q=>k c v ?_ q) (fun _ q=>q) fun _ _ q=>q
  rcases hc with z|z
  ·rw[z];exact nit b u e
  ·exact nit c _ z
theorem Inv.sO{t':Nat}{ch:List Addr}{a:Addr}{u:HO}(I:Inv X QLz σ H s)(k:∀b o,b∉ch->s.heap.get? b=some o->h'.get? b=some o)(hf:∀b∈ch,gj X QLz H b)
  (ha:s.heap.objs.size<=a)(new:bN X.prog X.w (upd H a u) h' a u):Inv X QLz σ (upd H a u) {s with heap:=h',toks:=t'}:=by
 have hn:H a=none:=I.hok.fresh ha
 have nit:∀b u,H b=some u->b∉ch:=fun b u e z=>by rw[(hf b z).1]at e;cases e
 have nL:X.env.locals∉ch:=fun z=>(hf _ z).2.1 rfl
 have ne:∀b w,H b=some w->b≠a:=fun b w e z=>by subst z;rw[hn]at e;cases e
 refine I.step (g':=s.gens) (d':=s.drawn) (ch:=ch) (fun b hb=>⟨(hf b hb).2.2.2.1,(hf b hb).2.1,(hf b hb).2.2.2.2.1,(hf b hb).2.2.2.2.2⟩) (fun b o _ _ hc e _=>k b o hc e) (fun b o _ _ hc e _=>⟨o.slots,k b o hc e⟩)
  (fun b o _ e n=>by rw[aB (Qvz (Qvq (Qqz e) ha))];exact n)
  (fun b o hc e=>⟨o,k b o hc e⟩) (fun b xs e=>by rw[aB (ne b _ e)];exact e) (fun b o w e=>by rw[aB (ne b _ e)];exact e) (fun b ps e=>⟨#[],by rw[aB (ne b _ e),e];simp⟩) (fun m hm=>?_) (fun b w e=>?_) I.bare
 ·obtain⟨o,es,ep,ho,r⟩:=hm
  exact⟨o,es,ep,k _ o nL ho,r⟩
 ·by_cases hb:b=a
  ·subst hb
   rw[aP]at e
   cases e
   exact new
  ·rw[aB hb]at e
   refine(I.hok b w e).stay (fun c v hc q=>k c v ?_ q) (fun c q=>by rw[aB (ne c _ q)];exact q) fun c xs q=>by rw[aB (ne c _ q)];exact q
   rcases hc with z|z
   ·rw[z];exact nit b w e
   ·exact nit c _ z
def Ms(K:QQq)(b:Bool)(H:Hp)(l:Addr)(vs:List V):Prop:=match b with|true=>Eh K H l vs|false=>gO K H l vs
variable{vs:List V}
theorem bK.u5{K:QQq}{H':Hp}(p:bK H H')(h:Ms K b H l vs):Ms K b H' l vs:=by
 cases b with
 |true=>exact p.QJ h
 |false=>exact p.Et h
theorem Inv.u5(I:Inv X QLz σ H s)(h:Ms X.K b H l vs):∃its:List Value,Vals vs its/\wD b s.heap l its.toArray/\vs.length<=sizeLine/\l<s.heap.objs.size:=by
 cases b with
 |true=>
  obtain⟨its,r,p,z⟩:=I.list (Eh.sq h)
  obtain⟨o,e,_⟩:=p.isList
  exact⟨its,r,p.isList,z,Qqz e⟩
 |false=>
  obtain⟨its,r,p,z⟩:=I.tuple h
  obtain⟨o,e,_⟩:=id p
  exact⟨its,r,p,z,Qqz e⟩
def Itz(K:QQq)(b1 b2:Bool)(l1 l2:Addr)(vs ws:List V):It:=
 ⟨fun i H=>Ms K b1 H l1 vs/\Ms K b2 H l2 ws/\∃v u,vs[i]? =some v/\ws[i]? =some u,
  fun i H x H'=>∃p v u,H p=none/\x=.ref p/\vs[i]? =some v/\ws[i]? =some u/\H'=upd H p (.tup [v,u]),
  fun i H=>Ms K b1 H l1 vs/\Ms K b2 H l2 ws/\(vs.length<=i\/ws.length<=i)⟩
theorem jt{P:Program}{w:World}{K:QQq}{tg:Expr}{z TI TO:Addr}{b1:Bool}{ws:List V}(D:ZipApart z TI TO i1 i2 l1 l2):
  Turn P w K tg (Itz K b1 b2 l1 l2 vs ws) [z,TI,TO,i1,i2] z (fun i h=>yP z TI TO i1 i2 b1 b2 l1 l2 i h) where
 mem:=by simp
 obj:=fun i h st b hb=>by
  obtain⟨f0,f1,zr,_⟩:=st.zr
  obtain⟨x,y,to⟩:=st.to
  simp only[QCq,QAz,or_false]at hb
  rcases hb with rfl|rfl|rfl|rfl|rfl
  ·exact⟨_,zr,fun v z=>by cases z⟩
  ·exact⟨_,st.ti,fun v z=>by cases z⟩
  ·exact⟨_,to,fun v z=>by cases z⟩
  ·exact st.it1.obj
  ·exact st.it2.obj
 keep:=fun i h h' st k=>by
  obtain⟨f0,f1,zr,hf⟩:=st.zr
  obtain⟨x,y,to⟩:=st.to
  exact⟨⟨f0,f1,k z (by simp) _ zr,hf⟩,k TI (by simp) _ st.ti,⟨x,y,k TO (by simp) _ to⟩,st.it1.at fun o e=>k i1 (by simp) o e,st.it2.at fun o e=>k i2 (by simp) o e⟩
 item:=by
  intro X hP hw hK hc i QLz s σ H E I hf st hg
  subst hP hw hK
  obtain⟨hq1,hq2,v,u,ev,eu⟩:=hg
  obtain⟨its,r1,p1,_,_⟩:=Inv.u5 I hq1
  obtain⟨its2,r2,p2,_,_⟩:=Inv.u5 I hq2
  obtain⟨x,ex,rx⟩:=r1.get ev
  obtain⟨y,ey,ry⟩:=r2.get eu
  obtain⟨f0,f1,zr,h0⟩:=st.zr
  obtain⟨a,b,to⟩:=st.to
  refine o8 D zr h0 st.ti to st.it1 st.it2 p1 p2 (x:=x) (y:=y) (by simpa using ex) (by simpa using ey) fun h' T=>?_
  obtain⟨g0,g1,zr',h0'⟩:=T.zr
  refine⟨_,rfl,Gk (s:={s with heap:=h'}) zr' h0' fun h'' q0 zr'' hq0 sb=>?_⟩
  have f1':∀b∈[z,TO,i1,i2],gj X QLz H b:=fun b hb=>hf b (by
   simp only[QCq,QAz,or_false]at hb⊢
   rcases hb with h|h|h|h<;>simp[h])
  have kk:∀b o,b∉[z,TO,i1,i2]->s.heap.get? b=some o->h''.get? b=some o:=fun b o hb e=>by
   simp only[QCq,QAz,or_false,not_or]at hb
   exact sb.extBut _ _ hb.1 (T.keep b o hb.1 hb.2.1 hb.2.2.1 hb.2.2.2 e)
  have new'':IsPair h'' s.heap.objs.size x y:=sb.extBut _ _ (by
   obtain⟨q,e,_⟩:∃q,s.heap.get? z=some q/\True:=⟨_,zr,trivial⟩
   exact Nat.ne_of_gt (Qqz e)) T.new
  have nz:∀b∈[z,TO,i1,i2],b<s.heap.objs.size:=fun b hb=>by
   simp only[QCq,QAz,or_false]at hb
   rcases hb with rfl|rfl|rfl|rfl
   ·exact Qqz zr
   ·exact Qqz to
   ·exact st.it1.lt
   ·exact st.it2.lt
  have I1:Inv X QLz σ (upd H s.heap.objs.size (.tup [v,u])) {s with heap:=h''}:=by
   refine Inv.sO (t':=s.toks) I kk f1' (QVz _) ⟨by show 2<=sizeLine;rw[sizeLine_eq];decide,[x,y],.cons rx (.cons ry .nil),_,new'',rfl,rfl,_,rfl⟩
  refine⟨.ref s.heap.objs.size,upd H s.heap.objs.size (.tup [v,u]),I1,rfl,⟨_,v,u,I.hok.fresh (QVz _),rfl,ev,eu,rfl⟩,?_,fun b hb=>?_⟩
  ·have up:∀c o,c≠z->h'.get? c=some o->h''.get? c=some o:=fun c o hcz e=>sb.extBut _ _ hcz e
   obtain⟨a',b',to'⟩:=T.to
   exact⟨⟨q0,g1,zr'',hq0⟩,up _ _ D.TIz T.ti,⟨a',b',up _ _ D.TOz to'⟩,T.it1.at fun o e=>up _ o D.i1z e,T.it2.at fun o e=>up _ o D.i2z e⟩
  ·have lt:b<s.heap.objs.size:=by
    simp only[QCq,QAz,or_false]at hb
    rcases hb with rfl|rfl|rfl|rfl|rfl
    ·exact Qqz zr
    ·exact Qqz st.ti
    ·exact Qqz to
    ·exact st.it1.lt
    ·exact st.it2.lt
   rw[aB (Qvz lt)]
   exact(hf b hb).1
 done:=by
  intro X hP hw hK hc i QLz s σ H E I hf st hg
  subst hP hw hK
  obtain⟨hq1,hq2,hend⟩:=hg
  obtain⟨its,r1,p1,_,_⟩:=Inv.u5 I hq1
  obtain⟨its2,r2,p2,_,_⟩:=Inv.u5 I hq2
  have l1:=r1.length
  have l2:=r2.length
  obtain⟨f0,f1,zr,h0⟩:=st.zr
  obtain⟨a,b,to⟩:=st.to
  refine qy (I.ok.hd hc) D zr h0 st.ti to st.it1 st.it2 p1 p2 ?_ fun h' kk=>⟨rfl,?_⟩
  ·rcases hend with h|h
   ·exact .inl (by simp;omega)
   ·exact .inr (by simp;omega)
  ·refine Inv.Bv (t':=s.toks) (ch:=[z,TO,i1,i2]) I (fun b o hb e=>?_) fun b hb=>hf b (by
    simp only[QCq,QAz,or_false]at hb⊢
    rcases hb with h|h|h|h<;>simp[h])
   simp only[QCq,QAz,or_false,not_or]at hb
   exact kk b o hb.1 hb.2.1 hb.2.2.1 hb.2.2.2 e
 self:=fun A i s Q E st h=>by
  obtain⟨f0,f1,zr,h0⟩:=st.zr
  exact ir zr h
end Mini
end
section
namespace Mini
open PySem L2
theorem jn:∀{xs ys:List D}{i:Nat}{d:D},(aC xs ys)[i]? =some d->∃x y,xs[i]? =some x/\ys[i]? =some y/\d=.tup [x,y]
 |[],_,i,d,h=>by simp[aC]at h
 |_::_,[],i,d,h=>by simp[aC]at h
 |x::xs,y::ys,0,d,h=>by simp[aC]at h;exact⟨x,y,rfl,rfl,h.symm⟩
 |x::xs,y::ys,i+1,d,h=>by
  rw[aC,List.getElem?_cons_succ]at h
  simpa using jn h
theorem jm:∀(xs ys:List D),(aC xs ys).length=min xs.length ys.length
 |[],ys=>by simp[aC]
 |_::_,[]=>by simp[aC]
 |x::xs,y::ys=>by rw[aC,QBq,jm xs ys,QBq,QBq];omega
theorem uD{K:QQq}{H:Hp}{b1 b2:Bool}{l1 l2:Addr}{vs ws:List V}{xs ys:List D}(h1:Ms K b1 H l1 vs)(h2:Ms K b2 H l2 ws)(d1:ao K H xs vs)(d2:ao K H ys ws)(hz:vs.length<=sizeLine):
  Gives K (Itz K b1 b2 l1 l2 vs ws) (aC xs ys) H where
 go:=fun H1 p i d e=>by
  obtain⟨x,y,ex,ey,_⟩:=jn e
  obtain⟨v,ev,_⟩:=d1.get ex
  obtain⟨u,eu,_⟩:=d2.get ey
  exact⟨p.u5 h1,p.u5 h2,v,u,ev,eu⟩
 yld:=fun H1 p i d e x H2 y=>by
  obtain⟨a,v,u,hn,rfl,ev,eu,rfl⟩:=y
  obtain⟨dx,dy,ex,ey,rfl⟩:=jn e
  obtain⟨v',ev',dv⟩:=d1.get ex
  obtain⟨u',eu',du⟩:=d2.get ey
  rw[ev]at ev'
  rw[eu]at eu'
  cases ev'
  cases eu'
  have pp:bK H1 (upd H1 a (.tup [v,u])):=by
   refine⟨fun b xs q=>?_,fun b o w q=>?_⟩
   ·rw[aB (fun z=>by subst z;rw[hn]at q;cases q)];exact q
   ·rw[aB (fun z=>by subst z;rw[hn]at q;cases q)];exact q
  exact⟨dB (.inl (.inl aP)) (ao.cN ((dv.mono p).mono pp) (ao.cN ((du.mono p).mono pp) ao.dY)),.inr ⟨a,_,hn,rfl⟩⟩
 stop:=fun H1 p i hi=>by
  rw[jm]at hi
  have:=d1.length
  have:=d2.length
  exact⟨p.u5 h1,p.u5 h2,by omega⟩
 len:=by rw[jm];have:=d1.length;omega
theorem bz.u5{K:QQq}{H:Hp}{d:D}{xs:List D}{v:V}(h:bz K H d v)(e:bw d=some xs):∃b l vs,v=.ref l/\Ms K b H l vs/\ao K H xs vs:=by
 cases d with
 |tup ys=>cases e;obtain⟨a,vs,rfl,hq,l⟩:=cI h;exact⟨false,a,vs,rfl,hq,l⟩
 |lst ys=>cases e;obtain⟨a,vs,rfl,hq,l⟩:=cV h;exact⟨true,a,vs,rfl,hq,l⟩
 |_=>cases e
section
variable{K:QQq}{W:Wi}{env:Ev}{σ:St}{H:Hp}{R:It->Hp->Prop}
theorem ZX{env1:Ev}{H1:Hp}{r:Out Rv}(h:tI K W env r σ H R)(N:Nx K env σ H env1 H1):tI K W env1 r σ H1 R:=by
 obtain⟨_,h⟩:=h
 refine⟨N.eU,?_⟩
 cases r with
 |bad=>exact h
 |exc c env2=>exact fun H' N'=>h H' (N.trans N')
 |ok x env2=>
  obtain⟨d,xs,e1,e2,z⟩:=h
  exact⟨d,xs,e1,e2,fun J H' N' G=>z J H' (N.trans N') G⟩
theorem pX{r:Out Rv}{f:D->Ev->Out Rv}{R':VK}(h:tI K W env (r.ak f) σ H R)
  (k:∀d env1 v H1,Nx K env σ H env1 H1->bz K H1 d v->tI K W env1 (f d env1) σ H1 R->R' v H1):tD K W env r σ H R':=by
 have step:∀d env1,r.ak f=f d env1->∀v H1,Nx K env σ H env1 H1->bz K H1 d v->R' v H1:=fun d env1 e v H1 N D=>by
  rw[e]at h
  exact k d env1 v H1 N D (ZX h N)
 obtain⟨S,h⟩:=h
 refine⟨S,?_⟩
 cases r with
 |bad=>exact h
 |exc c env1=>exact h
 |ok x env1=>
  cases x with
  |val d=>exact fun v H1 N D=>step d env1 rfl v H1 N D
  |new xs=>exact fun v H1 N D=>step xs.d env1 rfl v H1 N D
  |ref i=>exact h
  |tmp xs=>exact h
end
section
variable{X:Cx}{W:Wi}{c:Cf}{m1 m2:E}{a b tg:Expr}{pos p:Pos}
theorem WY(ha:GE X W c m1 a)(hb:GE X W c m2 b)(hg:Gl X "zip")(hm:X.mg "zip"=none)(hs:starEach [a,b] X.env=[(false,eval a X.env),(false,eval b X.env)])(hs2:starEach [b] X.env=[(false,eval b X.env)]):
  GI X W c (.zip m1 m2) tg (.Call (.Name "zip" p) [a,b] [] pos):=by
 intro env QLz s σ H R I q
 simp only[Hn]at q
 let RR:List V->Hp->Prop:=fun vs H'=>∃env2 d1 d2 xs ys v1 v2,vs=[v1,v2]/\bz X.K H' d1 v1/\bz X.K H' d2 v2/\bw d1=some xs/\bw d2=some ys/\Sat X.K env2 σ H'/\∀J H2,Nx X.K env2 σ H' env2 H2->Gives X.K J (aC xs ys) H2->R J H2
 have go:aD X W c m1 σ H fun v1 H1=>aD X W c m2 σ H1 fun v2 H2=>RR [v1,v2] H2:=by
  refine⟨env,pX q fun d1 env1 v1 H1 N1 D1 q1=>⟨env1,pX q1 fun d2 env2 v2 H2 N2 D2 q2=>?_⟩⟩
  cases e1:bw d1 with
  |none=>rw[e1]at q2;exact q2.2.elim
  |some xs=>
   cases e2:bw d2 with
   |none=>rw[e1,e2]at q2;exact q2.2.elim
   |some ys=>
    rw[e1,e2]at q2
    obtain⟨S,d,zs,z1,z2,z3⟩:=q2
    cases z1
    cases z2
    exact⟨env2,d1,d2,xs,ys,v1,v2,rfl,D1.mono N2.pers,D2,e1,e2,S,z3⟩
 refine wpAny_Call_Name_kw (iB I hg hm PyProof.Rows.boot_zip ?_ (by decide) (by decide))
 refine PyProof.Rows.callWith_type1 (bW (cG ha.d (cG hb.d eF hs2) (by rw[hs,hs2]) pos QLz s σ H RR I go) fun us s1⟨vs,H1,I1,r1,q1⟩=>?_) (by rw[hs,hs2]) (by rw[hs2];rfl)
 obtain⟨env2,d1,d2,xs,ys,v1,v2,rfl,D1,D2,e1,e2,S2,q3⟩:=q1
 obtain⟨b1,l1,vs,rfl,h1,dl1⟩:=D1.u5 e1
 obtain⟨b2,l2,ws,rfl,h2,dl2⟩:=D2.u5 e2
 obtain⟨u1,u2,rfl,ru1,ru2⟩:=Vals.two r1
 cases ru1
 cases ru2
 obtain⟨its,rr1,p1,z1,lt1⟩:=Inv.u5 I1 h1
 obtain⟨its2,rr2,p2,z2,lt2⟩:=Inv.u5 I1 h2
 refine uK p1 p2 fun h' st sz kk=>?_
 obtain⟨f0,f1,zr,h0⟩:=st.zr
 refine ir zr ?_
 refine⟨s1.heap.objs.size+4,[s1.heap.objs.size+4,s1.heap.objs.size+2,s1.heap.objs.size+3,s1.heap.objs.size,s1.heap.objs.size+1],_,_,H1,rfl,I1.kept (t':=s1.toks) kk,jt (vs:=vs) (ws:=ws) (sH lt1 lt2),st,fun b hb=>?_,q3 _ H1 (Nx.refl S2) (uD h1 h2 dl1 dl2 z1)⟩
 have hb':s1.heap.objs.size<=b:=by
  simp only[QCq,QAz,or_false]at hb
  rcases hb with rfl|rfl|rfl|rfl|rfl<;>omega
 exact I1.yt hb' (I1.hok.fresh hb')
end
end Mini
end
section
namespace Mini
open PySem
variable{A:Around}{Q:Option Value->Shared->Prop}{a:Addr}{prog:Program}{s:Shared}{sl:Array (Option Value)}{xs:Array Value}
theorem qL{w:World}{E:QZq}{k:Nat}
  (hx:s.heap.get? a=some {cls:=.type "list",dict:=none,data:=.seq xs k,slots:=sl})(hA:A.handled=none)
  (h:∀h' tk,(∀b o,s.heap.get? b=some o->h'.get? b=some o)->Q none {s with heap:=h',toks:=tk}):
  wpAny (model prog w) A (getAttr? (.ref a) "keys") Q E s:=by
 obtain⟨hp,g,d,tk,os⟩:=s
 have hT:∀tk',(⟨hp,g,d,tk',os⟩:Shared).TypeIs (.ref a) "list":=fun _=>⟨_,hx,rfl⟩
 have f1:=sub_AttributeError
 have f3:=F.slot_list_getattribute.lookup
 have f4:=F.slot_list_getattribute.bind (.ref a)
 have f5:=am_list_getattr_none
 have hmiss:typeLookup (.type "list") "keys"=pure none:=am_miss_of_fast (by kernel_rfl)
 unfold getAttr? getAttrBy? getAttrBy
 repeat (any_goals (first|assumption|exact hT _|((with_reducible show wpAny _ _ (call (Value.builtin "list.__getattribute__") _ _) _ _ _);refine call_meets F.slot_list_getattribute (hT _) am_entry_list_getattribute (F.args_list_getattribute_2 _ _) (meets_getattribute_miss_list a xs k sl "keys" _ hmiss (by decide+kernel) (by size_fits)) ⟨hx,hA,fun h' tk' e hx'=>?_⟩)|wp_step))
 obtain⟨t',u',he⟩:=hx'.there
 show wpAny _ _ (getattributeRaised _ _ _ _ _ _ _) _ _ _
 unfold getattributeRaised
 repeat (any_goals (first|assumption|wp_step))
 all_goals exact h _ _ hx'.keeps
theorem o9{w:World}{E:QZq}{k:Nat}
  (hx:s.heap.get? a=some {cls:=.type "tuple",dict:=none,data:=.seq xs k,slots:=sl})(hA:A.handled=none)
  (h:∀h' tk,(∀b o,s.heap.get? b=some o->h'.get? b=some o)->Q none {s with heap:=h',toks:=tk}):
  wpAny (model prog w) A (getAttr? (.ref a) "keys") Q E s:=by
 obtain⟨hp,g,d,tk,os⟩:=s
 have hT:∀tk',(⟨hp,g,d,tk',os⟩:Shared).TypeIs (.ref a) "tuple":=fun _=>⟨_,hx,rfl⟩
 have f1:=sub_AttributeError
 have f3:=F.slot_tuple_getattribute.lookup
 have f4:=F.slot_tuple_getattribute.bind (.ref a)
 have f5:=am_tuple_getattr_none
 have hmiss:typeLookup (.type "tuple") "keys"=pure none:=am_miss_of_fast (by kernel_rfl)
 unfold getAttr? getAttrBy? getAttrBy
 repeat (any_goals (first|assumption|exact hT _|((with_reducible show wpAny _ _ (call (Value.builtin "tuple.__getattribute__") _ _) _ _ _);refine call_meets F.slot_tuple_getattribute (hT _) am_entry_tuple_getattribute (F.args_tuple_getattribute_2 _ _) (meets_getattribute_miss_tuple a xs k sl "keys" _ hmiss (by decide+kernel) (by size_fits)) ⟨hx,hA,fun h' tk' e hx'=>?_⟩)|wp_step))
 obtain⟨t',u',he⟩:=hx'.there
 show wpAny _ _ (getattributeRaised _ _ _ _ _ _ _) _ _ _
 unfold getattributeRaised
 repeat (any_goals (first|assumption|wp_step))
 all_goals exact h _ _ hx'.keeps
theorem kj:typeLookup (.type "zip") "__getattr__"=pure none:=by rw[typeLookup_type,builtinLookup_eq_fast];kernel_rfl
theorem cC:Slot "zip" "__getattribute__" "zip.__getattribute__":=
 .of (owner:="zip") (n:="__getattribute__") (by rw[typeLookup_type,builtinLookup_eq_fast];kernel_rfl) (by decide+kernel) (by decide+kernel) (by decide+kernel)
  (by first|exact .inl (by decide+kernel)|exact .inr (by decide+kernel)) (by rw[isSubtype_type];kernel_rfl)
theorem gf:entryFor table "zip.__getattribute__"=some Builtin.«object.__getattribute__»:=
 entryFor_alias (id':="object.__getattribute__") (by kernel_rfl) (by decide+kernel) (by decide+kernel) (by kernel_rfl)
theorem gJ(a b:Value):argsOk "zip.__getattribute__" ⟨[a,b],[]⟩:=by
 unfold argsOk;kernel_rfl
theorem fK(a:Addr)(xs:Array Value)(sl:Array (Option Value))(name:Str)(u:Tok)(hmiss:typeLookup (.type "zip") name=pure none)(hname:(["__module__","__name__","__qualname__","__doc__","__annotations__"]:List Str).contains name=false)(hsz:name.length+100<=sizeLine:=by size_fits):
  Meets (Builtin.«object.__getattribute__» ⟨[.ref a,.str name u],[]⟩) (fun A R s=>s.heap.get? a=some {cls:=.type "zip",dict:=none,data:=.fields xs,slots:=sl}/\raisesAttr (.ref a) name A R s):=
 Meets.of_wp fun prog w A R s hs=>by
  obtain⟨hp,g,d,tk,os⟩:=s
  obtain⟨hx,hs⟩:=hs
  have hT:(⟨hp,g,d,tk,os⟩:Shared).TypeIs (.ref a) "zip":=⟨_,hx,rfl⟩
  unfold Builtin.«object.__getattribute__»
  repeat (any_goals (first|assumption|wp_step))
  simp only[hname,Qxq,if_false]
  repeat (any_goals (first|assumption|wp_step))
  exact wpAny_raiseAttrError hs.1 hs.2 (attrMsg_fits (by decide+kernel) hsz)
theorem su{w:World}{E:QZq}
  (hx:s.heap.get? a=some {cls:=.type "zip",dict:=none,data:=.fields xs,slots:=sl})(hA:A.handled=none)
  (h:∀h' tk,(∀b o,s.heap.get? b=some o->h'.get? b=some o)->Q none {s with heap:=h',toks:=tk}):
  wpAny (model prog w) A (getAttr? (.ref a) "keys") Q E s:=by
 obtain⟨hp,g,d,tk,os⟩:=s
 have hT:∀tk',(⟨hp,g,d,tk',os⟩:Shared).TypeIs (.ref a) "zip":=fun _=>⟨_,hx,rfl⟩
 have f1:=sub_AttributeError
 have f3:=cC.lookup
 have f4:=cC.bind (.ref a)
 have f5:=kj
 have hmiss:typeLookup (.type "zip") "keys"=pure none:=am_miss_of_fast (by kernel_rfl)
 unfold getAttr? getAttrBy? getAttrBy
 repeat (any_goals (first|assumption|exact hT _|((with_reducible show wpAny _ _ (call (Value.builtin "zip.__getattribute__") _ _) _ _ _);refine call_meets cC (hT _) gf (gJ _ _) (fK a xs sl "keys" _ hmiss (by decide+kernel) (by size_fits)) ⟨hx,hA,fun h' tk' e hx'=>?_⟩)|wp_step))
 obtain⟨t',u',he⟩:=hx'.there
 show wpAny _ _ (getattributeRaised _ _ _ _ _ _ _) _ _ _
 unfold getattributeRaised
 repeat (any_goals (first|assumption|wp_step))
 all_goals exact h _ _ hx'.keeps
end Mini
end
section
namespace Mini
open PySem L2
variable{H:Hp}{env:Ev}{σ:St}
theorem Nx.chg{K:QQq}{H0:Hp}{d:Addr}{u u':HO}(N:Nx K env σ H0 env H)(S:Sat K env σ H0)(h0:H0 d=none)(h:H d=some u)(hu:M5 u):Nx K env σ H0 env (upd H d u'):=by
 have p:=gU (u':=u') h hu
 refine⟨N.eU.keep p fun i b w ow hb=>?_,N.sub,N.pers.trans p,fun b w q n=>?_,fun b q=>?_,N.bors⟩
 ·rw[aB (fun z=>by subst z;exact S.kZ h0 i (N.sub i b ow))];exact hb
 ·rw[aB (fun z=>by subst z;rw[h0]at q;cases q)];exact N.keep b w q n
 ·refine N.dom b ?_
  by_cases hb:b=d
  ·subst hb;rw[aP]at q;cases q
  ·rw[aB hb]at q;exact q
theorem Ln{kvs:List (Key×V)}:M5 (.dK kvs):=by
 constructor
 all_goals (intros;intro z;cases z)
variable{vs:List V}
theorem Ec:M5 (.lst vs):=by
 constructor
 all_goals (intros;intro z;cases z)
def Cx.under(X:Cx)(A:Around):Cx:={X with A:=A}
theorem Inv.under{X:Cx}{A:Around}{QLz:QQz}{σ:St}{H:Hp}{s:Shared}(I:Inv X QLz σ H s)(h1:A.handled=X.A.handled)(h2:A.frames=X.A.frames):Inv (Cx.under X A) QLz σ H s:=
 ⟨⟨I.ok.mod,I.ok.kind,I.ok.glob,I.ok.blt,I.ok.above,I.ok.inj,I.ok.has,I.ok.cab,fun hc=>h1.trans (I.ok.hd hc),h2.trans I.ok.frames,I.ok.stk,I.ok.exf,I.ok.bs,I.ok.bsz,I.ok.noex,I.ok.exfs,I.ok.lw,I.ok.frf⟩,
  I.os,I.bare,I.base,I.loc,I.cell,I.free,I.freeC,I.pin,I.hok,I.len⟩
variable{QLz:QQz}{X:Cx}{s:Shared}
theorem Inv.back{A:Around}(I:Inv (Cx.under X A) QLz σ H s)(h1:X.A.handled=A.handled)(h2:X.A.frames=A.frames):Inv X QLz σ H s:=
 Inv.under (X:=Cx.under X A) (A:=X.A) I h1 h2
theorem Dj{M:Model}{A:Around}{β:Type}{x:Str}{p:Pos}{it u:Value}{m:Sem β}{Q:β->Shared->Prop}{E:QZq}
  (h:wpAny M A (letOwnedTupleGo (.Name x p) it u) (fun _ s=>wpAny M A m Q E s) E s):wpAny M A m Q E s:=by
 have:=QKq (f:=fun _=>m) h
 exact this
theorem jc:entryFor table "dict.update.loop"=some Builtin.«dict.update.loop»:=entryFor_of_tree (by kernel_rfl)
theorem dD:plainId "dict.update.loop"=true:=by decide+kernel
theorem yI{ks vs r:List D}{d:D}{p:List D×List D}(h:dictOf ks vs (d::r)=some p):∃k v,d=.tup [k,v]/\keyOk k=true/\dictOf (putD k v ks vs).1 (putD k v ks vs).2 r=some p:=by
 unfold dictOf at h
 split at h
 ·rename_i e;cases e
 ·rename_i k v r' e
  cases e
  split at h
  ·rename_i hk
   exact⟨k,v,rfl,hk,h⟩
  ·cases h
 ·cases h
variable{xs:List D}
theorem Dw{i:Nat}(h:i<xs.length):∃d,xs[i]? =some d/\xs.drop i=d::xs.drop (i+1):=⟨xs[i],QXq h,List.drop_eq_getElem_cons h⟩
section
variable{X:Cx}{A:Around}{QLz:QQz}{σ τ:St}{env:Ev}{R:Result->Shared->Prop}{J:It}{fp:List Addr}{it d:Addr}{tn:Nat->Heap->Prop}{x:Str}{p:Pos}{xs ks' vs':List D}{H0 H1:Hp}
theorem GP(hA:X.A=A.in1)(hc:X.calm=true)(T:Turn X.prog X.w X.K (.Name x p) J fp it tn)(G:Gives X.K J xs H1)(S:Sat X.K env τ H0)(h0:H0 d=none)
  (fin:∀s H,Inv X QLz σ H s->Nx X.K env τ H0 env H->jk X.K H (.dct ks' vs') d->R (.ok (.ret .none)) s):
  ∀(n i:Nat)(s:Shared)(H:Hp)(kvs:List (Key×V))(vs:List D),xs.length-i=n->Inv X QLz σ H s->(∀b∈fp,gj X QLz H b)->tn i s.heap->bK H1 H->Nx X.K env τ H0 env H->H d=some (.dK kvs)->
   ao X.K H vs (kvs.map (·.2))->dictOf (kvs.map fun q=>bU q.1) vs (xs.drop i)=some (ks',vs')->kvs.length<=i->i<=xs.length->
   codeAny (model X.prog X.w) A (.builtin "dict.update.loop" ⟨[.ref d,.ref it,rawInt ((i:Nat):Int),.none],[]⟩) R s:=by
 intro n
 induction n with
 |zero=>
  intro i s H kvs vs hn I hf st P N hd dl ho hk hi
  refine codeAny_builtin jc ?_
  rw[Around.under_plainId dD _,<-hA]
  show wpAny _ X.A (pyNext (.ref it)>>=_) _ _ s
  refine QKq (QGq (T.done X rfl rfl rfl hc i QLz s σ H _ I hf st (G.stop H P i (by omega))) (fun r s1 h=>?_) fun _ _ h=>h)
  obtain⟨rfl,I1⟩:=h
  rw[List.drop_eq_nil_of_le (by omega)]at ho
  cases ho
  show wpAny _ X.A (Builtin.Dict.addKeywords d []>>=_) _ _ s1
  exact QKq (QKz (QKz (fin s1 H I1 N ⟨_,hd,kvs,rfl,rfl,dl⟩)))
 |succ n ih=>
  intro i s H kvs vs hn I hf st P N hd dl ho hk hi
  have hlt:i<xs.length:=by omega
  obtain⟨dd,ed,edr⟩:=Dw hlt
  rw[edr]at ho
  obtain⟨k,v,rfl,hkk,ho'⟩:=yI ho
  refine codeAny_builtin jc ?_
  rw[Around.under_plainId dD _,<-hA]
  show wpAny _ X.A (pyNext (.ref it)>>=_) _ _ s
  refine QKq (QGq (T.item X rfl rfl rfl hc i QLz s σ H _ I hf st (G.go H P i _ ed)) (fun r s1 h=>?_) fun _ _ h=>h)
  obtain⟨u,rfl,h⟩:=h
  refine Dj (QGq h (fun _ s2 h2=>?_) fun _ _ h=>h)
  obtain⟨y,H',I',ry,yl,st',nf⟩:=h2
  obtain⟨Dy,hH⟩:=G.yld H P i _ ed y H' yl
  obtain⟨a,ws,rfl,hq,l⟩:=cI Dy
  cases ry
  obtain⟨vk,r1,rfl,Dk,l⟩:=ao.aH.mp l
  obtain⟨vv,r2,rfl,Dv,l⟩:=ao.aH.mp l
  have:=ao.bC.mp l
  subst this
  obtain⟨kk,rfl⟩:=eN hkk
  have ek:=iI Dk
  subst ek
  obtain⟨its,rr,pt,_⟩:=I'.tuple hq
  obtain⟨uk,uv,rfl,rk,rv⟩:=Vals.two rr
  obtain⟨o,eo,ec,nn,edt⟩:=pt
  have N':Nx X.K env τ H0 env H'/\bK H H'/\H' d=some (.dK kvs):=by
   rcases hH with rfl|⟨q,ws,hq0,rfl⟩
   ·exact⟨N,bK.refl _,hd⟩
   ·have NL:=Nx.laid (o:=.tup ws) N.eU hq0
    exact⟨N.trans NL,NL.pers,by rw[aB (fun z=>by subst z;rw[hq0]at hd;cases hd)];exact hd⟩
  obtain⟨N',PP,hd'⟩:=N'
  show wpAny _ X.A (holding [.ref a] _>>=_) _ _ s2
  refine QKq (Qqq ?_)
  refine QKq (wpAny_tryCatch ?_)
  unfold Builtin.Dict.pairItems
  have hty:s2.TypeIs (.ref a) "tuple":=⟨o,eo,ec⟩
  refine QKq (wpAny_typeOf hty ?_)
  rw[if_pos (by decide)]
  refine QKq (wpAny_seqItems eo edt (QKz ?_))
  show wpAny _ X.A (holding [uk,uv] (dictSet d uk uv)) _ _ s2
  refine Qqq ?_
  obtain⟨z,hds,vvs,rel,dd⟩:=yG I'.hok hd'
  have hz:vvs.length<=sizeLine:=by rw[<-rel.length];exact z
  have hG:=G.len
  have hl:(putK kvs kk vv).length<=i+1:=by have:=jA kvs kk vv;omega
  refine wpAny_dictSet_pairs (hsz:=hz) (mF rk) dd fun h' dd' hs=>?_
  have he:∃q,h'.get? d=some q:=let ⟨q,_,_,hq,_⟩:=dd';⟨q,hq⟩
  have I2:Inv X QLz σ (upd H' d (.dK (putK kvs kk vv))) {s2 with heap:=h',toks:=s2.toks+1}:=iJ I' (by rw[hd'];exact True.intro) hs he (vW (by omega) hds (rel.put kk rv) dd')
  have N2:=Nx.chg (u':=.dK (putK kvs kk vv)) N' S h0 hd' Ln
  have p2:=gU (u':=.dK (putK kvs kk vv)) hd' Ln
  obtain⟨g1,g2⟩:=Ca (k:=kk) Dv (dl.mono PP)
  refine QKz ⟨plainId_quiet dD _,?_⟩
  refine ih (i+1) _ _ (putK kvs kk vv) _ (by omega) I2 (fun b hb=>?_) (T.keep _ _ _ st' fun b hb o e=>?_) ((P.trans PP).trans p2) N2 aP (g2.mono p2) ?_ hl (by omega)
  ·have nb:b≠d:=fun e=>by subst e;rw[nf b hb]at hd';cases hd'
   exact⟨by rw[aB nb];exact nf b hb,(hf b hb).2⟩
  ·have nb:b≠d:=fun e=>by subst e;rw[nf b hb]at hd';cases hd'
   exact(hs.2 b nb).trans e
  ·rw[<-g1];exact ho'
end
section
variable{X:Cx}{QLz:QQz}{σ τ:St}{env:Ev}{H:Hp}{s:Shared}{o:Addr}{ob:Obj}{T:String}{x:Str}{p:Pos}{xs:List D}{pr:List D×List D}{Q:QZq}{E:QZq}
theorem rC(hc:X.calm=true)(I:Inv X QLz σ H s)(S:Sat X.K env τ H)(ho:s.heap.get? o=some ob)(hcl:ob.cls=.type T)(hT:(T !="dict")=true)(hd:dictOf [] [] xs=some pr)
  (hkey:∀(s1:Shared)(E:QZq)(Q:Option Value->Shared->Prop),s1.heap.get? o=some ob->(∀h' tk,(∀b u,s1.heap.get? b=some u->h'.get? b=some u)->Q none {s1 with heap:=h',toks:=tk})->
   wpAny (model X.prog X.w) X.A.in1.in1 (getAttr? (.ref o) "keys") Q E s1)
  (hit:∀(s1:Shared)(u:HO)(E:QZq)(Q:QZq),Inv (Cx.under X X.A.in1.in1) QLz σ (upd H s.heap.objs.size u) s1->Nx X.K env τ H env (upd H s.heap.objs.size u)->(∀b u,s.heap.get? b=some u->s1.heap.get? b=some u)->
   (∀s2 it fp tn J,Inv (Cx.under X X.A.in1.in1) QLz σ (upd H s.heap.objs.size u) s2->Turn X.prog X.w X.K (.Name x p) J fp it tn->tn 0 s2.heap->(∀b∈fp,gj X QLz (upd H s.heap.objs.size u) b)->Gives X.K J xs (upd H s.heap.objs.size u)->Q (.ref it) s2)->
   wpAny (model X.prog X.w) X.A.in1.in1 (pyIter (.ref o)) Q E s1)
  (h:∀a s' H',Inv X QLz σ H' s'->Nx X.K env τ H env H'->jk X.K H' (.dct pr.1 pr.2) a->H a=none->Q (.ref a) s'):
  wpAny (model X.prog X.w) X.A (call (.type "dict") [.ref o]) Q E s:=by
 refine callType_codes (Q₁:=fun obj s₁=>obj=.ref s.heap.objs.size/\s₁={s with heap:=s.heap.push {cls:=.type "dict",data:=.dict #[]}}) PySem.F.kt_called_dict (PySem.F.kt_typeCall_dict_1 _) PySem.F.entry_dict_init (kt_code_dict_new _ ⟨rfl,rfl⟩) ?_
 rintro obj s₁ ⟨rfl,rfl⟩
 have hnew:(s.heap.push {cls:=.type "dict",data:=.dict #[]}).DictOf (bJ X.prog X.w) s.heap.objs.size []:=Heap.DictOf.new s.heap
 have k1:∀b u,s.heap.get? b=some u->(s.heap.push {cls:=.type "dict",data:=.dict #[]}).get? b=some u:=fun _ _ q=>QWq _ q
 have hfr:H s.heap.objs.size=none:=I.hok.fresh (QVz _)
 have I1:=I.laid (a:=s.heap.objs.size) (o:=.dK []) (h':=s.heap.push {cls:=.type "dict",data:=.dict #[]}) (t':=s.toks) k1 (QVz _) (q8 s.heap I.big)
 have N1:=Nx.laid (o:=.dK []) S hfr
 refine⟨hnew.typeIs,PySem.F.args_dict_init_2 _ _,?_⟩
 unfold Builtin.«dict.__init__»
 refine QKq ?_
 unfold Builtin.Dict.selfAndRest
 refine QKq (wpAny_notOrdered_dict hnew.typeIs ?_)
 show wpAny _ _ (pure (s.heap.objs.size,[Value.ref o])) _ _ _
 refine QKz ?_
 show wpAny _ _ (Builtin.Dict.updateFrom "dict.__init__" s.heap.objs.size (.ref o) [] .none) _ _ _
 unfold Builtin.Dict.updateFrom
 have hty:(⟨s.heap.push {cls:=.type "dict",data:=.dict #[]},s.gens,s.drawn,s.toks,s.os⟩:Shared).TypeIs (.ref o) T:=⟨ob,k1 o ob ho,hcl⟩
 refine QKq (wpAny_typeOf hty ?_)
 have ht:((Value.type T) !=(Value.type "dict"))=true:=by
  have:T≠"dict":=by simpa using hT
  simpa using this
 rw[if_pos ht]
 refine QKq (hkey _ _ _ (k1 o ob ho) fun h2 tk k2=>?_)
 simp only[Option.isNone_none,if_true]
 refine QKq (wpAny_rule ?_)
 have I2:Inv X QLz σ _ {s with heap:=h2,toks:=tk}:=I1.kept (t':=tk) k2
 refine QKq (hit _ _ _ _ (Inv.under I2 rfl rfl) N1 (fun b u q=>k2 b u (k1 b u q)) fun s3 it fp tn J I3 Tn st hf G=>?_)
 refine QKq (QKz (QKz ⟨plainId_quiet dD _,?_⟩))
 refine GP (X:=Cx.under X X.A.in1.in1) (A:=X.A.in1) rfl hc Tn G S hfr (fun s4 H4 I4 N4 O4=>?_) xs.length 0 s3 _ [] [] rfl I3 hf st (bK.refl _) N1 aP ao.dY hd (QVz _) (QIq _)
 exact⟨rfl,h _ s4 H4 (Inv.back I4 rfl rfl) N4 O4 hfr⟩
end
theorem yX:typeLookup (.type "zip") "__len__"=pure none:=by rw[typeLookup_type,builtinLookup_eq_fast];kernel_rfl
theorem wF:typeLookup (.type "zip") "__length_hint__"=pure none:=by rw[typeLookup_type,builtinLookup_eq_fast];kernel_rfl
section
variable{X:Cx}{A:Around}{QLz:QQz}{σ τ:St}{env:Ev}{R:Result->Shared->Prop}{J:It}{fp:List Addr}{it d:Addr}{tn:Nat->Heap->Prop}{x:Str}{p:Pos}{xs:List D}{H0 H1:Hp}
theorem Inv.aaI{y:V}{u:Value}{Q:Unit->Shared->Prop}{E:QZq}{A:Around}(I:Inv X QLz σ H s)(hd:H d=some (.lst vs))(ry:RelV y u)(hz:vs.length<sizeLine)
  (h:∀h',(∀b o,b≠d->s.heap.get? b=some o->h'.get? b=some o)->Inv X QLz σ (upd H d (.lst (vs++[y]))) {s with heap:=h'}->Q () {s with heap:=h'}):
  wpAny (model X.prog X.w) A (updateSeq d (·.push u)) Q E s:=by
 obtain⟨z,its,n,r,e⟩:=(show bN X.prog X.w H s.heap d (.lst vs)from I.hok d _ hd)
 have hl:=r.length
 refine wpAny_updateSeq e rfl ?_ (by show its.toArray.size<=_;rw[Qyq];omega) (by show(its.toArray.push u).size<=_;rw[Array.size_push,Qyq];omega)
 have es:=Heap.get?_update_self (Obj.mapSeq (·.push u)) e rfl
 have oth:∀b o,b≠d->s.heap.get? b=some o->(s.heap.update d (Obj.mapSeq (·.push u))).get? b=some o:=fun b o hb q=>(Heap.get?_update_other _ _ (Ne.symm hb)).trans q
 refine h _ oth (I.write (t':=s.toks) (x:=d) (e:=d) (o:=.lst (vs++[y])) (by rw[hd];exact True.intro) (.inl rfl) (fun b q hb z=>oth b q hb z) ⟨_,es⟩ ?_)
 have ea:(its++[u]).toArray=its.toArray.push u:=by simp
 exact⟨by simp;omega,its++[u],_,Vals.append r (.cons ry .nil),by rw[ea];exact es⟩
theorem Gj(hA:X.A=A.in1)(hc:X.calm=true)(T:Turn X.prog X.w X.K (.Name x p) J fp it tn)(G:Gives X.K J xs H1)(S:Sat X.K env τ H0)(h0:H0 d=none)
  (fin:∀s H,Inv X QLz σ H s->Nx X.K env τ H0 env H->jk X.K H (.lst xs) d->R (.ok (.ret .none)) s):
  ∀(n i:Nat)(s:Shared)(H:Hp)(vs:List V),xs.length-i=n->Inv X QLz σ H s->(∀b∈fp,gj X QLz H b)->tn i s.heap->bK H1 H->Nx X.K env τ H0 env H->H d=some (.lst vs)->
   ao X.K H (xs.take i) vs->i<=xs.length->
   codeAny (model X.prog X.w) A (.builtin "list.extend.loop" ⟨[.ref d,.ref it,.none],[]⟩) R s:=by
 intro n
 induction n with
 |zero=>
  intro i s H vs hn I hf st P N hd dl hi
  refine codeAny_builtin PySem.F.entry_extend_loop ?_
  rw[Around.under_plainId PySem.F.plain_extend_loop _,<-hA]
  show wpAny _ X.A (pyNext (.ref it)>>=_) _ _ s
  refine QKq (QGq (T.done X rfl rfl rfl hc i QLz s σ H _ I hf st (G.stop H P i (by omega))) (fun r s1 h=>?_) fun _ _ h=>h)
  obtain⟨rfl,I1⟩:=h
  rw[List.take_of_length_le (by omega)]at dl
  exact QKz (fin s1 H I1 N ⟨_,hd,vs,rfl,dl⟩)
 |succ n ih=>
  intro i s H vs hn I hf st P N hd dl hi
  have hlt:i<xs.length:=by omega
  obtain⟨dd,ed,edr⟩:=Dw hlt
  refine codeAny_builtin PySem.F.entry_extend_loop ?_
  rw[Around.under_plainId PySem.F.plain_extend_loop _,<-hA]
  show wpAny _ X.A (pyNext (.ref it)>>=_) _ _ s
  refine QKq (QGq (T.item X rfl rfl rfl hc i QLz s σ H _ I hf st (G.go H P i _ ed)) (fun r s1 h=>?_) fun _ _ h=>h)
  obtain⟨u,rfl,h⟩:=h
  refine Dj (QGq h (fun _ s2 h2=>?_) fun _ _ h=>h)
  obtain⟨y,H',I',ry,yl,st',nf⟩:=h2
  obtain⟨Dy,hH⟩:=G.yld H P i _ ed y H' yl
  have N':Nx X.K env τ H0 env H'/\bK H H'/\H' d=some (.lst vs):=by
   rcases hH with rfl|⟨q,ws,hq0,rfl⟩
   ·exact⟨N,bK.refl _,hd⟩
   ·have NL:=Nx.laid (o:=.tup ws) N.eU hq0
    exact⟨N.trans NL,NL.pers,by rw[aB (fun z=>by subst z;rw[hq0]at hd;cases hd)];exact hd⟩
  obtain⟨N',PP,hd'⟩:=N'
  have hG:=G.len
  have lv:=dl.length
  rw[List.length_take]at lv
  show wpAny _ X.A (updateSeq d (·.push u)>>=_) _ _ s2
  refine QKq (Inv.aaI I' hd' ry (by omega) fun h' oth I2=>?_)
  have N2:=Nx.chg (u':=.lst (vs++[y])) N' S h0 hd' Ec
  have p2:=gU (u':=.lst (vs++[y])) hd' Ec
  refine QKz ⟨plainId_quiet PySem.F.plain_extend_loop _,?_⟩
  refine ih (i+1) _ _ (vs++[y]) (by omega) I2 (fun b hb=>?_) (T.keep _ _ _ st' fun b hb o e=>?_) ((P.trans PP).trans p2) N2 aP ?_ (by omega)
  ·have nb:b≠d:=fun e=>by subst e;rw[nf b hb]at hd';cases hd'
   exact⟨by rw[aB nb];exact nf b hb,(hf b hb).2⟩
  ·have nb:b≠d:=fun e=>by subst e;rw[nf b hb]at hd';cases hd'
   exact oth b o nb e
  ·have:xs.take (i+1)=xs.take i++[dd]:=by rw[List.take_add_one,ed];rfl
   rw[this]
   exact((dl.mono PP).append (ao.cN Dy ao.dY)).mono p2
end
section
variable{X:Cx}{QLz:QQz}{σ τ:St}{env:Ev}{H:Hp}{s:Shared}{o:Addr}{ob:Obj}{x:Str}{p:Pos}{xs:List D}{Q:QZq}{E:QZq}
theorem Be(hc:X.calm=true)(I:Inv X QLz σ H s)(S:Sat X.K env τ H)(ho:s.heap.get? o=some ob)(hcl:ob.cls=.type "zip")
  (hself:∀(s1:Shared)(E:QZq)(Q:QZq),(∀b u,s.heap.get? b=some u->s1.heap.get? b=some u)->Q (.ref o) s1->wpAny (model X.prog X.w) X.A.in1.in1 (pyIter (.ref o)) Q E s1)
  (hit:∀(s1:Shared)(u:HO),Nx X.K env τ H env (upd H s.heap.objs.size u)->(∀b u,s.heap.get? b=some u->s1.heap.get? b=some u)->
   ∃fp tn J,Turn X.prog X.w X.K (.Name x p) J fp o tn/\tn 0 s1.heap/\(∀b∈fp,gj X QLz (upd H s.heap.objs.size u) b)/\Gives X.K J xs (upd H s.heap.objs.size u))
  (h:∀a s' H',Inv X QLz σ H' s'->Nx X.K env τ H env H'->jk X.K H' (.lst xs) a->H a=none->Q (.ref a) s'):
  wpAny (model X.prog X.w) X.A (call (.type "list") [.ref o]) Q E s:=by
 refine callType_codes (Q₁:=fun obj s₁=>obj=.ref s.heap.objs.size/\s₁={s with heap:=s.heap.push {cls:=.type "list",data:=.seq #[]}}) PySem.F.called_list (PySem.F.typeCall_list_1 _) PySem.F.entry_list_init
  (code_list_new _ ⟨rfl,rfl⟩) fun obj s₁ h₁=>?_
 obtain⟨rfl,rfl⟩:=h₁
 have k1:∀b u,s.heap.get? b=some u->(s.heap.push {cls:=.type "list",data:=.seq #[]}).get? b=some u:=fun _ _ q=>QWq _ q
 have hS:(s.heap.push {cls:=.type "list",data:=.seq #[]}).get? s.heap.objs.size=some {cls:=.type "list",data:=.seq #[]}:=Qzq _ rfl
 have hfr:H s.heap.objs.size=none:=I.hok.fresh (QVz _)
 have hne:s.heap.objs.size≠o:=fun e=>absurd (Qqz ho) (by rw[e];exact Nat.lt_irrefl _)
 have oth:∀(f:Array Value->Array Value)(h':Heap)b u,b≠s.heap.objs.size->h'.get? b=some u->(h'.update s.heap.objs.size (Obj.mapSeq f)).get? b=some u:=
  fun f h' b u hb e=>(Heap.get?_update_other _ _ (Ne.symm hb)).trans e
 have old:∀b u,s.heap.get? b=some u->b≠s.heap.objs.size:=fun b u e=>Qvz (Qqz e)
 refine⟨⟨_,hS,rfl⟩,PySem.F.args_list_init_2 _ _,?_⟩
 show wpAny _ X.A.in1.in1 (do let old<-Builtin.List.listItems (.ref s.heap.objs.size);Builtin.List.listUpdate (.ref s.heap.objs.size) (fun _=> #[]);letGo old.toList.reverse;Builtin.List.listExtendWith (.ref s.heap.objs.size) (.ref o) .none) _ _ _
 refine QKq ?_
 unfold Builtin.List.listItems
 refine QKq (wpAny_seqItems hS rfl (QKz ?_))
 show wpAny _ X.A.in1.in1 (updateSeq s.heap.objs.size (fun _=> #[])>>=fun _=>letGo (#[]:Array Value).toList.reverse>>=fun _=>Builtin.List.listExtendWith (.ref s.heap.objs.size) (.ref o) .none) _ _ _
 refine QKq (wpAny_updateSeq hS rfl ?_)
 have hS₂:=Heap.get?_update_self (Obj.mapSeq (fun _=>(#[]:Array Value))) hS rfl
 have k2:∀b u,s.heap.get? b=some u->((s.heap.push {cls:=.type "list",data:=.seq #[]}).update s.heap.objs.size (Obj.mapSeq (fun _=>(#[]:Array Value)))).get? b=some u:=fun b u e=>oth _ _ b u (old b u e) (k1 b u e)
 refine QKq (wpAny_letGo ?_)
 unfold Builtin.List.listExtendWith
 have hty:(⟨(s.heap.push {cls:=.type "list",data:=.seq #[]}).update s.heap.objs.size (Obj.mapSeq (fun _=>(#[]:Array Value))),s.gens,s.drawn,s.toks,s.os⟩:Shared).TypeIs (.ref o) "zip":=⟨ob,k2 o ob ho,hcl⟩
 refine QKq (wpAny_typeOf hty ?_)
 have h1:Builtin.List.listSameRef (.ref s.heap.objs.size) (.ref o)=false:=by simp[Builtin.List.listSameRef,hne]
 have h2:(Value.type "zip"==Value.type "list")=false:=by decide
 have h3:(Value.type "zip"==Value.type "tuple")=false:=by decide
 simp only[h1,h2,h3,Bool.or_false,Qxq,if_false]
 refine QKq (hself _ _ _ k2 ?_)
 refine QKq (Qqq ?_)
 unfold Builtin.List.listLengthHint
 refine QKq (wpAny_specialOf hty yX ?_)
 show wpAny _ X.A.in1.in1 (specialOf (Value.ref o) (Str.ofString "__length_hint__")>>=_) _ _ _
 refine QKq (wpAny_specialOf hty wF ?_)
 refine QKz ?_
 show wpAny _ X.A.in1.in1 (rule "list.extend.makes-room">>=fun _=>Builtin.List.listTouch (.ref s.heap.objs.size)>>=fun _=>
  again (.builtin "list.extend.loop" ⟨[.ref s.heap.objs.size,.ref o,.none],[]⟩)) _ _ _
 refine QKq (wpAny_rule ?_)
 refine QKq ?_
 show wpAny _ X.A.in1.in1 (updateSeq s.heap.objs.size (·.push .none)>>=fun _=>updateSeq s.heap.objs.size (·.pop)) _ _ _
 refine QKq (wpAny_updateSeq hS₂ rfl ?_)
 have hS₃:=Heap.get?_update_self (Obj.mapSeq (·.push Value.none)) hS₂ rfl
 refine wpAny_updateSeq (hz:=by seq_fits) hS₃ rfl ?_
 have hS₄:=Heap.get?_update_self (Obj.mapSeq (·.pop)) hS₃ rfl
 have k4:∀b u,s.heap.get? b=some u->((((s.heap.push {cls:=.type "list",data:=.seq #[]}).update s.heap.objs.size (Obj.mapSeq (fun _=>(#[]:Array Value)))).update s.heap.objs.size (Obj.mapSeq (·.push Value.none))).update s.heap.objs.size (Obj.mapSeq (·.pop))).get? b=some u:=
  fun b u e=>oth _ _ b u (old b u e) (oth _ _ b u (old b u e) (k2 b u e))
 have I1:=I.laid (a:=s.heap.objs.size) (o:=.lst []) (t':=s.toks) k4 (QVz _) ⟨QIq _,[],_,.nil,hS₄⟩
 have N1:=Nx.laid (o:=.lst []) S hfr
 obtain⟨fp,tn,J,Tn,st,hf,G⟩:=hit {s with heap:=_} _ N1 k4
 refine QKz ⟨plainId_quiet PySem.F.plain_extend_loop _,?_⟩
 refine Gj (X:=Cx.under X X.A.in1.in1) (A:=X.A.in1) rfl hc Tn G S hfr (fun s4 H4 I4 N4 O4=>?_) xs.length 0 _ _ [] rfl (Inv.under I1 rfl rfl) hf st (bK.refl _) N1 aP ao.dY (QIq _)
 exact⟨rfl,h _ s4 H4 (Inv.back I4 rfl rfl) N4 O4 hfr⟩
end
theorem Gives.mono{K:QQq}{J:It}{H':Hp}(g:Gives K J xs H)(p:bK H H'):Gives K J xs H':=
 ⟨fun H1 q=>g.go H1 (p.trans q),fun H1 q=>g.yld H1 (p.trans q),fun H1 q=>g.stop H1 (p.trans q),g.len⟩
theorem Inv.Rj{E:QZq}(I:Inv X QLz σ H s):Inv {X with xe:=E} QLz σ H s:=
 ⟨⟨I.ok.mod,I.ok.kind,I.ok.glob,I.ok.blt,I.ok.above,I.ok.inj,I.ok.has,I.ok.cab,I.ok.hd,I.ok.frames,I.ok.stk,I.ok.exf,I.ok.bs,I.ok.bsz,I.ok.noex,I.ok.exfs,I.ok.lw,I.ok.frf⟩,
  I.os,I.bare,I.base,I.loc,I.cell,I.free,I.freeC,I.pin,I.hok,I.len⟩
theorem Inv.unE{E:QZq}(I:Inv {X with xe:=E} QLz σ H s):Inv X QLz σ H s:=Inv.Rj (X:={X with xe:=E}) (E:=X.xe) I
variable{b:Bool}
theorem Inv.seqObj{l:Addr}(I:Inv X QLz σ H s)(h:Ms X.K b H l vs):
  ∃(its:Array Value)(k:Nat)(sl:Array (Option Value)),s.heap.get? l=some {cls:=.type (if b then "list" else "tuple"),dict:=none,data:=.seq its k,slots:=sl}:=by
 cases b with
 |true=>
  obtain⟨its,r,⟨o,n,e,c,d,dt⟩,z⟩:=I.list (Eh.sq h)
  obtain⟨oc,od,odt,os⟩:=o
  simp only at c d dt
  subst c d dt
  exact⟨_,_,_,e⟩
 |false=>
  obtain⟨its,r,⟨o,e,c,d,n,dt⟩,z⟩:=I.zc h
  obtain⟨oc,od,odt,os⟩:=o
  simp only at c d dt
  subst c d dt
  exact⟨_,_,_,e⟩
theorem vK{d:D}(h:bw d=some xs):items d=some xs:=by
 cases d<;>simp[bw]at h<;>simp[items,h]
def R5(K:QQq):List V->Hp->VK->Prop:=fun us H Q=>∃env τ v d xs pr,us=[v]/\Sat K env τ H/\bz K H d v/\bw d=some xs/\dictOf [] [] xs=some pr/\
 ∀a H',Nx K env τ H env H'->jk K H' (.dct pr.1 pr.2) a->H a=none->Q (.ref a) H'
section
variable{X:Cx}{W:Wi}{c:Cf}{m m1 m2:E}{a b e:Expr}{pos p p':Pos}
theorem Bg(hc:X.calm=true):fJ X (.type "dict") (R5 X.K):=by
 intro QLz s σ H us ws Q I r h
 obtain⟨env,τ,v,d,xs,pr,rfl,S,Dv,es,hd,q⟩:=h
 obtain⟨u,rfl,ru⟩:=vals1 r
 obtain⟨bb,l,vs,rfl,hq,dl⟩:=Dv.u5 es
 cases ru
 obtain⟨its,k,sl,eo⟩:=Inv.seqObj I hq
 refine rC (x:=("_":Str)) (p:=(default:Pos)) hc I S eo rfl (by cases bb<;>decide) hd (fun s1 E Q e1 k1=>?_) (fun s1 u E Q I1 N1 k1 hQ=>?_) fun a s' H' I' N' O' h'=>⟨.ref a,H',I',rfl,q a H' N' O' h'⟩
 ·cases bb with
  |true=>exact qL e1 (I.ok.hd hc) k1
  |false=>exact o9 e1 (I.ok.hd hc) k1
 ·refine QGq (J7 (X:={(Cx.under X X.A.in1.in1)with xe:=E}) (tg:=.Name ("_":Str) (default:Pos)) (d:=d) (xs:=xs) (R:=fun J H'=>Gives X.K J xs H'/\H'=upd H s.heap.objs.size u) (Inv.Rj I1) (show RelV (.ref l) (.ref l)from rfl) (Dv.mono N1.pers) (vK es) fun J g=>⟨g,rfl⟩) (fun v2 s2 h2=>?_) fun _ _ h=>h
  obtain⟨it,fp,tn,J,H',rfl,I2,T,st,hf,g,rfl⟩:=h2
  exact hQ s2 it fp tn J (Inv.unE I2) T st hf g
theorem Lb{Q:VK}(hv:m.au=none)(q:tM X.K W env (ev c (.bi .dict m) env) σ H Q):aD X W c m σ H fun v H1=>R5 X.K [v] H1 Q:=by
 simp only[mX,hv]at q
 refine⟨env,aR q fun d env1 v H1 N1 D1 q1=>?_⟩
 obtain⟨z,ez,S,q3⟩:=cF q1
 simp only[b1]at ez
 cases es:bw d with
 |none=>rw[es]at ez;cases ez
 |some xs=>
  rw[es]at ez
  simp only[QHq,MN]at ez
  cases ed:dictOf [] [] xs with
  |none=>rw[ed]at ez;cases ez
  |some pr=>
   rw[ed]at ez
   cases ez
   exact⟨env1,σ,v,d,xs,pr,rfl,S,D1,es,ed,fun a H' N O h0=>q3 _ H' N ⟨a,rfl,O,h0⟩⟩
theorem QD(hc:X.calm=true)(ha:GE X W c m a)(hv:m.au=none)(hg:Gl X "dict")(hm:X.mg "dict"=none)(hs:starEach [a] X.env=[(false,eval a X.env)]):
  GE X W c (.bi .dict m) (.Call (.Name "dict" p) [a] [] pos):=fun env=>
 PE.imp (nC (Bg hc) hg hm PyProof.Rows.boot_dict (cG ha.d eF hs) (by decide) (by decide) hs rfl) fun σ H Q h=>Lb hv h
structure af8(X:Cx)(W:Wi)(QLz:QQz)(σ:St)(Q:VK)(f:D->Ev->Out Rv)(v:Value)(s:Shared):Prop where
 go:∃z TI TO i1 i2 b1 b2 l1 l2 vs ws xs ys env H,v=.ref z/\Inv X QLz σ H s/\yP z TI TO i1 i2 b1 b2 l1 l2 0 s.heap/\ZipApart z TI TO i1 i2 l1 l2/\(∀b∈[z,TI,TO,i1,i2],gj X QLz H b)/\
  Gives X.K (Itz X.K b1 b2 l1 l2 vs ws) (aC xs ys) H/\tM X.K W env (f (.lst (aC xs ys)) env) σ H Q
theorem wG{Q:VK}{f:D->Ev->Out Rv}(ha:GE X W c m1 a)(hb:GE X W c m2 b)(hg:Gl X "zip")(hm:X.mg "zip"=none)
  (hs:starEach [a,b] X.env=[(false,eval a X.env),(false,eval b X.env)])(hs2:starEach [b] X.env=[(false,eval b X.env)])(I:Inv X QLz σ H s)(q:tM X.K W env ((ev c (.zip m1 m2) env).ak f) σ H Q):
  wpAny (model X.prog X.w) X.A (eval (.Call (.Name "zip" p) [a,b] [] pos) X.env) (af8 X W QLz σ Q f) X.xe s:=by
 simp only[Hn]at q
 let RR:List V->Hp->Prop:=fun vs H'=>∃env2 d1 d2 xs ys v1 v2,vs=[v1,v2]/\bz X.K H' d1 v1/\bz X.K H' d2 v2/\bw d1=some xs/\bw d2=some ys/\tM X.K W env2 (f (.lst (aC xs ys)) env2) σ H' Q
 have asc:∀(o:Out Rv)(g:D->Ev->Out Rv),(o.ak g).ak f=o.ak fun d e=>(g d e).ak f:=fun o g=>by
  cases o with
  |ok x e=>cases x<;>rfl
  |exc c e=>rfl
  |bad=>rfl
 rw[asc]at q
 have go:aD X W c m1 σ H fun v1 H1=>aD X W c m2 σ H1 fun v2 H2=>RR [v1,v2] H2:=by
  refine⟨env,aR q fun d1 env1 v1 H1 N1 D1 q1=>⟨env1,?_⟩⟩
  rw[asc]at q1
  refine aR q1 fun d2 env2 v2 H2 N2 D2 q2=>?_
  cases e1:bw d1 with
  |none=>rw[e1]at q2;exact q2.2.elim
  |some xs=>
   cases e2:bw d2 with
   |none=>rw[e1,e2]at q2;exact q2.2.elim
   |some ys=>
    rw[e1,e2]at q2
    exact⟨env2,d1,d2,xs,ys,v1,v2,rfl,D1.mono N2.pers,D2,e1,e2,q2⟩
 refine wpAny_Call_Name_kw (iB I hg hm PyProof.Rows.boot_zip ?_ (by decide) (by decide))
 refine PyProof.Rows.callWith_type1 (bW (cG ha.d (cG hb.d eF hs2) (by rw[hs,hs2]) pos QLz s σ H RR I go) fun us s1⟨vs,H1,I1,r1,q1⟩=>?_) (by rw[hs,hs2]) (by rw[hs2];rfl)
 obtain⟨env2,d1,d2,xs,ys,v1,v2,rfl,D1,D2,e1,e2,q3⟩:=q1
 obtain⟨b1,l1,vs,rfl,h1,dl1⟩:=D1.u5 e1
 obtain⟨b2,l2,ws,rfl,h2,dl2⟩:=D2.u5 e2
 obtain⟨u1,u2,rfl,ru1,ru2⟩:=Vals.two r1
 cases ru1
 cases ru2
 obtain⟨its,rr1,p1,z1,lt1⟩:=Inv.u5 I1 h1
 obtain⟨its2,rr2,p2,z2,lt2⟩:=Inv.u5 I1 h2
 refine uK p1 p2 fun h' st sz kk=>?_
 refine⟨s1.heap.objs.size+4,s1.heap.objs.size+2,s1.heap.objs.size+3,s1.heap.objs.size,s1.heap.objs.size+1,b1,b2,l1,l2,vs,ws,xs,ys,env2,H1,rfl,I1.kept (t':=s1.toks) kk,st,sH lt1 lt2,fun b hb=>?_,uD h1 h2 dl1 dl2 z1,q3⟩
 have hb':s1.heap.objs.size<=b:=by
  simp only[QCq,QAz,or_false]at hb
  rcases hb with rfl|rfl|rfl|rfl|rfl<;>omega
 exact I1.yt hb' (I1.hok.fresh hb')
theorem yP.lt{z TI TO i1 i2:Addr}{b1 b2:Bool}{l1 l2:Addr}{k:Nat}{h:Heap}(st:yP z TI TO i1 i2 b1 b2 l1 l2 k h):∀b∈[z,TI,TO,i1,i2],b<h.objs.size:=by
 intro b hb
 obtain⟨f0,f1,zr,_⟩:=st.zr
 obtain⟨x,y,to⟩:=st.to
 simp only[QCq,QAz,or_false]at hb
 rcases hb with rfl|rfl|rfl|rfl|rfl
 ·exact Qqz zr
 ·exact Qqz st.ti
 ·exact Qqz to
 ·exact st.it1.lt
 ·exact st.it2.lt
theorem Ag{q1 q2:Pos}(hc:X.calm=true)(ha:GE X W c m1 a)(hb:GE X W c m2 b)(hg:Gl X "zip")(hm:X.mg "zip"=none)
  (hs:starEach [a,b] X.env=[(false,eval a X.env),(false,eval b X.env)])(hs2:starEach [b] X.env=[(false,eval b X.env)])(hg':Gl X "dict")(hm':X.mg "dict"=none)
  (hs':starEach [.Call (.Name "zip" q1) [a,b] [] q2] X.env=[(false,eval (.Call (.Name "zip" q1) [a,b] [] q2) X.env)]):
  GE X W c (.bi .dict (.zip m1 m2)) (.Call (.Name "dict" p) [.Call (.Name "zip" q1) [a,b] [] q2] [] pos):=by
 intro env QLz s σ H Q I q
 simp only[mX,E.au]at q
 refine wpAny_Call_Name_kw (iB I hg' hm' PyProof.Rows.boot_dict ?_ (by decide) (by decide))
 refine PyProof.Rows.callWith_type1 ?_ hs' rfl
 rw[hs']
 refine Calls.spliced_cons (bW (wG ha hb hg hm hs hs2 I (by simpa only[mX]using q)) fun u s1 h1=>Calls.spliced_nil ?_)
 obtain⟨z,TI,TO,i1,i2,b1,b2,l1,l2,vs,ws,xs,ys,env1,H1,rfl,I1,st,ap,hf,G,q1⟩:=h1.go
 obtain⟨r,er,S,q3⟩:=cF q1
 simp only[Mini.b1,bw,QHq,MN]at er
 cases ed:dictOf [] [] (aC xs ys)with
 |none=>rw[ed]at er;cases er
 |some pr=>
  rw[ed]at er
  cases er
  obtain⟨f0,f1,zr,h0⟩:=st.zr
  refine rC (x:=("_":Str)) (p:=(default:Pos)) hc I1 S zr rfl (by decide) ed (fun s2 E Q e1 k1=>su e1 (I1.ok.hd hc) k1) (fun s2 u E Q I2 N2 k2 hQ=>?_)
   fun a s' H' I' N' O' h'=>⟨.ref a,H',I',rfl,q3 _ H' N' ⟨a,rfl,O',h'⟩⟩
  refine ir (k2 _ _ zr) (hQ s2 z [z,TI,TO,i1,i2] _ _ I2 (jt (vs:=vs) (ws:=ws) ap) ((jt (P:=X.prog) (w:=X.w) (K:=X.K) (tg:=.Name ("_":Str) (default:Pos)) (vs:=vs) (ws:=ws) ap).keep 0 _ _ st fun b _ o e=>k2 b o e) (fun b hb=>⟨?_,(hf b hb).2⟩) (G.mono N2.pers))
  rw[aB (Qvz (st.lt b hb))]
  exact(hf b hb).1
theorem Af{q1 q2:Pos}(hc:X.calm=true)(ha:GE X W c m1 a)(hb:GE X W c m2 b)(hg:Gl X "zip")(hm:X.mg "zip"=none)
  (hs:starEach [a,b] X.env=[(false,eval a X.env),(false,eval b X.env)])(hs2:starEach [b] X.env=[(false,eval b X.env)])(hg':Gl X "list")(hm':X.mg "list"=none)
  (hs':starEach [.Call (.Name "zip" q1) [a,b] [] q2] X.env=[(false,eval (.Call (.Name "zip" q1) [a,b] [] q2) X.env)]):
  GE X W c (.bi .list (.zip m1 m2)) (.Call (.Name "list" p) [.Call (.Name "zip" q1) [a,b] [] q2] [] pos):=by
 intro env QLz s σ H Q I q
 simp only[mX,E.au]at q
 refine wpAny_Call_Name_kw (iB I hg' hm' PyProof.Rows.boot_list ?_ (by decide) (by decide))
 refine PyProof.Rows.callWith_type1 ?_ hs' rfl
 rw[hs']
 refine Calls.spliced_cons (bW (wG ha hb hg hm hs hs2 I (by simpa only[mX]using q)) fun u s1 h1=>Calls.spliced_nil ?_)
 obtain⟨z,TI,TO,i1,i2,b1,b2,l1,l2,vs,ws,xs,ys,env1,H1,rfl,I1,st,ap,hf,G,q1⟩:=h1.go
 obtain⟨r,er,S,q3⟩:=cF q1
 simp only[Mini.b1,bw,QHq,MN]at er
 cases er
 obtain⟨f0,f1,zr,h0⟩:=st.zr
 refine Be (x:=("_":Str)) (p:=(default:Pos)) hc I1 S zr rfl (fun s2 E Q k2 hQ=>ir (k2 _ _ zr) hQ) (fun s2 u N2 k2=>?_)
  fun a s' H' I' N' O' h'=>⟨.ref a,H',I',rfl,q3 _ H' N' ⟨a,rfl,O',h'⟩⟩
 refine⟨[z,TI,TO,i1,i2],_,_,jt (vs:=vs) (ws:=ws) ap,(jt (P:=X.prog) (w:=X.w) (K:=X.K) (tg:=.Name ("_":Str) (default:Pos)) (vs:=vs) (ws:=ws) ap).keep 0 _ _ st fun b _ o e=>k2 b o e,fun b hb=>⟨?_,(hf b hb).2⟩,G.mono N2.pers⟩
 rw[aB (Qvz (st.lt b hb))]
 exact(hf b hb).1
end
variable{Q:Bool->Shared->Prop}{a:Bool}
section
variable{prog:Program}{w:World}{A:Around}{E:QZq}{s:Shared}
theorem wg{Q:QZq}(h:Q (.bool (!a&&b)) s):wpAny (model prog w) A (call (.builtin "int.__lt__") [.bool a,.bool b]) Q E s:=by
 refine Qzz PySem.F.slot_bool_lt (PyProof.Rows.typeIs_bool' s a) PySem.F.entry_int_lt ?_ (PySem.F.args_int_lt_2 _ _)
 have e:(decide ((if a=true then(1:Int)else 0)< (if b=true then(1:Int)else 0)))=(!a&&b):=by cases a<;>cases b<;>rfl
 have g:=PyProof.Rows.gives_int_lt_bools a b
 show wpAny _ _ (ret (.bool (decide ((if a=true then(1:Int)else 0)< (if b=true then(1:Int)else 0))))) _ _ s
 rw[e]
 exact QKz ⟨_,rfl,h⟩
theorem xO(h:Q (!a&&b) s):wpAny (model prog w) A (PyProof.Rows.oneLt' true (.bool a) (.bool b)) Q E s:=by
 rw[PyProof.Rows.oneLt'_eq]
 simp only[if_true]
 refine QKq (wpAny_cRoomFor_byValue rfl ?_)
 refine QKq (wpAny_callSpecialIfBound?_slot (PyProof.Rows.typeIs_bool' s a) PySem.F.slot_bool_lt (wg ?_))
 exact wpAny_truthy_bool h
theorem zR{c:Bool}(h:Q (!a&&b) s):wpAny (model prog w) A (PyProof.Rows.oneLt' c (.bool a) (.bool b)) Q E s:=by
 cases c with
 |true=>exact xO h
 |false=>exact PySem.W.kat_one _ _ (show wpAny (model prog w) A (richCompare .Lt (.bool a) (.bool b)) _ _ s from tU A s a b prog w _ _ h)
theorem ux{b fin:Bool}{Q:Bool->Shared->Prop}{nx ny:Nat}:∀{vs ws:List Value}{ns ms:List Bool}(i:Nat),BoolsAre vs ns->BoolsAre ws ms->ns.length+ny=ms.length+nx->fin=decide (nx<ny)->Q (jg ns ms) s->
  PySem.W.KatLex prog w A b fin Q (vs.zip ws) i s
 |_,_,_,_,i,.nil,hw=>fun hl hf h=>by
  rw[List.zip_nil_left]
  refine PySem.W.kat_nil ?_
  cases hw with
  |nil=>rw[CN]at h;rw[hf];simp at hl;rw[QEz (by omega)];exact h
  |cons c hw=>rw[CP]at h;rw[hf];simp at hl;rw[QFq (by omega)];exact h
 |_,_,_,_,i,.cons a hv,.nil=>fun hl hf h=>by
  rw[List.zip_nil_right]
  refine PySem.W.kat_nil ?_
  rw[CQ]at h
  rw[hf]
  simp at hl
  rw[QEz (by omega)]
  exact h
 |_,_,_,_,i,.cons a hv,.cons c hw=>fun hl hf h=>by
  rw[List.zip_cons_cons]
  rw[um]at h
  simp only[QBq]at hl
  refine PySem.W.kat_cons (SeqAt.EqAt.bool_bool (A:=A) (s:=s) a c prog w _ _ ?_)
  by_cases hac:a=c
  ·subst hac
   rw[if_pos rfl]at h
   rw[beq_self_eq_true]
   exact PySem.W.kat_yes (ux (i+1) hv hw (by omega) hf h)
  ·rw[if_neg hac]at h
   rw[beq_eq_false_iff_ne.mpr hac]
   exact PySem.W.kat_no (zR h)
theorem yc{x y:Addr}{xs ys:Array Value}{ns ms:List Bool}(hx:∃o n,s.heap.get? x=some o/\o.data=.seq xs n)(hy:∃o n,s.heap.get? y=some o/\o.data=.seq ys n)(bx:BoolsAre xs.toList ns)(by':BoolsAre ys.toList ms)
  (h:Q (jg ns ms) s):wpAny (model prog w) A (PyProof.Rows.keyLt' (PyProof.Rows.tuples' b) (.ref x) (.ref y)) Q E s:=by
 obtain⟨ox,nx,ex,dx⟩:=hx
 obtain⟨oy,ny,ey,dy⟩:=hy
 have l1:=bx.length
 have l2:=by'.length
 simp at l1 l2
 exact PySem.W.kat_lt ex dx ey dy (ux (nx:=xs.size) (ny:=ys.size) 0 bx by' (by omega) rfl h)
end
end Mini
end
section
namespace Mini
open PySem L2 PyProof.Rows
section
variable{prog:Program}{w:World}{A:Around}{E:QZq}{s:Shared}
theorem vC{a:Addr}{vs out:List Value}{n:Nat}{P:PySem.Fin->Shared->Prop}(ho:s.heap.get? a=some (seqObj "list" vs.toArray n))(h64:vs.length<64)(hl:out.length=vs.length)
  (h1:vs.length<2->out=vs)
  (h2:2<=vs.length->∀h':Heap,(∀b o,b≠a->s.heap.get? b=some o->h'.get? b=some o)->wpAny (model prog w) A (keyKind' vs.toArray) (fun κ s'=>s'={s with heap:=h'}/\
   (PySem.W.kas_sort vs.length).kasWp (PySem.W.kas_ask prog w A κ vs) (fun p s''=>s''={s with heap:=h'}/\(p.toList.map fun i=>vs.getD i Value.none)=out) s') (fun _ _=>False) {s with heap:=h'})
  (h:P (.done (.ret .none)) {s with heap:=sortedHeap s.heap a vs out.toArray}):
  wpAny (model prog w) A (Builtin.«list.sort» ⟨[.ref a],[]⟩) P E s:=by
 rw[list_sort_plain]
 have ha:a<s.heap.objs.size:=Qqz ho
 have hz:vs.length<=sizeLine:=by rw[sizeLine_eq];omega
 refine QKq (listItems_at ho rfl ?_)
 refine QKq (listUpdate_at ho rfl ?_ (by rw[Qyq];exact hz) (QIq _))
 obtain⟨e1,ho1⟩:∃e1,(s.heap.update a (Obj.mapSeq fun _=> #[])).get? a=some (seqObj "list" #[] e1):=⟨_,get?_update_seq ho (fun _=> #[])⟩
 refine QKq (seqEpoch_at ho1 rfl ?_)
 refine QKq (wpAny_newTuple ?_ (by show vs.length<=_;exact hz))
 refine QKq (wpAny_newList ?_ (QIq _))
 refine Qqq ?_
 have ho6:(((s.heap.update a (Obj.mapSeq fun _=> #[])).push (seqObj "tuple" vs.toArray 0)).push (seqObj "list" #[] 0)).get? a=some (seqObj "list" #[] e1):=by
  rw[Heap.get?_push_ne _ _ _ (by rw[size_push',Heap.size_update];exact Qvz (Nat.lt_succ_of_lt ha)),Heap.get?_push_ne _ _ _ (by rw[Heap.size_update];exact Qvz ha)]
  exact ho1
 have kp:∀b o,b≠a->s.heap.get? b=some o->(((s.heap.update a (Obj.mapSeq fun _=> #[])).push (seqObj "tuple" vs.toArray 0)).push (seqObj "list" #[] 0)).get? b=some o:=fun b o hb e=>
  QWq _ (QWq _ ((Heap.get?_update_other _ _ (Ne.symm hb)).trans e))
 show wpAny (model prog w) A _ P E {s with heap:=((s.heap.update a (Obj.mapSeq fun _=> #[])).push (seqObj "tuple" vs.toArray 0)).push (seqObj "list" #[] 0)}
 dsimp only
 by_cases hn:vs.toArray.size<2
 ·rw[if_pos hn,if_pos hn]
  refine QKq (QKz ?_)
  rw[StateT.run_pure]
  refine QKq (QKz ?_)
  dsimp only
  have em:(arrOf (SortSt.mk' general' (vs.toArray.zip vs.toArray) #[] 7 none)).map (·.2)=out.toArray:=by
   rw[h1 (by simpa using hn)]
   show(vs.toArray.zip vs.toArray).map (·.2)=_
   apply Array.toList_inj.mp
   simp[List.map_snd_zip]
  refine QKq (seqEpoch_at ho6 rfl ?_)
  rw[em]
  refine QKq (listUpdate_at ho6 rfl ?_ (QIq _) (by show out.toArray.size<=_;rw[Qyq];omega))
  simp only[bne_self_eq_false,Qxq,if_false]
  exact QKz h
 ·rw[if_neg hn,if_neg hn]
  have hn2:2<=vs.length:=by simpa using hn
  refine QKq (QGq (h2 hn2 _ kp) (fun κ s0 hk=>?_) fun _ _ x=>x.elim)
  obtain⟨rfl,hk⟩:=hk
  refine QKq (QGq (PySem.W.kat_run (Q:=fun st' s'=>∃p:Array Nat,arrOf st'=p.map (PySem.W.kas_item (vs.toArray.zip vs.toArray))/\failedOf st'=none/\s'={s with heap:=((s.heap.update a (Obj.mapSeq fun _=> #[])).push (seqObj "tuple" vs.toArray 0)).push (seqObj "list" #[] 0)}/\(p.toList.map fun i=>vs.getD i Value.none)=out)
   rfl hn2 h64 (fun p' st' s' a1 a2 a3 a4=>⟨p',a2,a3,a4.1,a4.2⟩) hk) ?_ fun _ _ e=>e)
  rintro ⟨⟨⟩,st'⟩ s' ⟨p,har,hf,rfl,hp⟩
  dsimp only
  have em:(arrOf st').map (·.2)=out.toArray:=by rw[PySem.W.kat_snds rfl har,hp]
  refine QKq (seqEpoch_at ho6 rfl ?_)
  rw[em]
  refine QKq (listUpdate_at ho6 rfl ?_ (QIq _) (by show out.toArray.size<=_;rw[Qyq];omega))
  rw[hf]
  simp only[bne_self_eq_false,Qxq,if_false]
  exact QKz h
theorem sW{l:Addr}{vs out:List Value}{Q:QZq}(hls:s.heap.IsList l vs.toArray)(h64:vs.length<64)(hl:out.length=vs.length)(h1:vs.length<2->out=vs)
  (h2:2<=vs.length->∀h':Heap,(∀b o,s.heap.get? b=some o->h'.get? b=some o)->wpAny (model prog w) A.in1.in1 (keyKind' vs.toArray) (fun κ s'=>s'={s with heap:=h'}/\
   (PySem.W.kas_sort vs.length).kasWp (PySem.W.kas_ask prog w A.in1.in1 κ vs) (fun p s''=>s''={s with heap:=h'}/\(p.toList.map fun i=>vs.getD i Value.none)=out) s') (fun _ _=>False) {s with heap:=h'})
  (h:Q (.ref (s.heap.objs.size+1)) {s with heap:=sortedAll s.heap vs out.toArray}):
  wpAny (model prog w) A (call (.builtin "sorted") [.ref l]) Q E s:=by
 refine Calls.call_function_entry kind_sorted plain_sorted entry_sorted (args_sorted1 _) ?_
 unfold Builtin.«sorted»
 have hz:vs.length<=sizeLine:=by rw[sizeLine_eq];omega
 refine QKq (m:=checkCount "sorted" 1 1 _) (QKz ?_)
 refine QKq (collect_list hls ?_ hz)
 refine QKq (wpAny_newList ?_ hz)
 have hsz:((s.heap.push (seqObj "list" #[] 0)).update s.heap.objs.size (Obj.mapSeq (· ++vs.toArray))).objs.size=s.heap.objs.size+1:=by
  rw[Heap.size_update,size_push']
 have hoL:(((s.heap.push (seqObj "list" #[] 0)).update s.heap.objs.size (Obj.mapSeq (· ++vs.toArray))).push (seqObj "list" vs.toArray 0)).get? (s.heap.objs.size+1)=some (seqObj "list" vs.toArray 0):=by
  rw[<-hsz];exact Qzq _ rfl
 have keep:∀b o,s.heap.get? b=some o->(((s.heap.push (seqObj "list" #[] 0)).update s.heap.objs.size (Obj.mapSeq (· ++vs.toArray))).push (seqObj "list" vs.toArray 0)).get? b=some o:=fun b o q=>by
  have hlt:b<s.heap.objs.size:=Qqz q
  rw[Heap.get?_push_ne _ _ _ (by rw[hsz];exact Qvz (Nat.lt_succ_of_lt hlt)),Heap.get?_update_ne _ _ _ _ (Qvz hlt),Heap.get?_push_ne _ _ _ (Qvz hlt)]
  exact q
 show wpAny _ _ _ _ _ {s with heap:=((s.heap.push (seqObj "list" #[] 0)).update s.heap.objs.size (Obj.mapSeq (· ++vs.toArray))).push (seqObj "list" vs.toArray 0)}
 rw[hsz]
 refine QKq (Qqq (Qzz slot_list_sort ⟨_,hoL,rfl⟩ entry_list_sort (vC hoL h64 hl h1 (fun hn h' kp=>?_) ⟨_,rfl,?_⟩) (args_list_sort _)))
 ·exact h2 hn h' fun b o e=>kp b o (Qvz (Nat.lt_succ_of_lt (Qqz e))) (keep b o e)
 ·exact QKz ⟨_,rfl,h⟩
theorem qM{α:Type}{cmp:Nat->Nat->(Bool->Shared->Prop)->Shared->Prop}{f:Nat->Nat->Option Bool}{Q:α->Shared->Prop}{a:α}(hc:∀i j b(C:Bool->Shared->Prop),f i j=some b->C b s->cmp i j C s):
  ∀(t:PySem.W.KasT α),Ij f t=some a->Q a s->t.kasWp cmp Q s
 |.ret x,e,q=>by cases e;exact q
 |.ask i j k,e,q=>by
  simp only[Ij]at e
  cases z:f i j with
  |none=>rw[z]at e;cases e
  |some b=>rw[z]at e;exact hc i j b _ z (qM hc (k b) e q)
end
end Mini
end
section
namespace Mini
open PySem L2
inductive fB(h:Heap):List Value->List (List Bool)->Prop
 |nil:fB h [] []
 |cons {a:Addr} {o:Obj} {arr:Array Value} {n:Nat} {b:Bool} {bs:List Bool} {vs:List Value} {rs:List (List Bool)}:h.get? a=some o->o.cls=.type "tuple"->o.data=.seq arr n->BoolsAre arr.toList (b::bs)->fB h vs rs->fB h (.ref a::vs) ((b::bs)::rs)
theorem fB.mono{h h':Heap}(k:∀b o,h.get? b=some o->h'.get? b=some o):∀{vs:List Value}{rs:List (List Bool)},fB h vs rs->fB h' vs rs
 |_,_,.nil=>.nil
 |_,_,.cons e c d b r=>.cons (k _ _ e) c d b (fB.mono k r)
theorem fB.tups{h:Heap}:∀{vs:List Value}{rs:List (List Bool)},fB h vs rs->∃fs,PySem.W.KatTups h vs fs/\fs.length=vs.length/\∀v∈fs,∃b,v=.bool b
 |_,_,.nil=>⟨[],PySem.W.KatTups.nil,rfl,fun v z=>nomatch z⟩
 |_,_,.cons (b:=b) e c d bb r=>by
  obtain⟨fs,t,l,f⟩:=r.tups
  have h0:∃x,(‹Array Value›)[0]? =some x/\x=.bool b:=by
   rename_i arr _ _ _ _
   cases q:arr.toList with
   |nil=>rw[q]at bb;cases bb
   |cons x xs=>
    rw[q]at bb
    cases bb
    refine⟨.bool b,?_,rfl⟩
    have:arr=(Value.bool b::xs).toArray:=by rw[<-q]
    rw[this]
    rfl
  obtain⟨x,hx,rfl⟩:=h0
  refine⟨.bool b::fs,PySem.W.KatTups.cons e c d hx t,by simp[l],fun v z=>?_⟩
  rcases QCq.mp z with rfl|z
  ·exact⟨b,rfl⟩
  ·exact f v z
theorem fB.at{h:Heap}:∀{vs:List Value}{rs:List (List Bool)},fB h vs rs->∀{i:Nat}{r:List Bool},rs[i]? =some r->∃a o arr n,vs.getD i Value.none=.ref a/\h.get? a=some o/\o.data=.seq arr n/\BoolsAre arr.toList r
 |_,_,.cons e c d b t,0,r,q=>by cases q;exact⟨_,_,_,_,rfl,e,d,b⟩
 |_,_,.cons e c d b t,i+1,r,q=>by
  obtain⟨a,o,arr,n,z⟩:=t.at (i:=i) (r:=r) (by simpa using q)
  exact⟨a,o,arr,n,by simpa using z⟩
theorem rE{K:QQq}{H:Hp}:∀{ys:List D}{bs:List Bool}{vs:List V}{us:List Value},bools ys=some bs->ao K H ys vs->Vals vs us->BoolsAre us bs
 |[],bs,vs,us,e,d,v=>by
  cases e
  rw[ao.bC.mp d]at v
  cases v
  exact .nil
 |y::ys,bs,vs,us,e,d,v=>by
  obtain⟨w,ws,rfl,h1,h2⟩:=ao.aH.mp d
  cases v with
  |cons r t=>
   cases y with
   |bl b=>
    simp only[bools]at e
    cases q:bools ys with
    |none=>rw[q]at e;cases e
    |some bs'=>
     rw[q]at e
     cases e
     cases h1
     cases r
     exact .cons b (rE q h2 t)
   |_=>simp[bools]at e
theorem BW{X:Cx}{QLz:QQz}{σ:St}{H:Hp}{s:Shared}(I:Inv X QLz σ H s):∀{xs:List D}{rs:List (List Bool)}{vs:List V}{us:List Value},jb xs=some rs->ao X.K H xs vs->Vals vs us->fB s.heap us rs
 |[],rs,vs,us,e,d,v=>by
  cases e
  rw[ao.bC.mp d]at v
  cases v
  exact .nil
 |y::ys,rs,vs,us,e,d,v=>by
  obtain⟨w,ws,rfl,h1,h2⟩:=ao.aH.mp d
  cases v with
  |cons r t=>
   cases y with
   |tup zs=>
    simp only[jb]at e
    cases q:bools zs with
    |none=>rw[q]at e;cases e
    |some bs=>
     cases bs with
     |nil=>rw[q]at e;cases e
     |cons b bs=>
      rw[q]at e
      simp only at e
      cases q2:jb ys with
      |none=>rw[q2]at e;cases e
      |some rs'=>
       rw[q2]at e
       cases e
       obtain⟨a,us',rfl,hq,l⟩:=cI h1
       cases r
       obtain⟨its,rr,⟨o,eo,c,n,dt⟩,_⟩:=I.tuple hq
       exact .cons eo c dt (by simpa using rE q l rr) (BW I q2 h2 t)
   |_=>simp[jb]at e
theorem oX{K:QQq}{H:Hp}{xs:List D}{vs:List V}{us:List Value}(d:ao K H xs vs)(v:Vals vs us):∀{is:List Nat}{ys:List D},qQ xs is=some ys->∃ws,ao K H ys ws/\Vals ws (is.map fun i=>us.getD i Value.none)
 |[],ys,e=>by cases e;exact⟨[],ao.dY,.nil⟩
 |i::is,ys,e=>by
  simp only[qQ]at e
  cases q:xs[i]? with
  |none=>rw[q]at e;cases e
  |some x=>
   rw[q]at e
   simp only[QHq]at e
   cases q2:qQ xs is with
   |none=>rw[q2]at e;cases e
   |some ys'=>
    rw[q2]at e
    cases e
    obtain⟨ws,h1,h2⟩:=oX d v q2
    obtain⟨w,ew,dw⟩:=d.get q
    obtain⟨u,eu,ru⟩:=v.get ew
    refine⟨w::ws,ao.cN dw h1,?_⟩
    rw[Qyz]
    have:us.getD i Value.none=u:=by simp[List.getD,eu]
    rw[this]
    exact .cons ru h2
variable{H:Hp}{K:QQq}{v:V}
theorem cQ.ae6{xs:List D}(h:cQ K H (.lst xs) v):∃a vs,v=.ref a/\iY K H a vs/\ao K H xs vs:=by
 rcases h with h|⟨o,a,q,rfl,u,ha,hq⟩
 ·obtain⟨a,vs,rfl,hq,l⟩:=cV h
  exact⟨a,vs,rfl,hq.sq,l⟩
 ·cases o<;>cases q
  obtain⟨vs,rfl,l⟩:=hq
  exact⟨a,vs,rfl,.inl (.inl ha),l⟩
def RV(K:QQq):List V->Hp->VK->Prop:=fun us H Q=>∃l vs xs ys,us=[.ref l]/\iY K H l vs/\ao K H xs vs/\oU xs=some ys/\∀ws,ao K H ys ws->∀a,H a=none->Q (.ref a) (upd H a (.lst ws))
section
variable{X:Cx}
theorem v8:fJ X (.builtin "sorted") (RV X.K):=by
 intro QLz s σ H us ws Q I r h
 obtain⟨l,vs,xs,ys,rfl,hq,dl,es,q⟩:=h
 obtain⟨u,rfl,ru⟩:=vals1 r
 cases ru
 obtain⟨its,rr,pl,hz⟩:=I.list hq
 have lx:=dl.length
 have lv:=rr.length
 have fin:∀(zs:List V)(out:List Value),ao X.K H ys zs->Vals zs out->out.length<=sizeLine->EP X QLz σ Q (.ref (s.heap.objs.size+1)) {s with heap:=PyProof.Rows.sortedAll s.heap its out.toArray}:=fun zs out d v lz=>by
  obtain⟨e,ea⟩:=PyProof.Rows.sortedAll_at s.heap its out.toArray
  exact⟨.ref (s.heap.objs.size+1),_,I.laid (t':=s.toks) (fun b o x=>PyProof.Rows.sortedAll_old x) (Nat.le_succ _) (show bN X.prog X.w _ _ _ (.lst zs)from⟨by rw[v.length];exact lz,out,e,v,ea⟩),rfl,q zs d _ (I.hok.fresh (Nat.le_succ _))⟩
 unfold oU at es
 by_cases h1:xs.length<2
 ·rw[if_pos h1]at es
  cases es
  exact sW pl.isList (by omega) rfl (fun _=>rfl) (fun z=>absurd z (by omega)) (fin vs its dl rr (by omega))
 ·rw[if_neg h1]at es
  by_cases h64:xs.length<64
  ·rw[if_pos h64]at es
   unfold ab7 at es
   cases e1:jb xs with
   |none=>
    rw[e1]at es
    cases es
   |some rs=>
    rw[e1]at es
    simp only[QHq]at es
    cases e2:Ij (Q7 rs) (PySem.W.kas_sort xs.length)with
    |none=>rw[e2]at es;cases es
    |some p=>
     rw[e2]at es
     simp only[QHq]at es
     by_cases e3:p.size=xs.length
     ·rw[if_pos e3]at es
      obtain⟨zs,d,v⟩:=oX dl rr es
      have RA:=BW I e1 dl rr
      have lo:(p.toList.map fun i=>its.getD i Value.none).length=its.length:=by rw[QAq,Array.length_toList];omega
      refine sW pl.isList (by omega) lo (fun z=>absurd z (by omega)) (fun _ h' kp=>?_) (fin zs _ d v (by omega))
      have RA':=RA.mono kp
      obtain⟨fs,t,lf,fb⟩:=RA'.tups
      refine PySem.W.kat_kind (T:=.type "bool") t (by omega) (fun v hv=>?_) (by decide) ⟨rfl,?_⟩
      ·obtain⟨b,rfl⟩:=fb v hv
       exact PySem.W.Looks.of_pure rfl
      ·have el:its.length=xs.length:=by omega
       rw[el]
       refine qM (f:=Q7 rs) (fun i j b C e c=>?_) _ e2 ⟨rfl,rfl⟩
       unfold Q7 at e
       cases ei:rs[i]? with
       |none=>rw[ei]at e;cases e
       |some ri=>
        cases ej:rs[j]? with
        |none=>rw[ei,ej]at e;cases e
        |some rj=>
         rw[ei,ej]at e
         cases e
         obtain⟨ai,oi,arri,ni,x1,x2,x3,x4⟩:=RA'.at ei
         obtain⟨aj,oj,arrj,nj,y1,y2,y3,y4⟩:=RA'.at ej
         show wpAny _ _ (PyProof.Rows.keyLt' _ (its.getD i Value.none) (its.getD j Value.none)) _ _ _
         rw[x1,y1]
         exact yc ⟨oi,ni,x2,x3⟩ ⟨oj,nj,y2,y3⟩ x4 y4 c
     ·rw[if_neg e3]at es;cases es
  ·rw[if_neg h64]at es;cases es
theorem zx:pB X (RV X.K) (b1 .sorted):=by
 intro env σ H x z v Q S Dx e q
 simp only[b1]at e
 cases x with
 |lst xs=>
  simp only[jy,QHq,MN]at e
  cases es:oU xs with
  |none=>rw[es]at e;cases e
  |some ys=>
   rw[es]at e
   cases e
   obtain⟨a,vs,rfl,hq,l⟩:=Dx.ae6
   exact⟨a,vs,xs,ys,rfl,hq,l,es,fun ws d p hp=>q _ _ (Nx.laid S hp) (jW S d hp)⟩
 |_=>simp[jy]at e
end
variable{env:Ev}{σ:St}
section
variable{X:Cx}{W:Wi}{c:Cf}{m m1 m2 m3:E}{e a b:Expr}{pos:Pos}
theorem W7{k:Nat}{x:Str}(nm:gZ X k x):GE X W c (.ref k) (.Name x pos):=by
 intro env
 refine PE.imp nm.pe fun σ H Q q=>?_
 simp only[Hq]at q
 have go:∀o,(env[k]? =some (.own o)\/env[k]? =some (.bor o))->tM X.K W env (.ok (.ref k) env) σ H Q->HF k σ H Q:=fun o e q=>by
  have:∃a,(σ[k]?).join=some (.ref a):=by
   rcases e with e|e
   ·obtain⟨a,z,_⟩:=q.1.sl k _ e;exact⟨a,z⟩
   ·obtain⟨a,z,_⟩:=q.1.sl k _ e;exact⟨a,z⟩
  obtain⟨a,z⟩:=this
  exact⟨.ref a,bO z,q.2 _ H (Nx.refl q.1) (bO z)⟩
 cases e:env[k]? with
 |none=>rw[e]at q;exact q.2.elim
 |some s=>
  rw[e]at q
  cases s with
  |un=>exact q.2.elim
  |val d=>exact q.2.elim
  |own o=>exact go o (.inl e) q
  |bor o=>exact go o (.inr e) q
theorem W5(h:GE X W c m e):GE X W c (.tmp m) e:=by
 intro env
 refine PE.imp (h env) fun σ H Q q=>?_
 simp only[Np]at q
 refine⟨q.1,?_⟩
 have q2:=q.2
 cases r:ev c m env with
 |bad=>rw[r]at q2;exact q2
 |exc k env1=>rw[r]at q2;exact q2
 |ok x env1=>
  rw[r]at q2
  cases x with
  |val d=>exact False.elim q2
  |ref i=>exact False.elim q2
  |tmp o=>exact False.elim q2
  |new o=>exact q2
theorem HH{r:Out Rv}{f:Bool->Ev->Out Rv}{Q R:Bool->Hp->Prop}(h:tT K W env (r.cj gP f) σ H Q)
  (k:∀b env1 H1,Nx K env σ H env1 H1->tT K W env1 (f b env1) σ H1 Q->R b H1):tT K W env r σ H R:=by
 have step:∀d env1 x,x.jG=some d->r=.ok x env1->∃b,gP d=some b/\∀H1,Nx K env σ H env1 H1->R b H1:=fun d env1 x ex er=>by
  subst er
  cases q:gP d with
  |none=>
   cases x with
   |val d'=>cases ex;simp only[Out.cj,Out.ak,q]at h;exact h.2.elim
   |new xs=>cases ex;simp only[Out.cj,Out.ak,q]at h;exact h.2.elim
   |ref i=>cases ex
   |tmp xs=>cases ex
  |some b=>
   refine⟨b,rfl,fun H1 N=>k b env1 H1 N (RG ?_ N)⟩
   cases x with
   |val d'=>cases ex;simp only[Out.cj,Out.ak,q]at h;exact h
   |new xs=>cases ex;simp only[Out.cj,Out.ak,q]at h;exact h
   |ref i=>cases ex
   |tmp xs=>cases ex
 refine⟨h.1,?_⟩
 cases r with
 |bad=>exact h.2
 |exc c env1=>exact h.2
 |ok x env1=>
  cases x with
  |val d=>obtain⟨b,e,q⟩:=step d env1 _ rfl rfl;exact⟨d,b,rfl,e,q⟩
  |new xs=>obtain⟨b,e,q⟩:=step xs.d env1 _ rfl rfl;exact⟨xs.d,b,rfl,e,q⟩
  |ref i=>exact h.2.elim
  |tmp xs=>exact h.2.elim
theorem WN{t:Expr}(ht:GT X W c m1 t)(ha:GT X W c m2 a)(hb:GT X W c m3 b):GT X W c (.ite m1 m2 m3) (.IfExp t a b pos):=by
 intro QLz s σ H Q I ⟨env,q⟩
 have e:∀w,isTrue (.IfExp t a b pos) X.env w=(isTrue t X.env (eval t X.env)>>=fun q=>if q=true then isTrue a X.env (eval a X.env)else isTrue b X.env (eval b X.env)):=fun w=>by first|rfl|rw[PySem.isTrue]|simp only[PySem.isTrue]
 rw[e]
 simp only[Hr]at q
 refine QKq (bW (ht QLz s σ H (fun k H1=>∃env1,tT X.K W env1 (if k=true then ev c m2 env1 else ev c m3 env1) σ H1 Q) I ⟨env,HH q fun k env1 H1 N q1=>⟨env1,q1⟩⟩) fun k s1⟨H1,I1,env1,q1⟩=>?_)
 cases k with
 |true=>rw[if_pos rfl]at q1⊢;exact ha QLz s1 σ H1 Q I1 ⟨env1,q1⟩
 |false=>rw[if_neg Qjz]at q1⊢;exact hb QLz s1 σ H1 Q I1 ⟨env1,q1⟩
end
variable{es:E}{ks:List (Option Expr)}{vs:List Expr}
section
variable{X:Cx}{W:Wi}{c:Cf}{m m1 m2 m3:E}{o a b e f:Expr}{pos p apos cpos:Pos}
theorem KN{d k x z:D}{y w:V}{Q:VK}(D1:cQ K H d v)(D2:bz K H k y)(D3:bz K H x w)(e:kJ d k x=some z)(q:∀u,bz K H z u->Q u H):∃a,v=.ref a/\∃o,pC H a y o/\Q (o.getD w) H:=by
 cases d with
 |cH ks ds=>
  simp only[kJ]at e
  split at e
  ·rename_i hk
   cases e
   obtain⟨kk,rfl⟩:=eN hk
   have ek:=iI D2
   subst ek
   obtain⟨a,kvs,rfl,ha,rfl,l⟩:=j6 D1
   refine⟨a,rfl,fP kvs kk,.inl ⟨kvs,kk,ha,rfl,rfl⟩,q _ ?_⟩
   cases e1:bT (bU kk) (kvs.map fun p=>bU p.1) ds with
   |some d=>
    obtain⟨w,e2,e3⟩:=jY kk e1 l
    rw[e2]
    exact e3
   |none=>
    have n:=jR (kvs:=kvs) kk
    have e4:∀{ks vs:List D},vs.length=ks.length->bT (bU kk) ks vs=none->aK (bU kk) ks=false:=by
     intro ks
     induction ks with
     |nil=>intro vs _ _;rfl
     |cons k' ks ih=>
      intro vs hl h
      cases vs with
      |nil=>simp at hl
      |cons v vs=>
       simp only[bT]at h
       split at h
       ·cases h
       ·rename_i ne
        simp[aK,ne,ih (by simpa using hl) h]
    rw[e4 (by have:=l.length;simpa using this) e1]at n
    have e5:fP kvs kk=none:=by
     cases e6:fP kvs kk with
     |none=>rfl
     |some w=>rw[e6]at n;cases n
    rw[e5]
    exact D3
  ·cases e
 |_=>cases e
theorem J9{d:D}(D1:cQ K H d v)(e:fG (some d)=true):∃a,v=.ref a/\IsD H a:=by
 cases d with
 |cH ks ds=>
  obtain⟨a,kvs,rfl,ha,_⟩:=j6 D1
  exact⟨a,rfl,.inl ⟨kvs,ha⟩⟩
 |_=>cases e
theorem QC(hu:X.A.units+1<cLine)(M:M2 X o "get" apos e f cpos)(hv:∀k,m1.au=some k->∃x p,o=.Name x p/\gZ X k x)(hd:GE X W c m1 o)(hk:GE X W c m2 e)(hx:GE X W c m3 f):GE X W c (.get2 m1 m2 m3) (.Call (.Attribute o "get" apos) [e,f] [] cpos):=by
 intro env
 cases qv:m1.au with
 |some i=>
  obtain⟨x,p,rfl,nm⟩:=hv i qv
  refine PE.imp (Jr hu nm.pe hk.d hx.d M) fun σ H Q q=>?_
  simp only[Uj,qv]at q
  cases e0:fG (aN i env)with
  |false=>rw[e0]at q;exact q.2.elim
  |true=>
   rw[e0]at q
   simp only[Bool.not_true,Qxq,if_false]at q
   cases e1:aN i env with
   |none=>rw[e1]at e0;cases e0
   |some d0=>
    rw[e1]at e0
    obtain⟨u,eu,D0⟩:=dj q.1 e1
    obtain⟨a,rfl,ia⟩:=J9 D0 e0
    refine⟨.ref a,eu,a,rfl,ia,env,aR q fun k env2 y H2 N2 D2 q2=>⟨env2,aR q2 fun x env3 z H3 N3 D3 q3=>?_⟩⟩
    obtain⟨r,er,S,q4⟩:=cF q3
    cases e2:aN i env3 with
    |none=>rw[e2]at er;cases er
    |some d3=>
     rw[e2]at er
     simp only[Option.bind]at er
     obtain⟨u',eu',D4⟩:=dj S e2
     rw[eu]at eu'
     cases eu'
     cases e3:kJ d3 k x with
     |none=>rw[e3]at er;cases er
     |some w=>
      rw[e3]at er
      cases er
      obtain⟨a',ea,o,g,q5⟩:=KN D4 (D2.mono N3.pers) D3 e3 fun u hu=>q4 u H3 (Nx.refl S) hu
      cases ea
      exact⟨o,g,q5⟩
 |none=>
  intro QLz s σ H Q I q
  simp only[Uj,qv]at q
  exact q.2.elim
def aA(X:Cx)(W:Wi)(c:Cf)(m:E):TE:=fun σ H Q=>∃env,tA X.K W env (ev c m env) σ H Q
inductive Kv(X:Cx)(W:Wi)(c:Cf):E->List (Option Expr)->List Expr->List (TE×TE)->Prop
 |nil:Kv X W c .nil [] [] []
 |cons {k v r:E} {ke ve:Expr} {ks:List (Option Expr)} {vs:List Expr} {lM:List (TE×TE)}:GE X W c k ke->GE X W c v ve->Kv X W c r ks vs lM->Kv X W c (.cons k (.cons v r)) (some ke::ks) (ve::vs) ((aA X W c k,aA X W c v)::lM)
theorem wO{R:List V->Hp->Prop}{Q:VK}(q:RK K W env (evs c (.cons m1 m2) env) σ H R)(k:∀v H1 env1,RK K W env1 (evs c m2 env1) σ H1 (fun vs H2=>R (v::vs) H2)->Q v H1):tA K W env (ev c m1 env) σ H Q:=by
 obtain⟨S,q⟩:=q
 refine⟨S,?_⟩
 simp only[evs]at q
 cases r:ev c m1 env with
 |bad=>rw[r]at q;exact q.elim
 |exc k env1=>rw[r]at q;exact q
 |ok x env1=>
  rw[r]at q
  intro v H1 N1 k1
  refine k v H1 env1 ⟨N1.eU,?_⟩
  simp only[Out.bind]at q
  cases r2:evs c m2 env1 with
  |bad=>rw[r2]at q;exact q.elim
  |exc k env2=>rw[r2]at q;exact fun H2 N2=>q H2 (N1.trans N2)
  |ok xs env2=>
   rw[r2]at q
   intro vs H2 N2 k2
   exact q (v::vs) H2 (N1.trans N2) ⟨v,vs,rfl,k1.on S N1 N2,k2.weaken N1.dom⟩
def mY:List (V×V)->List V
 |[]=>[]
 |p::r=>p.1::p.2::mY r
theorem pN:∀{a b:List (V×V)},mY a=mY b->a=b
 |[],[]=>fun _=>rfl
 |[],_::_=>fun h=>by cases h
 |_::_,[]=>fun h=>by cases h
 |(x,y)::a,(x',y')::b=>fun h=>by
  simp only[mY,List.cons.injEq]at h
  obtain⟨rfl,rfl,h⟩:=h
  rw[pN h]
theorem Kv.pps{lM:List (TE×TE)}(h:Kv X W c es ks vs lM):PPs X pos ks vs lM:=by
 induction h with
 |nil=>exact O9
 |cons hk hv _ ih=>exact Jg (fun QLz s σ H Q I⟨env,q⟩=>hk.ag env QLz s σ H Q I q) (fun QLz s σ H Q I⟨env,q⟩=>hv.ag env QLz s σ H Q I q) ih
theorem Kv.go{lM:List (TE×TE)}(h:Kv X W c es ks vs lM):∀{env:Ev}{σ:St}{H:Hp}{R:List V->Hp->Prop},RK X.K W env (evs c es env) σ H R->uZ lM σ H fun ps H2=>R (mY ps) H2:=by
 induction h with
 |nil=>
  intro env σ H R q
  obtain⟨S,q⟩:=q
  simp only[evs]at q
  exact q [] H (Nx.refl S) rfl
 |cons hk hv _ ih=>
  intro env σ H R q
  exact⟨env,wO q fun x H1 env1 q1=>⟨env1,wO q1 fun y H2 env2 q2=>ih q2⟩⟩
theorem Nx.relaid{env1:Ev}{H2:Hp}{p:Addr}{u u':HO}(S:Sat K env σ H)(hp:H p=none)(hu:M5 u)(N:Nx K env σ (upd H p u) env1 H2):H2 p=some u/\Nx K env σ H env1 (upd H2 p u'):=by
 have no:∀i,¬aJ env σ i p:=S.kZ hp
 have e:H2 p=some u:=N.keep p u aP no
 have ne:∀b w,H b=some w->b≠p:=fun b w q z=>by subst z;rw[hp]at q;cases q
 have N0:=(Nx.laid (o:=u) S hp).trans N
 have P:=gU (u':=u') e hu
 refine⟨e,⟨N.eU.keep P fun i b w o q=>?_,N0.sub,N0.pers.trans P,fun b w q n=>?_,fun b q=>?_,N0.bors⟩⟩
 ·rw[aB (fun z=>by subst z;exact no i (N.sub i _ o))];exact q
 ·rw[aB (ne b w q)];exact N0.keep b w q n
 ·by_cases hb:b=p
  ·subst hb;exact hp
  ·rw[aB hb]at q;exact N0.dom b q
theorem K8{ds:List D}{r:Rv}(h:K9 ds=some r):∃(k:SK)(v:D),ds=[dX k,v]/\r=.new (.sdt [dX k] [v]):=by
 unfold K9 at h
 split at h
 ·split at h
  ·rename_i hk
   obtain⟨k,rfl⟩:=jC hk
   cases h
   exact⟨k,_,rfl,rfl⟩
  ·cases h
 ·cases h
theorem Xg(hu:X.A.units+2<cLine){lM:List (TE×TE)}(h:Kv X W c es ks vs lM)(hall:ks.all (·.isSome)=true)(hl:ks.length=vs.length)(h0:ks≠[])(h15:ks.length<=15):GE X W c (.dsp es) (.Dict ks vs pos):=by
 intro env
 refine PE.imp (Pq hu h.pps hall hl h0 h15) fun σ H Q q p hp=>?_
 simp only[adY]at q
 obtain⟨S,q⟩:=q
 have S1:=(Nx.laid (o:=.dK []) S hp).eU
 have go:RK X.K W env (evs c es env) σ (upd H p (.dK [])) (fun us H2=>H2 p=some (.dK [])/\∃k a v,us=mY [(.ref a,v)]/\cB X.K H2 k a/\Q (.ref p) (upd H2 p (sD [(k,a,v)]))):=by
  refine⟨S1,?_⟩
  cases r:evs c es env with
  |bad=>rw[r]at q;exact q.elim
  |exc k env1=>rw[r]at q;exact fun H2 N=>q H2 ((Nx.laid S hp).trans N)
  |ok rs env1=>
   rw[r]at q
   simp only[Out.bind]at q
   cases e1:aV rs with
   |none=>rw[e1]at q;exact q.elim
   |some ds=>
    rw[e1]at q
    simp only[QHq]at q
    unfold Am at q
    by_cases hd:(decide (ds.length<=30)&& !ds.isEmpty)=true
    ·rw[if_pos hd]at q
     simp only[QUq,QUz]at hd
     cases e0:K9 ds with
     |some rv0=>
      rw[e0]at q
      intro us H2 N rv
      have l:ao X.K H2 ds us:=gY.ds (by rw[yC es env r];exact rv) e1
      obtain⟨k,v,rfl,rfl⟩:=K8 e0
      obtain⟨x,w1,rfl,h1,l1⟩:=ao.aH.mp l
      obtain⟨y,w2,rfl,h2,l2⟩:=ao.aH.mp l1
      cases ao.bC.mp l2
      obtain⟨a,rfl,ka⟩:=p7 h1
      obtain⟨b1,b2⟩:=Nx.relaid (u':=sD [(k,a,y)]) S hp (by constructor<;>(intros;intro z;cases z)) N
      have P:=gU (u':=sD [(k,a,y)]) b1 (by constructor<;>(intros;intro z;cases z))
      refine⟨b1,⟨k,a,y,rfl,ka,q _ _ b2 ⟨p,rfl,⟨_,aP,[(k,a,y)],rfl,rfl,fun x hx=>?_,?_⟩,hp⟩⟩⟩
      ·cases QDz.mp hx
       obtain⟨b,q1,q2⟩:=ka
       exact⟨b,P.Et q1,P.Et q2⟩
      ·exact ao.aH.mpr ⟨y,[],rfl,h2.mono P,ao.dY⟩
     |none=>rw[e0]at q;exact q.elim
    ·rw[if_neg hd]at q;exact q.elim
 have:=h.go go
 refine cast ?_ this
 congr 1
 funext ps H2
 refine propext ⟨fun⟨z,f⟩=>⟨z,?_⟩,fun⟨z,f⟩=>⟨z,?_⟩⟩
 ·obtain⟨k,a,v,e,h⟩:=f
  exact⟨k,a,v,pN e,h⟩
 ·obtain⟨k,a,v,e,h⟩:=f
  exact⟨k,a,v,by rw[e],h⟩
theorem Xf:GE X W c .emp (.Dict [] [] pos):=by
 intro env
 refine PE.imp Jq fun σ H Q q p hp=>?_
 obtain⟨S,q⟩:=q
 exact q (.ref p) _ (Nx.laid S hp) ⟨p,rfl,⟨_,aP,[],rfl,rfl,ao.dY⟩,hp⟩
end
def Ite(K:QQq)(l:Addr)(vs:List V):It:=
 ⟨fun i H=>Eh K H l vs/\i<vs.length,
  fun i H x H'=>∃p v,H p=none/\x=.ref p/\vs[i]? =some v/\H'=upd H p (.tup [.int i,v]),
  fun i H=>Eh K H l vs/\vs.length<=i⟩
theorem Eo{P:Program}{w:World}{elts:List Expr}{x1:_}{pos:Pos}{e it l:Addr}{vs:List V}(ne:e≠it):
  Turn P w K (.Tuple elts x1 pos) (Ite K l vs) [e,it] e (fun i h=>(∃old,IsEnum h e it i old)/\h.IsListIter it l i) where
 mem:=by simp
 obj:=fun i h st b hb=>by
  obtain⟨⟨old,he⟩,o,ho,_,hd⟩:=st
  simp only[QCq,QAz,or_false]at hb
  rcases hb with rfl|rfl
  ·exact⟨_,he,fun v z=>by cases z⟩
  ·exact⟨o,ho,fun v z=>by rw[hd]at z;cases z⟩
 keep:=fun i h h' st k=>by
  obtain⟨⟨old,he⟩,hit⟩:=st
  exact⟨⟨old,k e (by simp) _ he⟩,hit.at fun o q=>k it (by simp) o q⟩
 item:=by
  intro X hP hw hK hc i QLz s σ H E I hf st hg
  subst hP hw hK
  obtain⟨hq,hi⟩:=hg
  obtain⟨its,r,p,_⟩:=I.list hq.sq
  have ev:vs[i]? =some vs[i]:=QXq hi
  obtain⟨x,ex,rx⟩:=r.get ev
  obtain⟨⟨old,he⟩,hit⟩:=st
  have lt:∀b∈[e,it],b<s.heap.objs.size:=fun b hb=>by
   obtain⟨o,ho,_⟩:=id hit
   simp only[QCq,QAz,or_false]at hb
   rcases hb with rfl|rfl
   ·exact Qqz he
   ·exact Qqz ho
  refine wpAny_pyNext_enum_item he hit p.isList (x:=x) (by simpa using ex) ne fun h' ho hit' hT hsz hk=>?_
  refine⟨_,rfl,wpAny_letOwnedTupleGo_enum (s:={s with heap:=h',toks:=s.toks+1}) ho fun h'' he'' sb=>?_⟩
  have kk:∀b o,b∉[e,it]->s.heap.get? b=some o->h''.get? b=some o:=fun b o hb q=>by
   simp only[QCq,QAz,or_false,not_or]at hb
   exact sb.extBut _ _ hb.1 (hk b o hb.1 hb.2 q)
  have new:h''.get? s.heap.objs.size=some {cls:=.type "tuple",data:=.seq #[.int i s.toks,x]}:=sb.extBut _ _ (Nat.ne_of_gt (lt e (by simp))) hT
  have I1:Inv X QLz σ (upd H s.heap.objs.size (.tup [.int i,vs[i]])) {s with heap:=h'',toks:=s.toks+1}:=
   Inv.sO (t':=s.toks+1) I kk hf (QVz _) ⟨by show 2<=sizeLine;rw[sizeLine_eq];decide,[.int i s.toks,x],.cons ⟨s.toks,rfl⟩ (.cons rx .nil),_,new,rfl,rfl,_,rfl⟩
  refine⟨.ref s.heap.objs.size,_,I1,rfl,⟨_,_,I.hok.fresh (QVz _),rfl,ev,rfl⟩,⟨⟨x,by simpa using he''⟩,hit'.at fun o q=>sb.extBut _ _ (Ne.symm ne) q⟩,fun b hb=>?_⟩
  rw[aB (Qvz (lt b hb))]
  exact(hf b hb).1
 done:=by
  intro X hP hw hK hc i QLz s σ H E I hf st hg
  subst hP hw hK
  obtain⟨hq,hi⟩:=hg
  obtain⟨its,r,p,_⟩:=I.list hq.sq
  obtain⟨⟨old,he⟩,hit⟩:=st
  have l1:=r.length
  refine wpAny_pyNext_enum_end (I.ok.hd hc) he hit p.isList (by simp;omega) fun h' kk=>⟨rfl,?_⟩
  exact Inv.Bv (t':=s.toks) (ch:=[e,it]) I (fun b o hb q=>kk b o (fun z=>hb (by simp[z])) q) hf
 self:=fun A i s Q E st h=>by
  obtain⟨⟨old,he⟩,_⟩:=st
  exact wpAny_pyIter_enum he h
def Dt(xs:List D):List D:=aC (aW 0 xs.length) xs
theorem Ad{l:Addr}{vs:List V}{xs:List D}(h1:Eh K H l vs)(d1:ao K H xs vs)(hz:vs.length<=sizeLine):Gives K (Ite K l vs) (Dt xs) H where
 go:=fun H1 p i d e=>by
  obtain⟨x,y,ex,ey,_⟩:=jn e
  obtain⟨v,ev,_⟩:=d1.get ey
  exact⟨p.QJ h1,(QCz.mp ev).1⟩
 yld:=fun H1 p i d e x H2 y=>by
  obtain⟨a,v,hn,rfl,ev,rfl⟩:=y
  obtain⟨dx,dy,ex,ey,rfl⟩:=jn e
  obtain⟨v',ev',dv⟩:=d1.get ey
  rw[ev]at ev'
  cases ev'
  rw[(ik 0 xs.length i dx ex).1]
  have pp:bK H1 (upd H1 a (.tup [.int i,v])):=by
   refine⟨fun b xs q=>?_,fun b o w q=>?_⟩
   ·rw[aB (fun z=>by subst z;rw[hn]at q;cases q)];exact q
   ·rw[aB (fun z=>by subst z;rw[hn]at q;cases q)];exact q
  exact⟨dB (.inl (.inl aP)) (ao.cN (by simp[bz]) (ao.cN ((dv.mono p).mono pp) ao.dY)),.inr ⟨a,_,hn,rfl⟩⟩
 stop:=fun H1 p i hi=>by
  rw[Dt,jm,fV]at hi
  have:=d1.length
  exact⟨p.QJ h1,by omega⟩
 len:=by rw[Dt,jm,fV];have:=d1.length;omega
section
variable{X:Cx}{W:Wi}{c:Cf}{m1:E}{a:Expr}{pos p:Pos}
theorem Qy{elts:List Expr}{x1:_}{tp:Pos}(ha:GE X W c m1 a)(hg:Gl X "enumerate")(hm:X.mg "enumerate"=none)(hs:starEach [a] X.env=[(false,eval a X.env)]):
  GI X W c (.enum m1) (.Tuple elts x1 tp) (.Call (.Name "enumerate" p) [a] [] pos):=by
 intro env QLz s σ H R I q
 simp only[adX]at q
 let RR:List V->Hp->Prop:=fun vs H'=>∃env2 xs v1,vs=[v1]/\bz X.K H' (.lst xs) v1/\Sat X.K env2 σ H'/\∀J H2,Nx X.K env2 σ H' env2 H2->Gives X.K J (Dt xs) H2->R J H2
 have go:aD X W c m1 σ H fun v1 H1=>RR [v1] H1:=by
  refine⟨env,pX q fun d1 env1 v1 H1 N1 D1 q1=>?_⟩
  cases d1 with
  |lst xs=>
   obtain⟨S,d,zs,z1,z2,z3⟩:=q1
   cases z1
   cases z2
   exact⟨env1,xs,v1,rfl,D1,S,z3⟩
  |_=>exact q1.2.elim
 refine wpAny_Call_Name_kw (iB I hg hm PyProof.Rows.boot_enumerate ?_ (by decide) (by decide))
 refine PyProof.Rows.callWith_type1 (bW (cG ha.d eF hs pos QLz s σ H RR I go) fun us s1⟨vs,H1,I1,r1,q1⟩=>?_) hs rfl
 obtain⟨env2,xs,v1,rfl,D1,S2,q3⟩:=q1
 obtain⟨l,vs,rfl,hq,dl⟩:=cV D1
 obtain⟨u1,rfl,ru1⟩:=Vals.one r1
 cases ru1
 obtain⟨its,rr1,p1,z1⟩:=I1.list hq.sq
 refine call_enumerate_list p1.isList fun h' he hit sz kk=>?_
 refine wpAny_pyIter_enum he ?_
 refine⟨s1.heap.objs.size+1,[s1.heap.objs.size+1,s1.heap.objs.size],_,_,H1,rfl,I1.kept (t':=s1.toks) kk,Eo (e:=s1.heap.objs.size+1) (it:=s1.heap.objs.size) (l:=l) (vs:=vs) (Nat.succ_ne_self _),⟨⟨.none,he⟩,hit⟩,fun b hb=>?_,q3 _ H1 (Nx.refl S2) (Ad hq dl z1)⟩
 have hb':s1.heap.objs.size<=b:=by
  simp only[QCq,QAz,or_false]at hb
  rcases hb with rfl|rfl<;>omega
 exact I1.yt hb' (I1.hok.fresh hb')
end
end Mini
end
section
namespace Mini
open PySem
structure Ct where
 N:List Str
 sc:Scope
 fns:List (Str×List Bool)
 j4:List Str
 exs:List Str:=[]
def nQ:List Str->Str->Option Nat
 |[],_=>none
 |y::r,x=>if x=y then some 0 else(nQ r x).map (· +1)
def Lh:Const->Option D
 |.none=>some .non
 |.bool b=>some (.bl b)
 |.int i=>some (.int i)
 |.str x=>some (.str x)
 |_=>none
def Ui(sc:Scope)(x:Str):Bool:=match sc.names.lookup x with
 |some .local=>true
 |some .cell=>true
 |some .free=>true
 |_=>false
def yp(sc:Scope)(x:Str):Bool:=sc.names.lookup x==some .globalImplicit
def Jy(x:Str):Bool:= !(x==("__debug__":Str))&& !(x==("__classdict__":Str))
def ju(C:Ct)(x:Str):Option E:=
 if Jy x then
  match nQ C.N x with
  |some k=>if Ui C.sc x then some (.var k)else none
  |none=>if yp C.sc x then(nQ C.j4 x).map .glob else none
 else none
def opB:Operator->Option M3
 |.Add=>some .add
 |.Sub=>some .sub
 |.Mult=>some .mul
 |.Mod=>some .mod
 |.FloorDiv=>some .fdiv
 |.Pow=>some .pow
 |_=>none
def cmB:CmpOp->Option Cm
 |.Eq=>some .eq
 |.NotEq=>some .ne
 |.Lt=>some .lt
 |.LtE=>some .le
 |.Gt=>some .gt
 |.GtE=>some .ge
 |.In=>some .isin
 |.NotIn=>some .notin
 |.Is=>some .f9
 |.IsNot=>some .notN
def tyB(x:Str):Option Ty:=
 if x="tuple" then some .tup else if x="list" then some .lst else if x="str" then some .str else if x="bool" then some .bool else if x="int" then some .int else if x="dict" then some .cH else none
def Y4(x:Str):Option Bi:=
 if x="len" then some .len else if x="int" then some .int else if x="tuple" then some .tuple else if x="list" then some .list else if x="all" then some .all else if x="any" then some .any
 else if x="sorted" then some .sorted else if x="dict" then some .dict else none
def plain:Expr->Bool
 |.BoolOp .. |.BinOp .. |.UnaryOp .. |.IfExp .. |.ListComp .. |.Compare .. |.Call .. |.Constant .. |.Subscript .. |.Name .. |.List .. |.Tuple .. |.Dict .. =>true
 |_=>false
def E.S9:E->Bool
 |.nil=>true
 |_=>false
def fnAt(C:Ct)(x:Str):Option (Nat×List Bool):=(nQ (C.fns.map (·.1)) x).bind fun g=>(C.fns[g]?).map fun p=>(g,p.2)
def qt(scope outer:Scope):Scope:=
 {scope with names:=scope.names.map fun(n,k)=>if (k== .free&&outer.kind== .function&&outer.names.lookup n==some .cell)then(n,.cell)else(n,k)}
def qi(tgs N:List Str):List Str:=tgs++N.map fun x=>if tgs.contains x then(".":Str)++x else x
def rY:Expr->Option Str
 |.Name x _=>some x
 |_=>none
def Us:Expr->Option (List Str×Tg)
 |.Name x _=>some ([x],.name 0)
 |.Tuple es _ _=>(es.mapM rY).map fun xs=>(xs,.tup (List.range xs.length))
 |_=>none
def U8(outer inner:Scope)(tgs N:List Str):Bool:=
 decide (inner.kind=.function)&&decide ((qi tgs N).Nodup)
 &&(inner.names.all fun p=>(p.2 != .local)||((tgs.contains p.1||p.1==(".0":Str))&&inner.names.lookup p.1==some .local))
 &&(tgs.all fun x=>inner.names.lookup x==some .local)
 &&(inner.names.all fun p=>p.2 != .cell)
 &&(inner.names.all fun p=>(p.2 != .free)||outer.names.lookup p.1==some .cell||outer.names.lookup p.1==some .free)
 &&(N.all fun x=> !tgs.contains x||(inner.names.lookup ((".":Str)++x)).isNone)
 && !N.contains (".0":Str)
def isCall:Expr->Bool
 |.Call .. =>true
 |_=>false
def Jx(ap cp:Pos):Bool:=ap.endLine==cp.line
mutual
def dg:Nat->Ct->Expr->Option E
 |0,_,_=>none
 |n+1,C,e=>match e with
  |.Constant k _ _=>(Lh k).map .con
  |.Name x _=>ju C x
  |.Tuple es _ _=>(uY n C es).map .tup
  |.List es _=>(uY n C es).map .lis
  |.BinOp a o b _=>(opB o).bind fun o=>(dg n C a).bind fun a=>(dg n C b).map fun b=>.op o a b
  |.UnaryOp o a _=>match o with
   |.USub=>(dg n C a).map .neg
   |.Not=>(dg n C a).map .not
   |_=>none
  |.BoolOp o es _=>(uY n C es).bind fun m=>if m.S9 then none else match o with
   |.And=>some (.and m)
   |.Or=>some (.or m)
  |.Compare a ops cs _=>match ops,cs with
   |[o],[b]=>(cmB o).bind fun o=>(dg n C a).bind fun a=>(dg n C b).map fun b=>.cmp o a b
   |[o,o2],[b,d]=>(cmB o).bind fun o=>(cmB o2).bind fun o2=>(dg n C a).bind fun a=>(dg n C b).bind fun b=>(dg n C d).map fun d=>.chain o o2 a b d
   |_,_=>none
  |.IfExp t a b _=>(dg n C t).bind fun t=>(dg n C a).bind fun a=>(dg n C b).map fun b=>.ite t a b
  |.Subscript a i _=>match i with
   |.Slice lo hi st _=>match st with
    |none=>(dg n C a).bind fun a=>(Ur n C lo).bind fun lo=>(Ur n C hi).map fun hi=>.slc a lo hi
    |some _=>none
   |i=>(dg n C a).bind fun a=>(dg n C i).map fun i=>.idx a i
  |.Call f args kw cp=>match kw with
   |[]=>match f with
    |.Name x _=>if Jy x&&yp C.sc x then(match fnAt C x with
      |some (g,fl)=>(Hb n C fl args).bind fun m=>if m.S9 then none else some (.call g m)
      |none=>ZJ n C x args)else none
    |.Attribute o name ap=>if Jx ap cp then(match args with
      |[e]=>if name="count" then(dg n C o).bind fun m1=>(if plain o&& !isCall o then some ()else none).bind fun _=>(dg n C e).map fun m2=>.count m1 m2
       else if name="pop" then(match o with
        |.Name x _=>(ju C x).bind fun m=>match m with
         |.var k=>(dg n C e).map fun m2=>.popAt k m2
         |_=>none
        |_=>none)
       else none
      |[e,f]=>if name="get" then(dg n C o).bind fun m1=>(if plain o&& !isCall o then some ()else none).bind fun _=>(dg n C e).bind fun m2=>(dg n C f).map fun m3=>.get2 m1 m2 m3 else none
      |_=>none)else none
    |_=>none
   |_=>none
  |.Dict ks vs _=>if ks.isEmpty&&vs.isEmpty then some .emp else if ks.length=vs.length&&decide (ks.length<=15)&& !ks.isEmpty then(Ep n C ks vs).map .dsp else none
  |.ListComp elt gens sc _=>match gens with
   |[g]=>ZG n C elt g sc
   |_=>none
  |_=>none
def Ep:Nat->Ct->List (Option Expr)->List Expr->Option E
 |0,_,_,_=>none
 |n+1,C,ks,vs=>match ks,vs with
  |[],[]=>some .nil
  |some k::ks,v::vs=>(dg n C k).bind fun k=>(dg n C v).bind fun v=>(Ep n C ks vs).map fun r=>.cons k (.cons v r)
  |_,_=>none
def ZG:Nat->Ct->Expr->Comprehension->Scope->Option E
 |0,_,_,_,_=>none
 |n+1,C,elt,g,sc=>if g.is_async=0 then(Us g.target).bind fun(tgs,tg)=>
   if U8 C.sc sc tgs C.N then
    let C2:Ct:={C with N:=qi tgs C.N,sc:=qt sc C.sc}
    (Yk n C g.iter).bind fun it=>(match g.ifs with
     |[]=>some (E.con (.bl true))
     |[c]=>dg n C2 c
     |_=>none).bind fun cond=>(dg n C2 elt).map fun m=>.comp tgs.length tg it cond m
   else none else none
def Yk:Nat->Ct->Expr->Option E
 |0,_,_=>none
 |n+1,C,e=>match e with
  |.Call f args kw cp=>match f,args,kw with
   |.Name x _,[a],[]=>if x="range"&&yp C.sc x&&(fnAt C x).isNone then(dg n C a).map .range1 else dg n C e
   |.Name x _,[a,b],[]=>if x="zip"&&yp C.sc x&&(fnAt C x).isNone then(dg n C a).bind fun a=>(dg n C b).map fun b=>.zip a b else dg n C e
   |_,_,_=>dg n C e
  |_=>dg n C e
def ZJ:Nat->Ct->Str->List Expr->Option E
 |0,_,_,_=>none
 |n+1,C,x,args=>match args with
  |[a,t]=>if x="isinstance" then(match t with
    |.Name y _=>if yp C.sc y then(tyB y).bind fun t=>(dg n C a).map fun a=>.isi a t else none
    |_=>none)else none
  |[a]=>match a with
   |.Call f zs kw _=>(match f,zs,kw with
    |.Name z _,[p,q],[]=>if z="zip"&&yp C.sc z&&(fnAt C z).isNone then
      (if x="dict" then(dg n C p).bind fun p=>(dg n C q).map fun q=>.bi .dict (.zip p q)
       else if x="list" then(dg n C p).bind fun p=>(dg n C q).map fun q=>.bi .list (.zip p q)else none)
     else(Y4 x).bind fun b=>(dg n C a).bind fun m=>if b=.dict&&m.au.isSome then some (.bi b (.rd m))else some (.bi b m)
    |_,_,_=>(Y4 x).bind fun b=>(dg n C a).bind fun m=>if b=.dict&&m.au.isSome then some (.bi b (.rd m))else some (.bi b m))
   |a=>(Y4 x).bind fun b=>(dg n C a).bind fun m=>if b=.dict&&m.au.isSome then some (.bi b (.rd m))else some (.bi b m)
  |_=>none
def Hb:Nat->Ct->List Bool->List Expr->Option E
 |0,_,_,_=>none
 |n+1,C,fl,es=>match fl,es with
  |[],[]=>some .nil
  |false::fl,e::es=>(dg n C e).bind fun m=>(Hb n C fl es).map fun ms=>.cons m ms
  |true::fl,e::es=>(match e with
    |.Name x _=>(ju C x).bind fun m=>match m with
     |.var k=>some (E.ref k)
     |_=>none
    |e=>(dg n C e).map E.tmp).bind fun m=>(Hb n C fl es).map fun ms=>.cons m ms
  |_,_=>none
def Ur:Nat->Ct->Option Expr->Option E
 |0,_,_=>none
 |n+1,C,o=>match o with
  |none=>some .noneE
  |some e=>dg n C e
def uY:Nat->Ct->List Expr->Option E
 |0,_,_=>none
 |n+1,C,es=>match es with
  |[]=>some .nil
  |e::es=>(dg n C e).bind fun m=>(uY n C es).map fun ms=>.cons m ms
end
def Iv(C:Ct)(e f:Option Expr):Nat:=match e,f with
 |some (.Call (.Name x _) [.Constant (.str _) _ _] [] _),none=>if yp C.sc x&&Jy x then(match nQ C.exs x with|some k=>k+1|none=>0)else 0
 |_,_=>0
def Gi(sc:Scope)(x:Str):Bool:=sc.names.lookup x==some .local||sc.names.lookup x==some .cell
def slotsOf(C:Ct):List Expr->Option (List Nat)
 |[]=>some []
 |.Name x _::es=>if Gi C.sc x then(nQ C.N x).bind fun i=>(slotsOf C es).map (i:: ·)else none
 |_=>none
def Hz(C:Ct):Expr->Option Tg
 |.Name x _=>if Gi C.sc x then(nQ C.N x).map .name else none
 |.Tuple es _ _=>(slotsOf C es).map .tup
 |_=>none
def isTup:Expr->Bool
 |.Tuple .. =>true
 |_=>false
def nU:Expr->Bool
 |.ListComp .. =>true
 |_=>false
def isSlice:Expr->Bool
 |.Slice .. =>true
 |_=>false
def trN(n:Nat)(C:Ct)(tg it:Expr):Option E:=if isTup tg then(match it with
  |.Call f as kw _=>(match f,as,kw with
   |.Name x _,[a],[]=>if x="enumerate"&&yp C.sc x&&(fnAt C x).isNone then(dg n C a).map .enum else none
   |_,_,_=>none)
  |_=>none)else none
def trF(n:Nat)(C:Ct)(tg it:Expr):Option E:=match trN n C tg it with
 |some m=>some m
 |none=>Yk n C it
mutual
def RC:Nat->Ct->Stmt->Option S
 |0,_,_=>none
 |n+1,C,st=>match st with
  |.Return v _=>match v with
   |none=>some (.ret ACJ)
   |some e=>(dg n C e).map .ret
  |.Assign ts e _=>match ts with
   |[t]=>match t with
    |.Name x _=>if Gi C.sc x then(nQ C.N x).bind fun i=>(dg n C e).map fun m=>.set i m else none
    |.Tuple es _ _=>if isTup e||nU e then none else(slotsOf C es).bind fun is=>(dg n C e).map fun m=>.setT is m
    |.Subscript o ix _=>match o with
     |.Name x _=>if nU e||isSlice ix then none else(ju C x).bind fun v=>match v with
      |.var k=>(dg n C ix).bind fun i=>(dg n C e).map fun m=>.setIx k i m
      |_=>none
     |_=>none
    |_=>none
   |_=>none
  |.Expr e _=>match e with
   |.Call f args kw cp=>match f,args,kw with
    |.Attribute o name ap,[a],[]=>match o with
     |.Name x _=>if Jx ap cp&&name="append" then(ju C x).bind fun v=>(match v with
       |.var k=>(dg n C a).map fun m=>.append k m
       |_=>none)
      else(dg n C e).map .expr
     |_=>none
    |_,_,_=>(dg n C e).map .expr
   |_=>none
  |.If t a b _=>(dg n C t).bind fun t=>(pR n C a).bind fun a=>(pR n C b).map fun b=>.ite t a b
  |.For tg it b el _=>match el with
   |[]=>(Hz C tg).bind fun tg'=>(trF n C tg it).bind fun it=>(pR n C b).map fun b=>.for_ tg' it b
   |_=>none
  |.While t b el _=>match el with
   |[]=>(dg n C t).bind fun t=>(pR n C b).map fun b=>.while_ t b
   |_=>none
  |.Raise e f _=>some (.raise (Iv C e f))
  |_=>none
def pR:Nat->Ct->List Stmt->Option S
 |0,_,_=>none
 |n+1,C,ss=>match ss with
  |[]=>some .nil
  |s::ss=>(RC n C s).bind fun m=>(pR n C ss).map fun ms=>.cons m ms
end
end Mini
end
section
namespace Mini
open PySem L2
def mQ:List Str:=["isinstance","tuple","list","str","bool","int","dict","len","all","any","sorted","zip","range","enumerate"]
def XX(X:Cx)(c:Cf)(g:Nat)(x:Str):Prop:=∃k f fd ps,oN X.prog X.w X.K X.mg X.base Hg k f fd ps (rP X.K ps.length (c.fn g))/\jj k X.A/\X.mg x=some (.ref f)/\PySem.W.keepIn X.K (.ref f)=true/\Binds X.K fd ps []/\∀sl,c.fn g sl=.bad\/sl.length=ps.length
structure g8(C:Ct)(X:Cx)(c:Cf):Prop where
 N:X.N=C.N
 sc:X.env.scope=C.sc
 nd:C.N.Nodup
 calm:X.calm=true
 hu:X.A.units+60<cLine
 bi:∀x∈mQ,X.mg x=none
 gl:∀k x,C.j4[k]? =some x->∃d,c.gl k=some d/\aco X x d
 fn:∀g x fl,C.fns[g]? =some (x,fl)->XX X c g x
structure Sd(X:Cx)(c:Cf)(m:E)(e:Expr):Prop where
 ge:GE X W0 c m e
 gt:GT X W0 c m e
 pl:plain e=true
 va:∀k,m.au=some k->∃x p,e=.Name x p/\gZ X k x
 nn:m.f9=false
theorem iC:∀{N:List Str}{x:Str}{k:Nat},nQ N x=some k->N[k]? =some x
 |[],_,_,h=>by cases h
 |y::r,x,k,h=>by
  unfold nQ at h
  split at h
  ·rename_i e;cases h;subst e;rfl
  ·cases q:nQ r x with
   |none=>rw[q]at h;cases h
   |some j=>rw[q]at h;cases h;simpa using iC q
variable{x:Str}
theorem Uh{sc:Scope}(h:Ui sc x=true):Zj sc x:=by
 unfold Ui at h
 unfold Zj
 cases q:sc.names.lookup x with
 |none=>rw[q]at h;cases h
 |some k=>rw[q]at h;cases k<;>simp at h<;>simp
theorem Cj(h:Jy x=true):(x==("__debug__":Str))=false/\(x==("__classdict__":Str))=false:=by
 unfold Jy at h
 rw[QUq]at h
 exact⟨by simpa using h.1,by simpa using h.2⟩
section
variable{C:Ct}{X:Cx}{c:Cf}{e a b:Expr}{m m1 m2 m3:E}{pos p:Pos}{x:Str}
theorem kI(O:g8 C X c)(h:yp C.sc x=true):Gl X x:=by
 unfold yp at h
 show X.env.scope.names.lookup x=_
 rw[O.sc]
 simpa using h
theorem bB(h:plain e=true)(es:List Expr)(env:Env):starEach (e::es) env=(false,eval e env)::starEach es env:=by
 cases e<;>first|rfl|exact absurd (show false=true from h) Qjz
theorem qI(h:plain e=true)(o:CmpOp):behindInMarks o e=false:=by
 cases e<;>first|rfl|exact absurd (show false=true from h) Qjz
theorem vQ(h:plain e=true)(env:Env)(x:Value):foldedSetIterable e env x=pure x:=by
 cases e<;>first|rfl|exact absurd (show false=true from h) Qjz
theorem zN(h:plain e=true):wy e:=by
 intro o i
 cases e<;>first|rfl|exact absurd (show false=true from h) Qjz
def tame:Expr->Bool
 |.UnaryOp .Not .. |.BoolOp .. |.IfExp .. |.Compare .. =>false
 |_=>true
theorem Ku(h:GE X W0 c m e)(hp:plain e=true)(ht:tame e=true):GT X W0 c m e:=by
 refine h.t fun whole=>?_
 cases e with
 |UnaryOp o a q=>cases o<;>first|rfl|exact absurd (show false=true from ht) Qjz
 |_=>first|rfl|exact absurd (show false=true from hp) Qjz|exact absurd (show false=true from ht) Qjz
theorem BP(O:g8 C X c)(h:ju C x=some m):Sd X c m (.Name x p):=by
 unfold ju at h
 split at h
 ·rename_i nb
  obtain⟨n1,n2⟩:=Cj nb
  cases q:nQ C.N x with
  |some k=>
   rw[q]at h
   simp only at h
   split at h
   ·rename_i hv
    cases h
    have nm:gZ X k x:=⟨by rw[O.N];exact iC q,by rw[O.sc];exact Uh hv,n1,n2⟩
    exact⟨nm.ge,Ku nm.ge rfl rfl,rfl,fun k' e=>by cases e;exact⟨x,p,rfl,nm⟩,rfl⟩
   ·cases h
  |none=>
   rw[q]at h
   simp only at h
   split at h
   ·rename_i hg
    cases q2:nQ C.j4 x with
    |none=>rw[q2]at h;cases h
    |some k=>
     rw[q2]at h
     cases h
     obtain⟨d,hk,ok⟩:=O.gl k x (iC q2)
     have ge:GE X W0 c (.glob k) (.Name x p):=QB hk ok (kI O hg) n1
     exact⟨ge,Ku ge rfl rfl,rfl,fun k' e=>(by cases e),rfl⟩
   ·cases h
 ·cases h
theorem Ck(O:g8 C X c){k:Nat}(h:ju C x=some (.var k)):gZ X k x:=by
 obtain⟨y,q,e,nm⟩:=(BP (p:=default) O h).va k rfl
 cases e
 exact nm
inductive Al(X:Cx)(c:Cf):E->List Expr->Prop
 |nil:Al X c .nil []
 |cons {m ms:E} {e:Expr} {es:List Expr}:Sd X c m e->Al X c ms es->Al X c (.cons m ms) (e::es)
theorem Al.ga:∀{ms:E}{es:List Expr},Al X c ms es->GA X W0 c ms es
 |_,_,.nil=>KZ
 |_,_,.cons h t=>Dm h.ge t.ga (bB h.pl _ _)
theorem Al.and{es:List Expr}:∀{m ms:E}{e:Expr},Al X c (.cons m ms) (e::es)->GE X W0 c (.and (.cons m ms)) (.BoolOp .And (e::es) pos)/\GW X W0 c (.and (.cons m ms)) (.BoolOp .And (e::es) pos):=by
 induction es with
 |nil=>intro m ms e h;cases h with|cons h t=>cases t;exact⟨QH h.ge,Qt h.gt⟩
 |cons e2 es ih=>intro m ms e h;cases h with|cons h t=>cases t with|cons h2 t=>exact⟨Xj h.ge (ih (.cons h2 t)).1,WQ h.gt (ih (.cons h2 t)).2⟩
theorem Al.or{es:List Expr}:∀{m ms:E}{e:Expr},Al X c (.cons m ms) (e::es)->GE X W0 c (.or (.cons m ms)) (.BoolOp .Or (e::es) pos)/\GW X W0 c (.or (.cons m ms)) (.BoolOp .Or (e::es) pos):=by
 induction es with
 |nil=>intro m ms e h;cases h with|cons h t=>cases t;exact⟨W8 h.ge,WL h.gt⟩
 |cons e2 es ih=>intro m ms e h;cases h with|cons h t=>cases t with|cons h2 t=>exact⟨abJ h.ge (ih (.cons h2 t)).1,abE h.gt (ih (.cons h2 t)).2⟩
theorem V2{o:Operator}{q:M3}(h:opB o=some q):o=aaV q:=by
 cases o<;>first|(cases (show some _=some q from h);rfl)|cases (show none=some q from h)
theorem Aw{o:CmpOp}{q:Cm}(h:cmB o=some q):o=dU q:=by
 cases o<;>first|(cases (show some _=some q from h);rfl)|cases (show none=some q from h)
theorem Lg{k:Const}{d:D}(h:Lh k=some d):Ci d k=true:=by
 cases k<;>simp[Lh]at h<;>subst h<;>simp[Ci]
theorem Up{t:Ty}(h:tyB x=some t):x=Str.ofString (Zx t)/\x∈mQ:=by
 unfold tyB at h
 split at h
 ·rename_i e;cases h;subst e;exact⟨rfl,by decide⟩
 split at h
 ·rename_i e;cases h;subst e;exact⟨rfl,by decide⟩
 split at h
 ·rename_i e;cases h;subst e;exact⟨rfl,by decide⟩
 split at h
 ·rename_i e;cases h;subst e;exact⟨rfl,by decide⟩
 split at h
 ·rename_i e;cases h;subst e;exact⟨rfl,by decide⟩
 split at h
 ·rename_i e;cases h;subst e;exact⟨rfl,by decide⟩
 cases h
theorem Ti(O:g8 C X c){bb:Bi}(h:Y4 x=some bb)(hg:yp C.sc x=true)(ha:Sd X c m a)(hd:bb=.dict->m.au=none):GE X W0 c (.bi bb m) (.Call (.Name x p) [a] [] pos):=by
 have hs:=bB ha.pl [] X.env
 have hG:=kI O hg
 unfold Y4 at h
 split at h
 ·rename_i e;cases h;subst e;exact vP G3 Om ha.ge ha.va hG (O.bi _ (by decide)) PySem.boot_len (by decide) (by decide) hs
 split at h
 ·rename_i e;cases h;subst e;exact Ah G4 Oo ha.ge ha.va hG (O.bi _ (by decide)) PyProof.Rows.boot_int (by decide) (by decide) hs
 split at h
 ·rename_i e;cases h;subst e;exact Ah sE Fj ha.ge ha.va hG (O.bi _ (by decide)) PyProof.Rows.boot_tuple (by decide) (by decide) hs
 split at h
 ·rename_i e;cases h;subst e;exact Ah (Bc O.calm) Ik ha.ge ha.va hG (O.bi _ (by decide)) PyProof.Rows.boot_list (by decide) (by decide) hs
 split at h
 ·rename_i e;cases h;subst e;exact vP (G6 O.calm) Ot ha.ge ha.va hG (O.bi _ (by decide)) PyProof.Rows.boot_all (by decide) (by decide) hs
 split at h
 ·rename_i e;cases h;subst e;exact vP (G5 O.calm) Oq ha.ge ha.va hG (O.bi _ (by decide)) PyProof.Rows.boot_any (by decide) (by decide) hs
 split at h
 ·rename_i e;cases h;subst e;exact vP v8 zx ha.ge ha.va hG (O.bi _ (by decide)) PyProof.Rows.boot_sorted (by decide) (by decide) hs
 split at h
 ·rename_i e;cases h;subst e;exact QD O.calm ha.ge (hd rfl) hG (O.bi _ (by decide)) hs
 cases h
end
variable{env:Env}{outer:Scope}
theorem zz{sc:Scope}(h:env.scope=outer):relabel sc env=qt sc outer:=by
 subst h
 rfl
variable{tgs:List Str}
theorem Ie{inner:Scope}{N:List Str}(h:U8 outer inner tgs N=true):(qi tgs N).Nodup:=by
 unfold U8 at h
 simp only[QUq,QUz]at h
 exact h.1.1.1.1.1.1.2
theorem Ib{inner:Scope}{N:List Str}(h:U8 outer inner tgs N=true):Ha outer inner tgs N:=by
 unfold U8 at h
 simp only[QUq,QUz,List.all_eq_true,Bool.or_eq_true,bne_iff_ne,beq_iff_eq,Bool.not_eq_true',ne_eq]at h
 obtain⟨⟨⟨⟨⟨⟨⟨h1,h2⟩,h3⟩,h4⟩,h5⟩,h6⟩,h7⟩,h8⟩:=h
 refine⟨h1,h2,fun x hx=>?_,fun p hp hl=>?_,h4,h5,fun p hp hf=>?_,fun x hx ht=>?_,fun hx=>?_⟩
 ·rcases h3 (x,.local) (PySem.mem_of_lookup hx)with z|z
  ·exact absurd rfl z
  ·rcases z.1 with z|z
   ·exact .inl (by simpa using z)
   ·exact .inr z
 ·rcases h3 p hp with z|z
  ·exact absurd hl z
  ·exact z.2
 ·rcases h6 p hp with (z|z)|z
  ·exact absurd hf z
  ·exact .inl z
  ·exact .inr z
 ·rcases h7 x hx with z|z
  ·rw[ht]at z;cases z
  ·simpa using z
 ·have:N.contains (".0":Str)=true:=by simpa using hx
  rw[this]at h8;cases h8
variable{tg:Tg}
section
variable{C:Ct}{X:Cx}{c:Cf}{sc:Scope}{tgs:List Str}
theorem g8.blk(O:g8 C X c)(hs:U8 C.sc sc tgs C.N=true){cl:List (Str×Addr)}{fp:List Addr}{s₀:Shared}{H₀:Hp}:g8 {C with N:=qi tgs C.N,sc:=qt sc C.sc} (Mini.blk X sc cl (bG tgs X.N) fp s₀ H₀) c:=
 ⟨by show bG tgs X.N=qi tgs C.N;rw[O.N];rfl,zz O.sc,Ie hs,O.calm,O.hu,O.bi,O.gl,O.fn⟩
theorem qG{sc:Scope}{N:List Str}:∀{es:List Expr}{xs:List Str}(k:Nat),es.mapM rY=some xs->(∀j x,xs[j]? =some x->N[k+j]? =some x)->(∀x∈xs,sc.names.lookup x=some .local)->gm sc N (List.range' k xs.length) es=true
 |[],xs,k,h,_,_=>by
  simp at h;subst h;rfl
 |e::es,xs,k,h,hN,hl=>by
  rw[List.mapM_cons]at h
  cases q:rY e with
  |none=>rw[q]at h;cases h
  |some x=>
   rw[q]at h
   cases q2:es.mapM rY with
   |none=>rw[q2]at h;cases h
   |some ys=>
    rw[q2]at h
    cases h
    cases e<;>simp[rY]at q
    subst q
    rw[QBq,List.range'_succ]
    unfold gm
    rw[qG (k+1) q2 (fun j y e=>by have:=hN (j+1) y (by simpa using e);rw[<-this];congr 1;omega) (fun y hy=>hl y (QYq _ hy))]
    have:=hN 0 _ rfl
    simp at this
    simp[this,hl _ QYz]
theorem qH{env:Env}:∀{es:List Expr}{xs:List Str},es.mapM rY=some xs->(assignEach es env).length=xs.length/\(assignEach es env).findIdx? (·.1)=none
 |[],xs,h=>by simp at h;subst h;exact⟨rfl,rfl⟩
 |e::es,xs,h=>by
  rw[List.mapM_cons]at h
  cases q:rY e with
  |none=>rw[q]at h;cases h
  |some x=>
   rw[q]at h
   cases q2:es.mapM rY with
   |none=>rw[q2]at h;cases h
   |some ys=>
    rw[q2]at h
    cases h
    obtain⟨i1,i2⟩:=qH (env:=env) q2
    cases e<;>simp[rY]at q
    subst q
    constructor
    ·show(_::assignEach es env).length=_
     simp[i1]
    ·show(List.findIdx? (·.1) ((false,_)::assignEach es env))=none
     rw[List.findIdx?_cons]
     simp[i2]
theorem ZK(O:g8 C X c){tgE:Expr}(ht:Us tgE=some (tgs,tg))(hs:U8 C.sc sc tgs C.N=true):(∀i∈slots tg,i<tgs.length)/\∀(cl:List (Str×Addr))(fp:List Addr)(s₀:Shared)(H₀:Hp),GG (Mini.blk X sc cl (bG tgs X.N) fp s₀ H₀) tg tgE:=by
 have S:=Ib hs
 have lc:∀x∈tgs,∀(cl:List (Str×Addr))(fp:List Addr)(s₀:Shared)(H₀:Hp),(Mini.blk X sc cl (bG tgs X.N) fp s₀ H₀).env.scope.names.lookup x=some .local:=fun x hx cl fp s₀ H₀=>lookup_relabel_local (S.tg x hx)
 have nd:∀(cl:List (Str×Addr))(fp:List Addr)(s₀:Shared)(H₀:Hp),(Mini.blk X sc cl (bG tgs X.N) fp s₀ H₀).N.Nodup:=fun cl fp s₀ H₀=>by
  show(bG tgs X.N).Nodup
  rw[O.N]
  exact Ie hs
 cases tgE<;>simp only[Us]at ht<;>try (cases ht;done)
 ·rename_i x q
  cases ht
  refine⟨fun i hi=>?_,fun cl fp s₀ H₀=>vN (nd cl fp s₀ H₀) rfl (.inl (lc x (by simp) cl fp s₀ H₀)) (.inr (lc x (by simp) cl fp s₀ H₀))⟩
  simp[slots]at hi
  subst hi
  simp
 ·rename_i es k q
  cases qm:es.mapM rY with
  |none=>rw[qm]at ht;cases ht
  |some xs=>
   rw[qm]at ht
   cases ht
   refine⟨fun i hi=>by simpa[slots]using hi,fun cl fp s₀ H₀=>?_⟩
   obtain⟨l1,l2⟩:=qH (env:=(Mini.blk X sc cl (bG tgs X.N) fp s₀ H₀).env) qm
   refine Ae (nd cl fp s₀ H₀) O.calm (Jz ?_) (by simp[l1]) l2
   have:=qG (sc:=(Mini.blk X sc cl (bG tgs X.N) fp s₀ H₀).env.scope) (N:=(Mini.blk X sc cl (bG tgs X.N) fp s₀ H₀).N) 0 qm (fun j x e=>?_) (fun x hx=>lc x hx cl fp s₀ H₀)
   ·rwa[List.range_eq_range']
   ·show(bG tgs X.N)[0+j]? =some x
    unfold bG
    rw[Nat.zero_add,Qwz (QCz.mp e).1]
    exact e
end
inductive Ar(X:Cx)(c:Cf):E->List Expr->Prop
 |nil:Ar X c .nil []
 |cons {m ms:E} {e:Expr} {es:List Expr}:GE X W0 c m e->plain e=true->Ar X c ms es->Ar X c (.cons m ms) (e::es)
theorem Ar.ga{X:Cx}{c:Cf}:∀{ms:E}{es:List Expr},Ar X c ms es->GA X W0 c ms es
 |_,_,.nil=>KZ
 |_,_,.cons h p t=>Dm h t.ga (bB p _ _)
theorem Ar.plain{X:Cx}{c:Cf}{pos:Pos}:∀{ms:E}{es:List Expr},Ar X c ms es->(backTo pos (starEach es X.env)).any (·.1)=false
 |_,_,.nil=>rfl
 |_,_,.cons h p t=>by
  rw[bB p]
  have:=t.plain (pos:=pos)
  simpa[backTo]using this
def Br(X:Cx)(c:Cf)(m:E)(elt:Expr)(g:Comprehension)(sc:Scope):Prop:=
 ∃tgs tg it cond m',m=.comp tgs.length tg it cond m'/\yU X c sc tgs tg cond m' g.target elt g.ifs/\GI X W0 c it g.target g.iter/\plain g.iter=true/\g.is_async=0
structure Ih(c:Cf)(n:Nat):Prop where
 e:∀C X e m,g8 C X c->dg n C e=some m->Sd X c m e
 es:∀C X es m,g8 C X c->uY n C es=some m->Al X c m es
 a:∀C X fl es m,g8 C X c->Hb n C fl es=some m->Ar X c m es
 o:∀C X o m,g8 C X c->Ur n C o=some m->GO X W0 c m o
 b:∀C X x args m p pos,g8 C X c->yp C.sc x=true->ZJ n C x args=some m->GE X W0 c m (.Call (.Name x p) args [] pos)/\m.au=none/\m.f9=false
 i:∀C X tg e m,g8 C X c->Yk n C e=some m->GI X W0 c m tg e/\plain e=true
 k:∀C X elt g sc m,g8 C X c->ZG n C elt g sc=some m->Br X c m elt g sc
 d:∀C X ks vs m,g8 C X c->Ep n C ks vs=some m->∃lM,Kv X W0 c m ks vs lM/\ks.all (·.isSome)=true
theorem ih0(c:Cf):Ih c 0:=by
 constructor
 all_goals (intros;rename_i h;first|(rw[dg]at h;cases h)|(rw[uY]at h;cases h)|(rw[Hb]at h;cases h)|(rw[Ur]at h;cases h)|(rw[ZJ]at h;cases h)|(rw[Yk]at h;cases h)|(rw[ZG]at h;cases h)|(rw[Ep]at h;cases h))
variable{e:Expr}{es:List Expr}
section
variable{c:Cf}{n:Nat}{C:Ct}{X:Cx}{m:E}
theorem NK(I:Ih c n)(O:g8 C X c)(h:uY (n+1) C es=some m):Al X c m es:=by
 cases es with
 |nil=>rw[uY]at h;cases h;exact .nil
 |cons e es=>
  rw[uY]at h
  simp only[QJq,QJz]at h
  obtain⟨m1,h1,m2,h2,rfl⟩:=h
  exact .cons (I.e C X e m1 O h1) (I.es C X es m2 O h2)
theorem UW(I:Ih c n)(O:g8 C X c){ks:List (Option Expr)}{vs:List Expr}(h:Ep (n+1) C ks vs=some m):∃lM,Kv X W0 c m ks vs lM/\ks.all (·.isSome)=true:=by
 unfold Ep at h
 split at h
 ·cases h;exact⟨[],.nil,rfl⟩
 ·simp only[QJq,QJz]at h
  obtain⟨k1,h1,v1,h2,r,h3,rfl⟩:=h
  obtain⟨lM,K,a⟩:=I.d C X _ _ r O h3
  exact⟨_,.cons (I.e C X _ k1 O h1).ge (I.e C X _ v1 O h2).ge K,by simpa using a⟩
 ·cases h
theorem UG(I:Ih c n)(O:g8 C X c){o:Option Expr}(h:Ur (n+1) C o=some m):GO X W0 c m o:=by
 cases o with
 |none=>rw[Ur]at h;cases h;exact .inl ⟨rfl,rfl⟩
 |some e=>
  rw[Ur]at h
  have s:=I.e C X e m O h
  exact .inr ⟨e,rfl,s.nn,s.ge⟩
theorem U3(I:Ih c n)(O:g8 C X c){fl:List Bool}(h:Hb (n+1) C fl es=some m):Ar X c m es:=by
 cases fl with
 |nil=>
  cases es with
  |nil=>rw[Hb]at h;cases h;exact .nil
  |cons e es=>rw[Hb]at h<;>first|cases h|(intros;simp_all)
 |cons f fl=>
  cases es with
  |nil=>rw[Hb]at h<;>first|cases h|(intros;simp_all)
  |cons e es=>
   cases f with
   |false=>
    rw[Hb]at h
    simp only[QJq,QJz]at h
    obtain⟨m1,h1,m2,h2,rfl⟩:=h
    have s:=I.e C X e m1 O h1
    exact .cons s.ge s.pl (I.a C X fl es m2 O h2)
   |true=>
    by_cases hN:∃x p,e=.Name x p
    ·obtain⟨x,p,rfl⟩:=hN
     rw[Hb]at h
     simp only[QJq,QJz]at h
     obtain⟨m1,⟨m3,h3,h4⟩,m2,h2,rfl⟩:=h
     split at h4
     ·cases h4
      exact .cons (W7 (Ck O h3)) rfl (I.a C X fl es m2 O h2)
     ·cases h4
    ·rw[Hb]at h
     ·simp only[QJq,QJz]at h
      obtain⟨m1,⟨m3,h3,rfl⟩,m2,h2,rfl⟩:=h
      have s:=I.e C X e m3 O h3
      exact .cons (W5 s.ge) s.pl (I.a C X fl es m2 O h2)
     ·exact fun x p z=>hN ⟨x,p,z⟩
theorem Vf(O:g8 C X c)(h:(decide (x="range")&&yp C.sc x&&(fnAt C x).isNone)=true):x="range"/\Gl X "range":=by
 simp only[QUq,QUz]at h
 obtain⟨⟨rfl,h2⟩,_⟩:=h
 exact⟨rfl,kI O h2⟩
theorem Zk(O:g8 C X c)(h:(decide (x="zip")&&yp C.sc x&&(fnAt C x).isNone)=true):x="zip"/\Gl X "zip":=by
 simp only[QUq,QUz]at h
 obtain⟨⟨rfl,h2⟩,_⟩:=h
 exact⟨rfl,kI O h2⟩
theorem UL(I:Ih c n)(O:g8 C X c){tg:Expr}(h:Yk (n+1) C e=some m):GI X W0 c m tg e/\plain e=true:=by
 have dflt:dg n C e=some m->GI X W0 c m tg e/\plain e=true:=fun h=>let s:=I.e C X e m O h;⟨abH s.ge,s.pl⟩
 unfold Yk at h
 split at h
 ·split at h
  ·split at h
   ·rename_i hr
    obtain⟨rfl,hg⟩:=Vf O hr
    simp only[QJz]at h
    obtain⟨m1,h1,rfl⟩:=h
    have s:=I.e C X _ m1 O h1
    exact⟨GJ s.ge hg (O.bi _ (by decide)) (bB s.pl _ _),rfl⟩
   ·exact dflt h
  ·split at h
   ·rename_i hr
    obtain⟨rfl,hg⟩:=Zk O hr
    simp only[QJq,QJz]at h
    obtain⟨m1,h1,m2,h2,rfl⟩:=h
    have s1:=I.e C X _ m1 O h1
    have s2:=I.e C X _ m2 O h2
    exact⟨WY s1.ge s2.ge hg (O.bi _ (by decide)) (by rw[bB s1.pl,bB s2.pl];rfl) (bB s2.pl _ _),rfl⟩
   ·exact dflt h
  ·exact dflt h
 ·exact dflt h
theorem UJ(I:Ih c n)(O:g8 C X c){elt:Expr}{g:Comprehension}{sc:Scope}(h:ZG (n+1) C elt g sc=some m):Br X c m elt g sc:=by
 rw[ZG]at h
 split at h
 ·rename_i ha
  simp only[QJq]at h
  obtain⟨⟨tgs,tg⟩,ht,h⟩:=h
  simp only at h
  split at h
  ·rename_i hs
   simp only[QJq,QJz]at h
   obtain⟨it,h1,cond,h2,m',h3,rfl⟩:=h
   obtain⟨sm,gg⟩:=ZK O ht hs
   have S:=Ib hs
   obtain⟨gi,gp⟩:=I.i C X g.target g.iter it O h1
   refine⟨tgs,tg,it,cond,m',rfl,⟨by rw[O.sc,O.N];exact S,sm,fun cl fp s₀ H₀ _=>gg cl fp s₀ H₀,?_,fun cl fp s₀ H₀ _=>(I.e _ _ elt m' (O.blk hs) h3).ge⟩,gi,gp,ha⟩
   split at h2
   ·rename_i hi
    cases h2
    exact .inl ⟨hi,rfl⟩
   ·rename_i ce hi
    exact .inr ⟨ce,hi,fun cl fp s₀ H₀ _=>(I.e _ _ ce cond (O.blk hs) h2).gt⟩
   ·cases h2
  ·cases h
 ·cases h
end
variable{o:Expr}{p:Pos}
section
variable{c:Cf}{n:Nat}{C:Ct}{X:Cx}{m:E}
theorem Ju(I:Ih c n)(O:g8 C X c){a:Expr}{pos:Pos}(hg:yp C.sc x=true)(h:((Y4 x).bind fun b=>(dg n C a).bind fun m=>if (decide (b=.dict)&&m.au.isSome)=true then some (E.bi b (.rd m))else some (E.bi b m))=some m):
  GE X W0 c m (.Call (.Name x p) [a] [] pos)/\m.au=none/\m.f9=false:=by
 simp only[QJq]at h
 obtain⟨bb,h1,m1,h2,h3⟩:=h
 split at h3
 ·cases h3
  have s:=I.e C X a m1 O h2
  have gr:GE X W0 c (.rd m1) a:=fun env=>PE.imp (s.ge env) fun σ H Q q=>by simpa only[Ho]using q
  have sr:Sd X c (.rd m1) a:=⟨gr,fun QLz sh σ H Q I⟨env,q⟩=>s.gt QLz sh σ H Q I ⟨env,by simpa only[Ho]using q⟩,s.pl,fun k z=>(by cases z),rfl⟩
  exact⟨Ti O h1 hg sr fun _=>rfl,rfl,rfl⟩
 ·rename_i hn
  cases h3
  refine⟨Ti O h1 hg (I.e C X a m1 O h2) (fun z=>?_),rfl,rfl⟩
  subst z
  cases q:m1.au with
  |none=>rfl
  |some k=>rw[q]at hn;exact absurd rfl hn
theorem U0(I:Ih c n)(O:g8 C X c){args:List Expr}{pos:Pos}(hg:yp C.sc x=true)(h:ZJ (n+1) C x args=some m):GE X W0 c m (.Call (.Name x p) args [] pos)/\m.au=none/\m.f9=false:=by
 unfold ZJ at h
 split at h
 ·--isinstance
  split at h
  ·rename_i hx
   subst hx
   split at h
   ·split at h
    ·rename_i hy
     simp only[QJq,QJz]at h
     obtain⟨t,h1,m1,h2,rfl⟩:=h
     have s:=I.e C X _ m1 O h2
     obtain⟨e1,e2⟩:=Up h1
     exact⟨Xd s.ge e1 (kI O hy) (O.bi _ e2) (kI O hg) (O.bi _ (by decide)) (bB s.pl _ _),rfl,rfl⟩
    ·cases h
   ·cases h
  ·cases h
 ·split at h
  ·split at h
   ·split at h
    ·rename_i hz
     obtain⟨rfl,hgz⟩:=Zk O hz
     split at h
     ·rename_i hx
      subst hx
      simp only[QJq,QJz]at h
      obtain⟨m1,h1,m2,h2,rfl⟩:=h
      have s1:=I.e C X _ m1 O h1
      have s2:=I.e C X _ m2 O h2
      exact⟨Ag O.calm s1.ge s2.ge hgz (O.bi _ (by decide)) (by rw[bB s1.pl,bB s2.pl];rfl) (bB s2.pl _ _) (kI O hg) (O.bi _ (by decide)) rfl,rfl,rfl⟩
     ·split at h
      ·rename_i hx
       subst hx
       simp only[QJq,QJz]at h
       obtain⟨m1,h1,m2,h2,rfl⟩:=h
       have s1:=I.e C X _ m1 O h1
       have s2:=I.e C X _ m2 O h2
       exact⟨Af O.calm s1.ge s2.ge hgz (O.bi _ (by decide)) (by rw[bB s1.pl,bB s2.pl];rfl) (bB s2.pl _ _) (kI O hg) (O.bi _ (by decide)) rfl,rfl,rfl⟩
      ·cases h
    ·exact Ju I O hg h
   ·exact Ju I O hg h
  ·exact Ju I O hg h
 ·cases h
theorem fU(ge:GE X W0 c m e)(hp:plain e=true)(hv:m.au=none)(hi:m.f9=false)(ht:tame e=true):Sd X c m e:=
 ⟨ge,Ku ge hp ht,hp,fun k z=>(by rw[hv]at z;cases z),hi⟩
theorem hu1(O:g8 C X c):X.A.units+1<cLine:=by have:=O.hu;omega
theorem QL{g:Nat}{fl:List Bool}(h:fnAt C x=some (g,fl)):C.fns[g]? =some (x,fl):=by
 unfold fnAt at h
 simp only[QJq,QJz]at h
 obtain⟨g',h1,⟨y,fl'⟩,h2,h3⟩:=h
 cases h3
 have:=iC h1
 rw[QFz,h2]at this
 simp at this
 rw[h2,this]
theorem mR{name:Str}(h:isCall o=false):attributeBase o name env (eval o env)=eval o env:=by
 cases o<;>first|rfl|simp[isCall]at h
theorem UV(I:Ih c n)(O:g8 C X c)(h:dg (n+1) C e=some m):Sd X c m e:=by
 have no:∀{P:Prop},(none:Option E)=some m->P:=fun z=>nomatch z
 unfold dg at h
 split at h
 ·simp only[QJz]at h
  obtain⟨d,h1,rfl⟩:=h
  exact fU (Xh (Lg h1)) rfl rfl rfl rfl
 ·exact BP O h
 ·simp only[QJz]at h
  obtain⟨m1,h1,rfl⟩:=h
  exact fU (W4 (I.es C X _ m1 O h1).ga) rfl rfl rfl rfl
 ·simp only[QJz]at h
  obtain⟨m1,h1,rfl⟩:=h
  exact fU (Xb (I.es C X _ m1 O h1).ga) rfl rfl rfl rfl
 ·simp only[QJq,QJz]at h
  obtain⟨o,h0,m1,h1,m2,h2,rfl⟩:=h
  rw[V2 h0]
  exact fU (abK (I.e C X _ m1 O h1).ge (I.e C X _ m2 O h2).ge) rfl rfl rfl rfl
 ·split at h
  ·simp only[QJz]at h
   obtain⟨m1,h1,rfl⟩:=h
   exact fU (Xa (I.e C X _ m1 O h1).ge) rfl rfl rfl rfl
  ·simp only[QJz]at h
   obtain⟨m1,h1,rfl⟩:=h
   have s:=I.e C X _ m1 O h1
   exact⟨W9 s.ge,WM s.gt,rfl,fun k z=>(by cases z),rfl⟩
  ·exact no h
 ·simp only[QJq]at h
  obtain⟨m1,h1,h2⟩:=h
  have A:=I.es C X _ m1 O h1
  split at h2
  ·exact no h2
  ·rename_i hn
   cases A with
   |nil=>exact absurd rfl hn
   |cons s t=>
    split at h2
    ·cases h2
     exact⟨(Al.cons s t).and.1,(Al.cons s t).and.2.t,rfl,fun k z=>(by cases z),rfl⟩
    ·cases h2
     exact⟨(Al.cons s t).or.1,(Al.cons s t).or.2.t,rfl,fun k z=>(by cases z),rfl⟩
 ·split at h
  ·simp only[QJq,QJz]at h
   obtain⟨o,h0,m1,h1,m2,h2,rfl⟩:=h
   rw[Aw h0]
   have s1:=I.e C X _ m1 O h1
   have s2:=I.e C X _ m2 O h2
   exact⟨Xi (m9 O.hu o) s1.ge s2.ge s2.va (qI s2.pl _),WP (m9 O.hu o) s1.ge s2.ge s2.va (qI s2.pl _),rfl,fun k z=>(by cases z),rfl⟩
  ·simp only[QJq,QJz]at h
   obtain⟨o,h0,o2,h02,m1,h1,m2,h2,m3,h3,rfl⟩:=h
   rw[Aw h0,Aw h02]
   have s1:=I.e C X _ m1 O h1
   have s2:=I.e C X _ m2 O h2
   have s3:=I.e C X _ m3 O h3
   have hm:∀b,lastMarks [dU o,dU o2] [b,_]=false:=fun b=>qI s3.pl (dU o2)
   exact⟨KY (m9 O.hu o) (m9 O.hu o2) s1.ge s2.ge s3.ge (hm _),Kw (m9 O.hu o) (m9 O.hu o2) s1.ge s2.ge s3.ge (hm _),rfl,fun k z=>(by cases z),rfl⟩
  ·exact no h
 ·simp only[QJq,QJz]at h
  obtain⟨m1,h1,m2,h2,m3,h3,rfl⟩:=h
  have s1:=I.e C X _ m1 O h1
  have s2:=I.e C X _ m2 O h2
  have s3:=I.e C X _ m3 O h3
  exact⟨Xc s1.gt s2.ge s3.ge,WN s1.gt s2.gt s3.gt,rfl,fun k z=>(by cases z),rfl⟩
 ·split at h
  ·split at h
   ·simp only[QJq,QJz]at h
    obtain⟨m1,h1,m2,h2,m3,h3,rfl⟩:=h
    exact fU (W6 (I.e C X _ m1 O h1).ge (I.o C X _ m2 O h2) (I.o C X _ m3 O h3)) rfl rfl rfl rfl
   ·exact no h
  ·simp only[QJq,QJz]at h
   obtain⟨m1,h1,m2,h2,rfl⟩:=h
   have s1:=I.e C X _ m1 O h1
   have s2:=I.e C X _ m2 O h2
   exact fU (Xe (by have:=O.hu;omega) s1.ge s2.ge s1.va (zN s2.pl)) rfl rfl rfl rfl
 ·split at h
  ·split at h
   ·split at h
    ·rename_i hx
     rw[QUq]at hx
     split at h
     ·rename_i g fl hf
      simp only[QJq]at h
      obtain⟨m1,h1,h2⟩:=h
      split at h2
      ·exact no h2
      ·rename_i hn
       cases h2
       have A:=I.a C X _ _ m1 O h1
       obtain⟨k,f,fd,ps,F,hr,hm,hk,hb,hl⟩:=O.fn g _ fl (QL hf)
       cases A with
       |nil=>exact absurd rfl hn
       |cons ge pl t=>
        exact fU (QG F hr (kI O hx.2) hm hk hb (Cj hx.1).1 (Ar.cons ge pl t).ga (bB pl _ _) t.plain hl) rfl rfl rfl rfl
     ·obtain⟨ge,h1,h2⟩:=I.b C X _ _ m _ _ O hx.2 h
      exact fU ge rfl h1 h2 rfl
    ·exact no h
   ·split at h
    ·rename_i hl
     split at h
     ·split at h
      ·rename_i hx
       subst hx
       simp only[QJq,QJz]at h
       obtain⟨m1,h1,u,h0,m2,h2,rfl⟩:=h
       split at h0
       ·rename_i hp
        rw[QUq]at hp
        have s1:=I.e C X _ m1 O h1
        have s2:=I.e C X _ m2 O h2
        exact fU (KR ⟨mR (by simpa using hp.2),hl,bB s2.pl _ _⟩ s1.ge s2.ge) rfl rfl rfl rfl
       ·cases h0
      ·split at h
       ·rename_i hx
        subst hx
        split at h
        ·simp only[QJq]at h
         obtain⟨v,h1,h2⟩:=h
         split at h2
         ·simp only[QJz]at h2
          obtain⟨m2,h3,rfl⟩:=h2
          have s2:=I.e C X _ m2 O h3
          exact fU (KQ ⟨rfl,hl,bB s2.pl _ _⟩ (Ck O h1) s2.ge) rfl rfl rfl rfl
         ·exact no h2
        ·exact no h
       ·exact no h
     ·split at h
      ·rename_i hx
       subst hx
       simp only[QJq,QJz]at h
       obtain⟨m1,h1,u,h0,m2,h2,m3,h3,rfl⟩:=h
       split at h0
       ·rename_i hp
        rw[QUq]at hp
        have s1:=I.e C X _ m1 O h1
        have s2:=I.e C X _ m2 O h2
        have s3:=I.e C X _ m3 O h3
        exact fU (QC (hu1 O) ⟨mR (by simpa using hp.2),by rw[bB s2.pl,bB s3.pl];rfl,hl,by rw[bB s2.pl,bB s3.pl];rfl⟩ s1.va s1.ge s2.ge s3.ge) rfl rfl rfl rfl
       ·cases h0
      ·exact no h
     ·exact no h
    ·exact no h
   ·exact no h
  ·exact no h
 ·split at h
  ·rename_i hx
   simp only[QUq,List.isEmpty_iff]at hx
   obtain⟨rfl,rfl⟩:=hx
   cases h
   exact fU Xf rfl rfl rfl rfl
  ·split at h
   ·rename_i hx
    simp only[QUq,QUz]at hx
    simp only[QJz]at h
    obtain⟨m1,h1,rfl⟩:=h
    obtain⟨lM,K,a⟩:=I.d C X _ _ m1 O h1
    exact fU (Xg (by have:=O.hu;omega) K a hx.1.1 (fun z=>by rw[z]at hx;simp at hx) hx.1.2) rfl rfl rfl rfl
   ·exact no h
 ·split at h
  ·rename_i elt sc pos g
   obtain⟨tgs,tg,it,cond,m',rfl,B,gi,gp,ha⟩:=I.k C X _ _ _ m O h
   obtain⟨ta,ti,tf,tn⟩:=g
   simp only at ha
   subst ha
   exact fU (QF B gi O.calm (fun x=>vQ gp _ _)) rfl rfl rfl rfl
  ·exact no h
 ·exact no h
end
theorem ih(c:Cf):∀n,Ih c n
 |0=>ih0 c
 |n+1=>let I:=ih c n
  ⟨fun C X e m O h=>UV I O h,fun C X es m O h=>NK I O h,fun C X fl es m O h=>U3 I O h,fun C X o m O h=>UG I O h,fun C X x args m p pos O hg h=>U0 I O hg h,fun C X tg e m O h=>UL I O h,fun C X elt g sc m O h=>UJ I O h,fun C X ks vs m O h=>UW I O h⟩
def NE{α:Type}(r:Out α):Prop:=∀k σ,r≠ .exc k σ
section
variable{α β:Type}
theorem NE.ok(a:α)(σ:Ev):NE (.ok a σ):=fun _ _ z=>nomatch z
theorem NE.bad:NE (.bad:Out α):=fun _ _ z=>nomatch z
theorem NE.lift(σ:Ev)(o:Option α):NE (lift σ o):=by cases o<;>(intro _ _ z;cases z)
theorem NE.bind{r:Out α}{f:α->Ev->Out β}(h:NE r)(g:∀a σ,NE (f a σ)):NE (r.bind f):=by
 cases r with
 |ok a σ=>exact g a σ
 |exc k σ=>exact absurd rfl (h k σ)
 |bad=>exact NE.bad
theorem NE.ak{r:Out Rv}{f:D->Ev->Out β}(h:NE r)(g:∀a σ,NE (f a σ)):NE (r.ak f):=by
 cases r with
 |ok a σ=>cases a<;>first|exact g _ _|exact NE.bad
 |exc k σ=>exact absurd rfl (h k σ)
 |bad=>exact NE.bad
theorem NE.cj{tr:D->Option Bool}{r:Out Rv}{f:Bool->Ev->Out β}(h:NE r)(g:∀a σ,NE (f a σ)):NE (r.cj tr f):=
 NE.ak h fun d σ=>by
  cases tr d with
  |none=>exact NE.bad
  |some b=>exact g b σ
theorem NE.ite{p:Prop}[Decidable p]{a b:Out α}(h:NE a)(g:NE b):NE (if p then a else b):=by split<;>assumption
end
theorem Qf(c:Cf)(f:Nat)(as:List Rv)(σ:Ev):NE (rD c f as σ):=by
 unfold rD
 split
 ·exact NE.bad
 ·split
  ·split
   ·exact NE.ok _ _
   ·exact NE.bad
  ·exact NE.bad
theorem V3(k:Nat)(y:D)(σ:Ev):NE (oW k y σ):=by
 unfold oW
 split
 ·refine NE.ite NE.bad ?_
  split
  ·split
   ·exact NE.ok _ _
   ·exact NE.bad
  ·exact NE.bad
 ·exact NE.bad
theorem Qe(k:Nat)(σ:Ev):NE (qu k σ):=by
 unfold qu
 split<;>first|exact NE.ok _ _|exact NE.bad
theorem zU(c:Cf):∀(m:E)(σ:Ev),NE (ev c m σ)/\NE (evs c m σ)/\NE (eX c m σ)/\NE (jE c m σ):=by
 have k3:∀{m:E},(∀σ,NE (ev c m σ))->(∀σ,evs c m σ=.bad)->(∀σ,eX c m σ=.bad)->(∀σ,jE c m σ=.bad)->∀σ,NE (ev c m σ)/\NE (evs c m σ)/\NE (eX c m σ)/\NE (jE c m σ):=fun h a b d σ=>by
  rw[a,b,d]
  exact⟨h σ,NE.bad,NE.bad,NE.bad⟩
 intro m
 induction m with
 |var i=>exact k3 (fun σ=>Qe i σ) (fun _=>rfl) (fun _=>rfl) fun _=>rfl
 |con d=>exact k3 (fun σ=>NE.ok _ _) (fun _=>rfl) (fun _=>rfl) fun _=>rfl
 |glob k=>exact k3 (fun σ=>by rw[Zv];split<;>first|exact NE.ok _ _|exact NE.bad) (fun _=>rfl) (fun _=>rfl) fun _=>rfl
 |nil=>exact fun σ=>⟨NE.bad,NE.ok _ _,NE.bad,NE.bad⟩
 |cons h t ih jh=>
  intro σ
  refine⟨NE.bad,NE.bind (ih σ).1 fun x σ=>NE.bind (jh σ).2.1 fun _ _=>NE.ok _ _,?_,?_⟩
  ·cases t with
   |nil=>exact(ih σ).1
   |_=>exact NE.ak (ih σ).1 fun x σ=>(by split<;>first|exact(jh σ).2.2.1|exact NE.ok _ _|exact NE.bad)
  ·cases t with
   |nil=>exact(ih σ).1
   |_=>exact NE.ak (ih σ).1 fun x σ=>(by split<;>first|exact(jh σ).2.2.2|exact NE.ok _ _|exact NE.bad)
 |tup es ih=>exact k3 (fun σ=>NE.bind (ih σ).2.1 fun _ _=>NE.lift _ _) (fun _=>rfl) (fun _=>rfl) fun _=>rfl
 |lis es ih=>exact k3 (fun σ=>NE.bind (ih σ).2.1 fun _ _=>NE.lift _ _) (fun _=>rfl) (fun _=>rfl) fun _=>rfl
 |op o a b ih jh=>exact k3 (fun σ=>NE.ak (ih σ).1 fun _ σ=>NE.ak (jh σ).1 fun _ _=>NE.lift _ _) (fun _=>rfl) (fun _=>rfl) fun _=>rfl
 |neg a ih=>exact k3 (fun σ=>NE.ak (ih σ).1 fun _ σ=>NE.lift _ _) (fun _=>rfl) (fun _=>rfl) fun _=>rfl
 |cmp o a b ih jh=>exact k3 (fun σ=>NE.ak (ih σ).1 fun _ σ=>by split<;>first|exact NE.lift _ _|exact NE.ak (jh σ).1 fun _ _=>NE.lift _ _) (fun _=>rfl) (fun _=>rfl) fun _=>rfl
 |chain o p a b d ih jh kh=>exact k3 (fun σ=>NE.ak (ih σ).1 fun _ σ=>NE.ak (jh σ).1 fun _ σ=>NE.bind (NE.lift _ _) fun _ σ=>NE.ite (NE.ak (kh σ).1 fun _ _=>NE.lift _ _) (NE.ok _ _)) (fun _=>rfl) (fun _=>rfl) fun _=>rfl
 |and es ih=>exact k3 (fun σ=>(ih σ).2.2.1) (fun _=>rfl) (fun _=>rfl) fun _=>rfl
 |or es ih=>exact k3 (fun σ=>(ih σ).2.2.2) (fun _=>rfl) (fun _=>rfl) fun _=>rfl
 |not a ih=>exact k3 (fun σ=>NE.cj (ih σ).1 fun _ _=>NE.ok _ _) (fun _=>rfl) (fun _=>rfl) fun _=>rfl
 |ite t a b ih jh kh=>exact k3 (fun σ=>NE.cj (ih σ).1 fun _ σ=>NE.ite (jh σ).1 (kh σ).1) (fun _=>rfl) (fun _=>rfl) fun _=>rfl
 |idx a i ih jh=>exact k3 (fun σ=>by rw[El];split<;>first|exact NE.ite NE.bad (NE.ak (jh σ).1 fun _ _=>NE.lift _ _)|exact NE.ak (ih σ).1 fun _ σ=>NE.ak (jh σ).1 fun _ _=>NE.lift _ _) (fun _=>rfl) (fun _=>rfl) fun _=>rfl
 |slc a lo hi ih jh kh=>exact k3 (fun σ=>NE.ak (ih σ).1 fun _ σ=>NE.ak (jh σ).1 fun _ σ=>by split<;>first|exact NE.bad|exact NE.ak (kh σ).1 fun _ _=>NE.lift _ _) (fun _=>rfl) (fun _=>rfl) fun _=>rfl
 |noneE=>exact k3 (fun σ=>NE.ok _ _) (fun _=>rfl) (fun _=>rfl) fun _=>rfl
 |call f as ih=>exact k3 (fun σ=>NE.bind (ih σ).2.1 fun _ _=>Qf _ _ _ _) (fun _=>rfl) (fun _=>rfl) fun _=>rfl
 |ref i=>exact k3 (fun σ=>by rw[Hq];split<;>first|exact NE.ok _ _|exact NE.bad) (fun _=>rfl) (fun _=>rfl) fun _=>rfl
 |tmp e ih=>exact k3 (fun σ=>NE.bind (ih σ).1 fun _ _=>NE.lift _ _) (fun _=>rfl) (fun _=>rfl) fun _=>rfl
 |rd e ih=>exact k3 (fun σ=>(ih σ).1) (fun _=>rfl) (fun _=>rfl) fun _=>rfl
 |isi a t ih=>exact k3 (fun σ=>NE.ak (ih σ).1 fun _ _=>NE.ok _ _) (fun _=>rfl) (fun _=>rfl) fun _=>rfl
 |bi b a ih=>exact k3 (fun σ=>by rw[mX];split<;>first|exact NE.lift _ _|exact NE.ak (ih σ).1 fun _ _=>NE.lift _ _) (fun _=>rfl) (fun _=>rfl) fun _=>rfl
 |range1 a ih=>exact k3 (fun σ=>NE.ak (ih σ).1 fun _ _=>NE.lift _ _) (fun _=>rfl) (fun _=>rfl) fun _=>rfl
 |zip a b ih jh=>exact k3 (fun σ=>NE.ak (ih σ).1 fun _ σ=>NE.ak (jh σ).1 fun _ _=>NE.lift _ _) (fun _=>rfl) (fun _=>rfl) fun _=>rfl
 |count a b ih jh=>exact k3 (fun σ=>NE.ak (ih σ).1 fun _ σ=>NE.ite NE.bad (NE.ak (jh σ).1 fun _ _=>NE.lift _ _)) (fun _=>rfl) (fun _=>rfl) fun _=>rfl
 |popAt i a ih=>exact k3 (fun σ=>NE.ite (NE.ak (ih σ).1 fun _ _=>by unfold xK;split<;>first|exact NE.ok _ _|exact NE.bad) (NE.ite NE.bad (NE.ak (ih σ).1 fun _ _=>V3 _ _ _))) (fun _=>rfl) (fun _=>rfl) fun _=>rfl
 |get2 a b d ih jh kh=>
  refine k3 (fun σ=>?_) (fun _=>rfl) (fun _=>rfl) fun _=>rfl
  rw[Uj]
  split
  ·exact NE.ite NE.bad (NE.ak (jh σ).1 fun _ σ=>NE.ak (kh σ).1 fun _ _=>NE.lift _ _)
  ·exact NE.bad
 |dsp es ih=>exact k3 (fun σ=>NE.bind (ih σ).2.1 fun _ _=>NE.lift _ _) (fun _=>rfl) (fun _=>rfl) fun _=>rfl
 |emp=>exact k3 (fun σ=>NE.ok _ _) (fun _=>rfl) (fun _=>rfl) fun _=>rfl
 |enum a ih=>exact k3 (fun σ=>NE.ak (ih σ).1 fun _ _=>NE.lift _ _) (fun _=>rfl) (fun _=>rfl) fun _=>rfl
 |comp nl tg it cond elt ih _ _=>
  refine k3 (fun σ=>?_) (fun _=>rfl) (fun _=>rfl) fun _=>rfl
  rw[lU]
  refine NE.ak (ih σ).1 fun _ σ=>?_
  split
  ·split
   ·exact NE.ok _ _
   ·exact NE.bad
  ·exact NE.bad
section
variable{X:Cx}{W:Wi}{c:Cf}{m:E}{e tg:Expr}
theorem GE.w(h:GE X W0 c m e):GE X W c m e:=fun env=>PE.imp (h env) fun σ H Q⟨S,q⟩=>by
 refine⟨S,?_⟩
 cases r:ev c m env with
 |exc k σ'=>exact absurd r ((zU c m env).1 k σ')
 |_=>rw[r]at q;exact q
theorem GT.w(h:GT X W0 c m e):GT X W c m e:=PT.imp h fun σ H Q⟨env,S,q⟩=>by
 refine⟨env,S,?_⟩
 cases r:ev c m env with
 |exc k σ'=>exact absurd r ((zU c m env).1 k σ')
 |_=>rw[r]at q;exact q
theorem GI.w(h:GI X W0 c m tg e):GI X W c m tg e:=fun env QLz s σ H R I q=>h env QLz s σ H R I (by
 unfold tI at q⊢
 obtain⟨S,q⟩:=q
 refine⟨S,?_⟩
 cases r:ev c m env with
 |exc k σ'=>exact absurd r ((zU c m env).1 k σ')
 |_=>rw[r]at q;exact q)
end
structure Top(C:Ct)(X:Cx)(W:Wi)(c:Cf):Prop where
 fn:∀x,X.fn x=true
 po:PassesOwn (model X.prog X.w) X.A X.env X.xe
 ra:∀e f p n m,RC (n+1) C (.Raise e f p)=some m->GS X W c m (.Raise e f p)
section
variable{c:Cf}{n:Nat}{C:Ct}{X:Cx}{W:Wi}{m:E}
theorem QS(O:g8 C X c):∀{n:Nat}{elt:Expr}{gens:List Comprehension}{sc:Scope}{pos:Pos},dg n C (.ListComp elt gens sc pos)=some m->∃g,gens=[g]/\Br X c m elt g sc
 |0,_,_,_,_,h=>by rw[dg]at h;cases h
 |n+1,elt,gens,sc,pos,h=>by
  unfold dg at h
  simp only at h
  split at h
  ·exact⟨_,rfl,(ih c n).k C X _ _ _ m O h⟩
  ·cases h
theorem qJ(O:g8 C X c)(h:Gi C.sc x=true):Loc X.env.scope x:=by
 unfold Gi at h
 rw[O.sc]
 rw[Bool.or_eq_true]at h
 rcases h with h|h
 ·exact .inl (by simpa using h)
 ·exact .inr (by simpa using h)
theorem lW{t:Option Expr}{l:Nat}(hp:plain e=true)(hc:nU e=false):swapsWith e t l env=pure false:=by
 cases e<;>first|rfl|exact absurd (show false=true from hp) Qjz|exact absurd (show true=false from hc) (fun h=>Qjz h.symm)
theorem zg{k:Nat}{q:Pos}(h:isTup e=false):swappedStores [.Tuple es k q] e env=pure none:=by
 cases e<;>first|rfl|exact absurd (show true=false from h) (fun h=>Qjz h.symm)
theorem wU{i:Expr}{q:Pos}:swappedStores [.Subscript o i q] e env=pure none:=by
 cases e<;>rfl
theorem BK{t:Expr}{l:Nat}:swapsWithSole [t] e l env=swapsWith e (some t) l env:=rfl
theorem Q8{i:Expr}{tp:Pos}{v:Value}(h:isSlice i=false):assign (.Subscript o i tp) env v=(do
   let ov<-holding [v] (eval o env)
   let iv<-holding [v,ov] (eval i env)
   standAt tp
   holding [v,ov,iv] (setItem ov iv v)
   release [v,ov,iv] []):=by
 rw[assign]
 cases i<;>first|rfl|(simp[isSlice]at h;done)
theorem qe(O:g8 C X c)(T:Top C X W c):∀{es:List Expr}{is:List Nat},slotsOf C es=some is->rN X is es/\(assignEach es X.env).length=is.length/\(assignEach es X.env).findIdx? (·.1)=none
 |[],is,h=>by cases h;exact⟨.nil,rfl,rfl⟩
 |e::es,is,h=>by
  cases e<;>simp only[slotsOf]at h<;>try (cases h;done)
  rename_i x q
  split at h
  ·rename_i hl
   simp only[QJq,QJz]at h
   obtain⟨i,h1,js,h2,rfl⟩:=h
   obtain⟨a1,a2,a3⟩:=qe O T h2
   refine⟨.cons (by rw[O.N];exact iC h1) (qJ O hl) (.inl (T.fn x)) a1,?_,?_⟩
   ·show(_::assignEach es X.env).length=_
    simp[a2]
   ·show(List.findIdx? (·.1) ((false,_)::assignEach es X.env))=none
    rw[List.findIdx?_cons]
    simp[a3]
  ·cases h
theorem uf(O:g8 C X c):X.N.Nodup:=by rw[O.N];exact O.nd
theorem Hy(O:g8 C X c)(T:Top C X W c)(h:Hz C e=some tg):GG X tg e:=by
 cases e<;>simp only[Hz]at h<;>try (cases h;done)
 ·rename_i x q
  split at h
  ·rename_i hl
   simp only[QJz]at h
   obtain⟨i,h1,rfl⟩:=h
   exact vN (uf O) (by rw[O.N];exact iC h1) (qJ O hl) (.inl (T.fn x))
  ·cases h
 ·simp only[QJz]at h
  obtain⟨is,h1,rfl⟩:=h
  obtain⟨a1,a2,a3⟩:=qe O T h1
  exact Ae (uf O) O.calm a1 a2 a3
theorem abT(O:g8 C X c)(h:(decide (x="enumerate")&&yp C.sc x&&(fnAt C x).isNone)=true):x="enumerate"/\Gl X "enumerate":=by
 simp only[QUq,QUz]at h
 obtain⟨⟨rfl,h2⟩,_⟩:=h
 exact⟨rfl,kI O h2⟩
theorem UT(J:Ih c n)(O:g8 C X c){tg:Expr}(h:trF n C tg e=some m):GI X W0 c m tg e/\plain e=true:=by
 unfold trF at h
 split at h
 ·rename_i m' e1
  cases h
  unfold trN at e1
  split at e1
  ·rename_i ht
   split at e1
   ·split at e1
    ·split at e1
     ·rename_i hx
      obtain⟨rfl,hg⟩:=abT O hx
      simp only[QJz]at e1
      obtain⟨m1,h1,rfl⟩:=e1
      have s1:=J.e C X _ m1 O h1
      cases tg with
      |Tuple elts x1 tp=>exact⟨Qy s1.ge hg (O.bi _ (by decide)) (bB s1.pl _ _),rfl⟩
      |_=>cases ht
     ·cases e1
    ·cases e1
   ·cases e1
  ·cases e1
 ·exact J.i C X _ _ m O h
theorem Gz(O:g8 C X c)(T:Top C X W c){scope:Scope}{it cond elt:E}{tgE iterE eltE:Expr}{ifs:List Expr}{cp sp np:Pos}{i:Nat}(B:yU X c scope tgs tg cond elt tgE eltE ifs)(hi:GI X W c it tgE iterE)(gp:plain iterE=true)
  (ge:GE X W c (.comp tgs.length tg it cond elt) (.ListComp eltE [⟨tgE,iterE,ifs,0⟩] scope cp))(hN:X.N[i]? =some x)(hl:Gi C.sc x=true):
  GS X W c (.set i (.comp tgs.length tg it cond elt)) (.Assign [.Name x np] (.ListComp eltE [⟨tgE,iterE,ifs,0⟩] scope cp) sp):=by
 have key:∃b:Bool,swapsWith (.ListComp eltE [⟨tgE,iterE,ifs,0⟩] scope cp) (some (.Name x np)) sp.line X.env=pure b:=⟨_,rfl⟩
 obtain⟨b,hb⟩:=key
 cases b with
 |false=>exact KH ge (uf O) hN (qJ O hl) (.inl (T.fn x)) hb
 |true=>exact Ac B hi O.calm (fun x=>vQ gp _ _) (uf O) hN (qJ O hl) (.inl (T.fn x)) hb
structure IhS(c:Cf)(n:Nat):Prop where
 s:∀C X W st m,g8 C X c->Top C X W c->RC n C st=some m->GS X W c m st
 ss:∀C X W st m,g8 C X c->Top C X W c->pR n C st=some m->M4 X W c m st
theorem afx(c:Cf):IhS c 0:=by
 constructor
 all_goals (intros;rename_i h;first|(rw[RC]at h;cases h)|(rw[pR]at h;cases h))
theorem NB(I:IhS c n)(O:g8 C X c)(T:Top C X W c){st:List Stmt}{m:S}(h:pR (n+1) C st=some m):M4 X W c m st:=by
 cases st with
 |nil=>rw[pR]at h;cases h;exact Qu
 |cons s st=>
  rw[pR]at h
  simp only[QJq,QJz]at h
  obtain⟨m1,h1,m2,h2,rfl⟩:=h
  exact Kz (I.s C X W s m1 O T h1) (I.ss C X W st m2 O T h2)
theorem Uz(I:IhS c n)(O:g8 C X c)(T:Top C X W c){st:Stmt}{m:S}(h0:RC (n+1) C st=some m):GS X W c m st:=by
 have J:=ih c n
 have no:∀{P:Prop},(none:Option S)=some m->P:=fun z=>nomatch z
 have h:=h0
 unfold RC at h
 split at h
 ·split at h
  ·cases h;exact Qw
  ·simp only[QJz]at h
   obtain⟨m1,h1,rfl⟩:=h
   have s:=J.e C X _ m1 O h1
   exact WR s.ge.w s.va
 ·split at h
  ·split at h
   ·rename_i e _ _ _ x _
    split at h
    ·rename_i hl
     simp only[QJq,QJz]at h
     obtain⟨i,h1,m1,h2,rfl⟩:=h
     have s:=J.e C X _ m1 O h2
     have hN:X.N[i]? =some x:=by rw[O.N];exact iC h1
     cases hc:nU e with
     |false=>exact KH s.ge.w (uf O) hN (qJ O hl) (.inl (T.fn x)) (lW s.pl hc)
     |true=>
      cases e<;>simp[nU]at hc
      rename_i elt gens sc cp
      obtain⟨g,rfl,tgs,tg,it,cond,m',rfl,B,gi,gp,ha⟩:=QS O h2
      obtain⟨ta,ti,tf,tn⟩:=g
      simp only at ha
      subst ha
      exact Gz O T B gi.w gp s.ge.w hN hl
    ·exact no h
   ·split at h
    ·exact no h
    ·rename_i hx
     rw[Bool.not_eq_true,Bool.or_eq_false_iff]at hx
     simp only[QJq,QJz]at h
     obtain⟨is,h1,m1,h2,rfl⟩:=h
     have s:=J.e C X _ m1 O h2
     obtain⟨a1,a2,a3⟩:=qe O T h1
     exact Qv s.ge.w (Ae (uf O) O.calm a1 a2 a3) (by rw[BK];exact lW s.pl hx.2) (zg hx.1) rfl
   ·split at h
    ·split at h
     ·exact no h
     ·rename_i hx
      rw[Bool.not_eq_true,Bool.or_eq_false_iff]at hx
      simp only[QJq]at h
      obtain⟨v,h1,h⟩:=h
      split at h
      ·simp only[QJq,QJz]at h
       obtain⟨i,h2,m1,h3,rfl⟩:=h
       have s1:=J.e C X _ i O h2
       have s:=J.e C X _ m1 O h3
       exact KD (Ck O h1) s.ge.w s1.ge.w (fun v=>Q8 hx.2) (by rw[BK];exact lW s.pl hx.1) wU (by have:=O.hu;omega) rfl
      ·exact no h
    ·exact no h
   ·exact no h
  ·exact no h
 ·--an expression alone
  split at h
  ·have dflt:∀(e:Expr)(q:Pos),nU e=false->(dg n C e).map S.expr=some m->GS X W c m (.Expr e q):=fun e q hc z=>by
    simp only[QJz]at z
    obtain⟨m1,h1,rfl⟩:=z
    have s:=J.e C X _ m1 O h1
    exact Qx s.ge.w (lW s.pl hc)
   split at h
   ·split at h
    ·split at h
     ·rename_i hx
      simp only[QUq,QUz]at hx
      obtain⟨hl,rfl⟩:=hx
      simp only[QJq]at h
      obtain⟨v,h1,h⟩:=h
      split at h
      ·simp only[QJz]at h
       obtain⟨m1,h2,rfl⟩:=h
       have s:=J.e C X _ m1 O h2
       exact GC ⟨rfl,hl,bB s.pl _ _⟩ (Ck O h1) s.ge.w
      ·exact no h
     ·exact dflt _ _ rfl h
    ·exact no h
   ·exact dflt _ _ rfl h
  ·exact no h
 ·simp only[QJq,QJz]at h
  obtain⟨t,h1,a,h2,b,h3,rfl⟩:=h
  exact abF (J.e C X _ t O h1).gt.w (I.ss C X W _ a O T h2) (I.ss C X W _ b O T h3)
 ·split at h
  ·simp only[QJq,QJz]at h
   obtain⟨tg,h1,it,h2,b,h3,rfl⟩:=h
   obtain⟨gi,gp⟩:=UT J O h2
   exact WT T.po O.calm gi.w (Hy O T h1) (I.ss C X W _ b O T h3) (fun x=>vQ gp _ _)
  ·exact no h
 ·split at h
  ·simp only[QJq,QJz]at h
   obtain⟨t,h1,b,h3,rfl⟩:=h
   exact KC T.po (J.e C X _ t O h1).gt.w (I.ss C X W _ b O T h3)
  ·exact no h
 ·exact T.ra _ _ _ _ _ h0
 ·exact no h
end
theorem Oz{C:Ct}{e f:Option Expr}{n:Nat}{m:S}(h:RC (n+1) C (.Raise e f p)=some m):m=.raise (Iv C e f):=by
 unfold RC at h
 simp only at h
 cases h
 rfl
theorem Top.plain{C:Ct}{X:Cx}{c:Cf}(hf:∀x,X.fn x=true)(hp:PassesOwn (model X.prog X.w) X.A X.env X.xe):Top C X W0 c:=
 ⟨hf,hp,fun e f p n m h=>by rw[Oz h];exact KJ⟩
theorem ihS(c:Cf):∀n,IhS c n
 |0=>afx c
 |n+1=>let I:=ihS c n
  ⟨fun C X W st m O T h=>Uz I O T h,fun C X W st m O T h=>NB I O T h⟩
structure Df where
 x:Str
 st:Stmt
 N:List Str
 ps:List Str
 fl:List Bool
 exs:List Str:=[]
def aee(ds:List Df):List (Str×List Bool):=ds.map fun d=>(d.x,d.fl)
def abZ(ds:List Df)(j4:List Str)(d:Df):Ct:={N:=d.N,sc:=aZ d.st,fns:=aee ds,j4:=j4,exs:=d.exs}
def fnOf(ds:List Df)(j4:List Str)(d:Df):Option Fn:=(pR 60 (abZ ds j4 d) (dF d.st)).map fun b=>{pars:=d.ps.length,names:=d.N.length,body:=b}
structure uR(K:QQq)(mg:QZz)(d:Df)(f:Addr)(fd:FuncData):Prop where
 fu:XS K d.x d.x d.st f fd
 bi:Binds K fd d.ps []
 at_:mg d.x=some (.ref f)
section
variable{P:Program}{w:World}{K:QQq}{mg:QZz}{base:Heap}{ds:List Df}{j4:List Str}{p:Pg}{fa:Nat->Addr}{fd:Nat->FuncData}
theorem Ce(hfn:∀i d,ds[i]? =some d->uR K mg d (fa i) (fd i))(hsc:∀d∈ds,j8 d.N d.ps (aZ d.st))(htr:∀(i:Nat)d,ds[i]? =some d->∃g,p.fns[i]? =some g/\fnOf ds j4 d=some g)
  (hbi:∀x∈mQ,mg x=none)(hgl:∀(k:Nat)x,j4[k]? =some x->∃d v u,p.gl k=some d/\mg x=some u/\RelV v u/\∀H,bz K H d v):
  ∀(n i:Nat)d,ds[i]? =some d->oN P w K mg base Hg n (fa i) (fd i) d.ps (rP K d.ps.length (p.fn n i))
 |0,i,d,e=>by
  have no:∀vs H Q E,¬rP K d.ps.length (p.fn 0 i) vs H Q E:=fun vs H Q E h=>by
   obtain⟨_,_,_,_,z⟩:=h
   exact z
  exact⟨fun vs H Q E h=>absurd h (no vs H Q E),fun A outer s H args us vs Q E _ _ _ _ h=>absurd h (no vs H Q E)⟩
 |n+1,i,d,e=>by
  have IH:=Ce hfn hsc htr hbi hgl n
  have D:=hfn i d e
  obtain⟨g,hg,ht⟩:=htr i d e
  unfold fnOf at ht
  simp only[QJz]at ht
  obtain⟨b,hb,rfl⟩:=ht
  have S:=hsc d (QBz e)
  have hp:p.fn (n+1) i=gR (p.cf n) {pars:=d.ps.length,names:=d.N.length,body:=b}:=by
   funext sl
   show(match p.fns[i]? with|some g=>gR (p.cf n) g sl|none=>.bad)=_
   rw[hg]
  rw[hp]
  refine QK D.fu S rfl rfl fun cdv A outer s H E hr=>?_
  refine(ihS (p.cf n) 60).ss (abZ ds j4 d) _ W0 _ b ⟨rfl,rfl,S.nd,rfl,?_,hbi,fun k x hk=>?_,fun g x fl hk=>?_⟩ (.plain (fun _=>rfl) PassesOwn.never) hb
  ·have:=hr.un
   show(A.deeper _).units+60<cLine
   omega
  ·obtain⟨dd,v,u,h1,h2,h3,h4⟩:=hgl k x hk
   exact⟨dd,h1,v,u,h2,h3,h4⟩
  ·have hk':(ds.map fun d=>(d.x,d.fl))[g]? =some (x,fl):=hk
   rw[QFz]at hk'
   cases q:ds[g]? with
   |none=>rw[q]at hk';cases hk'
   |some d2=>
    rw[q]at hk'
    simp at hk'
    obtain⟨rfl,rfl⟩:=hk'
    have D2:=hfn g d2 q
    refine⟨n,fa g,fd g,d2.ps,IH g d2 q,hr,D2.at_,D2.fu.kp,D2.bi,fun sl=>?_⟩
    show p.fn n g sl=.bad\/_
    cases n with
    |zero=>exact .inl rfl
    |succ n=>
     obtain⟨g2,hg2,ht2⟩:=htr g d2 q
     unfold fnOf at ht2
     simp only[QJz]at ht2
     obtain⟨b2,hb2,rfl⟩:=ht2
     have:p.fn (n+1) g sl=gR (p.cf n) {pars:=d2.ps.length,names:=d2.N.length,body:=b2} sl:=by
      show(match p.fns[g]? with|some g=>gR (p.cf n) g sl|none=>.bad)=_
      rw[hg2]
     rw[this]
     exact Fg (p.cf n) _ sl
end
variable{K:QQq}
theorem U4{f:List Sl->Res}{H:Hp}{a:Addr}{ns:List Int}(hO:Only H)(hS:iY K H a (ns.map V.int))(hf:∃qs,f [.val (.lst (ns.map D.int))]=.ok (.val (.bl true)) qs)(E:XK):
  rP K 1 f [.ref a] H (fun v _=>v=.bl true) E:=by
 have den:bz K H (.lst (ns.map D.int)) (.ref a):=by
  have fr:Eh K H a (ns.map V.int):=by
   rcases hS with (h|⟨o,h⟩)|h
   ·rcases hO a with z|⟨o,xs,z⟩
    ·rw[z]at h;cases h
    ·rw[z]at h;cases h
   ·exact .inl ⟨o,h⟩
   ·exact .inr h
  have l:∀(ns:List Int),ao K H (ns.map D.int) (ns.map V.int):=fun ns=>by
   induction ns with
   |nil=>exact ao.dY
   |cons i r ih=>exact ao.cN rfl ih
  unfold bz
  exact⟨a,_,rfl,fr,l ns⟩
 obtain⟨qs,hf⟩:=hf
 refine⟨[.val (.lst (ns.map D.int))],rfl,⟨rfl,fun i s e=>?_,fun i j b h1=>?_⟩,fun i o e=>?_,?_⟩
 ·cases i with
  |zero=>simp at e;subst e;exact⟨.ref a,rfl,den⟩
  |succ i=>simp at e
 ·obtain⟨⟨s,o,e1,e2⟩,_⟩:=h1
  cases i with
  |zero=>simp at e1;subst e1;cases e2
  |succ i=>simp at e1
 ·cases i with
  |zero=>simp at e
  |succ i=>simp at e
 ·rw[hf]
  exact fun v H' _ z=>z
def VD(a:Arguments):List Str:=a.args.map (·.arg)
def namesOf(st:Stmt):List Str:=VD (dG st)++(((aZ st).names.filter fun p=>(p.2== .local||p.2== .cell)&& !(VD (dG st)).contains p.1).map (·.1))
def bL(x:Str)(st:Stmt)(fl:List Bool):Df:={x:=x,st:=st,N:=namesOf st,ps:=VD (dG st),fl:=fl}
def Ia(d:Df):Bool:=
 decide ((aZ d.st).kind=.function)&& !(aZ d.st).isCoroutine&& !(aZ d.st).isGenerator&&decide d.N.Nodup&&decide (d.N.take d.ps.length=d.ps)
 &&(d.ps.all fun x=>(aZ d.st).names.lookup x==some .local||(aZ d.st).names.lookup x==some .cell)&&((aZ d.st).names.all fun y=>y.2 != .free)
theorem Oc{d:Df}(h:Ia d=true):j8 d.N d.ps (aZ d.st):=by
 unfold Ia at h
 simp only[QUq,QUz,Bool.not_eq_true',List.all_eq_true,Bool.or_eq_true,beq_iff_eq,bne_iff_ne,ne_eq]at h
 obtain⟨⟨⟨⟨⟨⟨h1,h2⟩,h3⟩,h4⟩,h5⟩,h6⟩,h7⟩:=h
 exact⟨h1,h2,h3,h4,h5,h6,h7⟩
def Zw:Value->D->Bool
 |.none,.non=>true
 |.bool a,.bl b=>a==b
 |.int i _,.int j=>i==j
 |.str x _,.str y=>decide (x=y)
 |_,_=>false
def Ek:List Value->List D->Bool
 |[],[]=>true
 |u::us,d::ds=>Zw u d&&Ek us ds
 |_,_=>false
def Hw(o:Obj)(ds:List D):Bool:=o.cls== .type "tuple"&&o.dict.isNone&&match o.data with
 |.seq its _=>Ek its.toList ds&&decide (its.size<=1000)
 |_=>false
def Rh(K:QQq)(mg:QZz)(x:Str)(d:D):Prop:=∃v u,mg x=some u/\RelV v u/\∀H,bz K H d v
theorem Ht{u:Value}{d:D}(h:Zw u d=true):∃v,RelV v u/\∀H,bz K H d v:=by
 cases u<;>cases d<;>simp[Zw]at h
 ·exact⟨.non,rfl,fun H=>rfl⟩
 ·subst h;exact⟨.bl _,rfl,fun H=>rfl⟩
 ·subst h;exact⟨.int _,⟨_,rfl⟩,fun H=>rfl⟩
 ·subst h;exact⟨.str _,⟨_,rfl⟩,fun H=>rfl⟩
theorem Bu{K:QQq}:∀{us:List Value}{ds:List D},Ek us ds=true->∃vs,Vals vs us/\∀H,ao K H ds vs
 |[],[]=>fun _=>⟨[],.nil,fun H=>ao.dY⟩
 |u::us,d::ds=>fun h=>by
  unfold Ek at h
  rw[QUq]at h
  obtain⟨v,r,e⟩:=Ht (K:=K) h.1
  obtain⟨vs,rs,es⟩:=Bu (K:=K) h.2
  exact⟨v::vs,.cons r rs,fun H=>ao.cN (e H) (es H)⟩
 |[],_::_=>fun h=>by simp[Ek]at h
 |_::_,[]=>fun h=>by simp[Ek]at h
section
variable{K:QQq}{mg:QZz}{h:Heap}{x:Str}{d:D}{u:Value}{a:Addr}{o:Obj}{ds:List D}
theorem WW(X:K.In h)(G:h.Ns mainGlobals mg)(e:PySem.W.nsIn K mainGlobals x=some (some u))(hv:Zw u d=true):Rh K mg x d:=by
 obtain⟨v,r,q⟩:=Ht (K:=K) hv
 exact⟨v,u,PySem.W.mg_of X G e,r,q⟩
theorem WX(X:K.In h)(G:h.Ns mainGlobals mg)(e:PySem.W.nsIn K mainGlobals x=some (some (.ref a)))(l:K.lookup a=some o)(hv:Hw o ds=true):Rh K mg x (.tup ds):=by
 unfold Hw at hv
 simp only[QUq,beq_iff_eq,Option.isNone_iff_eq_none]at hv
 obtain⟨⟨hc,hd⟩,hv⟩:=hv
 split at hv
 ·rename_i its n hs
  rw[QUq,QUz]at hv
  obtain⟨vs,r,q⟩:=Bu (K:=K) hv.1
  exact⟨.ref a,_,PySem.W.mg_of X G e,rfl,fun H=>dB (.inr ⟨o,its,n,l,hc,hd,hs,Nat.le_of_lt (Ez hv.2),r⟩) (q H)⟩
 ·cases hv
end
def yW(K:QQq)(mg:QZz):List Df->List (Addr×FuncData)->Prop
 |[],[]=>True
 |d::ds,(f,fd)::r=>uR K mg d f fd/\yW K mg ds r
 |_,_=>False
theorem yW.at{K:QQq}{mg:QZz}:∀{ds:List Df}{fs:List (Addr×FuncData)},yW K mg ds fs->∀(i:Nat)d,ds[i]? =some d->∃q,fs[i]? =some q/\uR K mg d q.1 q.2
 |[],_,_,i=>fun d e=>by simp at e
 |_::_,[],h,_=>fun _ _=>h.elim
 |d::ds,(f,fd)::r,h,0=>fun d' e=>by cases e;exact⟨(f,fd),rfl,h.1⟩
 |d::ds,(f,fd)::r,h,i+1=>fun d' e=>h.2.at i d' e
def yV(K:QQq)(mg:QZz):List Str->List D->Prop
 |[],[]=>True
 |x::xs,d::ds=>Rh K mg x d/\yV K mg xs ds
 |_,_=>False
theorem yV.at{K:QQq}{mg:QZz}:∀{xs:List Str}{ds:List D},yV K mg xs ds->∀(k:Nat)x,xs[k]? =some x->∃d,ds[k]? =some d/\Rh K mg x d
 |[],_,_,k=>fun x e=>by simp at e
 |_::_,[],h,_=>fun _ _=>h.elim
 |x::xs,d::ds,h,0=>fun x' e=>by cases e;exact⟨d,rfl,h.1⟩
 |x::xs,d::ds,h,k+1=>fun x' e=>h.2.at k x' e
def FT(ds:List Df)(j4:List Str)(vals:List D)(turns:Nat):Pg:=
 {fns:=ds.map fun d=>(fnOf ds j4 d).getD {pars:=0,names:=0,body:=.nil},gl:=fun k=>vals[k]?,turns:=turns}
theorem Nu{P:Program}{w:World}{mg:QZz}{base:Heap}{ds:List Df}{j4:List Str}{vals:List D}{turns:Nat}{fs:List (Addr×FuncData)}(hD:yW K mg ds fs)(hG:yV K mg j4 vals)
  (hS:ds.all Ia=true)(hT:ds.all (fun d=>(fnOf ds j4 d).isSome)=true)(hB:∀x∈mQ,mg x=none)(n i:Nat)(d:Df)(f:Addr)(fd:FuncData)(hd:ds[i]? =some d)(hf:fs[i]? =some (f,fd)):
  oN P w K mg base Hg n f fd d.ps (rP K d.ps.length ((FT ds j4 vals turns).fn n i)):=by
 have z1:∀(i:Nat)d,ds[i]? =some d->uR K mg d (((fs[i]?).map (·.1)).getD 0) (((fs[i]?).map (·.2)).getD fd):=fun i d e=>by
  obtain⟨q,e1,e2⟩:=hD.at i d e
  simp only[e1,Option.map_some,Option.getD_some]
  exact e2
 have z2:∀(i:Nat)d,ds[i]? =some d->∃g,(FT ds j4 vals turns).fns[i]? =some g/\fnOf ds j4 d=some g:=fun i d e=>by
  have hs:=List.all_eq_true.mp hT d (QBz e)
  obtain⟨g,hg⟩:=Option.isSome_iff_exists.mp hs
  refine⟨g,?_,hg⟩
  show(ds.map fun d=>(fnOf ds j4 d).getD {pars:=0,names:=0,body:=.nil})[i]? =some g
  rw[QFz,e]
  simp[hg]
 have z3:∀(k:Nat)x,j4[k]? =some x->∃d v u,(FT ds j4 vals turns).gl k=some d/\mg x=some u/\RelV v u/\∀H,bz K H d v:=fun k x e=>by
  obtain⟨dd,e1,v,u,z1,z2,z3⟩:=hG.at k x e
  exact⟨dd,v,u,e1,z1,z2,z3⟩
 have Z:=Ce (P:=P) (w:=w) (K:=K) (base:=base) (p:=FT ds j4 vals turns) (ds:=ds) (j4:=j4) (fa:=fun i=>((fs[i]?).map (·.1)).getD 0) (fd:=fun i=>((fs[i]?).map (·.2)).getD fd)
  z1 (fun d hd=>Oc (List.all_eq_true.mp hS d hd)) z2 hB z3 n i d hd
 simp only[hf,Option.map_some,Option.getD_some]at Z
 exact Z
def My(K:QQq)(x:Str)(st:Stmt):Prop:=∃(f:Addr)(od an:Option Addr)(sl:Array (Option Value))(oc kV dc pm cd ct:Value),
 PySem.W.nsIn K mainGlobals x=some (some (.ref f))/\K.lookup f=some ⟨oc,od,.func (PySem.W.fnOf x x (dG st) (dF st) (aZ st) .none kV dc pm an cd ct),sl⟩/\PySem.W.codeIn K cd x=true/\PySem.W.keepIn K (.ref f)=true
theorem dIn{st:Stmt}{f:Addr}{od an:Option Addr}{sl:Array (Option Value)}{oc kV dc pm cd ct:Value}(a:PySem.W.nsIn K mainGlobals x=some (some (.ref f)))
  (l:K.lookup f=some ⟨oc,od,.func (PySem.W.fnOf x x (dG st) (dF st) (aZ st) .none kV dc pm an cd ct),sl⟩)(c:PySem.W.codeIn K cd x=true)(p:PySem.W.keepIn K (.ref f)=true):My K x st:=⟨f,od,an,sl,oc,kV,dc,pm,cd,ct,a,l,c,p⟩
def AllIn(K:QQq):List (Str×Stmt)->Prop
 |[]=>True
 |(x,s)::r=>My K x s/\AllIn K r
def Bd(d:Df):Prop:=∀(kV dc pm:Value)(an:Option Addr)(cd ct:Value)(us:List Value),us.length=d.ps.length->bindArgs (PySem.W.fnOf d.x d.x (dG d.st) (dF d.st) (aZ d.st) .none kV dc pm an cd ct) ⟨us,[]⟩=pure (d.ps.zip us)
variable{us:List Value}
theorem rZ(h:us.length=1):∃a,us=[a]:=List.length_eq_one_iff.mp h
theorem Qj{n:Nat}(h:us.length=n+1):∃a r,us=a::r/\r.length=n:=by
 cases us with
 |nil=>simp at h
 |cons a r=>exact⟨a,r,rfl,by simpa using h⟩
theorem lq(h:us.length=2):∃a b,us=[a,b]:=by
 obtain⟨a,r,rfl,h2⟩:=Qj h;obtain⟨b,rfl⟩:=rZ h2;exact⟨a,b,rfl⟩
theorem jB(h:us.length=3):∃a b c,us=[a,b,c]:=by
 obtain⟨a,r,rfl,h2⟩:=Qj h;obtain⟨b,c,rfl⟩:=lq h2;exact⟨a,b,c,rfl⟩
theorem vG(h:us.length=4):∃a b c d,us=[a,b,c,d]:=by
 obtain⟨a,r,rfl,h2⟩:=Qj h;obtain⟨b,c,d,rfl⟩:=jB h2;exact⟨a,b,c,d,rfl⟩
theorem aa7(h:us.length=5):∃a b c d e,us=[a,b,c,d,e]:=by
 obtain⟨a,r,rfl,h2⟩:=Qj h;obtain⟨b,c,d,e,rfl⟩:=vG h2;exact⟨a,b,c,d,e,rfl⟩
def Ei:List Df->Prop
 |[]=>True
 |d::r=>Bd d/\Ei r
inductive XR(K:QQq)(x:Str):D->Prop
 |v {u:Value} {d:D}:PySem.W.nsIn K mainGlobals x=some (some u)->Zw u d=true->XR K x d
 |t {a:Addr} {o:Obj} {ds:List D}:PySem.W.nsIn K mainGlobals x=some (some (.ref a))->K.lookup a=some o->Hw o ds=true->XR K x (.tup ds)
def wA(K:QQq):List Str->List D->Prop
 |[],[]=>True
 |x::xs,d::ds=>XR K x d/\wA K xs ds
 |_,_=>False
def MF(K:QQq):List Str->Prop
 |[]=>True
 |x::r=>PySem.W.nsIn K mainGlobals x=some none/\MF K r
section
variable{K:QQq}{h:Heap}{mg:QZz}
theorem Mh(X:K.In h)(G:h.Ns mainGlobals mg):∀(ds:List Df),Ei ds->AllIn K (ds.map fun d=>(d.x,d.st))->
  ∃fs,yW K mg ds fs/\∀(i:Nat)d,ds[i]? =some d->∃q,fs[i]? =some q/\uR K mg d q.1 q.2/\∀(s:Shared)(us:List Value),us.length=d.ps.length->BindsTo s q.2 ⟨us,[]⟩ (d.ps.zip us)
 |[],_,_=>⟨[],trivial,fun i d e=>by simp at e⟩
 |d::ds,⟨b,bs⟩,⟨⟨f,od,an,sl,oc,kV,dc,pm,cd,ct,a,l,c,p⟩,is⟩=>by
  obtain⟨fs,A,B⟩:=Mh X G ds bs is
  have F:=Xk l c p
  have D:uR K mg d f (PySem.W.fnOf d.x d.x (dG d.st) (dF d.st) (aZ d.st) .none kV dc pm an cd ct):=⟨F,F.binds b,PySem.W.mg_of X G a⟩
  refine⟨(f,_)::fs,⟨D,A⟩,fun i e he=>?_⟩
  cases i with
  |zero=>cases he;exact⟨_,rfl,D,fun s us hl=>.of_eq (b kV dc pm an cd ct us hl)⟩
  |succ i=>exact B i e he
theorem Mg(X:K.In h)(G:h.Ns mainGlobals mg):∀(xs:List Str)(ds:List D),wA K xs ds->yV K mg xs ds
 |[],[],_=>trivial
 |_::xs,_::ds,⟨g,r⟩=>⟨by cases g with
  |v e hv=>exact WW X G e hv
  |t e l hv=>exact WX X G e l hv,Mg X G xs ds r⟩
 |[],_::_,h=>h.elim
 |_::_,[],h=>h.elim
theorem Mf(X:K.In h)(G:h.Ns mainGlobals mg):∀(xs:List Str),MF K xs->∀x∈xs,mg x=none
 |[],_=>fun x hx=>by cases hx
 |_::r,⟨e,es⟩=>fun x hx=>by
  rcases QCq.mp hx with rfl|hx
  ·exact PySem.W.mg_none_of X G e
  ·exact Mf X G r es x hx
theorem Ra{l:PySem.W.OpenLaw}{w:World}{fa:Addr}{ds:List Df}{j4:List Str}{vals:List D}{L n:Nat}{dL:Df}{y:Str}(X:K.In h)(G:h.Ns mainGlobals mg)(hfa:mg "law"=some (.ref fa))(hx:dL.x="law")(hy:dL.ps=[y])(hL:ds[L]? =some dL)(b:Ei ds)
  (scp:ds.all Ia=true)(lM:ds.all (fun d=>(fnOf ds j4 d).isSome)=true)(A:AllIn K (ds.map fun d=>(d.x,d.st)))(B:wA K j4 vals)(Z:MF K mQ):
  ∃fd:FuncData,(∀(s:Shared)(v:Value),BindsTo s fd ⟨[v],[]⟩ [(y,v)])/\∀base:Heap,K.In base->base.Ns mainGlobals mg->oN l.prog w K mg base Hg n fa fd [y] (rP K 1 ((FT ds j4 vals 1000).fn n L)):=by
 obtain⟨fs,A,C⟩:=Mh X G ds b A
 obtain⟨q,e1,e2,e3⟩:=C L dL hL
 have e:=hfa.symm.trans (hx▸e2.at_)
 cases e
 refine⟨q.2,fun s v=>?_,fun base _ _=>?_⟩
 ·have:=e3 s [v] (by rw[hy];rfl)
  rw[hy]at this
  exact this
 ·have:=Nu (P:=l.prog) (w:=w) (base:=base) (turns:=1000) A (Mg X G j4 vals B) scp lM (Mf X G _ Z) n L dL q.1 q.2 hL e1
  rw[hy]at this
  exact this
end
theorem Hk{l:PySem.W.OpenLaw}{q:Program}{loose:List Str}{XP:QZz->Heap->Prop}{YP:World->Heap->Prop}{d:DefRec}{K:Params->QQq}{p:Pg}{L:Nat}{y:Str}(hn:l.most=some 63)(hdf:d.params.defaults=[])
  (hY:∀(w:World)(h:Heap),YP w h->(K w.params).In h)(math:∀ns:List Int,ns.length<=63->∃qs,p.fn 60 L [.val (.lst (ns.map D.int))]=.ok (.val (.bl true)) qs)
  (F:∀(w:World)(mg:QZz)(fa:Addr)(h:Heap),(K w.params).In h->h.Ns mainGlobals mg->mg d.name=some (.ref fa)->
   ∃fd:FuncData,(∀(s:Shared)(u:Value),BindsTo s fd ⟨[u],[]⟩ [(y,u)])/\∀base:Heap,(K w.params).In base->base.Ns mainGlobals mg->oN l.prog w (K w.params) mg base Hg 60 fa fd [y] (rP (K w.params) 1 (p.fn 60 L))):
  PySem.W.WalkO q loose XP YP l.row.toRowW d [] (fun f vs=>PySem.call f vs):=
 L2.M7 (n:=63) (k:=60) (x:=y) (CX:=fun _=>Hg) (sp:=fun w=>rP (K w.params) 1 (p.fn 60 L)) hn (by decide) hdf ⟨rfl,by decide,by decide⟩ hY F (fun _ _ a ns hl hO hS=>U4 hO hS (math ns hl) _) fun _ _ _ _ _ z=>z
variable{a:D}{f:Ev->Fl}{j:Int}
section
variable{α β:Type}{σ:Ev}{d:D}{o:Ob}{b:Bool}{i:Int}{k:Nat}{xs:List D}
@[simp]theorem adF{a:α}{f:α->Ev->Out β}:(Out.ok a σ).bind f=f a σ:=rfl
@[simp]theorem ab4{f:α->Ev->Out β}:(Out.exc k σ).bind f=.exc k σ:=rfl
@[simp]theorem ab5{f:α->Ev->Out β}:(Out.bad:Out α).bind f=.bad:=rfl
@[simp]theorem bQ{f:D->Ev->Out β}:(Out.ok (.val d) σ).ak f=f d σ:=rfl
@[simp]theorem j7{f:D->Ev->Out β}:(Out.ok (.new o) σ).ak f=f o.d σ:=rfl
@[simp]theorem YZ{f:D->Ev->Out β}:(Out.exc k σ).ak f=.exc k σ:=rfl
@[simp]theorem Y0{f:D->Ev->Out β}:(Out.bad).ak f=.bad:=rfl
@[simp]theorem dW{f:Bool->Ev->Out β}:(Out.ok (.val (.bl b)) σ).cj gP f=f b σ:=rfl
@[simp]theorem YT{f:Bool->Ev->Out β}:(Out.ok (.val (.int i)) σ).cj gP f=f (i !=0) σ:=rfl
@[simp]theorem YQ{f:Bool->Ev->Out β}:(Out.ok (.val (.tup xs)) σ).cj gP f=f (!xs.isEmpty) σ:=rfl
@[simp]theorem YS{f:Bool->Ev->Out β}:(Out.ok (.val (.lst xs)) σ).cj gP f=f (!xs.isEmpty) σ:=rfl
@[simp]theorem YW{f:Bool->Ev->Out β}:(Out.exc k σ).cj gP f=.exc k σ:=rfl
@[simp]theorem YX{f:Bool->Ev->Out β}:(Out.bad).cj gP f=.bad:=rfl
@[simp]theorem agT{a:α}{f:α->Ev->Fl}:(Out.ok a σ).fl f=f a σ:=rfl
@[simp]theorem afJ{f:α->Ev->Fl}:(Out.exc k σ:Out α).fl f=.exc k σ:=rfl
@[simp]theorem afK{f:α->Ev->Fl}:(Out.bad:Out α).fl f=.bad:=rfl
@[simp]theorem adm{f:D->Ev->Fl}:(Out.ok (.val d) σ).lO f=f d σ:=rfl
@[simp]theorem adn{f:D->Ev->Fl}:(Out.ok (.new o) σ).lO f=f o.d σ:=rfl
@[simp]theorem ado{f:D->Ev->Fl}:(Out.exc k σ).lO f=.exc k σ:=rfl
@[simp]theorem adp{f:D->Ev->Fl}:(Out.bad).lO f=.bad:=rfl
@[simp]theorem afL{f:Bool->Ev->Fl}:(Out.ok (.val (.bl b)) σ).Ai f=f b σ:=rfl
@[simp]theorem adk{f:Bool->Ev->Fl}:(Out.exc k σ).Ai f=.exc k σ:=rfl
@[simp]theorem adl{f:Bool->Ev->Fl}:(Out.bad).Ai f=.bad:=rfl
@[simp]theorem ul{a:α}:Mini.lift σ (some a)=.ok a σ:=rfl
@[simp]theorem Yz:Mini.lift σ (none:Option α)=.bad:=rfl
@[simp]theorem aaf:(Fl.next σ).seq f=f σ:=rfl
@[simp]theorem acH{r:Rv}:(Fl.ret r σ).seq f=.ret r σ:=rfl
@[simp]theorem acI:(Fl.exc k σ).seq f=.exc k σ:=rfl
@[simp]theorem acJ:(Fl.brk σ).seq f=.brk σ:=rfl
@[simp]theorem aag:(Fl.cont σ).seq f=.cont σ:=rfl
@[simp]theorem acK:(Fl.bad).seq f=.bad:=rfl
@[simp]theorem mZ:(Fl.next σ).turn f=f σ:=rfl
@[simp]theorem Yh:(Fl.cont σ).turn f=f σ:=rfl
@[simp]theorem ZC:(Fl.brk σ).turn f=.next σ:=rfl
@[simp]theorem Zy{r:Rv}:(Fl.ret r σ).turn f=.ret r σ:=rfl
@[simp]theorem Zz:(Fl.exc k σ).turn f=.exc k σ:=rfl
@[simp]theorem ZD:(Fl.bad).turn f=.bad:=rfl
@[simp]theorem aah:m8 (.val d) σ=.ret (.val d) σ:=rfl
@[simp]theorem aai:m8 (.new o) σ=.ret (.new o) σ:=rfl
@[simp]theorem aaX{τ:Ev}:wB (some τ)=.next τ:=rfl
@[simp]theorem aaY:wB none=.bad:=rfl
@[simp]theorem acd:argv (.val d)=.val d:=rfl
@[simp]theorem acg:argv (.new o)=.val o.d:=rfl
@[simp]theorem acf:argv (.ref k)=.ref k:=rfl
@[simp]theorem ace:argv (.tmp o)=.tmp o:=rfl
@[simp]theorem Z9:Rv.wZ (.val d)=some (.val d):=rfl
@[simp]theorem aaa:Rv.wZ (.new o)=some (.own o):=rfl
@[simp]theorem adA:Rv.jG (.val d)=some d:=rfl
@[simp]theorem adB:Rv.jG (.new o)=some o.d:=rfl
@[simp]theorem Le:Ob.d (.lst xs)=.lst xs:=rfl
@[simp]theorem ahn{ys:List D}:Ob.d (.dct xs ys)=.cH xs ys:=rfl
@[simp]theorem acR:Gm (.tup xs)=some xs.length:=rfl
@[simp]theorem acS:Gm (.lst xs)=some xs.length:=rfl
@[simp]theorem adI:b1 .len (.tup xs)=some (.val (.int xs.length)):=rfl
@[simp]theorem adJ:b1 .len (.lst xs)=some (.val (.int xs.length)):=rfl
@[simp]theorem adK:b1 .int (.int i)=some (.val (.int i)):=rfl
@[simp]theorem adL:b1 .int (.bl b)=some (.val (.int (b2i b))):=rfl
@[simp]theorem ab6:b1 .tuple d=(bw d).bind fun xs=>some (.val (.tup xs)):=rfl
@[simp]theorem adH:b1 .list d=(H8 d).bind fun xs=>some (.new (.lst xs)):=rfl
@[simp]theorem aef(xs:List D):H8 (.tup xs)=some xs:=rfl
@[simp]theorem aeh(xs:List D):H8 (.lst xs)=some xs:=rfl
@[simp]theorem aeg(ks vs:List D):H8 (.jf ks vs)=some ks:=rfl
@[simp]theorem LQ:b1 .all d=(bw d).bind fun xs=>(bools xs).map fun bs=>.val (.bl (bs.all id)):=rfl
@[simp]theorem af6:b1 .any d=(bw d).bind fun xs=>(bools xs).map fun bs=>.val (.bl (bs.any id)):=rfl
@[simp]theorem adM:b1 .dict d=(bw d).bind fun xs=>(dictOf [] [] xs).map fun p=>.new (.dct p.1 p.2):=rfl
@[simp]theorem Y5:b1 .sorted d=(jy d).bind fun xs=>(oU xs).map fun ys=>.new (.lst ys):=rfl
@[simp]theorem Yn:bw (.tup xs)=some xs:=rfl
@[simp]theorem tu:bw (.lst xs)=some xs:=rfl
@[simp]theorem Yv:jy (.lst xs)=some xs:=rfl
@[simp]theorem adg:getD (.tup xs) (.int i)=at? xs i:=rfl
@[simp]theorem adh:getD (.lst xs) (.int i)=at? xs i:=rfl
@[simp]theorem add_int:binop .add (.int i) (.int j)=some (.val (.int (i+j))):=rfl
@[simp]theorem sub_int:binop .sub (.int i) (.int j)=some (.val (.int (i-j))):=rfl
@[simp]theorem mul_int:binop .mul (.int i) (.int j)=if small i||small j then some (.val (.int (i*j)))else none:=rfl
@[simp]theorem mod_int:binop .mod (.int i) (.int j)=if 0<j then some (.val (.int (i%j)))else none:=rfl
@[simp]theorem lt_int:aG .lt (.int i) (.int j)=some (decide (i<j)):=rfl
@[simp]theorem gt_int:aG .gt (.int i) (.int j)=some (decide (j<i)):=rfl
@[simp]theorem le_int:aG .le (.int i) (.int j)=some (decide (i<=j)):=rfl
@[simp]theorem ge_int:aG .ge (.int i) (.int j)=some (decide (j<=i)):=rfl
@[simp]theorem agN{d:D}:aG .f9 d .non=some (cg d):=rfl
@[simp]theorem ae3{d:D}:aG .notN d .non=some (!cg d):=rfl
@[simp]theorem YD{xs:List D}:cg (.tup xs)=false:=rfl
@[simp]theorem YF:cg .non=true:=rfl
@[simp]theorem eq_int:aG .eq (.int i) (.int j)=some (i==j):=rfl
@[simp]theorem ne_int:aG .ne (.int i) (.int j)=some (!(i==j)):=rfl
@[simp]theorem ahm{c:Bool}:aG .eq (.bl b) (.bl c)=some (b==c):=rfl
@[simp]theorem agF{c:Bool}:aG .ne (.bl b) (.bl c)=some (!(b==c)):=rfl
@[simp]theorem eq_str{x y:PySem.Str}:aG .eq (.str x) (.str y)=some (decide (x=y)):=rfl
@[simp]theorem ne_str{x y:PySem.Str}:aG .ne (.str x) (.str y)=some (!decide (x=y)):=rfl
@[simp]theorem Y7:E.au (.var k)=some k:=rfl
@[simp]theorem Zg(d:D):E.au (.con d)=none:=rfl
@[simp]theorem XF(k:Nat):E.au (.glob k)=none:=rfl
@[simp]theorem Y8(a:E):E.au (.tup a)=none:=rfl
@[simp]theorem Zc(a:E):E.au (.lis a)=none:=rfl
@[simp]theorem aca(o:M3)(a b:E):E.au (.op o a b)=none:=rfl
@[simp]theorem Zb(a:E):E.au (.neg a)=none:=rfl
@[simp]theorem Zh(o:Cm)(a b:E):E.au (.cmp o a b)=none:=rfl
@[simp]theorem TJ(o p:Cm)(a b c:E):E.au (.chain o p a b c)=none:=rfl
@[simp]theorem Zi(a:E):E.au (.and a)=none:=rfl
@[simp]theorem ab9(a:E):E.au (.or a)=none:=rfl
@[simp]theorem Za(a:E):E.au (.not a)=none:=rfl
@[simp]theorem Zd(a b c:E):E.au (.ite a b c)=none:=rfl
@[simp]theorem Zf(a b:E):E.au (.idx a b)=none:=rfl
@[simp]theorem Y9(a b c:E):E.au (.slc a b c)=none:=rfl
@[simp]theorem XH(f:Nat)(a:E):E.au (.call f a)=none:=rfl
@[simp]theorem acb(b:Bi)(a:E):E.au (.bi b a)=none:=rfl
@[simp]theorem Ze(a:E)(t:Ty):E.au (.isi a t)=none:=rfl
@[simp]theorem Y6(a b:E):E.au (.zip a b)=none:=rfl
@[simp]theorem Q9(a:E):E.au (.range1 a)=none:=rfl
@[simp]theorem TF(a b:E):E.au (.count a b)=none:=rfl
@[simp]theorem Tz(i:Nat)(a:E):E.au (.popAt i a)=none:=rfl
@[simp]theorem rJ(n:Nat)(tg:Tg)(a b c:E):E.au (.comp n tg a b c)=none:=rfl
@[simp]theorem ab8(a:E):E.au (.rd a)=none:=rfl
theorem iW(xs:List D)(j:Nat)(h:j<xs.length):at? xs (j:Int)=xs[j]? :=by
 unfold at? ix?
 rw[if_neg (by omega:¬(j:Int)<0),if_pos ⟨by omega,by omega⟩]
 simp
@[simp]theorem at0:at? (a::xs) 0=some a:=(iW (a::xs) 0 (by simp)).trans rfl
@[simp]theorem at1{b:D}:at? (a::b::xs) 1=some b:=(iW (a::b::xs) 1 (by simp)).trans rfl
@[simp]theorem at2{b c:D}:at? (a::b::c::xs) 2=some c:=(iW (a::b::c::xs) 2 (by simp)).trans rfl
@[simp]theorem at3{b c e:D}:at? (a::b::c::e::xs) 3=some e:=(iW (a::b::c::e::xs) 3 (by simp)).trans rfl
end
def aF(bs:List Bool):D:=.tup (bs.map .bl)
def cZ:Nat->List (List Bool)
 |0=>[[]]
 |k+1=>(cZ k).map (· ++[false])++(cZ k).map (· ++[true])
def masks:Nat->List (List Bool)
 |0=>[[]]
 |k+1=>(masks k).map (false:: ·)++(masks k).map (true:: ·)
theorem uh:∀(bs:List Bool),bs∈masks bs.length
 |[]=>by simp[masks]
 |b::bs=>by
  have:=uh bs
  cases b<;>simp[masks,this]
def kE{α:Type}:List Bool->List α->List α
 |b::bs,x::xs=>if b then x::kE bs xs else kE bs xs
 |_,_=>[]
def yj:List (List Bool)->Bool
 |a::b::r=>jg a b&&yj (b::r)
 |_=>true
def qb(k:Nat)(bs:List Bool):Bool:=match oU (kE bs ((cZ k).map aF))with
 |some ws=>if ws.isEmpty then true else match jb ws with
  |some rs=>(rs.all fun r=>r.length==k)&&yj rs
  |none=>false
 |none=>false
theorem Z8:(masks 2).all (qb 1)=true:=by decide+kernel
theorem Z7:(masks 4).all (qb 2)=true:=by decide+kernel
theorem Z6:(masks 8).all (qb 3)=true:=by decide+kernel
theorem uL:∀{ys:List D}{bs:List Bool},bools ys=some bs->ys=bs.map .bl
 |[],bs,e=>by cases e;rfl
 |y::ys,bs,e=>by
  cases y with
  |bl b=>
   simp only[bools]at e
   cases q:bools ys with
   |none=>rw[q]at e;cases e
   |some r=>rw[q]at e;cases e;rw[uL q];rfl
  |_=>cases e
theorem tL:∀{xs:List D}{rs:List (List Bool)},jb xs=some rs->xs=rs.map aF
 |[],rs,e=>by cases e;rfl
 |y::ys,rs,e=>by
  cases y with
  |tup zs=>
   simp only[jb]at e
   cases q:bools zs with
   |none=>rw[q]at e;cases e
   |some bs=>
    cases bs with
    |nil=>rw[q]at e;cases e
    |cons b bs=>
     rw[q]at e
     simp only at e
     cases q2:jb ys with
     |none=>rw[q2]at e;cases e
     |some rs'=>
      rw[q2]at e
      cases e
      rw[tL q2,uL q]
      rfl
  |_=>cases e
theorem m7:∀k,(cZ k).length=2 ^k
 |0=>rfl
 |k+1=>by simp[cZ,m7 k];omega
theorem Ex(k:Nat)(h1:1<=k)(h3:k<=3)(bs:List Bool)(hl:bs.length=2 ^k):∃rs,oU (kE bs ((cZ k).map aF))=some (rs.map aF)/\(∀r∈rs,r.length=k)/\yj rs=true:=by
 have ok:qb k bs=true:=by
  have hm:=uh bs
  rw[hl]at hm
  rcases (by omega:k=1\/k=2\/k=3)with rfl|rfl|rfl
  ·exact List.all_eq_true.mp Z8 bs hm
  ·exact List.all_eq_true.mp Z7 bs hm
  ·exact List.all_eq_true.mp Z6 bs hm
 unfold qb at ok
 cases q:oU (kE bs ((cZ k).map aF))with
 |none=>rw[q]at ok;cases ok
 |some ws=>
  rw[q]at ok
  simp only at ok
  split at ok
  ·rename_i he
   have:ws=[]:=by simpa using he
   subst this
   exact⟨[],rfl,fun r h=>(by cases h),rfl⟩
  ·cases q2:jb ws with
   |none=>rw[q2]at ok;cases ok
   |some rs=>
    rw[q2]at ok
    simp only[QUq,List.all_eq_true,beq_iff_eq]at ok
    exact⟨rs,by rw[tL q2],ok.1,ok.2⟩
theorem filter_tt{α:Type}:∀(xs:List α),xs.filter (fun _=>true)=xs
 |[]=>rfl
 |x::xs=>by rw[List.filter_cons_of_pos rfl,filter_tt xs]
def cL(s:Sl):Prop:=s=.un\/∃d,s=.val d
theorem sY{s:Sl}(h:cL s)(d:D)(r:Ev):bD (.name 0) d (s::r)=some (.val d::r):=by
 rcases h with rfl|⟨e,rfl⟩<;>rfl
theorem sZ{s t:Sl}(h:cL s)(h':cL t)(a b:D)(r:Ev):bD (.tup [0,1]) (.tup [a,b]) (s::t::r)=some (.val a:: .val b::r):=by
 rcases h with rfl|⟨e,rfl⟩<;>rcases h' with rfl|⟨e',rfl⟩<;>rfl
theorem Lf(c:Cf)(d:D)(σ:Ev):ev c (.con d) σ=.ok (.val d) σ:=rfl
section
variable{c:Cf}{τ:Ev}{cond elt:Ev->Out Rv}
theorem go1{f:D->D}{p:D->Bool}:∀(xs acc:List D)(s:Sl),cL s->(∀x∈xs,cond (.val x::τ)=.ok (.val (.bl (p x))) (.val x::τ))->(∀x∈xs,p x=true->elt (.val x::τ)=.ok (.val (f x)) (.val x::τ))->
  ∃s',cL s'/\aU (.name 0) cond elt xs acc (s::τ)=.ok (acc++(xs.filter p).map f) (s'::τ)
 |[]=>fun acc s hs _ _=>⟨s,hs,by simp[aU]⟩
 |x::xs=>fun acc s hs hc he=>by
  have c1:=hc x QYz
  rw[aU,sY hs]
  simp only
  rw[c1,dW]
  cases q:p x with
  |true=>
   obtain⟨s',a1,a2⟩:=go1 (f:=f) (p:=p) xs (acc++[f x]) (.val x) (.inr ⟨x,rfl⟩) (fun y hy=>hc y (QYq _ hy)) (fun y hy=>he y (QYq _ hy))
   refine⟨s',a1,?_⟩
   rw[if_pos rfl,he x QYz q,bQ,a2]
   simp[q]
  |false=>
   obtain⟨s',a1,a2⟩:=go1 (f:=f) (p:=p) xs acc (.val x) (.inr ⟨x,rfl⟩) (fun y hy=>hc y (QYq _ hy)) (fun y hy=>he y (QYq _ hy))
   refine⟨s',a1,?_⟩
   rw[if_neg (by simp),a2]
   simp[q]
def pairD(p:D×D):D:=.tup [p.1,p.2]
theorem go2{f:D×D->D}{p:D×D->Bool}:∀(xs:List (D×D))(acc:List D)(s t:Sl),cL s->cL t->(∀x∈xs,cond (.val x.1:: .val x.2::τ)=.ok (.val (.bl (p x))) (.val x.1:: .val x.2::τ))->
  (∀x∈xs,p x=true->elt (.val x.1:: .val x.2::τ)=.ok (.val (f x)) (.val x.1:: .val x.2::τ))->
  ∃s' t',aU (.tup [0,1]) cond elt (xs.map pairD) acc (s::t::τ)=.ok (acc++(xs.filter p).map f) (s'::t'::τ)
 |[]=>fun acc s t hs ht _ _=>⟨s,t,by simp[aU]⟩
 |x::xs=>fun acc s t hs ht hc he=>by
  have c1:=hc x QYz
  rw[Qyz,aU,show pairD x=.tup [x.1,x.2]from rfl,sZ hs ht]
  simp only
  rw[c1,dW]
  cases q:p x with
  |true=>
   obtain⟨s',t',a2⟩:=go2 (f:=f) (p:=p) xs (acc++[f x]) (.val x.1) (.val x.2) (.inr ⟨_,rfl⟩) (.inr ⟨_,rfl⟩) (fun y hy=>hc y (QYq _ hy)) (fun y hy=>he y (QYq _ hy))
   refine⟨s',t',?_⟩
   rw[if_pos rfl,he x QYz q,bQ,a2]
   simp[q]
  |false=>
   obtain⟨s',t',a2⟩:=go2 (f:=f) (p:=p) xs acc (.val x.1) (.val x.2) (.inr ⟨_,rfl⟩) (.inr ⟨_,rfl⟩) (fun y hy=>hc y (QYq _ hy)) (fun y hy=>he y (QYq _ hy))
   refine⟨s',t',?_⟩
   rw[if_neg (by simp),a2]
   simp[q]
end
variable{ps:List (D×D)}
section
variable{c:Cf}{σ τ:Ev}{it co el:E}{r:Rv}{d:D}{xs:List D}
theorem Lj(f:D->D)(p:D->Bool)(hi:ev c it σ=.ok r τ)(hr:r.jG=some d)(hd:items d=some xs)(hc:∀x∈xs,ev c co (.val x::τ)=.ok (.val (.bl (p x))) (.val x::τ))(he:∀x∈xs,p x=true->ev c el (.val x::τ)=.ok (.val (f x)) (.val x::τ)):
  ev c (.comp 1 (.name 0) it co el) σ=.ok (.new (.lst ((xs.filter p).map f))) τ:=by
 obtain⟨s',_,a⟩:=go1 (f:=f) (p:=p) xs [] .un (.inl rfl) hc he
 rw[lU,hi]
 have b:∀{β:Type}(g:D->Ev->Out β),(Out.ok r τ).ak g=g d τ:=fun g=>by cases r<;>simp[Rv.jG]at hr<;>subst hr<;>rfl
 rw[b]
 simp only[hd]
 rw[show List.replicate 1 Sl.un++τ=.un::τ from rfl,a]
 simp
theorem kO(f:D->D)(hi:ev c it σ=.ok r τ)(hr:r.jG=some d)(hd:items d=some xs)(he:∀x∈xs,ev c el (.val x::τ)=.ok (.val (f x)) (.val x::τ)):
  ev c (.comp 1 (.name 0) it AAL el) σ=.ok (.new (.lst (xs.map f))) τ:=by
 have:=Lj (co:=.con (.bl true)) f (fun _=>true) hi hr hd (fun x _=>Lf c _ _) (fun x hx _=>he x hx)
 rw[filter_tt]at this
 exact this
theorem Xx(f:D×D->D)(p:D×D->Bool)(hi:ev c it σ=.ok r τ)(hr:r.jG=some d)(hd:items d=some (ps.map pairD))(hc:∀x∈ps,ev c co (.val x.1:: .val x.2::τ)=.ok (.val (.bl (p x))) (.val x.1:: .val x.2::τ))
  (he:∀x∈ps,p x=true->ev c el (.val x.1:: .val x.2::τ)=.ok (.val (f x)) (.val x.1:: .val x.2::τ)):
  ev c (.comp 2 (.tup [0,1]) it co el) σ=.ok (.new (.lst ((ps.filter p).map f))) τ:=by
 obtain⟨s',t',a⟩:=go2 (f:=f) (p:=p) ps [] .un .un (.inl rfl) (.inl rfl) hc he
 rw[lU,hi]
 have b:∀{β:Type}(g:D->Ev->Out β),(Out.ok r τ).ak g=g d τ:=fun g=>by cases r<;>simp[Rv.jG]at hr<;>subst hr<;>rfl
 rw[b]
 simp only[hd]
 rw[show List.replicate 2 Sl.un++τ=.un:: .un::τ from rfl,a]
 simp
theorem Tu(f:D×D->D)(hi:ev c it σ=.ok r τ)(hr:r.jG=some d)(hd:items d=some (ps.map pairD))(he:∀x∈ps,ev c el (.val x.1:: .val x.2::τ)=.ok (.val (f x)) (.val x.1:: .val x.2::τ)):
  ev c (.comp 2 (.tup [0,1]) it AAL el) σ=.ok (.new (.lst (ps.map f))) τ:=by
 have:=Xx (co:=.con (.bl true)) f (fun _=>true) hi hr hd (fun x _=>Lf c _ _) (fun x hx _=>he x hx)
 rw[filter_tt]at this
 exact this
end
section
variable{c:Cf}{σ τ0 τ:Ev}{it co el:E}{r:Rv}{d:D}
theorem Xw{x0:D×D}(f:D×D->D)(p:D×D->Bool)(hi:ev c it σ=.ok r τ0)(hr:r.jG=some d)(hd:items d=some ((x0::ps).map pairD))(hc0:ev c co (.val x0.1:: .val x0.2::τ0)=.ok (.val (.bl (p x0))) (.val x0.1:: .val x0.2::τ))
  (hc:∀x∈ps,ev c co (.val x.1:: .val x.2::τ)=.ok (.val (.bl (p x))) (.val x.1:: .val x.2::τ))
  (he:∀x∈x0::ps,p x=true->ev c el (.val x.1:: .val x.2::τ)=.ok (.val (f x)) (.val x.1:: .val x.2::τ)):ev c (.comp 2 (.tup [0,1]) it co el) σ=.ok (.new (.lst (((x0::ps).filter p).map f))) τ:=by
 rw[lU,hi]
 have b:∀{β:Type}(g:D->Ev->Out β),(Out.ok r τ0).ak g=g d τ0:=fun g=>by cases r<;>simp[Rv.jG]at hr<;>subst hr<;>rfl
 rw[b]
 simp only[hd]
 rw[show List.replicate 2 Sl.un++τ0=.un:: .un::τ0 from rfl,Qyz,aU,show pairD x0=.tup [x0.1,x0.2]from rfl,sZ (.inl rfl) (.inl rfl)]
 simp only
 rw[hc0,dW]
 cases q:p x0 with
 |true=>
  obtain⟨s',t',a⟩:=go2 (cond:=ev c co) (elt:=ev c el) (f:=f) (p:=p) (τ:=τ) ps ([]++[f x0]) (.val x0.1) (.val x0.2) (.inr ⟨_,rfl⟩) (.inr ⟨_,rfl⟩) hc (fun x hx=>he x (QYq _ hx))
  rw[if_pos rfl,he x0 QYz q,bQ,a]
  simp[q]
 |false=>
  obtain⟨s',t',a⟩:=go2 (cond:=ev c co) (elt:=ev c el) (f:=f) (p:=p) (τ:=τ) ps [] (.val x0.1) (.val x0.2) (.inr ⟨_,rfl⟩) (.inr ⟨_,rfl⟩) hc (fun x hx=>he x (QYq _ hx))
  rw[if_neg (by simp),a]
  simp[q]
end
theorem jH:∀(bs:List Bool),bools (bs.map D.bl)=some bs
 |[]=>rfl
 |b::bs=>by simp[bools,jH bs]
theorem rF:∀{α:Type}(xs:List α),bools (xs.map fun _=>D.bl true)=some (xs.map fun _=>true)
 |_,[]=>rfl
 |_,x::xs=>by simp[bools,rF xs]
theorem Bl:∀{α:Type}(xs:List α),(xs.map fun _=>true).all id=true
 |_,[]=>rfl
 |_,x::xs=>by simpa using Bl xs
section
variable{c:Cf}{σ τ:Ev}{it el:E}{r:Rv}{d:D}
theorem all1{xs:List D}(hi:ev c it σ=.ok r τ)(hr:r.jG=some d)(hd:items d=some xs)(he:∀x∈xs,ev c el (.val x::τ)=.ok (.val (.bl true)) (.val x::τ)):
  ev c (.bi .all (.comp 1 (.name 0) it AAL el)) σ=.ok (.val (.bl true)) τ:=by
 have e:=kO (fun _=>.bl true) hi hr hd he
 rw[mX]
 simp only[rJ]
 rw[e,j7]
 simp only[Le,LQ,tu,QHq]
 rw[rF]
 simp only[Option.map_some,ul,Bl]
theorem all2(hi:ev c it σ=.ok r τ)(hr:r.jG=some d)(hd:items d=some (ps.map pairD))(he:∀x∈ps,ev c el (.val x.1:: .val x.2::τ)=.ok (.val (.bl true)) (.val x.1:: .val x.2::τ)):
  ev c (.bi .all (.comp 2 (.tup [0,1]) it AAL el)) σ=.ok (.val (.bl true)) τ:=by
 have e:=Tu (fun _=>.bl true) hi hr hd he
 rw[mX]
 simp only[rJ]
 rw[e,j7]
 simp only[Le,LQ,tu,QHq]
 rw[rF]
 simp only[Option.map_some,ul,Bl]
end
theorem cT:∀(xs ys:List D),aC xs ys=(xs.zip ys).map pairD
 |[],_=>by simp[aC]
 |_::_,[]=>by simp[aC]
 |x::xs,y::ys=>by simp[aC,cT xs ys,pairD]
end Mini
end
section
namespace Mini
open PySem
def fin(k:Nat):Fl->Res
 |.next σ=>.ok (.val .non) (σ.take k)
 |.ret r σ=>.ok r (σ.take k)
 |.exc c σ=>.exc c (σ.take k)
 |_=>.bad
theorem Og(c:Cf)(f:Fn)(ps:List Sl)(h:ps.length=f.pars):gR c f ps=fin f.pars (ex c f.body (ps++List.replicate (f.names-f.pars) .un)):=by
 unfold gR
 rw[if_pos h]
 cases ex c f.body (ps++List.replicate (f.names-f.pars) .un)<;>rfl
@[simp]theorem abO(k σ):fin k (.next σ)=.ok (.val .non) (σ.take k):=rfl
@[simp]theorem adq(k r σ):fin k (.ret r σ)=.ok r (σ.take k):=rfl
@[simp]theorem adt(k c σ):fin k (.exc c σ)=.exc c (σ.take k):=rfl
def mU{α:Type}(b:Bool)(r:Out α):Out α:=if b then .bad else r
def Q4(b:Bool)(r:Fl):Fl:=if b then .bad else r
def vA{α:Type}(b:Bool)(r:Option α):Option α:=if b then none else r
variable{α:Type}
@[simp]theorem adG(r:Out α):mU false r=r:=rfl
@[simp]theorem af4(r:Fl):Q4 false r=r:=rfl
@[simp]theorem aa1(r:Option α):vA false r=r:=rfl
@[simp]theorem aa0(r:Option α):vA true r=none:=rfl
def xg(i:Nat)(σ:Ev):Option Sl->Out Rv
 |some (.val d)=>.ok (.val d) σ
 |some (.own o)=>.ok (.val o.d) (σ.set i (.val o.d))
 |_=>.bad
@[simp]theorem Ip(i:Nat)(σ:Ev):qu i σ=xg i σ σ[i]? :=rfl
@[simp]theorem Yo(i σ d):xg i σ (some (.val d))=.ok (.val d) σ:=rfl
@[simp]theorem Yp(i σ o):xg i σ (some (.own o))=.ok (.val o.d) (σ.set i (.val o.d)):=rfl
@[simp]theorem Yq(i σ o):xg i σ (some (.bor o))=.bad:=rfl
@[simp]theorem aao(i σ):xg i σ (some .un)=.bad:=rfl
def xV:Option Sl->Option D
 |some (.val d)=>some d
 |some (.own o)=>some o.d
 |some (.bor o)=>some o.d
 |_=>none
@[simp]theorem aa5(i:Nat)(σ:Ev):aN i σ=xV σ[i]? :=rfl
@[simp]theorem Yw(d):xV (some (.val d))=some d:=rfl
@[simp]theorem Yx(o):xV (some (.own o))=some o.d:=rfl
@[simp]theorem Yy(o):xV (some (.bor o))=some o.d:=rfl
@[simp]theorem aa6:xV (some .un)=none:=rfl
def u9(i:Nat)(σ:Ev)(s:Sl):Option Sl->Option Ev
 |some (.bor _)=>none
 |some _=>some (σ.set i s)
 |none=>none
@[simp]theorem aab(i:Nat)(s:Sl)(σ:Ev):cD i s σ=u9 i σ s σ[i]? :=rfl
@[simp]theorem aac(i σ s d):u9 i σ s (some (.val d))=some (σ.set i s):=rfl
@[simp]theorem aad(i σ s o):u9 i σ s (some (.own o))=some (σ.set i s):=rfl
@[simp]theorem acG(i σ s):u9 i σ s (some .un)=some (σ.set i s):=rfl
@[simp]theorem aae(i σ s o):u9 i σ s (some (.bor o))=none:=rfl
def Hv(i:Nat)(f:Ob->Option Ob)(σ:Ev):Option Sl->Option Ev
 |some (.own o)=>(f o).map fun q=>σ.set i (.own q)
 |some (.bor o)=>(f o).map fun q=>σ.set i (.bor q)
 |_=>none
def vo(i:Nat)(σ:Ev)(q:Ob):Ev:=σ.set i (.own q)
def Ja(i:Nat)(σ:Ev)(q:Ob):Ev:=σ.set i (.bor q)
@[simp]theorem Ys(i σ q):vo i σ q=σ.set i (.own q):=rfl
@[simp]theorem Yt(i σ q):Ja i σ q=σ.set i (.bor q):=rfl
@[simp]theorem ZF(i:Nat)(f:Ob->Option Ob)(σ:Ev):cP i f σ=Hv i f σ σ[i]? :=rfl
@[simp]theorem Yi(i f σ o):Hv i f σ (some (.own o))=(f o).map (vo i σ):=rfl
@[simp]theorem Yj(i f σ o):Hv i f σ (some (.bor o))=(f o).map (Ja i σ):=rfl
def okB(r:Rv):Option Ev->Out Rv
 |some σ=>.ok r σ
 |none=>.bad
def Ls(as:List Rv)(σ:Ev):Res->Out Rv
 |.ok r qs=>okB r (giveBack as qs σ)
 |_=>.bad
def Tv(c:Cf)(f:Nat)(as:List Rv)(σ:Ev):Option (List Sl)->Out Rv
 |none=>.bad
 |some ps=>Ls as σ (c.fn f ps)
@[simp]theorem agD(r σ):okB r (some σ)=.ok r σ:=rfl
@[simp]theorem ab2(as σ r qs):Ls as σ (.ok r qs)=okB r (giveBack as qs σ):=rfl
@[simp]theorem adE(c f as σ ps):Tv c f as σ (some ps)=Ls as σ (c.fn f ps):=rfl
@[simp]theorem ab3(c:Cf)(f:Nat)(as:List Rv)(σ:Ev):rD c f as σ=Tv c f as σ (enter as σ):=rfl
@[simp]theorem adz(σ):enter [] σ=some []:=rfl
@[simp]theorem ady(d as σ):enter (.val d::as) σ=(enter as σ).map (.val d:: ·):=rfl
@[simp]theorem adx(o as σ):enter (.tmp o::as) σ=vA (as.any yh) ((enter as σ).map (.bor o:: ·)):=rfl
def Xp(r:Option (List Sl)):Option Sl->Option (List Sl)
 |some (.own o)=>r.map (.bor o:: ·)
 |some (.bor o)=>r.map (.bor o:: ·)
 |_=>none
@[simp]theorem abU(r o):Xp r (some (.own o))=r.map (.bor o:: ·):=rfl
@[simp]theorem abV(r o):Xp r (some (.bor o))=r.map (.bor o:: ·):=rfl
@[simp]theorem adw(i as σ):enter (.ref i::as) σ=vA (as.any (iG i)) (Xp (enter as σ) σ[i]?):=rfl
@[simp]theorem afW(c:Cf)(i σ):ev c (.var i) σ=qu i σ:=rfl
@[simp]theorem aiW(c:Cf)(d σ):ev c (.con d) σ=.ok (.val d) σ:=rfl
@[simp]theorem aiV(c:Cf)(k σ):ev c (.glob k) σ=match c.gl k with|some d=>.ok (.val d) σ|none=>.bad:=rfl
def Uq(ds:List D):Option Rv:=if fits ds.length then some (.val (.tup ds))else none
def V9(ds:List D):Option Rv:=if fits ds.length then some (.new (.lst ds))else none
def abb(rs:List Rv)(σ:Ev):Out Rv:=lift σ ((aV rs).bind Uq)
def abl(rs:List Rv)(σ:Ev):Out Rv:=lift σ ((aV rs).bind V9)
@[simp]theorem acE(ds):Uq ds=if fits ds.length then some (.val (.tup ds))else none:=rfl
@[simp]theorem acQ(ds):V9 ds=if fits ds.length then some (.new (.lst ds))else none:=rfl
@[simp]theorem acU(rs σ):abb rs σ=lift σ ((aV rs).bind Uq):=rfl
@[simp]theorem ac0(rs σ):abl rs σ=lift σ ((aV rs).bind V9):=rfl
@[simp]theorem aiU(c:Cf)(es σ):ev c (.tup es) σ=(evs c es σ).bind abb:=rfl
@[simp]theorem aiT(c:Cf)(es σ):ev c (.lis es) σ=(evs c es σ).bind abl:=rfl
def Wj(o:M3)(x y:D)(σ:Ev):Out Rv:=lift σ (binop o x y)
def kOp(c:Cf)(o:M3)(b:E)(x:D)(σ:Ev):Out Rv:=(ev c b σ).ak (Wj o x)
@[simp]theorem acY(o x y σ):Wj o x y σ=lift σ (binop o x y):=rfl
@[simp]theorem afd(c o b x σ):kOp c o b x σ=(ev c b σ).ak (Wj o x):=rfl
@[simp]theorem aiS(c:Cf)(o a b σ):ev c (.op o a b) σ=(ev c a σ).ak (kOp c o b):=rfl
@[simp]theorem aiR(c:Cf)(a σ):ev c (.neg a) σ=(ev c a σ).ak fun x σ=>lift σ (match x with|.int i=>some (.val (.int (-i)))|_=>none):=rfl
def qV(q:Bool):Rv:=.val (.bl q)
@[simp]theorem agA(q):qV q=.val (.bl q):=rfl
def Xz(o:Cm)(x d:D):Option Rv:=(aG o x d).map qV
@[simp]theorem adC(o x d):Xz o x d=(aG o x d).map qV:=rfl
def yd(o:Cm)(x y:D)(σ:Ev):Out Rv:=lift σ ((aG o x y).map qV)
@[simp]theorem aby(o x y σ):yd o x y σ=lift σ ((aG o x y).map qV):=rfl
def Ql(c:Cf)(o:Cm)(b:E)(x:D)(σ:Ev):Option Nat->Out Rv
 |some k=>lift σ ((aN k σ).bind (Xz o x))
 |none=>(ev c b σ).ak (yd o x)
@[simp]theorem afj(c o b x σ k):Ql c o b x σ (some k)=lift σ ((aN k σ).bind (Xz o x)):=rfl
@[simp]theorem afk(c o b x σ):Ql c o b x σ none=(ev c b σ).ak (yd o x):=rfl
def S8(c:Cf)(o:Cm)(b:E)(x:D)(σ:Ev):Out Rv:=Ql c o b x σ b.au
@[simp]theorem abz(c o b x σ):S8 c o b x σ=Ql c o b x σ b.au:=rfl
@[simp]theorem aiQ(c:Cf)(o a b σ):ev c (.cmp o a b) σ=(ev c a σ).ak (S8 c o b):=rfl
def Qm(c:Cf)(o:Cm)(d:E)(y:D)(q:Bool)(σ:Ev):Out Rv:=if q then(ev c d σ).ak (yd o y)else .ok (.val (.bl false)) σ
@[simp]theorem afm(c o d y σ):Qm c o d y true σ=(ev c d σ).ak (yd o y):=rfl
@[simp]theorem afn(c o d y σ):Qm c o d y false σ=.ok (.val (.bl false)) σ:=rfl
def Wr(c:Cf)(o p:Cm)(d:E)(x y:D)(σ:Ev):Out Rv:=(lift σ (aG o x y)).bind (Qm c p d y)
@[simp]theorem adb(c o p d x y σ):Wr c o p d x y σ=(lift σ (aG o x y)).bind (Qm c p d y):=rfl
def kCh(c:Cf)(o p:Cm)(b d:E)(x:D)(σ:Ev):Out Rv:=(ev c b σ).ak (Wr c o p d x)
@[simp]theorem afl(c o p b d x σ):kCh c o p b d x σ=(ev c b σ).ak (Wr c o p d x):=rfl
@[simp]theorem aiP(c:Cf)(o₁ o₂ a b d σ):ev c (.chain o₁ o₂ a b d) σ=(ev c a σ).ak (kCh c o₁ o₂ b d):=rfl
@[simp]theorem aiO(c:Cf)(es σ):ev c (.and es) σ=eX c es σ:=rfl
@[simp]theorem ahl(c:Cf)(es σ):ev c (.or es) σ=jE c es σ:=rfl
def abj(b:Bool)(σ:Ev):Out Rv:=.ok (.val (.bl (!b))) σ
@[simp]theorem acZ(b σ):abj b σ=.ok (.val (.bl (!b))) σ:=rfl
@[simp]theorem ahk(c:Cf)(a σ):ev c (.not a) σ=(ev c a σ).cj gP abj:=rfl
def JX(c:Cf)(a b:E)(q:Bool)(σ:Ev):Out Rv:=if q then ev c a σ else ev c b σ
@[simp]theorem ac2(c a b σ):JX c a b true σ=ev c a σ:=rfl
@[simp]theorem ac3(c a b σ):JX c a b false σ=ev c b σ:=rfl
@[simp]theorem ahj(c:Cf)(t a b σ):ev c (.ite t a b) σ=(ev c t σ).cj gP (JX c a b):=rfl
def W2(y d:D):Option Rv:=(getD d y).map Rv.val
@[simp]theorem adi(y d):W2 y d=(getD d y).map Rv.val:=rfl
def Wn(k:Nat)(y:D)(σ:Ev):Out Rv:=lift σ ((aN k σ).bind (W2 y))
@[simp]theorem ac5(k y σ):Wn k y σ=lift σ ((aN k σ).bind (W2 y)):=rfl
def JZ(x y:D)(σ:Ev):Out Rv:=lift σ ((getD x y).map Rv.val)
@[simp]theorem abn(x y σ):JZ x y σ=lift σ ((getD x y).map Rv.val):=rfl
def J0(c:Cf)(i:E)(x:D)(σ:Ev):Out Rv:=(ev c i σ).ak (JZ x)
@[simp]theorem abo(c i x σ):J0 c i x σ=(ev c i σ).ak (JZ x):=rfl
def Wx(c:Cf)(a i:E)(σ:Ev):Option Nat->Out Rv
 |some k=>mU (aN k σ).isNone ((ev c i σ).ak (Wn k))
 |none=>(ev c a σ).ak (J0 c i)
@[simp]theorem afy(c a i σ k):Wx c a i σ (some k)=mU (aN k σ).isNone ((ev c i σ).ak (Wn k)):=rfl
@[simp]theorem afz(c a i σ):Wx c a i σ none=(ev c a σ).ak (J0 c i):=rfl
@[simp]theorem ahi(c:Cf)(a i σ):ev c (.idx a i) σ=Wx c a i σ a.au:=rfl
def Wg(hi:E)(x:D)(l:Option Int)(h:D)(σ:Ev):Out Rv:=lift σ ((cM hi.f9 h).bind (fQ x l))
@[simp]theorem acV(hi x l h σ):Wg hi x l h σ=lift σ ((cM hi.f9 h).bind (fQ x l)):=rfl
def slM(c:Cf)(hi:E)(x:D)(σ:Ev):Option (Option Int)->Out Rv
 |none=>.bad
 |some l=>(ev c hi σ).ak (Wg hi x l)
@[simp]theorem agq(c hi x σ l):slM c hi x σ (some l)=(ev c hi σ).ak (Wg hi x l):=rfl
def Wh(c:Cf)(lo hi:E)(x l:D)(σ:Ev):Out Rv:=slM c hi x σ (cM lo.f9 l)
@[simp]theorem acW(c lo hi x l σ):Wh c lo hi x l σ=slM c hi x σ (cM lo.f9 l):=rfl
def kSl(c:Cf)(lo hi:E)(x:D)(σ:Ev):Out Rv:=(ev c lo σ).ak (Wh c lo hi x)
@[simp]theorem afc(c lo hi x σ):kSl c lo hi x σ=(ev c lo σ).ak (Wh c lo hi x):=rfl
@[simp]theorem ahh(c:Cf)(a lo hi σ):ev c (.slc a lo hi) σ=(ev c a σ).ak (kSl c lo hi):=rfl
@[simp]theorem ahg(c:Cf)(σ):ev c .noneE σ=.ok (.val .non) σ:=rfl
@[simp]theorem ahf(c:Cf)(f as σ):ev c (.call f as) σ=(evs c as σ).bind (rD c f):=rfl
def Vd(i:Nat)(σ:Ev):Option Sl->Out Rv
 |some (.own _)=>.ok (.ref i) σ
 |some (.bor _)=>.ok (.ref i) σ
 |_=>.bad
@[simp]theorem aam(i σ o):Vd i σ (some (.own o))=.ok (.ref i) σ:=rfl
@[simp]theorem aan(i σ o):Vd i σ (some (.bor o))=.ok (.ref i) σ:=rfl
@[simp]theorem ahe(c:Cf)(i σ):ev c (.ref i) σ=Vd i σ σ[i]? :=rfl
@[simp]theorem ahd(c:Cf)(e σ):ev c (.rd e) σ=ev c e σ:=rfl
def abe(x:Rv)(σ:Ev):Out Rv:=lift σ (match x with|.new o=>some (.tmp o)|_=>none)
@[simp]theorem abd(o σ):abe (.new o) σ=.ok (.tmp o) σ:=rfl
@[simp]theorem ahc(c:Cf)(e σ):ev c (.tmp e) σ=(ev c e σ).bind abe:=rfl
def abm(t:Ty)(x:D)(σ:Ev):Out Rv:=.ok (.val (.bl (lu t x))) σ
@[simp]theorem ac4(t x σ):abm t x σ=.ok (.val (.bl (lu t x))) σ:=rfl
@[simp]theorem ahb(c:Cf)(a t σ):ev c (.isi a t) σ=(ev c a σ).ak (abm t):=rfl
def kBi(b:Bi)(x:D)(σ:Ev):Out Rv:=lift σ (b1 b x)
@[simp]theorem afo(b x σ):kBi b x σ=lift σ (b1 b x):=rfl
def biM(c:Cf)(b:Bi)(a:E)(σ:Ev):Option Nat->Out Rv
 |some k=>lift σ ((aN k σ).bind (b1 b))
 |none=>(ev c a σ).ak (kBi b)
@[simp]theorem ahr(c b a σ k):biM c b a σ (some k)=lift σ ((aN k σ).bind (b1 b)):=rfl
@[simp]theorem ahs(c b a σ):biM c b a σ none=(ev c a σ).ak (kBi b):=rfl
@[simp]theorem aha(c:Cf)(b a σ):ev c (.bi b a) σ=biM c b a σ a.au:=rfl
def abi(x:D)(σ:Ev):Out Rv:=lift σ (match x with|.int n=>if fits n.toNat&&Cu n then some (.val (.lst (aW 0 n.toNat)))else none|_=>none)
@[simp]theorem abh(n:Int)(σ):abi (.int n) σ=lift σ (if fits n.toNat&&Cu n then some (.val (.lst (aW 0 n.toNat)))else none):=rfl
@[simp]theorem ag9(c:Cf)(a σ):ev c (.range1 a) σ=(ev c a σ).ak abi:=rfl
def TV(xs ys:List D):Rv:=.val (.lst (aC xs ys))
@[simp]theorem acs(xs ys):TV xs ys=.val (.lst (aC xs ys)):=rfl
def TX(y:D)(xs:List D):Option Rv:=(bw y).map (TV xs)
@[simp]theorem acu(y xs):TX y xs=(bw y).map (TV xs):=rfl
def JW(x y:D)(σ:Ev):Out Rv:=lift σ ((bw x).bind (TX y))
@[simp]theorem aa9(x y σ):JW x y σ=lift σ ((bw x).bind (TX y)):=rfl
def aba(c:Cf)(b:E)(x:D)(σ:Ev):Out Rv:=(ev c b σ).ak (JW x)
@[simp]theorem acT(c b x σ):aba c b x σ=(ev c b σ).ak (JW x):=rfl
@[simp]theorem ag8(c:Cf)(a b σ):ev c (.zip a b) σ=(ev c a σ).ak (aba c b):=rfl
def J3(x y:D)(σ:Ev):Out Rv:=lift σ (v7 x y)
@[simp]theorem abw(x y σ):J3 x y σ=lift σ (v7 x y):=rfl
def abx(c:Cf)(b:E)(x:D)(σ:Ev):Out Rv:=mU (bw x).isNone ((ev c b σ).ak (J3 x))
@[simp]theorem ada(c b x σ):abx c b x σ=mU (bw x).isNone ((ev c b σ).ak (J3 x)):=rfl
@[simp]theorem ag7(c:Cf)(a b σ):ev c (.count a b) σ=(ev c a σ).ak (abx c b):=rfl
def Vr(c:Cf)(k:Nat)(a:E)(σ:Ev)(b:Bool):Out Rv:=if b then(ev c a σ).ak (xK k)else mU (!dO (aN k σ)) ((ev c a σ).ak (oW k))
@[simp]theorem ae0(c k a σ):Vr c k a σ true=(ev c a σ).ak (xK k):=rfl
@[simp]theorem ae1(c k a σ):Vr c k a σ false=mU (!dO (aN k σ)) ((ev c a σ).ak (oW k)):=rfl
@[simp]theorem ade(xs):fG (some (.lst xs))=false:=rfl
@[simp]theorem adf(ks vs):fG (some (.cH ks vs))=true:=rfl
@[simp]theorem ag6(c:Cf)(k a σ):ev c (.popAt k a) σ=Vr c k a σ (fG (aN k σ)):=rfl
def S7(c:Cf)(nl:Nat)(tg:Tg)(cond elt:E)(x:D)(σ:Ev):Out Rv:=match items x with
  |some xs=>match aU tg (ev c cond) (ev c elt) xs [] (List.replicate nl .un++σ)with
   |.ok ys τ=>.ok (.new (.lst ys)) (τ.drop nl)
   |_=>.bad
  |none=>.bad
@[simp]theorem abv(c nl tg cond elt x σ):S7 c nl tg cond elt x σ=match items x with
  |some xs=>match aU tg (ev c cond) (ev c elt) xs [] (List.replicate nl .un++σ)with
   |.ok ys τ=>.ok (.new (.lst ys)) (τ.drop nl)
   |_=>.bad
  |none=>.bad:=rfl
@[simp]theorem ag5(c:Cf)(nl tg it cond elt σ):ev c (.comp nl tg it cond elt) σ=(ev c it σ).ak (S7 c nl tg cond elt):=rfl
def J1(x:Rv)(xs:List Rv)(σ:Ev):Out (List Rv):=.ok (argv x::xs) σ
@[simp]theorem abq(x xs σ):J1 x xs σ=.ok (argv x::xs) σ:=rfl
def abr(c:Cf)(t:E)(x:Rv)(σ:Ev):Out (List Rv):=(evs c t σ).bind (J1 x)
@[simp]theorem ac8(c t x σ):abr c t x σ=(evs c t σ).bind (J1 x):=rfl
@[simp]theorem ag0(c:Cf)(σ):evs c .nil σ=.ok [] σ:=rfl
@[simp]theorem agZ(c:Cf)(h t σ):evs c (.cons h t) σ=(ev c h σ).bind (abr c t):=rfl
@[simp]theorem aiN(c:Cf)(σ):ex c .nil σ=.next σ:=rfl
@[simp]theorem aiM(c:Cf)(h t σ):ex c (.cons h t) σ=(ex c h σ).seq (ex c t):=rfl
@[simp]theorem aiL(c:Cf)(σ):ex c .pass σ=.next σ:=rfl
@[simp]theorem aiK(c:Cf)(σ):ex c .brk σ=.brk σ:=rfl
@[simp]theorem aiJ(c:Cf)(σ):ex c .cont σ=.cont σ:=rfl
def zq(i:Nat)(σ:Ev)(s:Sl):Option Ev:=cD i s σ
@[simp]theorem Ym(i σ s):zq i σ s=cD i s σ:=rfl
def abg(i:Nat)(x:Rv)(σ:Ev):Fl:=wB (x.wZ.bind (zq i σ))
@[simp]theorem acX(i x σ):abg i x σ=wB (x.wZ.bind (zq i σ)):=rfl
@[simp]theorem aiI(c:Cf)(i e σ):ex c (.set i e) σ=(ev c e σ).fl (abg i):=rfl
def SQ(is:List Nat)(x:D)(σ:Ev):Fl:=wB (bD (.tup is) x σ)
@[simp]theorem abf(is x σ):SQ is x σ=wB (bD (.tup is) x σ):=rfl
@[simp]theorem aiH(c:Cf)(is e σ):ex c (.setT is e) σ=(ev c e σ).lO (SQ is):=rfl
def Wl(k:Nat)(x y:D)(σ:Ev):Fl:=wB (cP k (qz y x) σ)
@[simp]theorem ac1(k x y σ):Wl k x y σ=wB (cP k (qz y x) σ):=rfl
def kIx(c:Cf)(k:Nat)(ix:E)(x:D)(σ:Ev):Fl:=Q4 (aN k σ).isNone ((ev c ix σ).lO (Wl k x))
@[simp]theorem afe(c k ix x σ):kIx c k ix x σ=Q4 (aN k σ).isNone ((ev c ix σ).lO (Wl k x)):=rfl
@[simp]theorem aiG(c:Cf)(k ix e σ):ex c (.setIx k ix e) σ=(ev c e σ).lO (kIx c k ix):=rfl
def SX(_:D)(σ:Ev):Fl:=.next σ
@[simp]theorem abk(d σ):SX d σ=.next σ:=rfl
@[simp]theorem aiF(c:Cf)(e σ):ex c (.expr e) σ=(ev c e σ).lO SX:=rfl
def XJ(x:D)(xs:List D):Option (List D):=if fits (xs.length+1)then some (xs++[x])else none
@[simp]theorem adO(x xs):XJ x xs=if fits (xs.length+1)then some (xs++[x])else none:=rfl
def abA(k:Nat)(x:D)(σ:Ev):Fl:=wB (cP k (vz (XJ x)) σ)
@[simp]theorem adc(k x σ):abA k x σ=wB (cP k (vz (XJ x)) σ):=rfl
@[simp]theorem aiE(c:Cf)(k e σ):ex c (.append k e) σ=Q4 (!dO (aN k σ)) ((ev c e σ).lO (abA k)):=rfl
def Io(c:Cf)(e:E)(i:Nat)(σ:Ev):Option Sl->Fl
 |some (.own o)=>.ret (.new o) (σ.set i .un)
 |_=>(ev c e σ).fl m8
@[simp]theorem aak(c e i σ o):Io c e i σ (some (.own o))=.ret (.new o) (σ.set i .un):=rfl
@[simp]theorem aaj(c e i σ d):Io c e i σ (some (.val d))=(ev c e σ).fl m8:=rfl
@[simp]theorem aal(c e i σ o):Io c e i σ (some (.bor o))=(ev c e σ).fl m8:=rfl
def Vb(c:Cf)(e:E)(σ:Ev):Option Nat->Fl
 |some i=>Io c e i σ σ[i]?
 |none=>(ev c e σ).fl m8
@[simp]theorem aeU(c e σ i):Vb c e σ (some i)=Io c e i σ σ[i]? :=rfl
@[simp]theorem aeV(c e σ):Vb c e σ none=(ev c e σ).fl m8:=rfl
@[simp]theorem agY(c:Cf)(e σ):ex c (.ret e) σ=Vb c e σ e.au:=rfl
def Wm(c:Cf)(a b:S)(q:Bool)(σ:Ev):Fl:=if q then ex c a σ else ex c b σ
@[simp]theorem afg(c a b σ):Wm c a b true σ=ex c a σ:=rfl
@[simp]theorem afh(c a b σ):Wm c a b false σ=ex c b σ:=rfl
@[simp]theorem agX(c:Cf)(t a b σ):ex c (.ite t a b) σ=(ev c t σ).Ai (Wm c a b):=rfl
def kFor(c:Cf)(tg:Tg)(b:S)(σ:Ev):Option (List D)->Fl
 |some xs=>bj tg (ex c b) xs σ
 |none=>.bad
@[simp]theorem afi(c tg b σ xs):kFor c tg b σ (some xs)=bj tg (ex c b) xs σ:=rfl
def S5(c:Cf)(tg:Tg)(b:S)(x:D)(σ:Ev):Fl:=kFor c tg b σ (items x)
@[simp]theorem abp(c tg b x σ):S5 c tg b x σ=kFor c tg b σ (items x):=rfl
@[simp]theorem agW(c:Cf)(tg it b σ):ex c (.for_ tg it b) σ=(ev c it σ).lO (S5 c tg b):=rfl
@[simp]theorem agV(c:Cf)(t b σ):ex c (.while_ t b) σ=b7 (ev c t) (ex c b) c.turns σ:=rfl
@[simp]theorem agU(c:Cf)(k σ):ex c (.raise k) σ=.exc k σ:=rfl
def Ws(c:Cf)(e:E)(x:D)(σ:Ev):Out Rv:=match x with|.bl true=>eX c e σ|.bl false=>.ok (.val (.bl false)) σ|_=>.bad
@[simp]theorem afq(c e σ):Ws c e (.bl true) σ=eX c e σ:=rfl
@[simp]theorem afr(c e σ):Ws c e (.bl false) σ=.ok (.val (.bl false)) σ:=rfl
def kOr(c:Cf)(e:E)(x:D)(σ:Ev):Out Rv:=match x with|.bl true=>.ok (.val (.bl true)) σ|.bl false=>jE c e σ|_=>.bad
@[simp]theorem agH(c e σ):kOr c e (.bl true) σ=.ok (.val (.bl true)) σ:=rfl
@[simp]theorem agI(c e σ):kOr c e (.bl false) σ=jE c e σ:=rfl
@[simp]theorem adv(c:Cf)(h σ):eX c (.cons h .nil) σ=ev c h σ:=rfl
@[simp]theorem adu(c:Cf)(h a b σ):eX c (.cons h (.cons a b)) σ=(ev c h σ).ak (Ws c (.cons a b)):=rfl
@[simp]theorem afY(c:Cf)(h σ):jE c (.cons h .nil) σ=ev c h σ:=rfl
@[simp]theorem afX(c:Cf)(h a b σ):jE c (.cons h (.cons a b)) σ=(ev c h σ).ak (kOr c (.cons a b)):=rfl
@[simp high]theorem ajM(x0:D):at? [x0] 0=some x0:=rfl
@[simp high]theorem ajL(x0 x1:D):at? [x0,x1] 0=some x0:=rfl
@[simp high]theorem ajK(x0 x1:D):at? [x0,x1] 1=some x1:=rfl
@[simp high]theorem ajJ(x0 x1 x2:D):at? [x0,x1,x2] 0=some x0:=rfl
@[simp high]theorem ajI(x0 x1 x2:D):at? [x0,x1,x2] 1=some x1:=rfl
@[simp high]theorem ajH(x0 x1 x2:D):at? [x0,x1,x2] 2=some x2:=rfl
@[simp high]theorem ajG(x0 x1 x2 x3:D):at? [x0,x1,x2,x3] 0=some x0:=rfl
@[simp high]theorem ajF(x0 x1 x2 x3:D):at? [x0,x1,x2,x3] 1=some x1:=rfl
@[simp high]theorem ajE(x0 x1 x2 x3:D):at? [x0,x1,x2,x3] 2=some x2:=rfl
@[simp high]theorem ajD(x0 x1 x2 x3:D):at? [x0,x1,x2,x3] 3=some x3:=rfl
@[simp]theorem aiD(σ):giveBack [] [] σ=some σ:=rfl
@[simp]theorem aiC(i as o ps σ):giveBack (.ref i::as) (.bor o::ps) σ=(cP i (fun _=>some o) σ).bind (giveBack as ps):=rfl
@[simp]theorem aiB(d as p ps σ):giveBack (.val d::as) (p::ps) σ=giveBack as ps σ:=rfl
@[simp]theorem aiA(o as p ps σ):giveBack (.tmp o::as) (p::ps) σ=giveBack as ps σ:=rfl
@[simp]theorem ah2(i j):iG i (.ref j)=(i==j):=rfl
@[simp]theorem ah1(i d):iG i (.val d)=false:=rfl
@[simp]theorem ah0(i o):iG i (.tmp o)=false:=rfl
@[simp]theorem ahZ(i o):iG i (.new o)=false:=rfl
@[simp]theorem aij(o):yh (.tmp o)=true:=rfl
@[simp]theorem aii(d):yh (.val d)=false:=rfl
@[simp]theorem aih(i):yh (.ref i)=false:=rfl
@[simp]theorem ahJ(xs):lu .tup (.tup xs)=true:=rfl
@[simp]theorem ahI(xs):lu .lst (.lst xs)=true:=rfl
@[simp]theorem ahH(x):lu .str (.str x)=true:=rfl
@[simp]theorem ahG(b):lu .bool (.bl b)=true:=rfl
theorem ad1(i):lu .bool (.int i)=false:=rfl
@[simp]theorem ahF(i):lu .int (.int i)=true:=rfl
@[simp]theorem afU:fits 0=true:=rfl
@[simp]theorem afT:fits 1=true:=rfl
@[simp]theorem afS:fits 2=true:=rfl
@[simp]theorem afR:fits 3=true:=rfl
@[simp]theorem afQ:fits 4=true:=rfl
@[simp]theorem afP:fits 5=true:=rfl
@[simp]theorem afO:fits 6=true:=rfl
@[simp]theorem afN:fits 7=true:=rfl
@[simp]theorem afM:fits 8=true:=rfl
@[simp]theorem abP(i j:Int):binop .fdiv (.int i) (.int j)=if 0<j/\j<1073741824 then some (.val (.int (i/j)))else none:=rfl
@[simp]theorem pow_int(i j:Int):binop .pow (.int i) (.int j)=if 0<=j/\j<=64/\small i=true then some (.val (.int (i ^j.toNat)))else none:=rfl
@[simp↓]theorem ite_tt(a b:α):(if true=true then a else b)=a:=rfl
@[simp↓]theorem ite_ff(a b:α):(if false=true then a else b)=b:=rfl
@[simp]theorem adP(xs ys:List D):binop .add (.tup xs) (.tup ys)=if fits (xs.length+ys.length)then some (.val (.tup (xs++ys)))else none:=rfl
@[simp]theorem adQ(xs ys:List D):binop .add (.lst xs) (.lst ys)=if fits (xs.length+ys.length)then some (.new (.lst (xs++ys)))else none:=rfl
@[simp]theorem adN(ks vs:List D):b1 .copy (.cH ks vs)=some (.new (.dct ks vs)):=rfl
def gtK(k x y:D):Option Rv:=(kJ y k x).map Rv.val
@[simp]theorem afA(k x y):gtK k x y=(kJ y k x).map Rv.val:=rfl
def Wo(i:Nat)(k x:D)(σ:Ev):Out Rv:=lift σ ((aN i σ).bind (gtK k x))
@[simp]theorem ac6(i k x σ):Wo i k x σ=lift σ ((aN i σ).bind (gtK k x)):=rfl
def Wq(c:Cf)(i:Nat)(x:E)(k:D)(σ:Ev):Out Rv:=(ev c x σ).ak (Wo i k)
@[simp]theorem ac7(c i x k σ):Wq c i x k σ=(ev c x σ).ak (Wo i k):=rfl
def abI(c:Cf)(d k x:E)(σ:Ev):Option Nat->Out Rv
 |some i=>mU (!fG (aN i σ)) ((ev c k σ).ak (Wq c i x))
 |none=>.bad
@[simp]theorem afF(c d k x σ i):abI c d k x σ (some i)=mU (!fG (aN i σ)) ((ev c k σ).ak (Wq c i x)):=rfl
@[simp]theorem ag4(c:Cf)(d k x σ):ev c (.get2 d k x) σ=abI c d k x σ d.au:=rfl
def abu(rs:List Rv)(σ:Ev):Out Rv:=lift σ ((aV rs).bind Am)
@[simp]theorem ac9(rs σ):abu rs σ=lift σ ((aV rs).bind Am):=rfl
@[simp]theorem ag3(c:Cf)(es σ):ev c (.dsp es) σ=(evs c es σ).bind abu:=rfl
@[simp]theorem ag1(c:Cf)(σ):ev c .emp σ=.ok (.new (.dct [] [])) σ:=rfl
def K7(xs:List D):Rv:=.val (.lst (aC (aW 0 xs.length) xs))
@[simp]theorem abS(xs):K7 xs=.val (.lst (aC (aW 0 xs.length) xs)):=rfl
def S6(x:D)(σ:Ev):Out Rv:=lift σ ((jy x).map K7)
@[simp]theorem abt(x σ):S6 x σ=lift σ ((jy x).map K7):=rfl
@[simp]theorem ag2(c:Cf)(a σ):ev c (.enum a) σ=(ev c a σ).ak S6:=rfl
@[simp high]theorem aiz(a0:Sl)(r:Ev):(a0::r)[0]? =some a0:=rfl
@[simp high]theorem ahY(a0 v:Sl)(r:Ev):List.set (a0::r) 0 v=v::r:=rfl
@[simp high]theorem aiy(a0 a1:Sl)(r:Ev):(a0::a1::r)[1]? =some a1:=rfl
@[simp high]theorem ahX(a0 a1 v:Sl)(r:Ev):List.set (a0::a1::r) 1 v=a0::v::r:=rfl
@[simp high]theorem aix(a0 a1 a2:Sl)(r:Ev):(a0::a1::a2::r)[2]? =some a2:=rfl
@[simp high]theorem ahW(a0 a1 a2 v:Sl)(r:Ev):List.set (a0::a1::a2::r) 2 v=a0::a1::v::r:=rfl
@[simp high]theorem aiw(a0 a1 a2 a3:Sl)(r:Ev):(a0::a1::a2::a3::r)[3]? =some a3:=rfl
@[simp high]theorem ahV(a0 a1 a2 a3 v:Sl)(r:Ev):List.set (a0::a1::a2::a3::r) 3 v=a0::a1::a2::v::r:=rfl
@[simp high]theorem aiv(a0 a1 a2 a3 a4:Sl)(r:Ev):(a0::a1::a2::a3::a4::r)[4]? =some a4:=rfl
@[simp high]theorem ahU(a0 a1 a2 a3 a4 v:Sl)(r:Ev):List.set (a0::a1::a2::a3::a4::r) 4 v=a0::a1::a2::a3::v::r:=rfl
@[simp high]theorem aiu(a0 a1 a2 a3 a4 a5:Sl)(r:Ev):(a0::a1::a2::a3::a4::a5::r)[5]? =some a5:=rfl
@[simp high]theorem ahT(a0 a1 a2 a3 a4 a5 v:Sl)(r:Ev):List.set (a0::a1::a2::a3::a4::a5::r) 5 v=a0::a1::a2::a3::a4::v::r:=rfl
@[simp high]theorem ait(a0 a1 a2 a3 a4 a5 a6:Sl)(r:Ev):(a0::a1::a2::a3::a4::a5::a6::r)[6]? =some a6:=rfl
@[simp high]theorem ahS(a0 a1 a2 a3 a4 a5 a6 v:Sl)(r:Ev):List.set (a0::a1::a2::a3::a4::a5::a6::r) 6 v=a0::a1::a2::a3::a4::a5::v::r:=rfl
@[simp high]theorem ais(a0 a1 a2 a3 a4 a5 a6 a7:Sl)(r:Ev):(a0::a1::a2::a3::a4::a5::a6::a7::r)[7]? =some a7:=rfl
@[simp high]theorem ahR(a0 a1 a2 a3 a4 a5 a6 a7 v:Sl)(r:Ev):List.set (a0::a1::a2::a3::a4::a5::a6::a7::r) 7 v=a0::a1::a2::a3::a4::a5::a6::v::r:=rfl
@[simp high]theorem air(a0 a1 a2 a3 a4 a5 a6 a7 a8:Sl)(r:Ev):(a0::a1::a2::a3::a4::a5::a6::a7::a8::r)[8]? =some a8:=rfl
@[simp high]theorem ahQ(a0 a1 a2 a3 a4 a5 a6 a7 a8 v:Sl)(r:Ev):List.set (a0::a1::a2::a3::a4::a5::a6::a7::a8::r) 8 v=a0::a1::a2::a3::a4::a5::a6::a7::v::r:=rfl
@[simp high]theorem aiq(a0 a1 a2 a3 a4 a5 a6 a7 a8 a9:Sl)(r:Ev):(a0::a1::a2::a3::a4::a5::a6::a7::a8::a9::r)[9]? =some a9:=rfl
@[simp high]theorem ahP(a0 a1 a2 a3 a4 a5 a6 a7 a8 a9 v:Sl)(r:Ev):List.set (a0::a1::a2::a3::a4::a5::a6::a7::a8::a9::r) 9 v=a0::a1::a2::a3::a4::a5::a6::a7::a8::v::r:=rfl
@[simp high]theorem agS(a0 a1 a2 a3 a4 a5 a6 a7 a8 a9 a10:Sl)(r:Ev):(a0::a1::a2::a3::a4::a5::a6::a7::a8::a9::a10::r)[10]? =some a10:=rfl
@[simp high]theorem agp(a0 a1 a2 a3 a4 a5 a6 a7 a8 a9 a10 v:Sl)(r:Ev):List.set (a0::a1::a2::a3::a4::a5::a6::a7::a8::a9::a10::r) 10 v=a0::a1::a2::a3::a4::a5::a6::a7::a8::a9::v::r:=rfl
@[simp high]theorem agR(a0 a1 a2 a3 a4 a5 a6 a7 a8 a9 a10 a11:Sl)(r:Ev):(a0::a1::a2::a3::a4::a5::a6::a7::a8::a9::a10::a11::r)[11]? =some a11:=rfl
@[simp high]theorem ago(a0 a1 a2 a3 a4 a5 a6 a7 a8 a9 a10 a11 v:Sl)(r:Ev):List.set (a0::a1::a2::a3::a4::a5::a6::a7::a8::a9::a10::a11::r) 11 v=a0::a1::a2::a3::a4::a5::a6::a7::a8::a9::a10::v::r:=rfl
@[simp high]theorem agQ(a0 a1 a2 a3 a4 a5 a6 a7 a8 a9 a10 a11 a12:Sl)(r:Ev):(a0::a1::a2::a3::a4::a5::a6::a7::a8::a9::a10::a11::a12::r)[12]? =some a12:=rfl
@[simp high]theorem agn(a0 a1 a2 a3 a4 a5 a6 a7 a8 a9 a10 a11 a12 v:Sl)(r:Ev):List.set (a0::a1::a2::a3::a4::a5::a6::a7::a8::a9::a10::a11::a12::r) 12 v=a0::a1::a2::a3::a4::a5::a6::a7::a8::a9::a10::a11::v::r:=rfl
@[simp high]theorem agP(a0 a1 a2 a3 a4 a5 a6 a7 a8 a9 a10 a11 a12 a13:Sl)(r:Ev):(a0::a1::a2::a3::a4::a5::a6::a7::a8::a9::a10::a11::a12::a13::r)[13]? =some a13:=rfl
@[simp high]theorem agm(a0 a1 a2 a3 a4 a5 a6 a7 a8 a9 a10 a11 a12 a13 v:Sl)(r:Ev):List.set (a0::a1::a2::a3::a4::a5::a6::a7::a8::a9::a10::a11::a12::a13::r) 13 v=a0::a1::a2::a3::a4::a5::a6::a7::a8::a9::a10::a11::a12::v::r:=rfl
end Mini
end
section
namespace Tx
open PySem L2 Mini
abbrev d0:Df:=bL "checked" s0 [false]
abbrev d1:Df:=bL "is_net" s1 [false]
abbrev d2:Df:=bL "has_parts" s2 [false]
abbrev d3:Df:=bL "is_tuple" s3 [false,false,false]
abbrev d4:Df:=bL "is_number" s4 [false,false,false]
abbrev d5:Df:=bL "is_name" s5 [false]
abbrev d6:Df:=bL "are_unlike" s6 [false]
abbrev d7:Df:=bL "is_row" s7 [false,false]
abbrev d8:Df:=bL "is_wire" s8 [false,false]
abbrev d9:Df:=bL "are_wires" s9 [false,false,false,false]
abbrev d10:Df:=bL "are_rows" Ff [false,false]
abbrev d11:Df:=bL "is_kind" w5 [false,false,false]
abbrev d12:Df:=bL "is_held" s12 [false,false,false]
abbrev d13:Df:=bL "wire_names" s13 [false]
abbrev d14:Df:=bL "waiting_gates" s14 [false,false]
abbrev d15:Df:=bL "told" s15 [false,false,false]
abbrev d16:Df:=bL "told_held" s16 [false,false,false]
abbrev d17:Df:=bL "checked_talk" s17 [false,false]
abbrev d18:Df:=bL "is_talk" s18 [false,false]
abbrev d19:Df:=bL "is_state" s19 [false,false,false]
abbrev d20:Df:=bL "steps" s20 [false,false,false]
abbrev d21:Df:=bL "first_stand" s21 [false]
abbrev d22:Df:=bL "steps_at" s22 [false,false,false]
abbrev d23:Df:=bL "is_unasked" s23 [false,false,false]
abbrev d24:Df:=bL "led_to" s24 [false,false,false,false]
abbrev d25:Df:=bL "changed" s25 [false,false,false]
abbrev d26:Df:=bL "newly_met" s26 [false,false,false,true]
abbrev d27:Df:=bL "fault" s27 [false,false]
abbrev d28:Df:=bL "fault_at" s28 [false,false,false,false]
abbrev d29:Df:=bL "has_out" s29 [false,false]
abbrev d30:Df:=bL "fault_of_step" s30 [false,false,false,false,false]
abbrev d31:Df:=bL "spoiling" s31 [false,false]
abbrev d32:Df:=bL "since_when" s32 [false,false,false]
abbrev d33:Df:=bL "_law_cell_at" s33 [false,false]
abbrev d34:Df:=bL "_law_mixed" s34 [false,false,false]
abbrev d35:Df:=bL "_law_next" s35 [false,true,false]
abbrev d36:Df:=bL "_law_some" s36 [false,true,false,false,false]
abbrev d37:Df:=bL "_law_table" s37 [false,true,false]
abbrev d38:Df:=bL "_law_kind" s38 [false,true,false,false]
abbrev d39:Df:=bL "_law_net" s39 [false,true,false,false]
abbrev d40:Df:=bL "_law_talk" s40 [false,true,false,false]
abbrev d41:Df:=bL "_law_ring" s41 [false,true]
abbrev d42:Df:=bL "_law_chain" s42 [false,true]
abbrev d43:Df:=bL "_law_meeting" s43 [false,true]
abbrev d44:Df:=bL "_law_spoilt_kind" s44 [false,true,false]
abbrev d45:Df:=bL "_law_case" s45 [false,false]
abbrev d46:Df:=bL "_law_names" s46 [false]
abbrev d47:Df:=bL "_law_led" s47 [false,false,false,false]
abbrev d48:Df:=bL "law" s48 [false]
def ds:List Df:=[d0,d1,d2,d3,d4,d5,d6,d7,d8,d9,d10,d11,d12,d13,d14,d15,d16,d17,d18,d19,d20,d21,d22,d23,d24,d25,d26,d27,d28,d29,d30,d31,d32,d33,d34,d35,d36,d37,d38,d39,d40,d41,d42,d43,d44,d45,d46,d47,d48]
def j4:List Str:=["LETTERS","LONGEST_NAME","WORDS","MOST_INPUTS","MOST_GATES","MOST_WIRES","MOST_TABLE_WIRES","DEEPEST_HELD","MOST_STATES"]
def vals:List D:=[.str "abcdefghijklmnopqrstuvwxyz",.int 6,.tup [.str "input",.str "gate",.str "start",.str "out",.str "state",.str "same",.str "not",.str "and",.str "or",.str "both",.str "held",.str "table",.str "on",.str "off"],.int 3,.int 5,.int 4,.int 8,.int 3,.int 12]
def pg:Pg:=FT ds j4 vals 1000
theorem scp:ds.all Ia=true:=by decide+kernel
theorem lM:ds.all (fun d=>(fnOf ds j4 d).isSome)=true:=by decide+kernel
theorem bd:Ei ds:=⟨fun _ _ _ _ _ _ us hl=>by obtain⟨_,rfl⟩:=rZ hl;rfl,fun _ _ _ _ _ _ us hl=>by obtain⟨_,rfl⟩:=rZ hl;rfl,fun _ _ _ _ _ _ us hl=>by obtain⟨_,rfl⟩:=rZ hl;rfl,fun _ _ _ _ _ _ us hl=>by obtain⟨_,_,_,rfl⟩:=jB hl;rfl,fun _ _ _ _ _ _ us hl=>by obtain⟨_,_,_,rfl⟩:=jB hl;rfl,fun _ _ _ _ _ _ us hl=>by obtain⟨_,rfl⟩:=rZ hl;rfl,fun _ _ _ _ _ _ us hl=>by obtain⟨_,rfl⟩:=rZ hl;rfl,fun _ _ _ _ _ _ us hl=>by obtain⟨_,_,rfl⟩:=lq hl;rfl,fun _ _ _ _ _ _ us hl=>by obtain⟨_,_,rfl⟩:=lq hl;rfl,fun _ _ _ _ _ _ us hl=>by obtain⟨_,_,_,_,rfl⟩:=vG hl;rfl,fun _ _ _ _ _ _ us hl=>by obtain⟨_,_,rfl⟩:=lq hl;rfl,fun _ _ _ _ _ _ us hl=>by obtain⟨_,_,_,rfl⟩:=jB hl;rfl,fun _ _ _ _ _ _ us hl=>by obtain⟨_,_,_,rfl⟩:=jB hl;rfl,fun _ _ _ _ _ _ us hl=>by obtain⟨_,rfl⟩:=rZ hl;rfl,fun _ _ _ _ _ _ us hl=>by obtain⟨_,_,rfl⟩:=lq hl;rfl,fun _ _ _ _ _ _ us hl=>by obtain⟨_,_,_,rfl⟩:=jB hl;rfl,fun _ _ _ _ _ _ us hl=>by obtain⟨_,_,_,rfl⟩:=jB hl;rfl,fun _ _ _ _ _ _ us hl=>by obtain⟨_,_,rfl⟩:=lq hl;rfl,fun _ _ _ _ _ _ us hl=>by obtain⟨_,_,rfl⟩:=lq hl;rfl,fun _ _ _ _ _ _ us hl=>by obtain⟨_,_,_,rfl⟩:=jB hl;rfl,fun _ _ _ _ _ _ us hl=>by obtain⟨_,_,_,rfl⟩:=jB hl;rfl,fun _ _ _ _ _ _ us hl=>by obtain⟨_,rfl⟩:=rZ hl;rfl,fun _ _ _ _ _ _ us hl=>by obtain⟨_,_,_,rfl⟩:=jB hl;rfl,fun _ _ _ _ _ _ us hl=>by obtain⟨_,_,_,rfl⟩:=jB hl;rfl,fun _ _ _ _ _ _ us hl=>by obtain⟨_,_,_,_,rfl⟩:=vG hl;rfl,fun _ _ _ _ _ _ us hl=>by obtain⟨_,_,_,rfl⟩:=jB hl;rfl,fun _ _ _ _ _ _ us hl=>by obtain⟨_,_,_,_,rfl⟩:=vG hl;rfl,fun _ _ _ _ _ _ us hl=>by obtain⟨_,_,rfl⟩:=lq hl;rfl,fun _ _ _ _ _ _ us hl=>by obtain⟨_,_,_,_,rfl⟩:=vG hl;rfl,fun _ _ _ _ _ _ us hl=>by obtain⟨_,_,rfl⟩:=lq hl;rfl,fun _ _ _ _ _ _ us hl=>by obtain⟨_,_,_,_,_,rfl⟩:=aa7 hl;rfl,fun _ _ _ _ _ _ us hl=>by obtain⟨_,_,rfl⟩:=lq hl;rfl,fun _ _ _ _ _ _ us hl=>by obtain⟨_,_,_,rfl⟩:=jB hl;rfl,fun _ _ _ _ _ _ us hl=>by obtain⟨_,_,rfl⟩:=lq hl;rfl,fun _ _ _ _ _ _ us hl=>by obtain⟨_,_,_,rfl⟩:=jB hl;rfl,fun _ _ _ _ _ _ us hl=>by obtain⟨_,_,_,rfl⟩:=jB hl;rfl,fun _ _ _ _ _ _ us hl=>by obtain⟨_,_,_,_,_,rfl⟩:=aa7 hl;rfl,fun _ _ _ _ _ _ us hl=>by obtain⟨_,_,_,rfl⟩:=jB hl;rfl,fun _ _ _ _ _ _ us hl=>by obtain⟨_,_,_,_,rfl⟩:=vG hl;rfl,fun _ _ _ _ _ _ us hl=>by obtain⟨_,_,_,_,rfl⟩:=vG hl;rfl,fun _ _ _ _ _ _ us hl=>by obtain⟨_,_,_,_,rfl⟩:=vG hl;rfl,fun _ _ _ _ _ _ us hl=>by obtain⟨_,_,rfl⟩:=lq hl;rfl,fun _ _ _ _ _ _ us hl=>by obtain⟨_,_,rfl⟩:=lq hl;rfl,fun _ _ _ _ _ _ us hl=>by obtain⟨_,_,rfl⟩:=lq hl;rfl,fun _ _ _ _ _ _ us hl=>by obtain⟨_,_,_,rfl⟩:=jB hl;rfl,fun _ _ _ _ _ _ us hl=>by obtain⟨_,_,rfl⟩:=lq hl;rfl,fun _ _ _ _ _ _ us hl=>by obtain⟨_,rfl⟩:=rZ hl;rfl,fun _ _ _ _ _ _ us hl=>by obtain⟨_,_,_,_,rfl⟩:=vG hl;rfl,fun _ _ _ _ _ _ us hl=>by obtain⟨_,rfl⟩:=rZ hl;rfl,trivial⟩
def nms:List (Str×Stmt):=("checked",s0)::("is_net",s1)::("has_parts",s2)::("is_tuple",s3)::("is_number",s4)::("is_name",s5)::("are_unlike",s6)::("is_row",s7)::("is_wire",s8)::("are_wires",s9)::("are_rows",Ff)::("is_kind",w5)::("is_held",s12)::("wire_names",s13)::("waiting_gates",s14)::("told",s15)::("told_held",s16)::("checked_talk",s17)::("is_talk",s18)::("is_state",s19)::("steps",s20)::("first_stand",s21)::("steps_at",s22)::("is_unasked",s23)::("led_to",s24)::("changed",s25)::("newly_met",s26)::("fault",s27)::("fault_at",s28)::("has_out",s29)::("fault_of_step",s30)::("spoiling",s31)::("since_when",s32)::("_law_cell_at",s33)::("_law_mixed",s34)::("_law_next",s35)::("_law_some",s36)::("_law_table",s37)::("_law_kind",s38)::("_law_net",s39)::("_law_talk",s40)::("_law_ring",s41)::("_law_chain",s42)::("_law_meeting",s43)::("_law_spoilt_kind",s44)::("_law_case",s45)::("_law_names",s46)::("_law_led",s47)::("law",s48)::[]
end Tx
end
section
open PySem
section
open Mini
namespace Tx
theorem bf{n i:Nat}{g:Fn}{ps us:List Sl}(h:pg.fns[i]? =some g:=by kernel_rfl)(e:us=ps++List.replicate (g.names-g.pars) .un:=by rfl)(l:ps.length=g.pars:=by rfl):pg.fn (n+1) i ps=fin g.pars (ex (pg.cf n) g.body us):=by
 subst e
 refine Eq.trans ?_ (Og _ _ _ l)
 show(match pg.fns[i]? with|some g=>gR (pg.cf n) g ps|none=>.bad)=_
 rw[h]
noncomputable def oJ:Fn:=⟨1,1,(.cons (.ite (.not (.call 1 AAT)) (.cons (.raise 0) .nil) .nil) (.cons (.ret (.var 0)) .nil))⟩
theorem FJ(n:Nat)(p0:Sl):pg.fn (n+1) 0 [p0]=fin 1 (ex (pg.cf n) oJ.body [p0]):=bf (g:=oJ)
noncomputable def rH:Fn:=⟨1,2,(.cons (.ite ABS AAP .nil) (.cons (.set 1 (.call 13 AAT)) (.cons (.ite (.or (.cons (.not (.bi .all ACm)) ADQ)) AAP .nil) (.cons (.ret (.and (.cons (.bi .all ABs) ACx))) .nil))))⟩
theorem IK(n:Nat)(p0:Sl):pg.fn (n+1) 1 [p0]=fin 1 (ex (pg.cf n) rH.body [p0,.un]):=bf (g:=rH)
noncomputable def jP:Fn:=⟨1,1,(.cons (.ite AAv AAP .nil) (.cons (.ret (.bi .all (.comp 1 (.name 0) AAb AAL ABp))) .nil))⟩
theorem xF(n:Nat)(p0:Sl):pg.fn (n+1) 2 [p0]=fin 1 (ex (pg.cf n) jP.body [p0]):=bf (g:=jP)
noncomputable def lG:Fn:=⟨3,3,(.cons (.ret (.and (.cons ADH (.cons (.chain .le .le (.var 1) ACM (.var 2)) .nil)))) .nil)⟩
theorem zJ(n:Nat)(p0 p1 p2:Sl):pg.fn (n+1) 3 [p0,p1,p2]=fin 3 (ex (pg.cf n) lG.body [p0,p1,p2]):=bf (g:=lG)
noncomputable def jO:Fn:=⟨3,3,(.cons (.ret (.and (.cons (.isi (.var 0) .int) (.cons (.not (.isi (.var 0) .bool)) (.cons (.chain .le .le (.var 1) (.var 0) (.var 2)) .nil))))) .nil)⟩
theorem xx(n:Nat)(p0 p1 p2:Sl):pg.fn (n+1) 4 [p0,p1,p2]=fin 3 (ex (pg.cf n) jO.body [p0,p1,p2]):=bf (g:=jO)
noncomputable def uQ:Fn:=⟨1,1,(.cons (.ite (.or (.cons (.not (.isi (.var 0) .str)) (.cons (.not (.chain .le .le AAG ACM (.glob 1))) .nil))) AAP .nil) (.cons (.ret (.and (.cons (.bi .all (.comp 1 (.name 0) (.var 0) AAL (.cmp .isin (.var 0) (.glob 0)))) (.cons (.cmp .notin (.var 0) (.glob 2)) .nil)))) .nil))⟩
theorem Fx(n:Nat)(p0:Sl):pg.fn (n+1) 5 [p0]=fin 1 (ex (pg.cf n) uQ.body [p0]):=bf (g:=uQ)
noncomputable def iV:Fn:=⟨1,1,(.cons (.ret (.bi .all ACH)) .nil)⟩
theorem vm(n:Nat)(p0:Sl):pg.fn (n+1) 6 [p0]=fin 1 (ex (pg.cf n) iV.body [p0]):=bf (g:=iV)
noncomputable def rG:Fn:=⟨2,2,(.cons (.ret (.and (.cons ACl (.cons (.bi .all ACd) .nil)))) .nil)⟩
theorem Iz(n:Nat)(p0 p1:Sl):pg.fn (n+1) 7 [p0,p1]=fin 2 (ex (pg.cf n) rG.body [p0,p1]):=bf (g:=rG)
noncomputable def oE:Fn:=⟨2,2,(.cons (.ret (.and (.cons (.isi (.var 0) .str) (.cons (.cmp .isin (.var 0) (.var 1)) .nil)))) .nil)⟩
theorem Fv(n:Nat)(p0 p1:Sl):pg.fn (n+1) 8 [p0,p1]=fin 2 (ex (pg.cf n) oE.body [p0,p1]):=bf (g:=oE)
noncomputable def jQ:Fn:=⟨4,4,(.cons (.ite ACa AAP .nil) (.cons (.ret (.and (.cons (.bi .all ACQ) (.cons (.call 6 AAT) .nil)))) .nil))⟩
theorem xG(n:Nat)(p0 p1 p2 p3:Sl):pg.fn (n+1) 9 [p0,p1,p2,p3]=fin 4 (ex (pg.cf n) jQ.body [p0,p1,p2,p3]):=bf (g:=jQ)
noncomputable def lK:Fn:=⟨2,2,(.cons (.ite (.or (.cons (.not ADH) (.cons (.not (.bi .all ACR)) .nil))) AAP .nil) (.cons (.ret (.bi .all ABa)) .nil))⟩
theorem zM(n:Nat)(p0 p1:Sl):pg.fn (n+1) 10 [p0,p1]=fin 2 (ex (pg.cf n) lK.body [p0,p1]):=bf (g:=lK)
noncomputable def cW:Fn:=⟨3,5,(.cons (.ite (.or (.cons (.not (.call 3 (.cons (.var 0) (.cons AAf ABx)))) (.cons (.not (.isi AAc .str)) .nil))) AAP .nil) (.cons (.set 3 AAc) (.cons (.set 4 ACM) (.cons (.ite (.cmp .isin (.var 3) (.tup ABO)) (.cons (.ret (.and (.cons ACs (.cons (.call 8 (.cons AAb AAi)) .nil)))) .nil) .nil) (.cons (.ite (.cmp .isin (.var 3) (.tup (.cons ACL (.cons ACP .nil)))) (.cons (.ret (.and (.cons ACs (.cons (.call 9 (.cons AAb (.cons (.var 1) (.cons AAG (.cons (.glob 5) .nil))))) .nil)))) .nil) .nil) (.cons (.ite (.cmp .eq (.var 3) ABk) (.cons (.ret (.and (.cons ACs (.cons (.call 9 (.cons AAb (.cons (.var 1) (.cons AAf (.cons (.glob 5) .nil))))) .nil)))) .nil) .nil) (.cons (.ite ABt (.cons (.ret (.and (.cons (.cmp .eq (.var 4) ACh) (.cons (.call 9 (.cons AAb (.cons (.var 1) (.cons AAG (.cons (.glob 6) .nil))))) (.cons (.call 10 (.cons ABP (.cons (.bi .len AAb) .nil))) .nil))))) .nil) .nil) (.cons (.ite ABy (.cons (.ret (.and (.cons (.cmp .eq (.var 4) (.con (.int 4))) (.cons (.cmp .lt (.var 2) (.glob 7)) (.cons (.call 12 (.cons (.var 0) (.cons (.var 1) (.cons (.op .add (.var 2) AAG) .nil)))) .nil))))) .nil) .nil) AAP))))))))⟩
theorem eE(n:Nat)(p0 p1 p2:Sl):pg.fn (n+1) 11 [p0,p1,p2]=fin 3 (ex (pg.cf n) cW.body [p0,p1,p2,.un,.un]):=bf (g:=cW)
noncomputable def oG:Fn:=⟨3,3,(.cons (.ret (.and (.cons (.call 11 (.cons AAb AAR)) (.cons (.call 8 (.cons ABP AAi)) (.cons (.isi (.idx (.var 0) ACh) .bool) .nil))))) .nil)⟩
theorem Fy(n:Nat)(p0 p1 p2:Sl):pg.fn (n+1) 12 [p0,p1,p2]=fin 3 (ex (pg.cf n) oG.body [p0,p1,p2]):=bf (g:=oG)
noncomputable def iQ:Fn:=⟨1,1,ABw⟩
theorem lY(n:Nat)(p0:Sl):pg.fn (n+1) 13 [p0]=fin 1 (ex (pg.cf n) iQ.body [p0]):=bf (g:=iQ)
noncomputable def eZ:Fn:=⟨2,3,(.cons (.set 2 (.bi .dict ABo)) (.cons (.ret (.comp 2 (.tup [0,1]) AAb AAj (.var 0))) .nil))⟩
theorem o6(n:Nat)(p0 p1:Sl):pg.fn (n+1) 14 [p0,p1]=fin 2 (ex (pg.cf n) eZ.body [p0,p1,.un]):=bf (g:=eZ)
noncomputable def Bj:Fn:=⟨3,5,(.cons (.set 3 AAc) (.cons (.ite (.cmp .eq (.var 3) ACc) (.cons (.ret ACg) .nil) .nil) (.cons (.ite ACw (.cons (.ret (.not ACg)) .nil) .nil) (.cons (.ite ABy ADP .nil) (.cons (.set 4 (.bi .tuple (.comp 1 (.name 0) AAb AAL (.idx (.var 3) (.var 0))))) (.cons (.ite (.cmp .eq (.var 3) ACL) ACv .nil) (.cons (.ite (.cmp .eq (.var 3) ACP) ACu .nil) (.cons (.ite ABt ACn .nil) ABM))))))))⟩
theorem kY(n:Nat)(p0 p1 p2:Sl):pg.fn (n+1) 15 [p0,p1,p2]=fin 3 (ex (pg.cf n) Bj.body [p0,p1,p2,.un,.un]):=bf (g:=Bj)
noncomputable def jJ:Fn:=⟨3,5,(.cons (.set 3 (.call 15 (.cons AAb AAR))) (.cons (.set 4 (.cmp .eq (.idx (.var 2) ABP) (.var 3))) (.cons (.ret (.ite (.cmp .eq (.var 4) (.idx (.var 0) ACh)) (.var 3) (.var 1))) .nil)))⟩
theorem xj(n:Nat)(p0 p1 p2:Sl):pg.fn (n+1) 16 [p0,p1,p2]=fin 3 (ex (pg.cf n) jJ.body [p0,p1,p2,.un,.un]):=bf (g:=jJ)
noncomputable def fZ:Fn:=⟨2,2,(.cons (.ite (.not (.call 18 (.cons (.call 0 AAT) AAi))) (.cons (.raise 0) .nil) .nil) (.cons (.ret (.var 1)) .nil))⟩
theorem qx(n:Nat)(p0 p1:Sl):pg.fn (n+1) 17 [p0,p1]=fin 2 (ex (pg.cf n) fZ.body [p0,p1]):=bf (g:=fZ)
noncomputable def oF:Fn:=⟨2,4,(.cons (.ite ADG AAP .nil) (.cons (.set 2 (.comp 1 (.name 0) AAb AAL AAc)) (.cons (.ite AAl AAP .nil) (.cons (.set 3 (.op .add AAc ABI)) (.cons (.ret (.bi .all ABX)) .nil)))))⟩
theorem Fw(n:Nat)(p0 p1:Sl):pg.fn (n+1) 18 [p0,p1]=fin 2 (ex (pg.cf n) oF.body [p0,p1,.un,.un]):=bf (g:=oF)
noncomputable def lH:Fn:=⟨3,3,(.cons (.ite (.or (.cons ACi (.cons (.not (.bi .all ADJ)) .nil))) AAP .nil) (.cons (.ite (.not (.call 9 (.cons (.bi .tuple (.comp 1 (.name 0) (.var 0) AAL AAc)) (.cons (.var 1) (.cons AAH ABG))))) AAP .nil) (.cons (.ret (.bi .all ABW)) .nil)))⟩
theorem zK(n:Nat)(p0 p1 p2:Sl):pg.fn (n+1) 19 [p0,p1,p2]=fin 3 (ex (pg.cf n) lH.body [p0,p1,p2]):=bf (g:=lH)
noncomputable def wk:Fn:=⟨3,3,(.cons (.ret (.call 22 (.cons (.var 0) (.cons (.call 17 ABi) ABQ)))) .nil)⟩
theorem OD(n:Nat)(p0 p1 p2:Sl):pg.fn (n+1) 20 [p0,p1,p2]=fin 3 (ex (pg.cf n) wk.body [p0,p1,p2]):=bf (g:=wk)
noncomputable def gH:Fn:=⟨1,1,(.cons (.ret (.tup (.cons ABP AAu))) .nil)⟩
theorem rR(n:Nat)(p0:Sl):pg.fn (n+1) 21 [p0]=fin 1 (ex (pg.cf n) gH.body [p0]):=bf (g:=gH)
noncomputable def lB:Fn:=⟨3,4,(.cons (.set 3 ACj) (.cons (.ret (.op .add (.comp 1 (.name 0) AAc (.cmp .isin (.var 0) (.var 4)) (.var 0)) AAq)) .nil))⟩
theorem zB(n:Nat)(p0 p1 p2:Sl):pg.fn (n+1) 22 [p0,p1,p2]=fin 3 (ex (pg.cf n) lB.body [p0,p1,p2,.un]):=bf (g:=lB)
noncomputable def iU:Fn:=⟨3,3,(.cons (.ret (.and (.cons (.cmp .isin (.var 2) AAc) (.cons (.cmp .notin (.var 2) (.bi .dict (.idx AAb AAt))) .nil)))) .nil)⟩
theorem vg(n:Nat)(p0 p1 p2:Sl):pg.fn (n+1) 23 [p0,p1,p2]=fin 3 (ex (pg.cf n) iU.body [p0,p1,p2]):=bf (g:=iU)
noncomputable def mV:Fn:=⟨4,5,(.cons (.ite (.call 23 ABH) AAs .nil) (.cons (.set 4 ACj) (.cons (.ret (.tup (.cons (.call 25 (.cons (.var 0) (.cons ABZ AAV))) (.cons (.get2 (.var 4) (.var 3) AAh) .nil)))) .nil)))⟩
theorem Iw(n:Nat)(p0 p1 p2 p3:Sl):pg.fn (n+1) 24 [p0,p1,p2,p3]=fin 4 (ex (pg.cf n) mV.body [p0,p1,p2,p3,.un]):=bf (g:=mV)
noncomputable def oK:Fn:=⟨3,3,(.cons (.ret (.bi .tuple (.comp 2 (.tup [0,1]) ABo AAL (.ite ACf (.not (.var 1)) (.var 1))))) .nil)⟩
theorem FN(n:Nat)(p0 p1 p2:Sl):pg.fn (n+1) 25 [p0,p1,p2]=fin 3 (ex (pg.cf n) oK.body [p0,p1,p2]):=bf (g:=oK)
noncomputable def jK:Fn:=⟨4,7,(.cons (.set 4 ABY) (.cons (.for_ (.name 5) ADK (.cons ABf (.cons (.ite (.and (.cons (.cmp .notN (.var 6) ACJ) ACq)) ABK .nil) .nil))) ABu))⟩
theorem xm(n:Nat)(p0 p1 p2 p3:Sl):pg.fn (n+1) 26 [p0,p1,p2,p3]=fin 4 (ex (pg.cf n) jK.body [p0,p1,p2,p3,.un,.un,.un]):=bf (g:=jK)
noncomputable def wu:Fn:=⟨2,5,(.cons (.expr (.call 17 ABi)) (.cons ACZ (.cons (.set 3 ACe) (.cons (.while_ (.var 3) (.cons ABJ (.cons (.ite (.cmp .notN (.var 4) ACJ) ABu .nil) AAw))) AAs))))⟩
theorem OJ(n:Nat)(p0 p1:Sl):pg.fn (n+1) 27 [p0,p1]=fin 2 (ex (pg.cf n) wu.body [p0,p1,.un,.un,.un]):=bf (g:=wu)
noncomputable def lJ:Fn:=⟨4,7,(.cons (.set 4 ADK) (.cons (.ite ACX ACV .nil) (.cons (.for_ (.name 5) (.var 4) (.cons AAy (.cons (.ite (.cmp .notN (.var 6) ACJ) (.cons (.ret (.var 6)) .nil) .nil) .nil))) AAs)))⟩
theorem zL(n:Nat)(p0 p1 p2 p3:Sl):pg.fn (n+1) 28 [p0,p1,p2,p3]=fin 4 (ex (pg.cf n) lJ.body [p0,p1,p2,p3,.un,.un,.un]):=bf (g:=lJ)
noncomputable def oH:Fn:=⟨2,2,(.cons (.ret (.bi .any (.comp 1 (.name 0) (.idx AAb AAt) AAL (.cmp .isin AAc ABI)))) .nil)⟩
theorem Fz(n:Nat)(p0 p1:Sl):pg.fn (n+1) 29 [p0,p1]=fin 2 (ex (pg.cf n) oH.body [p0,p1]):=bf (g:=oH)
noncomputable def fc:Fn:=⟨5,7,(.cons (.ite (.call 23 ABH) ABr .nil) (.cons ABg (.cons (.for_ (.name 6) AAq (.cons (.ite ABl ABc .nil) .nil)) AAs)))⟩
theorem o7(n:Nat)(p0 p1 p2 p3 p4:Sl):pg.fn (n+1) 30 [p0,p1,p2,p3,p4]=fin 5 (ex (pg.cf n) fc.body [p0,p1,p2,p3,p4,.un,.un]):=bf (g:=fc)
noncomputable def iR:Fn:=⟨2,8,(.cons (.set 2 (.call 27 ABi)) (.cons (.ite (.cmp .f9 (.var 2) ACJ) AAs .nil) (.cons (.set 3 ABY) (.cons (.set 4 (.call 21 AAT)) (.cons (.set 5 .emp) (.cons (.for_ (.tup [6,7]) (.enum AAh) AAd) (.cons (.ret (.var 3)) .nil)))))))⟩
theorem qw(n:Nat)(p0 p1:Sl):pg.fn (n+1) 31 [p0,p1]=fin 2 (ex (pg.cf n) iR.body [p0,p1,.un,.un,.un,.un,.un,.un]):=bf (g:=iR)
noncomputable def iT:Fn:=⟨3,3,(.cons (.ret (.bi .dict (.comp 1 (.name 0) (.var 0) AAL (.tup ABL)))) .nil)⟩
theorem vf(n:Nat)(p0 p1 p2:Sl):pg.fn (n+1) 32 [p0,p1,p2]=fin 3 (ex (pg.cf n) iT.body [p0,p1,p2]):=bf (g:=iT)
noncomputable def dC:Fn:=⟨2,2,(.cons (.ite (.cmp .lt (.var 1) ACM) (.cons (.ret (.idx (.var 0) (.var 1))) .nil) .nil) (.cons (.ite (.cmp .eq (.var 0) ABY) (.cons (.ret AAH) .nil) .nil) (.cons (.ret (.op .add (.op .mul (.idx (.var 0) (.op .mod (.var 1) ACM)) (.con (.int 31))) (.var 1))) .nil)))⟩
theorem gC(n:Nat)(p0 p1:Sl):pg.fn (n+1) 33 [p0,p1]=fin 2 (ex (pg.cf n) dC.body [p0,p1]):=bf (g:=dC)
noncomputable def jM:Fn:=⟨3,4,(.cons (.set 3 (.op .mod (.op .mul (.op .add (.op .add (.call 33 ABi) (.op .mul (.con (.int 7919)) (.var 1))) AAG) (.con (.int 48271))) (.con (.int 2147483647)))) (.cons (.ret (.op .mod (.op .mod (.op .add (.op .add (.op .mul (.var 3) (.var 3)) (.op .mul (.con (.int 7)) (.var 3))) (.var 1)) (.con (.int 2147483629))) (.var 2))) .nil))⟩
theorem xr(n:Nat)(p0 p1 p2:Sl):pg.fn (n+1) 34 [p0,p1,p2]=fin 3 (ex (pg.cf n) jM.body [p0,p1,p2,.un]):=bf (g:=jM)
noncomputable def lF:Fn:=⟨3,3,(.cons (.setIx 1 AAH (.op .add ABI AAG)) (.cons (.ret (.call 34 (.cons (.var 0) (.cons ABI ABQ)))) .nil))⟩
theorem zH(n:Nat)(p0 p1 p2:Sl):pg.fn (n+1) 35 [p0,p1,p2]=fin 3 (ex (pg.cf n) lF.body [p0,p1,p2]):=bf (g:=lF)
noncomputable def lD:Fn:=⟨5,6,(.cons (.set 5 ACe) (.cons (.while_ AAx ABT) (.cons (.ret ACY) .nil)))⟩
theorem zF(n:Nat)(p0 p1 p2 p3 p4:Sl):pg.fn (n+1) 36 [p0,p1,p2,p3,p4]=fin 5 (ex (pg.cf n) lD.body [p0,p1,p2,p3,p4,.un]):=bf (g:=lD)
noncomputable def jL:Fn:=⟨3,6,(.cons ABn (.cons ACt (.cons (.for_ (.name 5) (.var 3) (.cons (.set 4 (.op .add (.comp 1 (.name 0) (.var 4) AAL (.op .add (.var 0) (.tup (.cons (.con (.bl false)) .nil)))) (.comp 1 (.name 0) (.var 4) AAL (.op .add (.var 0) (.tup (.cons AAL .nil)))))) .nil)) (.cons (.ret (.tup (.cons (.con (.str "table")) (.cons (.var 3) (.cons (.bi .tuple (.bi .sorted (.comp 1 (.name 0) (.var 4) ACS (.var 0)))) .nil))))) .nil))))⟩
theorem xn(n:Nat)(p0 p1 p2:Sl):pg.fn (n+1) 37 [p0,p1,p2]=fin 3 (ex (pg.cf n) jL.body [p0,p1,p2,.un,.un,.un]):=bf (g:=jL)
noncomputable def cR:Fn:=⟨4,6,(.cons (.set 4 (.call 35 (.cons (.var 0) (.cons (.ref 1) (.cons (.con (.int 9)) .nil))))) (.cons (.ite (.or (.cons (.cmp .lt (.var 4) (.con (.int 4))) (.cons (.cmp .lt ADN AAf) .nil))) (.cons (.ret (.tup (.cons (.idx (.lis ABO) (.op .mod (.var 4) AAf)) (.cons ABd .nil)))) .nil) .nil) (.cons (.ite (.cmp .lt (.var 4) (.con (.int 7))) (.cons (.ret (.tup (.cons (.idx (.lis (.cons ACL (.cons ACP (.cons ABk .nil)))) (.op .sub (.var 4) (.con (.int 4)))) (.cons (.call 36 (.cons (.var 0) (.cons (.ref 1) (.cons (.var 2) (.cons AAf AAZ))))) .nil)))) .nil) .nil) (.cons (.ite (.or (.cons (.cmp .eq (.var 4) (.con (.int 7))) (.cons (.cmp .eq (.var 3) AAH) .nil))) (.cons (.ret (.call 37 (.cons (.var 0) (.cons (.ref 1) ABQ)))) .nil) .nil) (.cons (.set 5 (.call 38 (.cons (.var 0) (.cons (.ref 1) (.cons (.var 2) (.cons (.op .sub (.var 3) AAG) .nil)))))) (.cons (.ret (.tup (.cons (.con (.str "held")) (.cons (.var 5) (.cons ABd (.cons ACT .nil)))))) .nil))))))⟩
theorem il(n:Nat)(p0 p1 p2 p3:Sl):pg.fn (n+1) 38 [p0,p1,p2,p3]=fin 4 (ex (pg.cf n) cR.body [p0,p1,p2,p3,.un,.un]):=bf (g:=cR)
noncomputable def oh:Fn:=⟨4,8,(.cons AAn (.cons ACz (.cons ACy (.cons (.set 7 (.bi .tuple (.comp 1 (.name 0) (.var 5) AAL (.tup ABU)))) (.cons (.ret (.tup (.cons (.var 4) (.cons (.var 7) (.cons (.bi .tuple (.comp 1 (.name 0) (.var 6) AAL ACS)) .nil))))) .nil)))))⟩
theorem Fq(n:Nat)(p0 p1 p2 p3:Sl):pg.fn (n+1) 39 [p0,p1,p2,p3]=fin 4 (ex (pg.cf n) oh.body [p0,p1,p2,p3,.un,.un,.un,.un]):=bf (g:=oh)
noncomputable def lC:Fn:=⟨4,9,(.cons (.set 4 (.bi .tuple (.comp 1 (.name 0) AAh ABN AAc))) (.cons (.set 5 AAo) (.cons (.set 6 ABY) (.cons (.for_ (.name 7) (.range1 (.var 5)) (.cons (.set 8 (.comp 1 (.name 0) ACr ACS (.var 0))) (.cons (.append 6 (.bi .tuple (.comp 1 (.name 0) (.var 8) AAL (.tup ABb)))) .nil))) ABv))))⟩
theorem zE(n:Nat)(p0 p1 p2 p3:Sl):pg.fn (n+1) 40 [p0,p1,p2,p3]=fin 4 (ex (pg.cf n) lC.body [p0,p1,p2,p3,.un,.un,.un,.un,.un]):=bf (g:=lC)
noncomputable def lE:Fn:=⟨2,5,(.cons ABR (.cons (.set 3 ABY) (.cons (.for_ (.name 4) (.range1 ADN) AAe) (.cons (.ret (.tup (.cons (.tup .nil) (.cons (.bi .tuple (.var 3)) (.cons (.bi .tuple (.comp 1 (.name 0) (.var 2) AAL ACS)) .nil))))) .nil))))⟩
theorem zG(n:Nat)(p0 p1:Sl):pg.fn (n+1) 41 [p0,p1]=fin 2 (ex (pg.cf n) lE.body [p0,p1,.un,.un,.un]):=bf (g:=lE)
noncomputable def jN:Fn:=⟨2,8,(.cons AAk (.cons (.set 3 ABm) (.cons (.set 4 (.lis (.cons ACT .nil))) (.cons (.set 5 ABY) (.cons (.for_ (.name 6) (.var 2) AAg) (.cons AAz .nil))))))⟩
theorem xu(n:Nat)(p0 p1:Sl):pg.fn (n+1) 42 [p0,p1]=fin 2 (ex (pg.cf n) jN.body [p0,p1,.un,.un,.un,.un,.un,.un]):=bf (g:=jN)
noncomputable def aL:Fn:=⟨2,8,(.cons (.set 2 (.call 35 (.cons (.var 0) (.cons (.ref 1) (.cons (.con (.int 6)) .nil))))) (.cons (.set 3 (.tup (.cons (.idx (.lis (.cons ABk (.cons ABk (.cons ACL (.cons ACP (.cons ABk (.cons ABk .nil))))))) (.var 2)) (.cons (.tup (.cons ABm (.cons ACW .nil))) .nil)))) (.cons (.ite (.cmp .gt (.var 2) ACh) (.cons (.set 3 (.tup (.cons (.con (.str "held")) (.cons (.tup (.cons ACc (.cons ABm .nil))) (.cons ACW (.cons AAL .nil)))))) .nil) .nil) (.cons (.set 4 (.tup (.cons (.tup (.cons (.tup (.cons ABm (.cons AAG .nil))) (.cons (.tup (.cons ACW (.cons AAf .nil))) .nil))) (.cons (.tup (.cons (.tup (.cons ACW AAZ)) .nil)) (.cons (.tup (.cons (.tup (.cons ABm AAZ)) .nil)) (.cons (.tup (.cons (.tup (.cons ACp AAu)) .nil)) .nil)))))) (.cons (.set 5 (.lis (.cons (.tup (.cons ACp AAV)) .nil))) (.cons (.ite ACT (.cons (.append 5 (.tup (.cons ACo (.cons (.tup (.cons (.idx (.lis ABO) AAQ) (.cons ACp .nil))) .nil)))) .nil) .nil) (.cons (.set 6 ACT) (.cons (.set 7 (.lis (.cons (.var 6) (.cons (.var 6) (.cons (.var 6) .nil))))) (.cons (.ite (.cmp .gt (.bi .len (.var 5)) AAG) (.cons (.append 7 (.cmp .eq (.var 6) (.cmp .eq (.idx (.idx (.idx (.var 5) AAG) AAG) AAH) ACc))) .nil) .nil) (.cons (.ret (.tup (.cons (.tup (.cons (.tup (.cons ABm (.cons ACW .nil))) (.cons ACY (.cons (.bi .tuple (.var 7)) .nil)))) (.cons (.tup (.cons (.tup (.cons ACp .nil)) (.cons (.var 4) .nil))) .nil)))) .nil))))))))))⟩
theorem gB(n:Nat)(p0 p1:Sl):pg.fn (n+1) 43 [p0,p1]=fin 2 (ex (pg.cf n) aL.body [p0,p1,.un,.un,.un,.un,.un,.un]):=bf (g:=aL)
noncomputable def cu:Fn:=⟨3,6,(.cons (.set 3 (.op .add ABZ (.bi .tuple (.comp 1 (.name 0) AAh AAL AAc)))) (.cons (.set 4 (.call 35 (.cons (.var 0) (.cons (.ref 1) (.cons (.bi .len AAh) .nil))))) (.cons (.set 5 (.bi .list AAh)) (.cons (.setIx 5 (.var 4) (.tup (.cons (.idx (.idx (.var 5) (.var 4)) AAH) (.cons (.call 38 (.cons (.var 0) (.cons (.ref 1) (.cons (.var 3) (.cons AAG .nil))))) .nil)))) (.cons (.ret (.tup (.cons ABZ (.cons ACY (.cons (.idx (.var 2) AAf) .nil))))) .nil)))))⟩
theorem lZ(n:Nat)(p0 p1 p2:Sl):pg.fn (n+1) 44 [p0,p1,p2]=fin 3 (ex (pg.cf n) cu.body [p0,p1,p2,.un,.un,.un]):=bf (g:=cu)
noncomputable def aY:Fn:=⟨2,6,(.cons (.set 2 (.lis AAi)) (.cons (.set 3 (.call 35 (.cons (.var 0) (.cons (.ref 2) (.cons (.con (.int 8)) .nil))))) (.cons (.ite (.cmp .lt (.var 3) AAf) (.cons (.set 4 (.call 39 (.cons (.var 0) (.cons (.ref 2) (.cons AAf ABx))))) (.cons (.ret (.tup (.cons (.var 4) (.cons (.call 40 (.cons (.var 0) (.cons (.ref 2) (.cons (.var 4) ABx)))) .nil)))) .nil)) .nil) (.cons (.ite (.cmp .eq (.var 3) AAf) (.cons (.ret (.tup (.cons (.call 39 (.cons (.var 0) (.cons (.ref 2) (.cons AAH ABx)))) (.cons (.tup (.cons (.tup .nil) (.cons (.tup (.cons (.tup .nil) .nil)) .nil))) .nil)))) .nil) .nil) (.cons (.ite (.cmp .eq (.var 3) ACh) (.cons (.set 4 (.call 41 ACI)) (.cons (.ite ABz (.cons (.ret (.tup (.cons (.var 4) (.cons (.tup (.cons (.tup .nil) (.cons (.tup (.cons (.tup .nil) .nil)) .nil))) .nil)))) .nil) .nil) (.cons (.ret (.tup (.cons (.var 4) (.cons (.tup (.cons (.tup (.cons ACo .nil)) (.cons (.tup (.cons (.tup (.cons (.tup (.cons ACo (.cons AAG .nil))) .nil)) (.cons (.tup (.cons (.tup (.cons ACo AAu)) .nil)) .nil))) .nil))) .nil)))) .nil))) .nil) (.cons (.ite (.cmp .lt (.var 3) (.con (.int 6))) (.cons (.setT [4,5] (.call 42 ACI)) .nil) (.cons (.setT [4,5] (.call 43 ACI)) .nil)) (.cons (.ite (.and (.cons (.cmp .eq (.op .mod (.var 3) AAf) AAG) (.cons ABz .nil))) (.cons (.set 4 (.call 44 (.cons (.var 0) (.cons (.ref 2) (.cons (.var 4) .nil))))) .nil) .nil) (.cons (.ret (.tup (.cons (.var 4) (.cons (.var 5) .nil)))) .nil))))))))⟩
theorem dH(n:Nat)(p0 p1:Sl):pg.fn (n+1) 45 [p0,p1]=fin 2 (ex (pg.cf n) aY.body [p0,p1,.un,.un,.un,.un]):=bf (g:=aY)
noncomputable def o4:Fn:=⟨1,1,ABw⟩
theorem xq(n:Nat)(p0:Sl):pg.fn (n+1) 46 [p0]=fin 1 (ex (pg.cf n) o4.body [p0]):=bf (g:=o4)
noncomputable def oA:Fn:=⟨4,8,(.cons (.set 4 (.call 46 AAT)) (.cons (.set 5 (.bi .tuple (.comp 1 (.name 0) (.range1 ADM) AAL ABh))) (.cons (.ite ABq ACU .nil) (.cons (.for_ (.tup [6,7]) (.idx AAt AAh) (.cons (.ite (.cmp .eq (.var 6) (.var 3)) ACN .nil) .nil)) AAs))))⟩
theorem Ft(n:Nat)(p0 p1 p2 p3:Sl):pg.fn (n+1) 47 [p0,p1,p2,p3]=fin 4 (ex (pg.cf n) oA.body [p0,p1,p2,p3,.un,.un,.un,.un]):=bf (g:=oA)
noncomputable def LK:Fn:=⟨1,12,(.cons (.setT [1,2] (.call 45 ACb)) (.cons (.set 3 (.call 27 AAR)) (.cons (.set 4 (.call 31 AAR)) (.cons (.ite (.cmp .f9 (.var 3) ACJ) (.cons (.ret (.cmp .f9 (.var 4) ACJ)) .nil) .nil) (.cons (.ite (.or (.cons (.not (.isi (.var 4) .lst)) (.cons (.cmp .ne (.comp 1 (.name 0) (.var 4) AAL AAc) (.idx (.var 3) AAG)) .nil))) AAP .nil) (.cons ACk (.cons (.set 7 (.bi .dict (.comp 1 (.name 0) ADL AAL (.tup ACb)))) (.cons (.for_ (.tup [8,5]) (.enum (.var 4)) (.cons (.setT [9,10] (.var 5)) (.cons (.ite AAr AAP .nil) (.cons ABe (.cons (.ite (.cmp .f9 (.var 6) ACJ) ACG .nil) (.cons (.set 11 ADL) (.cons (.set 7 (.bi .dict (.comp 1 (.name 0) (.var 11) AAL (.tup AAp)))) .nil))))))) (.cons (.ret AAL) .nil)))))))))⟩
theorem aaw(n:Nat)(p0:Sl):pg.fn (n+1) 48 [p0]=fin 1 (ex (pg.cf n) LK.body [p0,.un,.un,.un,.un,.un,.un,.un,.un,.un,.un,.un]):=bf (g:=LK)
end Tx
end
end
section
open PySem Mini
namespace Tx
abbrev sc(ns:List Int):D:=.lst (ns.map .int)
theorem Ma(ns:List Int)(i:Int)(h0:0<=i)(h:i<ns.length):∃r:Int,at? (ns.map D.int) i=some (.int r):=by
 unfold at? ix?
 rw[QAq,if_neg (by omega:¬i<0)]
 rw[if_pos ⟨h0,h⟩]
 have:i.toNat<ns.length:=by omega
 exact⟨ns[i.toNat],by simp[this]⟩
theorem JH(ns:List Int):nG (ns.map D.int)=true:=by
 induction ns with
 |nil=>rfl
 |cons i r ih=>simp[nG,nd,ih]
theorem GQ(ns:List Int):n6 (ns.map D.int)=0:=by
 induction ns with
 |nil=>rfl
 |cons i r ih=>simp[n6,dep,ih]
theorem K4(ns:List Int):aG .eq (.lst (ns.map .int)) (.lst [])=some ns.isEmpty:=by
 cases ns with
 |nil=>rfl
 |cons i ns=>simp[aG,nZ,flat,nd,nG,dep,n6,bV,ji,JH,GQ]
theorem Bb(n:Nat)(ns:List Int)(k:Int)(hk:0<=k):∃r:Int,pg.fn (n+1) 33 [.val (sc ns),.val (.int k)]=.ok (.val (.int r)) [.val (sc ns),.val (.int k)]:=by
 by_cases h:k<ns.length
 ·obtain⟨r,e⟩:=Ma ns k hk h
  exact⟨r,by rw[gC];simp[dC,h,e]⟩
 ·by_cases hn:ns=[]
  ·subst hn
   have h0:¬k<0:=by omega
   exact⟨0,by rw[gC];simp[dC,h0,aV,fits,K4 []]⟩
  ·have hl':0<ns.length:=List.length_pos_iff.mpr hn
   have hl:(0:Int)<ns.length:=by omega
   obtain⟨r,e⟩:=Ma ns (k%ns.length) (Int.emod_nonneg _ (by omega)) (Int.emod_lt_of_pos _ hl)
   have he:ns.isEmpty=false:=by simpa using hn
   exact⟨r*31+k,by rw[gC];simp[dC,h,e,aV,fits,K4,he,hl,hl',small]⟩
@[simp]theorem ahq(n:Nat):(pg.cf n).fn=pg.fn n:=rfl
@[simp]theorem ahp(n:Nat):(pg.cf n).gl=pg.gl:=rfl
@[simp]theorem ab1(n:Nat):(pg.cf n).turns=1000:=rfl
theorem JM(n:Nat)(ns:List Int)(k many:Int)(hk:0<=k)(hm:0<many):∃r:Int,0<=r/\r<many/\
  pg.fn (n+2) 34 [.val (sc ns),.val (.int k),.val (.int many)]=.ok (.val (.int r)) [.val (sc ns),.val (.int k),.val (.int many)]:=by
 obtain⟨c,e⟩:=Bb n ns k hk
 have b:∀x:Int,small (x%2147483647)=true:=fun x=>by
  have h1:=Int.emod_nonneg x (by omega:(2147483647:Int)≠0)
  have h2:=Int.emod_lt_of_pos x (by omega:(0:Int)<2147483647)
  simp[small]
  omega
 have s1:small 7919=true:=by decide
 have s2:small 48271=true:=by decide
 have s3:small 7=true:=by decide
 refine⟨_,?_,?_,by rw[xr];simp[jM,e,s1,s2,s3,b,hm];rfl⟩
 ·exact Int.emod_nonneg _ (by omega)
 ·exact Int.emod_lt_of_pos _ hm
theorem MK{k:Int}(h:0<=k):0<=k+1:=Int.le_trans h (Int.le_add_one (Int.le_refl k))
theorem bA(n:Nat)(ns:List Int)(k many:Int)(hk:0<=k)(hm:0<many):∃r:Int,0<=r/\r<many/\
  pg.fn (n+3) 35 [.val (sc ns),.bor (.lst [.int k]),.val (.int many)]=.ok (.val (.int r)) [.val (sc ns),.bor (.lst [.int (k+1)]),.val (.int many)]:=by
 obtain⟨r,h1,h2,e⟩:=JM n ns (k+1) many (MK hk) hm
 refine⟨r,h1,h2,?_⟩
 rw[zH]
 simp[lF,at?,ix?,qz,e]
end Tx
end
section
open PySem Mini
namespace Tx
def oV:E:=AAx
def sX:S:=ABT
abbrev someσ(ns:List Int)(k:Int)(xs:List D)(least most:Int)(row:List D):Ev:=[.val (sc ns),.bor (.lst [.int k]),.val (.tup xs),.val (.int least),.val (.int most),.own (.lst row)]
theorem HS(n:Nat)(ns:List Int)(k:Int)(hk:0<=k)(xs row:List D)(least most:Int)(h0:0<row.length)(hf:row.length<=1000):
  ∃j:Nat,j<row.length/\ex (pg.cf (n+3)) sX (someσ ns k xs least most row)=.next (someσ ns (k+1) xs least most (row.eraseIdx j)):=by
 obtain⟨r,h1,h2,e⟩:=bA n ns k row.length hk (by omega)
 refine⟨r.toNat,by omega,?_⟩
 have f:fits row.length=true:=by simp[fits];omega
 have hx:ix? row.length r=some r.toNat:=by
  unfold ix?
  rw[if_neg (by omega:¬r<0),if_pos ⟨h1,h2⟩]
 have hr:row[r.toNat]? =some (row[r.toNat]'(by omega)):=QXq (by omega)
 simp[sX,e,dO,oW,f,hx,hr,vz]
theorem Ey(n:Nat)(ns:List Int)(xs:List D)(least most:Int)(hx:xs.length<=1000)(hl:0<=least)(hlm:least<=most):∀(L:Nat)(row:List D)(k:Int)(fuel:Nat),row.length=L->L<fuel->0<=k->row.Sublist xs->least<=row.length->
  ∃ys k',ys.Sublist xs/\least<=ys.length/\ys.length<=most/\0<=k'/\b7 (ev (pg.cf (n+3)) oV) (ex (pg.cf (n+3)) sX) fuel (someσ ns k xs least most row)=.next (someσ ns k' xs least most ys):=by
 intro L
 induction L with
 |zero=>
  intro row k fuel hL hf hk hs hr
  obtain⟨fuel,rfl⟩:∃f,fuel=f+1:=⟨fuel-1,by omega⟩
  have:¬least<row.length:=by omega
  exact⟨row,k,hs,hr,by omega,hk,by simp[b7,oV,this]⟩
 |succ L ih=>
  intro row k fuel hL hf hk hs hr
  obtain⟨fuel,rfl⟩:∃f,fuel=f+1:=⟨fuel-1,by omega⟩
  have hrl:=hs.length_le
  by_cases h1:least<row.length
  ·--the row is longer than the least
   have cont:∀k1:Int,0<=k1->∃ys k',ys.Sublist xs/\least<=ys.length/\ys.length<=most/\0<=k'/\
     (ex (pg.cf (n+3)) sX (someσ ns k1 xs least most row)).turn (b7 (ev (pg.cf (n+3)) oV) (ex (pg.cf (n+3)) sX) fuel)=.next (someσ ns k' xs least most ys):=fun k1 hk1=>by
    obtain⟨j,hj,e⟩:=HS n ns k1 hk1 xs row least most (by omega) (by omega)
    have el:(row.eraseIdx j).length=L:=by rw[List.length_eraseIdx_of_lt hj];omega
    obtain⟨ys,k',a1,a2,a3,a4,a5⟩:=ih (row.eraseIdx j) (k1+1) fuel el (by omega) (by omega) ((List.eraseIdx_sublist row j).trans hs) (by omega)
    exact⟨ys,k',a1,a2,a3,a4,by rw[e];exact a5⟩
   by_cases h2:most<row.length
   ·obtain⟨ys,k',a1,a2,a3,a4,a5⟩:=cont k hk
    refine⟨ys,k',a1,a2,a3,a4,?_⟩
    rw[<-a5]
    simp[b7,oV,h1,h2]
   ·obtain⟨r,b1,b2,e⟩:=bA n ns k 2 hk (by omega)
    by_cases h3:r=1
    ·subst h3
     obtain⟨ys,k',a1,a2,a3,a4,a5⟩:=cont (k+1) (by omega)
     refine⟨ys,k',a1,a2,a3,a4,?_⟩
     rw[<-a5]
     simp[b7,oV,h1,h2,e]
    ·exact⟨row,k+1,hs,by omega,by omega,by omega,by simp[b7,oV,h1,h2,e,h3]⟩
  ·exact⟨row,k,hs,by omega,by omega,hk,by simp[b7,oV,h1]⟩
theorem BJ(n:Nat)(ns:List Int)(k:Int)(hk:0<=k)(xs:List D)(least most:Int)(hx:xs.length<=900)(hl:0<=least)(hlm:least<=most)(hxl:least<=xs.length):
  ∃ys k',ys.Sublist xs/\least<=ys.length/\ys.length<=most/\0<=k'/\
   pg.fn (n+4) 36 [.val (sc ns),.bor (.lst [.int k]),.val (.tup xs),.val (.int least),.val (.int most)]=.ok (.val (.tup ys)) [.val (sc ns),.bor (.lst [.int k']),.val (.tup xs),.val (.int least),.val (.int most)]:=by
 obtain⟨ys,k',a1,a2,a3,a4,a5⟩:=Ey n ns xs least most (by omega) hl hlm xs.length xs k 1000 rfl (by omega) hk (List.Sublist.refl _) hxl
 refine⟨ys,k',a1,a2,a3,a4,?_⟩
 rw[zF]
 have hb:lD.body=.cons (.set 5 ACe) (.cons (.while_ oV sX) (.cons (.ret ACY) .nil)):=rfl
 rw[hb]
 simp[a5]
end Tx
end
section
open PySem Mini
namespace Tx
def rO(s:Sl):Prop:=s=.un\/∃d,s=.val d
variable{s:Sl}
theorem jx(h:rO s)(d:D)(r:Ev):bD (.name 0) d (s::r)=some (.val d::r):=by
 rcases h with rfl|⟨e,rfl⟩<;>simp[bD]
def mL:E:=ACS
theorem v6(n:Nat)(ns:List Int)(k:Int)(hk:0<=k)(d:D)(rest:Ev):∃b:Bool,ev (pg.cf (n+3)) mL (.val d:: .val (sc ns):: .bor (.lst [.int k])::rest)=.ok (.val (.bl b)) (.val d:: .val (sc ns):: .bor (.lst [.int (k+1)])::rest):=by
 obtain⟨r,h1,h2,e⟩:=bA n ns k 2 hk (by omega)
 exact⟨r==1,by simp[mL,e]⟩
theorem Lk(n:Nat)(ns:List Int)(rest:Ev):∀(xs acc:List D)(k:Int)(s:Sl),0<=k->rO s->∃bs k' s',bs.length=xs.length/\0<=k'/\rO s'/\
  aU (.name 0) (ev (pg.cf (n+3)) mL) (ev (pg.cf (n+3)) (.var 0)) xs acc (s:: .val (sc ns):: .bor (.lst [.int k])::rest)=.ok (acc++kE bs xs) (s':: .val (sc ns):: .bor (.lst [.int k'])::rest)
 |[]=>fun acc k s hk hs=>⟨[],k,s,rfl,hk,hs,by simp[aU,kE]⟩
 |x::xs=>fun acc k s hk hs=>by
  obtain⟨b,e⟩:=v6 n ns k hk x rest
  cases b with
  |true=>
   obtain⟨bs,k',s',a1,a2,a3,a4⟩:=Lk n ns rest xs (acc++[x]) (k+1) (.val x) (by omega) (.inr ⟨x,rfl⟩)
   refine⟨true::bs,k',s',by simp[a1],a2,a3,?_⟩
   rw[aU,jx hs]
   simp only[e,dW,if_true]
   have e0:ev (pg.cf (n+3)) (.var 0) (.val x:: .val (sc ns):: .bor (.lst [.int (k+1)])::rest)=.ok (.val x) (.val x:: .val (sc ns):: .bor (.lst [.int (k+1)])::rest):=by simp
   rw[e0,bQ,a4]
   simp[kE]
  |false=>
   obtain⟨bs,k',s',a1,a2,a3,a4⟩:=Lk n ns rest xs acc (k+1) (.val x) (by omega) (.inr ⟨x,rfl⟩)
   refine⟨false::bs,k',s',by simp[a1],a2,a3,?_⟩
   rw[aU,jx hs]
   simp only[e,dW,Qxq,if_false]
   rw[a4]
   simp[kE]
def Rc(b:Bool):E:=(.comp 1 (.name 0) (.var 4) AAL (.op .add (.var 0) (.tup (.cons (.con (.bl b)) .nil))))
def vd:S:=(.cons (.set 4 (.op .add (Rc false) (Rc true))) .nil)
theorem Mm(c:Cf)(b:Bool)(rest:Ev):∀(rs:List (List Bool))(acc:List D)(s:Sl),rO s->(∀r∈rs,r.length<=1000)->∃s',rO s'/\
  aU (.name 0) (ev c AAL) (ev c (.op .add (.var 0) (.tup (.cons (.con (.bl b)) .nil)))) (rs.map aF) acc (s::rest)=.ok (acc++(rs.map (· ++[b])).map aF) (s'::rest)
 |[]=>fun acc s hs _=>⟨s,hs,by simp[aU]⟩
 |r::rs=>fun acc s hs hl=>by
  obtain⟨s',a1,a2⟩:=Mm c b rest rs (acc++[aF (r++[b])]) (.val (aF r)) (.inr ⟨_,rfl⟩) fun q hq=>hl q (QYq _ hq)
  have h1:=hl r QYz
  refine⟨s',a1,?_⟩
  rw[Qyz,aU,jx hs]
  have e0:ev c (.op .add (.var 0) (.tup (.cons (.con (.bl b)) .nil))) (.val (aF r)::rest)=.ok (.val (aF (r++[b]))) (.val (aF r)::rest):=by
   have f:fits (r.length+1)=true:=by simp[fits];omega
   simp[aV,aF,f]
  have e1:ev c AAL (.val (aF r)::rest)=.ok (.val (.bl true)) (.val (aF r)::rest):=by simp
  simp only[e1,dW,if_true]
  rw[e0,bQ,a2]
  simp
theorem Mp(c:Cf)(b:Bool)(rs:List (List Bool))(hl:∀r∈rs,r.length<=1000)(hs:s=.own (.lst (rs.map aF))\/s=.val (.lst (rs.map aF)))(s0 s1 s2 s3 s5:Sl):ev c (Rc b) [s0,s1,s2,s3,s,s5]=.ok (.new (.lst ((rs.map (· ++[b])).map aF))) [s0,s1,s2,s3,.val (.lst (rs.map aF)),s5]:=by
 obtain⟨s',_,a⟩:=Mm c b [s0,s1,s2,s3,.val (.lst (rs.map aF)),s5] rs [] .un (.inl rfl) hl
 have h:ev c (.var 4) [s0,s1,s2,s3,s,s5]=.ok (.val (.lst (rs.map aF))) [s0,s1,s2,s3,.val (.lst (rs.map aF)),s5]:=by
  rcases hs with rfl|rfl<;>simp
 unfold Rc
 rw[lU,h,bQ]
 simp only[items]
 rw[show List.replicate 1 Sl.un++[s0,s1,s2,s3,.val (.lst (rs.map aF)),s5]=Sl.un::[s0,s1,s2,s3,.val (.lst (rs.map aF)),s5]from rfl,a]
 simp
theorem Fo(c:Cf)(rs:List (List Bool))(hl:∀r∈rs,r.length<=1000)(hn:rs.length<=1000)(hs:s=.own (.lst (rs.map aF)))(s0 s1 s2 s3 s5:Sl):
  ex c vd [s0,s1,s2,s3,s,s5]=.next [s0,s1,s2,s3,.own (.lst ((rs.map (· ++[false])++rs.map (· ++[true])).map aF)),s5]:=by
 have f:fits (rs.length+rs.length)=true:=by simp[fits];omega
 unfold vd
 simp only[x_0,x_1,x_5,Zu]
 rw[Mp c false rs hl (.inl hs),j7]
 simp only[Le]
 rw[Mp c true rs hl (.inr rfl),j7]
 simp[f]
theorem tK(c:Cf)(s0 s1 s2 s3:Sl):∀(ys:List D)(k:Nat)(s5:Sl),rO s5->k+ys.length<=9->∃s5',rO s5'/\bj (.name 5) (ex c vd) ys [s0,s1,s2,s3,.own (.lst ((cZ k).map aF)),s5]=.next [s0,s1,s2,s3,.own (.lst ((cZ (k+ys.length)).map aF)),s5']
 |[]=>fun k s5 h5 _=>⟨s5,h5,by simp[bj]⟩
 |y::ys=>fun k s5 h5 hk=>by
  simp only[QBq]at hk
  obtain⟨s5',a1,a2⟩:=tK c s0 s1 s2 s3 ys (k+1) (.val y) (.inr ⟨y,rfl⟩) (by omega)
  refine⟨s5',a1,?_⟩
  have st:bD (.name 5) y [s0,s1,s2,s3,.own (.lst ((cZ k).map aF)),s5]=some [s0,s1,s2,s3,.own (.lst ((cZ k).map aF)),.val y]:=by
   rcases h5 with rfl|⟨e,rfl⟩<;>simp[bD]
  have lens:∀k,∀r∈cZ k,r.length=k:=by
   intro k
   induction k with
   |zero=>intro r hr;simp[cZ]at hr;subst hr;rfl
   |succ k ih=>
    intro r hr
    simp only[cZ,QXz,QDq]at hr
    rcases hr with ⟨q,hq,rfl⟩|⟨q,hq,rfl⟩<;>simp[ih q hq]
  have hn:(cZ k).length<=1000:=by
   rw[m7]
   have:2 ^k<=2 ^9:=Nat.pow_le_pow_right (by omega) (by omega)
   omega
  rw[bj,st]
  simp only
  rw[Fo c (cZ k) (fun r hr=>by rw[lens k r hr];omega) hn rfl,mZ]
  rw[show(cZ k).map (· ++[false])++(cZ k).map (· ++[true])=cZ (k+1)from rfl,a2]
  rw[show k+1+ys.length=k+(y::ys).length by simp;omega]
def pJ:E:=.comp 1 (.name 0) (.var 4) mL (.var 0)
theorem Av(n:Nat)(ns:List Int)(k:Int)(hk:0<=k)(zs:List D)(s2 s3 s5:Sl):∃bs k',bs.length=zs.length/\0<=k'/\
  ev (pg.cf (n+3)) pJ [.val (sc ns),.bor (.lst [.int k]),s2,s3,.own (.lst zs),s5]=.ok (.new (.lst (kE bs zs))) [.val (sc ns),.bor (.lst [.int k']),s2,s3,.val (.lst zs),s5]:=by
 obtain⟨bs,k',s',c1,c2,c3,c4⟩:=Lk n ns [s2,s3,.val (.lst zs),s5] zs [] k .un hk (.inl rfl)
 refine⟨bs,k',c1,c2,?_⟩
 have h:ev (pg.cf (n+3)) (.var 4) [.val (sc ns),.bor (.lst [.int k]),s2,s3,.own (.lst zs),s5]=.ok (.val (.lst zs)) [.val (sc ns),.bor (.lst [.int k]),s2,s3,.val (.lst zs),s5]:=by simp
 unfold pJ
 rw[lU,h,bQ]
 simp only[items]
 rw[show List.replicate 1 Sl.un++[.val (sc ns),.bor (.lst [.int k]),s2,s3,.val (.lst zs),s5]=Sl.un:: .val (sc ns):: .bor (.lst [.int k])::[s2,s3,.val (.lst zs),s5]from rfl,c4]
 simp
theorem HD(n:Nat)(ns:List Int)(k:Int)(hk:0<=k)(xs:List D)(hx:xs.length<=900)(h1:1<=xs.length):
  ∃ys rs k',ys.Sublist xs/\1<=ys.length/\ys.length<=3/\(∀r∈rs,r.length=ys.length)/\yj rs=true/\0<=k'/\
   pg.fn (n+5) 37 [.val (sc ns),.bor (.lst [.int k]),.val (.tup xs)]=.ok (.val (.tup [.str "table",.tup ys,.tup (rs.map aF)])) [.val (sc ns),.bor (.lst [.int k']),.val (.tup xs)]:=by
 obtain⟨ys,k1,a1,a2,a3,a4,a5⟩:=BJ n ns k hk xs 1 3 hx (by omega) (by omega) (by omega)
 obtain⟨s5,b1,b2⟩:=tK (pg.cf (n+4)) (.val (sc ns)) (.bor (.lst [.int k1])) (.val (.tup xs)) (.val (.tup ys)) ys 0 .un (.inl rfl) (by omega)
 obtain⟨bs,k2,c1,c2,c4⟩:=Av (n+1) ns k1 a4 ((cZ ys.length).map aF) (.val (.tup xs)) (.val (.tup ys)) s5
 rw[QAq,m7]at c1
 obtain⟨rs,d1,d2,d3⟩:=Ex ys.length (by omega) (by omega) bs c1
 refine⟨ys,rs,k2,a1,by omega,by omega,d2,d3,c2,?_⟩
 rw[xn]
 have hb:jL=⟨3,6,.cons ABn (.cons ACt (.cons (.for_ (.name 5) (.var 3) vd)
  (.cons (.ret (.tup (.cons (.con (.str "table")) (.cons (.var 3) (.cons (.bi .tuple (.bi .sorted pJ)) .nil))))) .nil)))⟩:=rfl
 rw[hb]
 have e1:([D.tup []]:List D)=(cZ 0).map aF:=rfl
 simp only[Nat.zero_add]at b2
 have e2:(cZ 0).length=1:=rfl
 have q:pJ.au=none:=rfl
 simp[a5,aV,items,e1,e2,b2,c4,d1,q]
end Tx
end
section
open PySem Mini
namespace Tx
inductive bI(xs:List D):Nat->D->Prop
 |same {n:Nat} {x:D}:x∈xs->bI xs n (.tup [.str "same",x])
 |not {n:Nat} {x:D}:x∈xs->bI xs n (.tup [.str "not",x])
 |and {n:Nat} {ys:List D}:ys.Sublist xs->2<=ys.length->ys.length<=3->bI xs n (.tup [.str "and",.tup ys])
 |or {n:Nat} {ys:List D}:ys.Sublist xs->2<=ys.length->ys.length<=3->bI xs n (.tup [.str "or",.tup ys])
 |both {n:Nat} {ys:List D}:ys.Sublist xs->2<=ys.length->ys.length<=3->bI xs n (.tup [.str "both",.tup ys])
 |table {n:Nat} {ys:List D} {rs:List (List Bool)}:ys.Sublist xs->1<=ys.length->ys.length<=3->(∀r∈rs,r.length=ys.length)->yj rs=true->bI xs n (.tup [.str "table",.tup ys,.tup (rs.map aF)])
 |held {n:Nat} {k x:D} {b:Bool}:bI xs n k->x∈xs->bI xs (n+1) (.tup [.str "held",k,x,.bl b])
theorem LR(xs:List D)(r:Int)(h1:0<=r)(h2:r<xs.length):∃d,at? xs r=some d/\d∈xs:=by
 unfold at? ix?
 rw[if_neg (Int.not_lt.mpr h1),if_pos ⟨h1,h2⟩]
 have:r.toNat<xs.length:=(Int.toNat_lt h1).mpr h2
 exact⟨xs[r.toNat],by simp[this],List.getElem_mem this⟩
theorem Qi(r:Int):r%2=0\/r%2=1:=by omega
theorem K1{r:Int}(h1:¬r<4)(h2:r<7):r-4=0\/r-4=1\/r-4=2:=by omega
theorem eight{r:Int}(h1:¬r<7)(h2:r<9)(h3:¬r=7):r=8:=by omega
theorem Xq(n:Nat):¬((n:Int)+1=0):=by omega
theorem ut(m:Nat)(ns:List Int)(xs:List D)(hx:xs.length<=900)(h1:1<=xs.length)(deep:Nat)
  (rec:∀dp,deep=dp+1->∀k:Int,0<=k->∃d k',bI xs dp d/\0<=k'/\pg.fn (m+5) 38 [.val (sc ns),.bor (.lst [.int k]),.val (.tup xs),.val (.int dp)]=.ok (.val d) [.val (sc ns),.bor (.lst [.int k']),.val (.tup xs),.val (.int dp)])
  (k:Int)(hk:0<=k):∃d k',bI xs deep d/\0<=k'/\
  pg.fn (m+6) 38 [.val (sc ns),.bor (.lst [.int k]),.val (.tup xs),.val (.int deep)]=.ok (.val d) [.val (sc ns),.bor (.lst [.int k']),.val (.tup xs),.val (.int deep)]:=by
 obtain⟨r,r1,r2,er⟩:=bA (m+2) ns k 9 hk (by decide)
 have hk1:=MK hk
 by_cases c1:r<4\/xs.length<2
 ·obtain⟨q,q1,q2,eq⟩:=bA (m+2) ns (k+1) xs.length hk1 (Int.ofNat_lt.mpr h1)
  obtain⟨x,ex,mx⟩:=LR xs q q1 q2
  obtain⟨w,ew,kw⟩:∃w,at? [.str "same",.str "not"] (r%2)=some (.str w)/\bI xs deep (.tup [.str w,x]):=by
   rcases Qi r with h|h<;>rw[h]
   ·exact⟨_,rfl,.same mx⟩
   ·exact⟨_,rfl,.not mx⟩
  refine⟨_,k+1+1,kw,MK hk1,?_⟩
  rw[il]
  by_cases c4:r<4
  ·simp[cR,er,c4,eq,ex,aV,ew]
  ·have c6:=c1.resolve_left c4
   have c5:(xs.length:Int)<2:=Int.ofNat_lt.mpr c6
   simp[cR,er,c4,c5,c6,eq,ex,aV,ew]
 ·have c2:¬r<4:=fun h=>c1 (.inl h)
  have c3':¬xs.length<2:=fun h=>c1 (.inr h)
  have c3:¬(xs.length:Int)<2:=fun h=>c3' (Int.ofNat_lt.mp h)
  by_cases c7:r<7
  ·obtain⟨ys,k',a1,a2,a3,a4,a5⟩:=BJ (m+1) ns (k+1) hk1 xs 2 3 hx (by decide) (by decide) (Int.not_lt.mp c3)
   have a2:2<=ys.length:=Int.ofNat_le.mp a2
   have a3:ys.length<=3:=Int.ofNat_le.mp a3
   obtain⟨w,ew,kw⟩:∃w,at? [.str "and",.str "or",.str "both"] (r-4)=some (.str w)/\bI xs deep (.tup [.str w,.tup ys]):=by
    rcases K1 c2 c7 with h|h|h<;>rw[h]
    ·exact⟨_,rfl,.and a1 a2 a3⟩
    ·exact⟨_,rfl,.or a1 a2 a3⟩
    ·exact⟨_,rfl,.both a1 a2 a3⟩
   exact⟨_,k',kw,a4,by rw[il];simp[cR,er,c2,c3,c3',c7,a5,aV,ew]⟩
  ·by_cases c8:r=7\/deep=0
   ·obtain⟨ys,rs,k',a1,a2,a3,a4,a5,a6,a7⟩:=HD m ns (k+1) hk1 xs hx h1
    refine⟨_,k',.table a1 a2 a3 a4 a5,a6,?_⟩
    rw[il]
    by_cases c9:r=7
    ·subst c9
     simp[cR,er,c3,c3',a7]
    ·have c10:deep=0:=c8.resolve_left c9
     subst c10
     have c9b:(r==7)=false:=beq_false_of_ne c9
     simp[cR,er,c2,c3,c3',c7,c9,c9b,a7]
   ·obtain⟨dp,rfl⟩:=Nat.exists_eq_succ_of_ne_zero (fun h=>c8 (.inr h))
    have c9:r=8:=eight c7 r2 fun h=>c8 (.inl h)
    subst c9
    obtain⟨d,k1,b1,b2,b3⟩:=rec dp rfl (k+1) hk1
    obtain⟨q,q1,q2,eq⟩:=bA (m+2) ns k1 xs.length b2 (Int.ofNat_lt.mpr h1)
    obtain⟨x,ex,mx⟩:=LR xs q q1 q2
    obtain⟨z,z1,z2,ez⟩:=bA (m+2) ns (k1+1) 2 (MK b2) (by decide)
    refine⟨_,k1+1+1,.held (b:=z==1) b1 mx,MK (MK b2),?_⟩
    rw[il]
    have e1:¬((dp:Int)+1=0):=Xq dp
    have e0:((dp:Int)+1==0)=false:=beq_false_of_ne e1
    have e2:(dp:Int)+1-1=dp:=Int.add_sub_cancel _ _
    simp[cR,er,c3,c3',e0,e1,e2,b3,eq,ex,ez,aV]
theorem afw(m deep:Nat):m+deep+1+5=m+6+deep:=by omega
theorem afv(m deep:Nat):m+6+(deep+1)=m+deep+1+6:=by omega
theorem vJ(ns:List Int)(xs:List D)(hx:xs.length<=900)(h1:1<=xs.length):∀(deep m:Nat)(k:Int),0<=k->∃d k',bI xs deep d/\0<=k'/\
  pg.fn (m+6+deep) 38 [.val (sc ns),.bor (.lst [.int k]),.val (.tup xs),.val (.int deep)]=.ok (.val d) [.val (sc ns),.bor (.lst [.int k']),.val (.tup xs),.val (.int deep)]
 |0=>fun m k hk=>ut m ns xs hx h1 0 (fun dp h=>nomatch h) k hk
 |deep+1=>fun m k hk=>by
  have:=ut (m+deep+1) ns xs hx h1 (deep+1) (fun dp h k hk=>by
   cases h
   have q:=vJ ns xs hx h1 deep m k hk
   rw[afw m deep]
   exact q) k hk
  rw[afv m deep]
  exact this
end Tx
end
section
open PySem Mini
namespace Tx
def De:E:=(.tup ABU)
theorem JT(n:Nat)(ns:List Int)(k:Int)(hk:0<=k)(xs:List D)(hx:xs.length<=900)(h1:1<=xs.length)(x:D)(s3 s4 s5 s6 s8:Sl):∃d k',bI xs 1 d/\0<=k'/\
  ev (pg.cf (n+7)) De [.val x,.val (sc ns),.bor (.lst [.int k]),s3,s4,s5,s6,.val (.tup xs),s8]=.ok (.val (.tup [x,d])) [.val x,.val (sc ns),.bor (.lst [.int k']),s3,s4,s5,s6,.val (.tup xs),s8]:=by
 obtain⟨d,k',a1,a2,a3⟩:=vJ ns xs hx h1 1 n k hk
 refine⟨d,k',a1,a2,?_⟩
 simp only[Int.natCast_one,show n+6+1=n+7 from rfl]at a3
 simp[De,a3,aV]
theorem xZ(n:Nat)(ns:List Int)(xs:List D)(hx:xs.length<=900)(h1:1<=xs.length)(s3 s4 s5 s6 s8:Sl):∀(row acc:List D)(k:Int)(s:Sl),0<=k->rO s->∃ks k' s',ks.length=row.length/\(∀d∈ks,bI xs 1 d)/\0<=k'/\rO s'/\
  aU (.name 0) (ev (pg.cf (n+7)) AAL) (ev (pg.cf (n+7)) De) row acc [s,.val (sc ns),.bor (.lst [.int k]),s3,s4,s5,s6,.val (.tup xs),s8]
   =.ok (acc++aC row ks) [s',.val (sc ns),.bor (.lst [.int k']),s3,s4,s5,s6,.val (.tup xs),s8]
 |[]=>fun acc k s hk hs=>⟨[],k,s,rfl,fun d h=>(by cases h),hk,hs,by simp[aU,aC]⟩
 |x::row=>fun acc k s hk hs=>by
  obtain⟨d,k1,a1,a2,a3⟩:=JT n ns k hk xs hx h1 x s3 s4 s5 s6 s8
  obtain⟨ks,k',s',b1,b2,b3,b4,b5⟩:=xZ n ns xs hx h1 s3 s4 s5 s6 s8 row (acc++[.tup [x,d]]) k1 (.val x) a2 (.inr ⟨x,rfl⟩)
  refine⟨d::ks,k',s',by simp[b1],fun e h=>?_,b3,b4,?_⟩
  ·rcases QCq.mp h with rfl|h
   ·exact a1
   ·exact b2 e h
  ·rw[aU,jx hs]
   have e1:∀σ,ev (pg.cf (n+7)) AAL σ=.ok (.val (.bl true)) σ:=fun σ=>by simp
   simp only[e1,dW,if_true]
   rw[a3,bQ,b5]
   simp[aC]
theorem qT(n:Nat)(ns:List Int)(rest:Ev):∀(xs acc:List D)(k:Int)(s:Sl),0<=k->rO s->∃(bs:List Bool)(k':Int)(s':Sl),bs.length=xs.length/\0<=k'/\rO s'/\
  aU (.name 0) (ev (pg.cf (n+3)) AAL) (ev (pg.cf (n+3)) mL) xs acc (s:: .val (sc ns):: .bor (.lst [.int k])::rest)=.ok (acc++bs.map .bl) (s':: .val (sc ns):: .bor (.lst [.int k'])::rest)
 |[]=>fun acc k s hk hs=>⟨[],k,s,rfl,hk,hs,by simp[aU]⟩
 |x::xs=>fun acc k s hk hs=>by
  obtain⟨b,e⟩:=v6 n ns k hk x rest
  obtain⟨bs,k',s',a1,a2,a3,a4⟩:=qT n ns rest xs (acc++[.bl b]) (k+1) (.val x) (MK hk) (.inr ⟨x,rfl⟩)
  refine⟨b::bs,k',s',by simp[a1],a2,a3,?_⟩
  rw[aU,jx hs]
  have e1:∀σ,ev (pg.cf (n+3)) AAL σ=.ok (.val (.bl true)) σ:=fun σ=>by simp
  simp only[e1,dW,if_true]
  rw[e,bQ,a4]
  simp
def Cv:E:=(.comp 1 (.name 0) (.var 5) AAL De)
def Dd:E:=(.comp 1 (.name 0) (.var 6) AAL mL)
def vB:S:=(.cons ACy (.cons (.set 7 (.bi .tuple Cv)) (.cons (.ret (.tup (.cons (.var 4) (.cons (.var 7) (.cons (.bi .tuple Dd) .nil))))) .nil)))
theorem JC(n:Nat)(ns:List Int)(k:Int)(hk:0<=k)(heard row:List D)(hx:heard.length+row.length<=900)(h1:1<=row.length)(s2 s3:Sl):∃(ks:List D)(ls:List Bool)(k':Int),ks.length=row.length/\(∀d∈ks,bI (heard++row) 1 d)/\ls.length=(heard++row).length/\0<=k'/\
  ex (pg.cf (n+7)) vB [.val (sc ns),.bor (.lst [.int k]),s2,s3,.val (.tup heard),.val (.tup row),.un,.un]
   =.ret (.val (.tup [.tup heard,.tup (aC row ks),.tup (ls.map .bl)])) [.val (sc ns),.bor (.lst [.int k']),s2,s3,.val (.tup heard),.val (.tup row),.val (.tup (heard++row)),.val (.tup (aC row ks))]:=by
 obtain⟨ks,k1,s',a1,a2,a3,a4,a5⟩:=xZ n ns (heard++row) (by simpa using hx) (by simp;omega) s2 s3 (.val (.tup heard)) (.val (.tup row)) .un row [] k .un hk (.inl rfl)
 obtain⟨ls,k',s'',b1,b2,b3,b4⟩:=qT (n+4) ns [s2,s3,.val (.tup heard),.val (.tup row),.val (.tup (heard++row)),.val (.tup (aC row ks))] (heard++row) [] k1 .un a3 (.inl rfl)
 refine⟨ks,ls,k',a1,a2,b1,b2,?_⟩
 have f:fits (heard.length+row.length)=true:=by simp[fits];omega
 have em:ev (pg.cf (n+7)) Cv [.val (sc ns),.bor (.lst [.int k]),s2,s3,.val (.tup heard),.val (.tup row),.val (.tup (heard++row)),.un]=.ok (.new (.lst (aC row ks))) [.val (sc ns),.bor (.lst [.int k1]),s2,s3,.val (.tup heard),.val (.tup row),.val (.tup (heard++row)),.un]:=by
  have h:ev (pg.cf (n+7)) (.var 5) [.val (sc ns),.bor (.lst [.int k]),s2,s3,.val (.tup heard),.val (.tup row),.val (.tup (heard++row)),.un]=.ok (.val (.tup row)) [.val (sc ns),.bor (.lst [.int k]),s2,s3,.val (.tup heard),.val (.tup row),.val (.tup (heard++row)),.un]:=by simp
  unfold Cv
  rw[lU,h,bQ]
  simp only[items]
  rw[show List.replicate 1 Sl.un++[.val (sc ns),.bor (.lst [.int k]),s2,s3,.val (.tup heard),.val (.tup row),.val (.tup (heard++row)),.un]=[.un,.val (sc ns),.bor (.lst [.int k]),s2,s3,.val (.tup heard),.val (.tup row),.val (.tup (heard++row)),.un]from rfl,a5]
  simp
 have el:ev (pg.cf (n+7)) Dd [.val (sc ns),.bor (.lst [.int k1]),s2,s3,.val (.tup heard),.val (.tup row),.val (.tup (heard++row)),.val (.tup (aC row ks))]=.ok (.new (.lst (ls.map .bl))) [.val (sc ns),.bor (.lst [.int k']),s2,s3,.val (.tup heard),.val (.tup row),.val (.tup (heard++row)),.val (.tup (aC row ks))]:=by
  have h:ev (pg.cf (n+7)) (.var 6) [.val (sc ns),.bor (.lst [.int k1]),s2,s3,.val (.tup heard),.val (.tup row),.val (.tup (heard++row)),.val (.tup (aC row ks))]=.ok (.val (.tup (heard++row))) [.val (sc ns),.bor (.lst [.int k1]),s2,s3,.val (.tup heard),.val (.tup row),.val (.tup (heard++row)),.val (.tup (aC row ks))]:=by simp
  unfold Dd
  rw[lU,h,bQ]
  simp only[items]
  rw[show List.replicate 1 Sl.un++[.val (sc ns),.bor (.lst [.int k1]),s2,s3,.val (.tup heard),.val (.tup row),.val (.tup (heard++row)),.val (.tup (aC row ks))]=.un:: .val (sc ns):: .bor (.lst [.int k1])::[s2,s3,.val (.tup heard),.val (.tup row),.val (.tup (heard++row)),.val (.tup (aC row ks))]from rfl,b4]
  simp
 have q1:Cv.au=none:=rfl
 have q2:Dd.au=none:=rfl
 simp[vB,f,em,el,q1,q2,aV]
def hd(h:Nat):List D:=([.str "a",.str "b",.str "come"]:List D).take h
def bZ(g:Nat):List D:=([.str "p",.str "q",.str "rr",.str "go",.str "abcdef"]:List D).take g
theorem gG{h:Nat}(h2:h<=2):(hd h).length=h:=List.length_take_of_le (Nat.le_succ_of_le h2)
theorem dM{g:Nat}(g4:g<=5):(bZ g).length=g:=List.length_take_of_le g4
def aO(h g:Nat)(ks:List D)(ls:List Bool):D:=.tup [.tup (hd h),.tup (aC (bZ g) ks),.tup (ls.map .bl)]
structure cA(h g:Nat)(ks:List D)(ls:List Bool):Prop where
 h2:h<=2
 g1:1<=g
 g5:g<=5
 kl:ks.length=g
 kk:∀d∈ks,bI (hd h++bZ g) 1 d
 ll:ls.length=h+g
theorem Wb{ni:Int}{h:Nat}(i2:ni<=2)(r2:(h:Int)<ni+1):h<=2:=by omega
theorem JD(n:Nat)(ns:List Int)(k:Int)(hk:0<=k)(ni:Int)(i0:0<=ni)(i2:ni<=2):∃h g ks ls k',cA h g ks ls/\0<=k'/\
  pg.fn (n+8) 39 [.val (sc ns),.bor (.lst [.int k]),.val (.int ni),.val (.int 4)]=.ok (.val (aO h g ks ls)) [.val (sc ns),.bor (.lst [.int k']),.val (.int ni),.val (.int 4)]:=by
 obtain⟨r,r1,r2,er⟩:=bA (n+4) ns k (ni+1) hk (Int.lt_add_one_of_le i0)
 obtain⟨q,q1,q2,eq⟩:=bA (n+4) ns (k+1) 4 (MK hk) (by decide)
 obtain⟨h,rfl⟩:=Int.eq_ofNat_of_zero_le r1
 obtain⟨g,rfl⟩:=Int.eq_ofNat_of_zero_le q1
 have h2:h<=2:=Wb i2 r2
 have g3:g<4:=Int.ofNat_lt.mp q2
 have g1:1<=1+g:=Nat.le_add_right 1 g
 have g5:1+g<=5:=Nat.add_le_add_left (Nat.le_of_lt g3) 1
 have lh:=gG h2
 have lg:=dM g5
 obtain⟨ks,ls,k',a1,a2,a3,a4,a5⟩:=JC n ns (k+1+1) (MK (MK hk)) (hd h) (bZ (1+g)) (by rw[lh,lg];exact Nat.le_trans (Nat.add_le_add h2 g5) (by decide)) (by rw[lg];exact g1) (.val (.int ni)) (.val (.int 4))
 refine⟨h,1+g,ks,ls,k',⟨h2,g1,g5,a1.trans lg,a2,by rw[a3,QTq,lh,lg]⟩,a4,?_⟩
 rw[Fq]
 have hb:oh=⟨4,8,(.cons AAn (.cons ACz vB))⟩:=rfl
 rw[hb]
 have c1:fQ (.tup [.str "a",.str "b",.str "come"]) none (some (h:Int))=some (.val (.tup (hd h))):=by
  rcases h with _|_|_|h
  ·rfl
  ·rfl
  ·rfl
  ·exact absurd h2 (by simp)
 have c2:fQ (.tup [.str "p",.str "q",.str "rr",.str "go",.str "abcdef"]) none (some (1+(g:Int)))=some (.val (.tup (bZ (1+g)))):=by
  rcases g with _|_|_|_|g
  ·rfl
  ·rfl
  ·rfl
  ·rfl
  ·exact absurd g3 (by simp)
 simp[er,eq,aV,cM,E.f9,c1,c2,a5,aO]
end Tx
end
section
open PySem Mini
namespace Tx
theorem aX(n:Nat)(xs:List D)(a b:Int)(h1:a<=xs.length)(h2:xs.length<=b):pg.fn (n+1) 3 [.val (.tup xs),.val (.int a),.val (.int b)]=.ok (.val (.bl true)) [.val (.tup xs),.val (.int a),.val (.int b)]:=by
 rw[zJ]
 simp[lG,h1,h2]
def Tw:E:=.bi .all ACd
theorem uz(n:Nat)(bs:List Bool)(m:Int)(h:m=bs.length):pg.fn (n+2) 7 [.val (aF bs),.val (.int m)]=.ok (.val (.bl true)) [.val (aF bs),.val (.int m)]:=by
 subst h
 have e:ev (pg.cf (n+1)) Tw [.val (aF bs),.val (.int bs.length)]=.ok (.val (.bl true)) [.val (aF bs),.val (.int bs.length)]:=by
  refine all1 (d:=aF bs) (xs:=bs.map .bl) (r:=.val (aF bs)) (by simp) rfl rfl fun x hx=>?_
  obtain⟨b,_,rfl⟩:=QDq.mp hx
  simp
 have t:pg.fn (n+1) 3 [.val (aF bs),.val (.int bs.length),.val (.int bs.length)]=.ok (.val (.bl true)) [.val (aF bs),.val (.int bs.length),.val (.int bs.length)]:=aX n (bs.map .bl) bs.length bs.length (by simp) (by simp)
 rw[Iz]
 have hb:rG=⟨2,2,(.cons (.ret (.and (.cons ACl (.cons Tw .nil)))) .nil)⟩:=rfl
 rw[hb]
 simp[t,e]
def cJ(xs:List D):Prop:=∀x∈xs,∃s,x=.str s
variable{xs:List D}
theorem j5(h:cJ xs):xs.all flat=true:=by
 rw[List.all_eq_true]
 intro x hx
 obtain⟨s,rfl⟩:=h x hx
 rfl
variable{x:D}
theorem gn(hx:x∈xs)(h:cJ xs):aK x xs=true:=by
 induction xs with
 |nil=>cases hx
 |cons y ys ih=>
  unfold aK
  rcases QCq.mp hx with rfl|hx
  ·obtain⟨s,rfl⟩:=h x QYz
   simp[bV]
  ·simp[ih hx fun z hz=>h z (QYq _ hz)]
theorem Aq(h:cJ xs)(nd:xs.Nodup)(hx:x∈xs):eO x xs=1:=by
 induction xs with
 |nil=>cases hx
 |cons y ys ih=>
  have hys:cJ ys:=fun z hz=>h z (QYq _ hz)
  obtain⟨s,rfl⟩:=h y QYz
  rw[List.nodup_cons]at nd
  have zero:∀{zs:List D},cJ zs->D.str s∉zs->eO (.str s) zs=0:=by
   intro zs
   induction zs with
   |nil=>intro _ _;rfl
   |cons z zs ihz=>
    intro hz hn
    obtain⟨q,rfl⟩:=hz z QYz
    have ne:q≠s:=fun e=>hn (by rw[e];exact QYz)
    simp[eO,bV,ne,ihz (fun w hw=>hz w (QYq _ hw)) fun hw=>hn (QYq _ hw)]
  rcases QCq.mp hx with rfl|hx
  ·simp[eO,bV,zero hys nd.1]
  ·obtain⟨q,rfl⟩:=hys x hx
   have ne:s≠q:=fun e=>nd.1 (by rw[e];exact hx)
   simp[eO,bV,ne,ih hys nd.2 hx]
theorem iD(n:Nat){d:D}(dd:d=.tup xs\/d=.lst xs)(h:cJ xs)(hx:x∈xs):pg.fn (n+1) 8 [.val x,.val d]=.ok (.val (.bl true)) [.val x,.val d]:=by
 obtain⟨s,rfl⟩:=h x hx
 rw[Fv]
 have o:gF (.str s) xs=true:=by
  unfold gF
  rw[j5 h]
  rfl
 have e:aG .isin (.str s) d=some true:=by
  rcases dd with rfl|rfl<;>(show(if gF (.str s) xs then some (aK (.str s) xs)else none)=_;rw[o,gn hx h];rfl)
 simp[oE,e]
def uW:E:=.bi .all ACH
theorem kW(n:Nat){d:D}(hd:d=.tup xs\/d=.lst xs)(h:cJ xs)(nd:xs.Nodup):pg.fn (n+1) 6 [.val d]=.ok (.val (.bl true)) [.val d]:=by
 have f:=j5 h
 have e:ev (pg.cf n) uW [.val d]=.ok (.val (.bl true)) [.val d]:=by
  refine all1 (d:=d) (xs:=xs) (r:=.val d) (by simp) rfl (by rcases hd with rfl|rfl<;>rfl) fun x hx=>?_
  have c:=Aq h nd hx
  obtain⟨s,rfl⟩:=h x hx
  have e1:v7 (.tup xs) (.str s)=some (.val (.int 1)):=by
   simp only[v7]
   rw[f,c]
   rfl
  have e2:v7 (.lst xs) (.str s)=some (.val (.int 1)):=e1
  rcases hd with rfl|rfl<;>simp[e1,e2]
 have hb:iV=⟨1,1,(.cons (.ret uW) .nil)⟩:=rfl
 rw[vm,hb]
 have q:uW.au=none:=rfl
 simp[e,q]
def nY:D->D
 |.tup (a::_)=>a
 |_=>.non
theorem uT:∀(gs ks:List D),ks.length=gs.length->(aC gs ks).map nY=gs
 |[],ks=>fun _=>by simp[aC]
 |g::gs,[]=>fun h=>by simp at h
 |g::gs,k::ks=>fun h=>by simp[aC,nY,uT gs ks (by simpa using h)]
def yr(it:E):E:=.comp 1 (.name 0) it AAL AAc
theorem qR{c:Cf}{σ:Ev}{it:E}(gs ks:List D)(hl:ks.length=gs.length)(hi:ev c it σ=.ok (.val (.tup (aC gs ks))) σ):ev c (yr it) σ=.ok (.new (.lst gs)) σ:=by
 have:=kO (el:=.idx (.var 0) AAH) nY hi rfl rfl fun y hy=>by
  rw[cT]at hy
  obtain⟨p,_,rfl⟩:=QDq.mp hy
  simp[pairD,nY]
 rw[uT gs ks hl]at this
 exact this
theorem eQ(n:Nat)(hs gs:List D)(ks:List D)(x:D)(hl:ks.length=gs.length)(hf:hs.length+gs.length<=1000):
  pg.fn (n+1) 13 [.val (.tup [.tup hs,.tup (aC gs ks),x])]=.ok (.new (.lst (hs++gs))) [.val (.tup [.tup hs,.tup (aC gs ks),x])]:=by
 have e:=qR (c:=pg.cf n) (it:=.idx (.var 0) AAG) (σ:=[.val (.tup [.tup hs,.tup (aC gs ks),x])]) gs ks hl (by simp)
 have f:fits (hs.length+gs.length)=true:=by simp[fits];omega
 have hb:iQ=⟨1,1,.cons (.ret (.op .add (.bi .list AAc) (yr AAb))) .nil⟩:=rfl
 rw[lY,hb]
 simp[e,f]
end Tx
end
section
open PySem Mini
namespace Tx
@[simp↓]theorem Rn:decide (Str.ofString "same"=Str.ofString "same")=true:=rfl
@[simp↓]theorem X7:decide (Str.ofString "not"=Str.ofString "not")=true:=rfl
@[simp↓]theorem Ye:decide (Str.ofString "and"=Str.ofString "and")=true:=rfl
@[simp↓]theorem acz:decide (Str.ofString "or"=Str.ofString "or")=true:=rfl
@[simp↓]theorem Rz:decide (Str.ofString "both"=Str.ofString "both")=true:=rfl
@[simp↓]theorem MJ:decide (Str.ofString "table"=Str.ofString "table")=true:=rfl
@[simp↓]theorem Ru:decide (Str.ofString "held"=Str.ofString "held")=true:=rfl
@[simp]theorem T3:decide (Str.ofString "same"=Str.ofString "not")=false:=rfl
@[simp]theorem T4:decide (Str.ofString "same"=Str.ofString "and")=false:=rfl
@[simp]theorem X3:decide (Str.ofString "same"=Str.ofString "or")=false:=rfl
@[simp]theorem Rq:decide (Str.ofString "same"=Str.ofString "both")=false:=rfl
@[simp]theorem Nf:decide (Str.ofString "same"=Str.ofString "table")=false:=rfl
@[simp]theorem Rp:decide (Str.ofString "same"=Str.ofString "held")=false:=rfl
@[simp]theorem T6:decide (Str.ofString "not"=Str.ofString "same")=false:=rfl
@[simp]theorem X8:decide (Str.ofString "not"=Str.ofString "and")=false:=rfl
@[simp]theorem Zq:decide (Str.ofString "not"=Str.ofString "or")=false:=rfl
@[simp]theorem T8:decide (Str.ofString "not"=Str.ofString "both")=false:=rfl
@[simp]theorem Rr:decide (Str.ofString "not"=Str.ofString "table")=false:=rfl
@[simp]theorem T7:decide (Str.ofString "not"=Str.ofString "held")=false:=rfl
@[simp]theorem Ud:decide (Str.ofString "and"=Str.ofString "same")=false:=rfl
@[simp]theorem Yd:decide (Str.ofString "and"=Str.ofString "not")=false:=rfl
@[simp]theorem Zr:decide (Str.ofString "and"=Str.ofString "or")=false:=rfl
@[simp]theorem Ug:decide (Str.ofString "and"=Str.ofString "both")=false:=rfl
@[simp]theorem RB:decide (Str.ofString "and"=Str.ofString "table")=false:=rfl
@[simp]theorem Ue:decide (Str.ofString "and"=Str.ofString "held")=false:=rfl
@[simp]theorem X4:decide (Str.ofString "or"=Str.ofString "same")=false:=rfl
@[simp]theorem Zn:decide (Str.ofString "or"=Str.ofString "not")=false:=rfl
@[simp]theorem Zo:decide (Str.ofString "or"=Str.ofString "and")=false:=rfl
@[simp]theorem X6:decide (Str.ofString "or"=Str.ofString "both")=false:=rfl
@[simp]theorem T5:decide (Str.ofString "or"=Str.ofString "table")=false:=rfl
@[simp]theorem X5:decide (Str.ofString "or"=Str.ofString "held")=false:=rfl
@[simp]theorem Rx:decide (Str.ofString "both"=Str.ofString "same")=false:=rfl
@[simp]theorem Ub:decide (Str.ofString "both"=Str.ofString "not")=false:=rfl
@[simp]theorem Uc:decide (Str.ofString "both"=Str.ofString "and")=false:=rfl
@[simp]theorem Yc:decide (Str.ofString "both"=Str.ofString "or")=false:=rfl
@[simp]theorem Nh:decide (Str.ofString "both"=Str.ofString "table")=false:=rfl
@[simp]theorem Ry:decide (Str.ofString "both"=Str.ofString "held")=false:=rfl
@[simp]theorem M8:decide (Str.ofString "table"=Str.ofString "same")=false:=rfl
@[simp]theorem Rk:decide (Str.ofString "table"=Str.ofString "not")=false:=rfl
@[simp]theorem Rm:decide (Str.ofString "table"=Str.ofString "and")=false:=rfl
@[simp]theorem TY:decide (Str.ofString "table"=Str.ofString "or")=false:=rfl
@[simp]theorem Nb:decide (Str.ofString "table"=Str.ofString "both")=false:=rfl
@[simp]theorem M9:decide (Str.ofString "table"=Str.ofString "held")=false:=rfl
@[simp]theorem Rt:decide (Str.ofString "held"=Str.ofString "same")=false:=rfl
@[simp]theorem T9:decide (Str.ofString "held"=Str.ofString "not")=false:=rfl
@[simp]theorem Ua:decide (Str.ofString "held"=Str.ofString "and")=false:=rfl
@[simp]theorem Yb:decide (Str.ofString "held"=Str.ofString "or")=false:=rfl
@[simp]theorem Rw:decide (Str.ofString "held"=Str.ofString "both")=false:=rfl
@[simp]theorem Ng:decide (Str.ofString "held"=Str.ofString "table")=false:=rfl
@[simp]theorem Td:aG .isin (.str "same") (.tup [.str "same",.str "not"])=some true:=rfl
@[simp]theorem Wz:aG .isin (.str "not") (.tup [.str "same",.str "not"])=some true:=rfl
@[simp]theorem WK:aG .isin (.str "and") (.tup [.str "same",.str "not"])=some false:=rfl
@[simp]theorem YG:aG .isin (.str "or") (.tup [.str "same",.str "not"])=some false:=rfl
@[simp]theorem Tf:aG .isin (.str "both") (.tup [.str "same",.str "not"])=some false:=rfl
@[simp]theorem Qq:aG .isin (.str "table") (.tup [.str "same",.str "not"])=some false:=rfl
@[simp]theorem Te:aG .isin (.str "held") (.tup [.str "same",.str "not"])=some false:=rfl
@[simp]theorem Wy:aG .isin (.str "same") (.tup [.str "and",.str "or"])=some false:=rfl
@[simp]theorem YH:aG .isin (.str "not") (.tup [.str "and",.str "or"])=some false:=rfl
@[simp]theorem YJ:aG .isin (.str "and") (.tup [.str "and",.str "or"])=some true:=rfl
@[simp]theorem abC:aG .isin (.str "or") (.tup [.str "and",.str "or"])=some true:=rfl
@[simp]theorem WF:aG .isin (.str "both") (.tup [.str "and",.str "or"])=some false:=rfl
@[simp]theorem Tc:aG .isin (.str "table") (.tup [.str "and",.str "or"])=some false:=rfl
@[simp]theorem WD:aG .isin (.str "held") (.tup [.str "and",.str "or"])=some false:=rfl
theorem gl5:pg.gl 5=some (.int 4):=rfl
theorem gl6:pg.gl 6=some (.int 8):=rfl
theorem gl7:pg.gl 7=some (.int 3):=rfl
def Hj:E:=.bi .all ACQ
theorem cX(n:Nat){xs ys:List D}{d:D}(dd:d=.tup xs\/d=.lst xs)(h:cJ xs)(nd:xs.Nodup)(hs:ys.Sublist xs)(a b:Int)(h1:a<=ys.length)(h2:ys.length<=b):
  pg.fn (n+2) 9 [.val (.tup ys),.val d,.val (.int a),.val (.int b)]=.ok (.val (.bl true)) [.val (.tup ys),.val d,.val (.int a),.val (.int b)]:=by
 have hy:cJ ys:=fun z hz=>h z (hs.subset hz)
 have e:ev (pg.cf (n+1)) Hj [.val (.tup ys),.val d,.val (.int a),.val (.int b)]=.ok (.val (.bl true)) [.val (.tup ys),.val d,.val (.int a),.val (.int b)]:=by
  refine all1 (d:=.tup ys) (xs:=ys) (r:=.val (.tup ys)) (by simp) rfl rfl fun x hx=>?_
  have w:=iD n dd h (hs.subset hx)
  simp[w]
 have u:=kW n (.inl rfl) hy (hs.nodup nd)
 have t:=aX n ys a b h1 h2
 have hb:jQ=⟨4,4,(.cons (.ite ACa AAP .nil) (.cons (.ret (.and (.cons Hj (.cons (.call 6 AAT) .nil)))) .nil))⟩:=rfl
 rw[xG,hb]
 simp[t,e,u]
theorem af0(xs:List D):cut xs (some 1) none=xs.tail:=by
 cases xs with
 |nil=>rfl
 |cons x xs=>
  have:clip (xs.length+1) 1=1:=by simp[clip];omega
  simp[cut,this]
theorem uA:∀(rs:List (List Bool)),yj rs=true->∀p∈rs.zip rs.tail,jg p.1 p.2=true
 |[]=>fun _ p h=>by simp at h
 |[a]=>fun _ p h=>by simp at h
 |a::b::r=>fun hi p h=>by
  simp only[yj,QUq]at hi
  simp only[List.tail_cons,List.zip_cons_cons,QCq]at h
  rcases h with rfl|h
  ·exact hi.1
  ·exact uA (b::r) hi.2 p (by simpa using h)
def RQ:E:=.bi .all ACR
def upC:E:=.bi .all ABa
theorem yN(n:Nat)(rs:List (List Bool))(m:Nat)(h:∀r∈rs,r.length=m)(hi:yj rs=true):
  pg.fn (n+3) 10 [.val (.tup (rs.map aF)),.val (.int m)]=.ok (.val (.bl true)) [.val (.tup (rs.map aF)),.val (.int m)]:=by
 have e1:ev (pg.cf (n+2)) RQ [.val (.tup (rs.map aF)),.val (.int m)]=.ok (.val (.bl true)) [.val (.tup (rs.map aF)),.val (.int m)]:=by
  refine all1 (d:=.tup (rs.map aF)) (xs:=rs.map aF) (r:=.val (.tup (rs.map aF))) (by simp) rfl rfl fun x hx=>?_
  obtain⟨r,hr,rfl⟩:=QDq.mp hx
  have w:=uz n r m (by rw[h r hr])
  simp[w]
 have e2:ev (pg.cf (n+2)) upC [.val (.tup (rs.map aF)),.val (.int m)]=.ok (.val (.bl true)) [.val (.tup (rs.map aF)),.val (.int m)]:=by
  have hz:aC (rs.map aF) (rs.map aF).tail=((rs.zip rs.tail).map fun p=>(aF p.1,aF p.2)).map pairD:=by
   rw[cT,<-List.map_tail,List.zip_map]
   rfl
  refine all2 (d:=.lst (aC (rs.map aF) (rs.map aF).tail)) (ps:=(rs.zip rs.tail).map fun p=>(aF p.1,aF p.2)) (r:=.val (.lst (aC (rs.map aF) (rs.map aF).tail))) ?_ rfl (by show some _=some _;rw[hz]) fun x hx=>?_
  ·simp[cM,E.f9,fQ,af0]
  ·obtain⟨p,hp,rfl⟩:=QDq.mp hx
   have l:=uA rs hi p hp
   have lt:aG .lt (aF p.1) (aF p.2)=some true:=by
    simp[aG,ltD,aF,jH,l]
   simp[lt]
 have hb:lK=⟨2,2,(.cons (.ite (.or (.cons (.not ADH) (.cons (.not RQ) .nil))) AAP .nil) (.cons (.ret upC) .nil))⟩:=rfl
 have q:upC.au=none:=rfl
 rw[zM,hb]
 simp[e1,e2,q]
theorem Gu(n k:Nat):n+4+2*k=n+2+2*k+1+1:=by omega
theorem Qn(n k:Nat):n+1+2*k+2=n+2+2*k+1:=by omega
theorem afu(n k:Nat):n+2*k+3=n+2+2*k+1:=by omega
theorem aft(n k:Nat):n+3+2*k+1=n+4+2*k:=by omega
theorem afs(n k:Nat):n+4+2*(k+1)=n+4+2*k+1+1:=by omega
theorem CV{a:Nat}{c d:Nat}(h1:c<=a)(h2:d<=c):(d:Int)<=a:=Int.ofNat_le.mpr (Nat.le_trans h2 h1)
theorem CW{a:Nat}{c d:Nat}(h1:a<=c)(h2:c<=d):(a:Int)<=d:=Int.ofNat_le.mpr (Nat.le_trans h1 h2)
theorem z8{xs:List D}(h:cJ xs)(nd:xs.Nodup):∀{k:Nat}{d:D},bI xs k d->∀(n:Nat)(dp:Int),dp+k<=3->
  pg.fn (n+4+2*k) 11 [.val d,.val (.lst xs),.val (.int dp)]=.ok (.val (.bl true)) [.val d,.val (.lst xs),.val (.int dp)]:=by
 intro k d hk
 induction hk with
 | @same k x hx=>
  intro n dp _
  have t:=aX (n+2+2*k) [.str "same",x] 2 4 (by simp) (by simp)
  have w:=iD (n+2+2*k) (.inr rfl) h hx
  rw[Gu,eE]
  simp[cW,t,w,aV]
 | @not k x hx=>
  intro n dp _
  have t:=aX (n+2+2*k) [.str "not",x] 2 4 (by simp) (by simp)
  have w:=iD (n+2+2*k) (.inr rfl) h hx
  rw[Gu,eE]
  simp[cW,t,w,aV]
 | @and k ys hs h1 h2=>
  intro n dp _
  have t:=aX (n+2+2*k) [.str "and",.tup ys] 2 4 (by simp) (by simp)
  have w:=cX (n+1+2*k) (.inr rfl) h nd hs 1 4 (CV h1 (by decide)) (CW h2 (by decide))
  rw[Qn]at w
  rw[Gu,eE]
  simp[cW,t,w,aV,gl5]
 | @or k ys hs h1 h2=>
  intro n dp _
  have t:=aX (n+2+2*k) [.str "or",.tup ys] 2 4 (by simp) (by simp)
  have w:=cX (n+1+2*k) (.inr rfl) h nd hs 1 4 (CV h1 (by decide)) (CW h2 (by decide))
  rw[Qn]at w
  rw[Gu,eE]
  simp[cW,t,w,aV,gl5]
 | @both k ys hs h1 h2=>
  intro n dp _
  have t:=aX (n+2+2*k) [.str "both",.tup ys] 2 4 (by simp) (by simp)
  have w:=cX (n+1+2*k) (.inr rfl) h nd hs 2 4 (CV h1 (by decide)) (CW h2 (by decide))
  rw[Qn]at w
  rw[Gu,eE]
  simp[cW,t,w,aV,gl5]
 | @table k ys rs hs h1 h2 hr hi=>
  intro n dp _
  have t:=aX (n+2+2*k) [.str "table",.tup ys,.tup (rs.map aF)] 2 4 (by simp) (by simp)
  have w:=cX (n+1+2*k) (.inr rfl) h nd hs 1 8 (CV h1 (by decide)) (CW h2 (by decide))
  rw[Qn]at w
  have z:=yN (n+2*k) rs ys.length hr hi
  rw[afu]at z
  rw[Gu,eE]
  simp[cW,t,w,z,aV,gl6]
 | @held k d x b hk hx ih=>
  intro n dp hd
  have t:=aX (n+4+2*k) [.str "held",d,x,.bl b] 2 4 (by simp) (by simp)
  have i:=ih n (dp+1) (by omega)
  have w:=iD (n+3+2*k) (.inr rfl) h hx
  rw[aft]at w
  have hl:pg.fn (n+4+2*k+1) 12 [.val (.tup [.str "held",d,x,.bl b]),.val (.lst xs),.val (.int (dp+1))]=.ok (.val (.bl true)) [.val (.tup [.str "held",d,x,.bl b]),.val (.lst xs),.val (.int (dp+1))]:=by
   rw[Fy]
   simp[oG,i,w]
  have lt:dp<3:=by omega
  rw[afs,eE]
  simp[cW,t,hl,aV,gl7,lt]
end Tx
end
section
open PySem Mini
namespace Tx
def Sh(h g:Nat):List Str:=(["a","b","come"]:List Str).take h++(["p","q","rr","go","abcdef"]:List Str).take g
def names(h g:Nat):List D:=hd h++bZ g
theorem mC(h g:Nat):names h g=(Sh h g).map .str:=by
 simp[names,Sh,hd,bZ,List.map_take]
theorem rW{ss:List Str}(h:ss.Nodup):(ss.map D.str).Nodup:=by
 induction ss with
 |nil=>simp
 |cons s ss ih=>
  rw[List.nodup_cons]at h
  rw[Qyz,List.nodup_cons]
  exact⟨fun z=>h.1 (by simpa using z),ih h.2⟩
variable{g h:Nat}
theorem names_nodup(h2:h<=2)(g1:1<=g)(g4:g<=5):(names h g).Nodup:=by
 rw[mC]
 refine rW ?_
 exact((List.take_sublist h _).append (List.take_sublist g _)).nodup (by decide)
theorem bR(h g:Nat):cJ (names h g):=fun x hx=>by
 rw[mC]at hx
 obtain⟨s,_,rfl⟩:=QDq.mp hx
 exact⟨s,rfl⟩
theorem fL(h2:h<=2)(g4:g<=5):(names h g).length=h+g:=by
 rw[names,QTq,gG h2,dM g4]
theorem Qg(n:Nat)(s:Str)(hs:s∈Sh 3 5):pg.fn (n+1) 5 [.val (.str s)]=.ok (.val (.bl true)) [.val (.str s)]:=by
 have:Sh 3 5=(["a","b","come","p","q","rr","go","abcdef"]:List Str):=by rfl
 rw[this]at hs
 rw[Fx]
 simp only[QCq,QAz,or_false]at hs
 rcases hs with rfl|rfl|rfl|rfl|rfl|rfl|rfl|rfl<;>kernel_rfl
theorem Cq{s:Str}(hs:s∈Sh h g):s∈Sh 3 5:=by
 unfold Sh at*
 rw[QXz]at*
 rcases hs with hs|hs
 ·exact .inl (by have:=List.mem_of_mem_take hs;simpa using this)
 ·exact .inr (by have:=List.mem_of_mem_take hs;simpa using this)
theorem gl3:pg.gl 3=some (.int 3):=rfl
theorem gl4:pg.gl 4=some (.int 5):=rfl
def zP:E:=.bi .all (.comp 1 (.name 0) AAb AAL ABp)
theorem Bt{xs ys:List D}(h:ys.length=xs.length):(aC xs ys).length=xs.length:=by
 rw[cT];simp[h]
section
variable{h g:Nat}{ks:List D}{ls:List Bool}
def iw(h g:Nat)(ks:List D)(X:D):D:=.tup [.tup (hd h),.tup (aC (bZ g) ks),X]
theorem ym(n:Nat)(O:cA h g ks ls)(X:D):pg.fn (n+2) 2 [.val (iw h g ks X)]=.ok (.val (.bl true)) [.val (iw h g ks X)]:=by
 have lg:=dM O.g5
 have lh:=gG O.h2
 have lz:(aC (bZ g) ks).length=g:=by rw[Bt (by rw[lg,O.kl]),lg]
 have e:ev (pg.cf (n+1)) zP [.val (iw h g ks X)]=.ok (.val (.bl true)) [.val (iw h g ks X)]:=by
  refine all1 (d:=.tup (aC (bZ g) ks)) (xs:=aC (bZ g) ks) (r:=.val (.tup (aC (bZ g) ks))) (by simp[iw]) rfl rfl fun x hx=>?_
  rw[cT]at hx
  obtain⟨p,_,rfl⟩:=QDq.mp hx
  have t:=aX n [p.1,p.2] 2 2 (by simp) (by simp)
  simp[pairD,t]
 have t1:=aX n (hd h) 0 3 (by omega) (by have:=O.h2;omega)
 have t2:=aX n (aC (bZ g) ks) 1 5 (by have:=O.g1;omega) (by have:=O.g5;omega)
 have hb:jP=⟨1,1,(.cons (.ite AAv AAP .nil) (.cons (.ret zP) .nil))⟩:=rfl
 have q:zP.au=none:=rfl
 rw[xF,hb]
 simp only[iw]at*
 simp[t1,t2,gl3,gl4,e,q]
def Sq:E:=.bi .all ACm
def SN:E:=.bi .all ABs
theorem Kc(n:Nat)(O:cA h g ks ls)(X:D)(b:Bool)(t5:pg.fn (n+6) 7 [.val X,.val (.int (names h g).length)]=.ok (.val (.bl b)) [.val X,.val (.int (names h g).length)]):pg.fn (n+7) 1 [.val (iw h g ks X)]=.ok (.val (.bl b)) [.val (iw h g ks X)]:=by
 have lg:=dM O.g5
 have lh:=gG O.h2
 have T:=bR h g
 have Nd:=names_nodup O.h2 O.g1 O.g5
 have L:=fL (g:=g) O.h2 O.g5
 have t1:=aX (n+5) [.tup (hd h),.tup (aC (bZ g) ks),X] 3 3 (by simp) (by simp)
 have t2:=ym (n+4) O X
 have t3:=eQ (n+5) (hd h) (bZ g) ks X (by rw[O.kl,lg]) (by have:=O.h2;have:=O.g5;omega)
 have t4:=kW (n+5) (d:=.lst (names h g)) (.inr rfl) T Nd
 have e1:ev (pg.cf (n+6)) Sq [.val (iw h g ks X),.own (.lst (names h g))]=.ok (.val (.bl true)) [.val (iw h g ks X),.val (.lst (names h g))]:=by
  refine all1 (d:=.lst (names h g)) (xs:=names h g) (r:=.val (.lst (names h g))) (by simp) rfl rfl fun x hx=>?_
  rw[mC]at hx
  obtain⟨s,hs,rfl⟩:=QDq.mp hx
  have w:=Qg (n+5) s (Cq hs)
  simp[w]
 have e2:ev (pg.cf (n+6)) SN [.val (iw h g ks X),.val (.lst (names h g))]=.ok (.val (.bl true)) [.val (iw h g ks X),.val (.lst (names h g))]:=by
  refine all2 (d:=.tup (aC (bZ g) ks)) (ps:=(bZ g).zip ks) (r:=.val (.tup (aC (bZ g) ks))) (by simp[iw]) rfl (by show some _=some _;rw[cT]) fun x hx=>?_
  have hk:=O.kk x.2 (List.of_mem_zip hx).2
  have w:=z8 T Nd hk n 0 (by decide)
  rw[show n+4+2*1=n+6 from rfl]at w
  simp[w]
 have hb:rH=⟨1,2,(.cons (.ite ABS AAP .nil) (.cons (.set 1 (.call 13 AAT)) (.cons (.ite (.or (.cons (.not Sq) ADQ)) AAP .nil) (.cons (.ret (.and (.cons SN ACx))) .nil))))⟩:=rfl
 rw[IK,hb]
 have nn:hd h++bZ g=names h g:=rfl
 rw[nn]at t3
 have g2:getD (iw h g ks X) (.int 2)=some X:=by simp[iw]
 have t1':pg.fn (n+6) 3 [.val (iw h g ks X),.val (.int 3),.val (.int 3)]=.ok (.val (.bl true)) [.val (iw h g ks X),.val (.int 3),.val (.int 3)]:=t1
 have t3':pg.fn (n+6) 13 [.val (iw h g ks X)]=.ok (.new (.lst (names h g))) [.val (iw h g ks X)]:=t3
 simp[t1',t2,t3',e1,t4,e2,g2,t5]
theorem Gv(n:Nat)(O:cA h g ks ls):pg.fn (n+7) 1 [.val (aO h g ks ls)]=.ok (.val (.bl true)) [.val (aO h g ks ls)]:=
 Kc n O (aF ls) true (uz (n+4) ls (names h g).length (by rw[fL O.h2 O.g5,O.ll]))
theorem Ay(n:Nat)(O:cA h g ks ls):pg.fn (n+8) 0 [.val (aO h g ks ls)]=.ok (.val (aO h g ks ls)) [.val (aO h g ks ls)]:=by
 have t:=Gv n O
 rw[FJ]
 simp[oJ,t]
end
end Tx
end
section
open PySem Mini
namespace Tx
theorem goD(τ:Int->Ev){cond elt:Ev->Out Rv}(P:D->D->Prop)(all:Bool):∀(xs acc:List D)(k:Int)(s:Sl),0<=k->cL s->
  (∀x∈xs,∀k,0<=k->∃b k',0<=k'/\(all=true->b=true)/\cond (.val x::τ k)=.ok (.val (.bl b)) (.val x::τ k'))->
  (∀x∈xs,∀k,0<=k->∃y k',0<=k'/\P x y/\elt (.val x::τ k)=.ok (.val y) (.val x::τ k'))->
  ∃(zs:List (D×D))(k':Int)(s':Sl),(zs.map (·.1)).Sublist xs/\(all=true->zs.map (·.1)=xs)/\(∀p∈zs,P p.1 p.2)/\0<=k'/\aU (.name 0) cond elt xs acc (s::τ k)=.ok (acc++zs.map (·.2)) (s'::τ k')
 |[]=>fun acc k s hk _ _ _=>⟨[],k,s,List.Sublist.refl _,fun _=>rfl,fun p h=>(by cases h),hk,by simp[aU]⟩
 |x::xs=>fun acc k s hk hs hc he=>by
  obtain⟨b,k1,a1,a2,a3⟩:=hc x QYz k hk
  rw[aU,sY hs]
  simp only[a3,dW]
  cases b with
  |true=>
   obtain⟨y,k2,b1,b2,b3⟩:=he x QYz k1 a1
   obtain⟨zs,k',s',c1,c2,c3,c4,c5⟩:=goD τ (cond:=cond) (elt:=elt) P all xs (acc++[y]) k2 (.val x) b1 (.inr ⟨_,rfl⟩) (fun z hz=>hc z (QYq _ hz)) fun z hz=>he z (QYq _ hz)
   refine⟨(x,y)::zs,k',s',c1.cons_cons x,fun h=>by simp[c2 h],fun p hp=>?_,c4,?_⟩
   ·rcases QCq.mp hp with rfl|hp
    ·exact b2
    ·exact c3 p hp
   ·rw[if_pos rfl,b3,bQ,c5]
    simp
  |false=>
   obtain⟨zs,k',s',c1,c2,c3,c4,c5⟩:=goD τ (cond:=cond) (elt:=elt) P all xs acc k1 (.val x) a1 (.inr ⟨_,rfl⟩) (fun z hz=>hc z (QYq _ hz)) fun z hz=>he z (QYq _ hz)
   exact⟨zs,k',s',c1.cons x,fun h=>by simpa using a2 h,c3,c4,by rw[if_neg (by simp),c5]⟩
theorem Li{c:Cf}{σ:Ev}{it co el:E}{r:Rv}{d:D}{xs:List D}(τ:Int->Ev)(P:D->D->Prop)(all:Bool){k:Int}(hk:0<=k)(hi:ev c it σ=.ok r (τ k))(hr:r.jG=some d)(hd:items d=some xs)
  (hc:∀x∈xs,∀k,0<=k->∃b k',0<=k'/\(all=true->b=true)/\ev c co (.val x::τ k)=.ok (.val (.bl b)) (.val x::τ k'))
  (he:∀x∈xs,∀k,0<=k->∃y k',0<=k'/\P x y/\ev c el (.val x::τ k)=.ok (.val y) (.val x::τ k')):
  ∃(zs:List (D×D))(k':Int),(zs.map (·.1)).Sublist xs/\(all=true->zs.map (·.1)=xs)/\(∀p∈zs,P p.1 p.2)/\0<=k'/\ev c (.comp 1 (.name 0) it co el) σ=.ok (.new (.lst (zs.map (·.2)))) (τ k'):=by
 obtain⟨zs,k',s',a1,a2,a3,a4,a5⟩:=goD τ (cond:=ev c co) (elt:=ev c el) P all xs [] k .un hk (.inl rfl) hc he
 refine⟨zs,k',a1,a2,a3,a4,?_⟩
 rw[lU,hi]
 have b:∀{β:Type}(g:D->Ev->Out β),(Out.ok r (τ k)).ak g=g d (τ k):=fun g=>by cases r<;>simp[Rv.jG]at hr<;>subst hr<;>rfl
 rw[b]
 simp only[hd]
 rw[show List.replicate 1 Sl.un++τ k=.un::τ k from rfl,a5]
 simp
def nH(m:D×Nat):D:=.tup [m.1,.int m.2]
def dZ(st:List (D×Nat)):D:=.tup (st.map nH)
def aQ(os:List D)(sts:List (List (D×Nat))):D:=.tup [.tup os,.tup (sts.map dZ)]
structure bY(h g:Nat)(os:List D)(sts:List (List (D×Nat))):Prop where
 ou:os.Sublist (bZ g)
 s1:1<=sts.length
 s4:sts.length<=4
 mv:∀st∈sts,(st.map (·.1)).Sublist (hd h++os)/\∀m∈st,m.2<sts.length
def Pz:E:=.comp 1 (.name 0) AAh ABN AAc
def RN:E:=.comp 1 (.name 0) ACr mL (.var 0)
def V4:E:=(.tup ABb)
def V5:E:=.comp 1 (.name 0) (.var 8) AAL V4
def wK:S:=(.cons (.set 8 RN) (.cons (.append 6 (.bi .tuple V5)) .nil))
theorem Uy{zs:List (D×D)}{xs:List D}(h:(zs.map (·.1)).Sublist xs)(e:∀p∈zs,p.2=p.1):(zs.map (·.2)).Sublist xs:=by
 rw[show zs.map (·.2)=zs.map (·.1)from List.map_congr_left e];exact h
section
variable(n:Nat)(ns:List Int)(hs os gs:List D)(x:D)(s3 s5 s6 s7 s8:Sl)
theorem HW(k:Int)(hk:0<=k)(hl:hs.length+os.length<=900):∃(ys:List D)(k':Int),ys.Sublist (hs++os)/\0<=k'/\
  ev (pg.cf (n+3)) RN [.val (sc ns),.bor (.lst [.int k]),.val (.tup [.tup hs,.tup gs,x]),s3,.val (.tup os),s5,s6,s7,s8]=.ok (.new (.lst ys)) [.val (sc ns),.bor (.lst [.int k']),.val (.tup [.tup hs,.tup gs,x]),s3,.val (.tup os),s5,s6,s7,s8]:=by
 have f:fits (hs.length+os.length)=true:=by simp[fits];omega
 obtain⟨zs,k',a1,a2,a3,a4,a5⟩:=Li (c:=pg.cf (n+3)) (it:=ACr) (co:=mL) (el:=.var 0) (σ:=[.val (sc ns),.bor (.lst [.int k]),.val (.tup [.tup hs,.tup gs,x]),s3,.val (.tup os),s5,s6,s7,s8]) (k:=k) (fun k=>[.val (sc ns),.bor (.lst [.int k]),.val (.tup [.tup hs,.tup gs,x]),s3,.val (.tup os),s5,s6,s7,s8])
  (fun x y=>y=x) false hk (r:=.val (.tup (hs++os))) (d:=.tup (hs++os)) (xs:=hs++os) (by simp[f]) rfl rfl
  (fun x _ k hk=>by obtain⟨b,e⟩:=v6 n ns k hk x [.val (.tup [.tup hs,.tup gs,_]),s3,.val (.tup os),s5,s6,s7,s8];exact⟨b,k+1,by omega,by simp,e⟩) fun x _ k hk=>⟨x,k,hk,rfl,by simp⟩
 exact⟨_,k',Uy a1 a3,a4,a5⟩
theorem Qh(k:Int)(hk:0<=k)(ys:List D)(many:Nat)(h1:1<=many)(net:D)(s4:Sl):∃(st:List (D×Nat))(k':Int),st.map (·.1)=ys/\(∀m∈st,m.2<many)/\0<=k'/\
  ev (pg.cf (n+3)) V5 [.val (sc ns),.bor (.lst [.int k]),.val net,s3,s4,.val (.int many),s6,s7,.own (.lst ys)]=.ok (.new (.lst (st.map nH))) [.val (sc ns),.bor (.lst [.int k']),.val net,s3,s4,.val (.int many),s6,s7,.val (.lst ys)]:=by
 obtain⟨zs,k',a1,a2,a3,a4,a5⟩:=Li (c:=pg.cf (n+3)) (it:=.var 8) (co:=.con (.bl true)) (el:=V4) (σ:=[.val (sc ns),.bor (.lst [.int k]),.val net,s3,s4,.val (.int many),s6,s7,.own (.lst ys)]) (k:=k) (fun k=>[.val (sc ns),.bor (.lst [.int k]),.val net,s3,s4,.val (.int many),s6,s7,.val (.lst ys)])
  (fun x y=>∃j:Nat,j<many/\y=nH (x,j)) true hk (r:=.val (.lst ys)) (d:=.lst ys) (xs:=ys) (by simp) rfl rfl
  (fun x _ k hk=>⟨true,k,hk,fun _=>rfl,by simp⟩) fun x _ k hk=>by
   obtain⟨q,q1,q2,e⟩:=bA n ns k many hk (by omega)
   obtain⟨j,rfl⟩:∃j:Nat,q=j:=⟨q.toNat,by omega⟩
   exact⟨_,k+1,by omega,⟨j,by omega,rfl⟩,by simp[V4,e,aV,nH]⟩
 have pick:∀(zs:List (D×D)),(∀p∈zs,∃j:Nat,j<many/\p.2=nH (p.1,j))->∃st:List (D×Nat),st.map (·.1)=zs.map (·.1)/\(∀m∈st,m.2<many)/\st.map nH=zs.map (·.2):=by
  intro zs
  induction zs with
  |nil=>exact fun _=>⟨[],rfl,fun m h=>(by cases h),rfl⟩
  |cons z zs ih=>
   intro h
   obtain⟨j,j1,j2⟩:=h z QYz
   obtain⟨st,b1,b2,b3⟩:=ih fun p hp=>h p (QYq _ hp)
   refine⟨(z.1,j)::st,by simp[b1],fun m hm=>?_,by simp[b3,j2]⟩
   rcases QCq.mp hm with rfl|hm
   ·exact j1
   ·exact b2 m hm
 obtain⟨st,b1,b2,b3⟩:=pick zs a3
 exact⟨st,k',by rw[b1,a2 rfl],b2,a4,by rw[b3];exact a5⟩
theorem Er(k:Int)(hk:0<=k)(hl:hs.length+os.length<=900)(many:Nat)(h1:1<=many)(acc:List D)(ha:acc.length<=1000)(h8:cL s8):∃(st:List (D×Nat))(k':Int)(s':Sl),(st.map (·.1)).Sublist (hs++os)/\(∀m∈st,m.2<many)/\0<=k'/\cL s'/\
  ex (pg.cf (n+3)) wK [.val (sc ns),.bor (.lst [.int k]),.val (.tup [.tup hs,.tup gs,x]),s3,.val (.tup os),.val (.int many),.own (.lst acc),s7,s8]=.next [.val (sc ns),.bor (.lst [.int k']),.val (.tup [.tup hs,.tup gs,x]),s3,.val (.tup os),.val (.int many),.own (.lst (acc++[dZ st])),s7,s']:=by
 obtain⟨ys,k1,a1,a2,a3⟩:=HW n ns hs os gs x s3 (.val (.int many)) (.own (.lst acc)) s7 s8 k hk hl
 obtain⟨st,k',b1,b2,b3,b4⟩:=Qh n ns s3 (.own (.lst acc)) s7 k1 a2 ys many h1 (.tup [.tup hs,.tup gs,x]) (.val (.tup os))
 have f:fits (acc.length+1)=true:=by simp[fits];omega
 have q:V5.au=none:=rfl
 refine⟨st,k',.val (.lst ys),by rw[b1];exact a1,b2,b3,.inr ⟨_,rfl⟩,?_⟩
 rcases h8 with rfl|⟨e,rfl⟩<;>simp[wK,a3,b4,dO,vz,f,q,dZ]
theorem sU(hl:hs.length+os.length<=900)(many:Nat)(h1:1<=many):∀(xs:List D)(acc:List (List (D×Nat)))(k:Int)(s7 s8:Sl),0<=k->cL s7->cL s8->acc.length+xs.length<=1000->∃(sts:List (List (D×Nat)))(k':Int)(t7 t8:Sl),sts.length=xs.length/\(∀st∈sts,(st.map (·.1)).Sublist (hs++os)/\∀m∈st,m.2<many)/\0<=k'/\
  bj (.name 7) (ex (pg.cf (n+3)) wK) xs [.val (sc ns),.bor (.lst [.int k]),.val (.tup [.tup hs,.tup gs,x]),s3,.val (.tup os),.val (.int many),.own (.lst (acc.map dZ)),s7,s8]=.next [.val (sc ns),.bor (.lst [.int k']),.val (.tup [.tup hs,.tup gs,x]),s3,.val (.tup os),.val (.int many),.own (.lst ((acc++sts).map dZ)),t7,t8]
 |[]=>fun acc k s7 s8 hk _ _ _=>⟨[],k,s7,s8,rfl,fun st h=>(by cases h),hk,by simp[bj]⟩
 |y::xs=>fun acc k s7 s8 hk h7 h8 hx=>by
  simp only[QBq]at hx
  obtain⟨st,k1,s',a1,a2,a3,a4,a5⟩:=Er n ns hs os gs x s3 (.val y) s8 k hk hl many h1 (acc.map dZ) (by simp;omega) h8
  obtain⟨sts,k',t7,t8,b1,b2,b3,b4⟩:=sU hl many h1 xs (acc++[st]) k1 (.val y) s' a3 (.inr ⟨_,rfl⟩) a4 (by simp;omega)
  refine⟨st::sts,k',t7,t8,by simp[b1],fun q hq=>?_,b3,?_⟩
  ·rcases QCq.mp hq with rfl|hq
   ·exact⟨a1,a2⟩
   ·exact b2 q hq
  ·rw[bj]
   have st1:bD (.name 7) y [.val (sc ns),.bor (.lst [.int k]),.val (.tup [.tup hs,.tup gs,x]),s3,.val (.tup os),.val (.int many),.own (.lst (acc.map dZ)),s7,s8]=some [.val (sc ns),.bor (.lst [.int k]),.val (.tup [.tup hs,.tup gs,x]),s3,.val (.tup os),.val (.int many),.own (.lst (acc.map dZ)),.val y,s8]:=by
    rcases h7 with rfl|⟨e,rfl⟩<;>simp[bD]
   rw[st1]
   simp only
   rw[a5,mZ]
   rw[show acc.map dZ++[dZ st]=(acc++[st]).map dZ by simp,b4]
   simp
end
theorem nq:∀(m:Nat)(lo:Int),(aW lo m).length=m
 |0=>fun _=>rfl
 |m+1=>fun lo=>by simp[aW,nq m]
theorem Py(n:Nat)(ns:List Int)(k:Int)(hk:0<=k)(hs gs ks:List D)(x:D)(hl:ks.length=gs.length)(s3 s4 s5 s6 s7 s8:Sl):∃(os:List D)(k':Int),os.Sublist gs/\0<=k'/\
  ev (pg.cf (n+3)) Pz [.val (sc ns),.bor (.lst [.int k]),.val (.tup [.tup hs,.tup (aC gs ks),x]),s3,s4,s5,s6,s7,s8]=.ok (.new (.lst os)) [.val (sc ns),.bor (.lst [.int k']),.val (.tup [.tup hs,.tup (aC gs ks),x]),s3,s4,s5,s6,s7,s8]:=by
 obtain⟨zs,k',a1,a2,a3,a4,a5⟩:=Li (c:=pg.cf (n+3)) (it:=AAh) (co:=ABN) (el:=AAc) (σ:=[.val (sc ns),.bor (.lst [.int k]),.val (.tup [.tup hs,.tup (aC gs ks),x]),s3,s4,s5,s6,s7,s8]) (k:=k) (fun k=>[.val (sc ns),.bor (.lst [.int k]),.val (.tup [.tup hs,.tup (aC gs ks),x]),s3,s4,s5,s6,s7,s8])
  (fun x y=>y=nY x) false hk (r:=.val (.tup (aC gs ks))) (d:=.tup (aC gs ks)) (xs:=aC gs ks) (by simp) rfl rfl
  (fun x _ k hk=>by
   obtain⟨q,_,_,e⟩:=bA n ns k 3 hk (by omega)
   exact⟨decide (0<q),k+1,by omega,by simp,by simp[e]⟩) fun x hx k hk=>by
   rw[cT]at hx
   obtain⟨p,_,rfl⟩:=QDq.mp hx
   exact⟨_,k,hk,rfl,by simp[pairD,nY]⟩
 refine⟨_,k',?_,a4,a5⟩
 have:=a1.map nY
 rw[uT gs ks hl]at this
 rw[show zs.map (·.2)=(zs.map (·.1)).map nY by rw[List.map_map];exact List.map_congr_left a3]
 exact this
theorem Nv(n:Nat)(ns:List Int)(k:Int)(hk:0<=k){h g:Nat}{ks:List D}{ls:List Bool}(O:cA h g ks ls):∃os sts k',bY h g os sts/\0<=k'/\
  pg.fn (n+4) 40 [.val (sc ns),.bor (.lst [.int k]),.val (aO h g ks ls),.val (.int 4)]=.ok (.val (aQ os sts)) [.val (sc ns),.bor (.lst [.int k']),.val (aO h g ks ls),.val (.int 4)]:=by
 have lg:=dM O.g5
 have lh:=gG O.h2
 obtain⟨os,k1,a1,a2,a3⟩:=Py n ns k hk (hd h) (bZ g) ks (.tup (ls.map .bl)) (by rw[O.kl,lg]) (.val (.int 4)) .un .un .un .un .un
 obtain⟨q,q1,q2,eq⟩:=bA n ns k1 4 a2 (by omega)
 obtain⟨m,rfl⟩:∃m:Nat,q=m:=⟨q.toNat,by omega⟩
 have lo:=a1.length_le
 have:=O.h2
 have:=O.g5
 obtain⟨sts,k',t7,t8,b1,b2,b3,b4⟩:=sU n ns (hd h) os (aC (bZ g) ks) (.tup (ls.map .bl)) (.val (.int 4)) (by omega) (1+m) (by omega) (aW 0 (1+m)) [] (k1+1) .un .un (by omega) (.inl rfl) (.inl rfl) (by simp[nq];omega)
 rw[nq]at b1
 refine⟨os,sts,k',⟨a1,by omega,by omega,fun st hst=>?_⟩,b3,?_⟩
 ·rw[b1];exact b2 st hst
 ·have hb:lC=⟨4,9,.cons (.set 4 (.bi .tuple Pz)) (.cons (.set 5 AAo) (.cons (.set 6 ABY) (.cons (.for_ (.name 7) (.range1 (.var 5)) wK) ABv)))⟩:=rfl
  rw[zE,hb]
  have q0:Pz.au=none:=rfl
  have fm:fits (1+m)=true:=by simp[fits];omega
  have md:Cu (1+(m:Int))=true:=by simp[Cu];omega
  have tn:(1+(m:Int)).toNat=1+m:=by omega
  have b4':bj (.name 7) (ex (pg.cf (n+3)) wK) (aW 0 (1+m)) [.val (sc ns),.bor (.lst [.int (k1+1)]),.val (aO h g ks ls),.val (.int 4),.val (.tup os),.val (.int (1+(m:Int))),.own (.lst []),.un,.un]=.next [.val (sc ns),.bor (.lst [.int k']),.val (aO h g ks ls),.val (.int 4),.val (.tup os),.val (.int (1+(m:Int))),.own (.lst (sts.map dZ)),t7,t8]:=by simpa[aO]using b4
  have a3':ev (pg.cf (n+3)) Pz [.val (sc ns),.bor (.lst [.int k]),.val (aO h g ks ls),.val (.int 4),.un,.un,.un,.un,.un]=.ok (.new (.lst os)) [.val (sc ns),.bor (.lst [.int k1]),.val (aO h g ks ls),.val (.int 4),.un,.un,.un,.un,.un]:=a3
  simp[a3',q0,eq,aV,fm,md,tn,b4',items,aQ]
end Tx
end
section
open PySem Mini
namespace Tx
def Dc:E:=(.comp 1 (.name 0) (.var 2) AAL mL)
theorem JS(n:Nat)(ns:List Int)(k:Int)(hk:0<=k)(xs:List D)(s3 s4:Sl):∃(bs:List Bool)(k':Int),bs.length=xs.length/\0<=k'/\
  ev (pg.cf (n+3)) Dc [.val (sc ns),.bor (.lst [.int k]),.own (.lst xs),s3,s4]=.ok (.new (.lst (bs.map .bl))) [.val (sc ns),.bor (.lst [.int k']),.val (.lst xs),s3,s4]:=by
 obtain⟨bs,k',s',a1,a2,a3,a4⟩:=qT n ns [.val (.lst xs),s3,s4] xs [] k .un hk (.inl rfl)
 refine⟨bs,k',a1,a2,?_⟩
 have h:ev (pg.cf (n+3)) (.var 2) [.val (sc ns),.bor (.lst [.int k]),.own (.lst xs),s3,s4]=.ok (.val (.lst xs)) [.val (sc ns),.bor (.lst [.int k]),.val (.lst xs),s3,s4]:=by simp
 unfold Dc
 rw[lU,h,bQ]
 simp only[items]
 rw[show List.replicate 1 Sl.un++[.val (sc ns),.bor (.lst [.int k]),.val (.lst xs),s3,s4]=.un:: .val (sc ns):: .bor (.lst [.int k])::[.val (.lst xs),s3,s4]from rfl,a4]
 simp
def Im:S:=AAe
def rk(a b:String):D:=.tup [.str "held",.tup [.str "same",.str a],.str b,.bl false]
def tO:Nat->List D
 |3=>[rk "rr" "q",rk "p" "rr",rk "q" "p"]
 |4=>[rk "go" "q",rk "p" "rr",rk "q" "go",rk "rr" "p"]
 |_=>[rk "abcdef" "q",rk "p" "rr",rk "q" "go",rk "rr" "abcdef",rk "go" "p"]
theorem Fp(c:Cf)(s0 s1:Sl)(g:Nat)(hg:g=3\/g=4\/g=5):∃s4,bj (.name 4) (ex c Im) (aW 0 g) [s0,s1,.own (.lst (bZ g)),.own (.lst []),.un]=.next [s0,s1,.own (.lst (bZ g)),.own (.lst (aC (bZ g) (tO g))),s4]:=by
 refine⟨.val (.int (g-1)),?_⟩
 rcases hg with rfl|rfl|rfl
 all_goals
  simp[Im,bj,aW,bD,cD,bZ,at?,ix?,aV,dO,vz,tO,rk,aC]
  try rfl
theorem zy(g:Nat)(hg:g=3\/g=4\/g=5):∀d∈tO g,bI (hd 0++bZ g) 1 d:=by
 intro d h
 rcases hg with rfl|rfl|rfl<;>simp only[tO,QCq,QAz,or_false]at h<;>rcases h with rfl|rfl|rfl|rfl|rfl<;>exact .held (.same (by simp[hd,bZ])) (by simp[hd,bZ])
theorem Ov(n:Nat)(ns:List Int)(k:Int)(hk:0<=k):∃g ks ls k',cA 0 g ks ls/\3<=g/\0<=k'/\pg.fn (n+4) 41 [.val (sc ns),.bor (.lst [.int k])]=.ok (.val (aO 0 g ks ls)) [.val (sc ns),.bor (.lst [.int k'])]:=by
 obtain⟨r,r1,r2,er⟩:=bA n ns k 3 hk (by omega)
 obtain⟨g,hg,hr⟩:∃g:Nat,(g=3\/g=4\/g=5)/\3+r=g:=⟨(3+r).toNat,by omega,by omega⟩
 have lg:(bZ g).length=g:=dM (by omega)
 obtain⟨s4,a⟩:=Fp (pg.cf (n+3)) (.val (sc ns)) (.bor (.lst [.int (k+1)])) g hg
 obtain⟨bs,k',b1,b2,b3⟩:=JS n ns (k+1) (by omega) (bZ g) (.own (.lst (aC (bZ g) (tO g)))) s4
 refine⟨g,tO g,bs,k',⟨by omega,by omega,by omega,?_,zy g hg,by omega⟩,by omega,b2,?_⟩
 ·rcases hg with rfl|rfl|rfl<;>rfl
 ·have hb:lE=⟨2,5,(.cons ABR (.cons (.set 3 ABY) (.cons (.for_ (.name 4) (.range1 ADN) Im) (.cons (.ret (.tup (.cons (.tup .nil) (.cons (.bi .tuple (.var 3)) (.cons (.bi .tuple Dc) .nil))))) .nil))))⟩:=rfl
  rw[zG,hb]
  have sl:fQ (.lst [.str "p",.str "q",.str "rr",.str "go",.str "abcdef"]) none (some (g:Int))=some (.new (.lst (bZ g))):=by
   rcases hg with rfl|rfl|rfl<;>rfl
  have fg:fits g=true:=by simp[fits];omega
  have md:Cu (g:Int)=true:=by simp[Cu];omega
  have q:Dc.au=none:=rfl
  simp[er,hr,sl,aV,cM,E.f9,lg,fg,md,items,a,b3,q,aO,hd]
def n8:S:=AAg
theorem Q6(xs:List D)(b:D):at? (xs++[b]) (-1)=some b:=by
 unfold at? ix?
 have e:(-1+((xs.length:Int)+1)).toNat=xs.length:=by omega
 have e2:(0:Int)<= -1+((xs.length:Int)+1):=by omega
 have e3: -1+((xs.length:Int)+1)< (xs.length:Int)+1:=by omega
 simp[e,e2,e3]
theorem Ba(n:Nat)(ns:List Int)(k:Int)(hk:0<=k)(s2 s7:Sl)(h7:cL s7)(a x:D)(ls:List Bool)(l:Bool)(acc:List D)(hl:ls.length<=1000)(ha:acc.length<=1000):
  ∃(w:Str)(b:Bool)(t7:Sl),(w="same"\/w="not")/\cL t7/\ex (pg.cf (n+3)) n8 [.val (sc ns),.bor (.lst [.int k]),s2,.val a,.own (.lst ((ls++[l]).map .bl)),.own (.lst acc),.val x,s7]
   =.next [.val (sc ns),.bor (.lst [.int (k+1)]),s2,.val x,.own (.lst ((ls++[l]++[b]).map .bl)),.own (.lst (acc++[.tup [x,.tup [.str w,a]]])),.val x,t7]:=by
 obtain⟨r,r1,r2,er⟩:=bA n ns k 2 hk (by omega)
 have fa:fits (acc.length+1)=true:=by simp[fits];omega
 have fb:fits (ls.length+1+1)=true:=by simp[fits];omega
 have al:at? (ls.map D.bl++[.bl l]) (-1)=some (.bl l):=Q6 _ _
 rcases (by omega:r=0\/r=1)with rfl|rfl
 ·refine⟨"same",l==true,.val (.int 0),.inl rfl,.inr ⟨_,rfl⟩,?_⟩
  rcases h7 with rfl|⟨e,rfl⟩<;>simp[n8,er,aV,fa,fb,dO,vz,al]
 ·refine⟨"not",l==false,.val (.int 1),.inr rfl,.inr ⟨_,rfl⟩,?_⟩
  rcases h7 with rfl|⟨e,rfl⟩<;>simp[n8,er,aV,fa,fb,dO,vz,al]
theorem rm(n:Nat)(ns:List Int)(s2:Sl):∀(xs acc:List D)(k:Int)(s6 s7:Sl)(a:D)(ls:List Bool)(l:Bool),0<=k->cL s6->cL s7->ls.length+xs.length<=1000->acc.length+xs.length<=1000->
  ∃(ks:List D)(bs:List Bool)(k':Int)(t3 t6 t7:Sl),ks.length=xs.length/\bs.length=xs.length/\0<=k'/\(∀d∈ks,∃y∈a::xs,d=.tup [.str "same",y]\/d=.tup [.str "not",y])/\
   bj (.name 6) (ex (pg.cf (n+3)) n8) xs [.val (sc ns),.bor (.lst [.int k]),s2,.val a,.own (.lst ((ls++[l]).map .bl)),.own (.lst acc),s6,s7]=.next [.val (sc ns),.bor (.lst [.int k']),s2,t3,.own (.lst ((ls++[l]++bs).map .bl)),.own (.lst (acc++aC xs ks)),t6,t7]
 |[]=>fun acc k s6 s7 a ls l hk _ _ _ _=>⟨[],[],k,.val a,s6,s7,rfl,rfl,hk,fun d h=>(by cases h),by simp[bj,aC]⟩
 |x::xs=>fun acc k s6 s7 a ls l hk h6 h7 hl ha=>by
  simp only[QBq]at hl ha
  obtain⟨w,b,t,a1,a2,a3⟩:=Ba n ns k hk s2 s7 h7 a x ls l acc (by omega) (by omega)
  obtain⟨ks,bs,k',t3,t6,t7,b1,b2,b3,b4,b5⟩:=rm n ns s2 xs (acc++[.tup [x,.tup [.str w,a]]]) (k+1) (.val x) t x (ls++[l]) b (by omega) (.inr ⟨_,rfl⟩) a2 (by simp;omega) (by simp;omega)
  refine⟨.tup [.str w,a]::ks,b::bs,k',t3,t6,t7,by simp[b1],by simp[b2],b3,fun d hd=>?_,?_⟩
  ·rcases QCq.mp hd with rfl|hd
   ·exact⟨a,QYz,by rcases a1 with rfl|rfl<;>simp⟩
   ·obtain⟨y,hy,e⟩:=b4 d hd
    exact⟨y,QYq _ hy,e⟩
  ·have st:bD (.name 6) x [.val (sc ns),.bor (.lst [.int k]),s2,.val a,.own (.lst ((ls++[l]).map .bl)),.own (.lst acc),s6,s7]=some [.val (sc ns),.bor (.lst [.int k]),s2,.val a,.own (.lst ((ls++[l]).map .bl)),.own (.lst acc),.val x,s7]:=by
    rcases h6 with rfl|⟨e,rfl⟩<;>simp[bD]
   rw[bj,st]
   simp only
   rw[a3,mZ,b5]
   simp[aC]
def agd(d:D):Prop:=∃h g ks ls os sts,cA h g ks ls/\bY h g os sts/\d=.tup [aO h g ks ls,aQ os sts]
theorem Lp(n:Nat)(ns:List Int)(k:Int)(hk:0<=k):∃h g ks ls os sts k',cA h g ks ls/\bY h g os sts/\0<=k'/\pg.fn (n+4) 42 [.val (sc ns),.bor (.lst [.int k])]=.ok (.val (.tup [aO h g ks ls,aQ os sts])) [.val (sc ns),.bor (.lst [.int k'])]:=by
 obtain⟨r,r1,r2,er⟩:=bA n ns k 4 hk (by omega)
 obtain⟨g,hg,hr⟩:∃g:Nat,(g=1\/g=2\/g=3\/g=4)/\1+r=g:=⟨(1+r).toNat,by omega,by omega⟩
 have lg:(bZ g).length=g:=dM (by omega)
 obtain⟨q,q1,q2,eq⟩:=bA n ns (k+1) 2 (by omega) (by omega)
 obtain⟨ks,bs,k',t3,t6,t7,b1,b2,b3,b4,b5⟩:=rm n ns (.val (.lst (bZ g))) (bZ g) [] (k+1+1) .un .un (.str "a") [] (q==1) (by omega) (.inl rfl) (.inl rfl) (by simp;omega) (by simp;omega)
 obtain⟨z,z1,z2⟩:∃z,at? (bZ g) (-1)=some z/\z∈bZ g:=by
  rcases hg with rfl|rfl|rfl|rfl
  ·exact⟨.str "p",rfl,by simp[bZ]⟩
  ·exact⟨.str "q",rfl,by simp[bZ]⟩
  ·exact⟨.str "rr",rfl,by simp[bZ]⟩
  ·exact⟨.str "go",rfl,by simp[bZ]⟩
 refine⟨1,g,ks,(q==1)::bs,[z],[[(.str "a",1)],[(z,0)]],k',⟨by omega,by omega,by omega,by omega,fun d dm=>?_,by simp[b2,lg];omega⟩,⟨by simpa using z2,by simp,by simp,fun st h=>?_⟩,b3,?_⟩
 ·obtain⟨y,hy,e⟩:=b4 d dm
  have hy':y∈hd 1++bZ g:=by simpa[hd]using hy
  rcases e with rfl|rfl
  ·exact .same hy'
  ·exact .not hy'
 ·simp only[QCq,QAz,or_false]at h
  rcases h with rfl|rfl<;>simp[hd]
 ·have hb:jN=⟨2,8,(.cons AAk (.cons (.set 3 ABm) (.cons (.set 4 (.lis (.cons ACT .nil))) (.cons (.set 5 ABY) (.cons (.for_ (.name 6) (.var 2) n8) (.cons AAz .nil))))))⟩:=rfl
  rw[xu,hb]
  have sl:fQ (.lst [.str "p",.str "q",.str "rr",.str "go"]) none (some (g:Int))=some (.new (.lst (bZ g))):=by
   rcases hg with rfl|rfl|rfl|rfl<;>rfl
  have b5':bj (.name 6) (ex (pg.cf (n+3)) n8) (bZ g) [.val (sc ns),.bor (.lst [.int (k+1+1)]),.val (.lst (bZ g)),.val (.str "a"),.own (.lst [.bl (q==1)]),.own (.lst []),.un,.un]=.next [.val (sc ns),.bor (.lst [.int k']),.val (.lst (bZ g)),t3,.own (.lst (.bl (q==1)::bs.map .bl)),.own (.lst (aC (bZ g) ks)),t6,t7]:=by simpa using b5
  simp[er,hr,eq,sl,aV,cM,E.f9,items,b5',z1,aO,aQ,dZ,nH,hd]
end Tx
end
section
open PySem Mini
namespace Tx
def iZ:S->S
 |.cons _ t=>t
 |s=>s
def hdS:S->S
 |.cons t _=>t
 |s=>s
def xU:S:=iZ (iZ (iZ aL.body))
theorem Gh(n:Nat)(ns:List Int)(k:Int)(hk:0<=k):∃(kd:D)(s2:Sl),(∀g,bI (hd 2++bZ g) 1 kd)/\
  ex (pg.cf (n+3)) aL.body [.val (sc ns),.bor (.lst [.int k]),.un,.un,.un,.un,.un,.un]=ex (pg.cf (n+3)) xU [.val (sc ns),.bor (.lst [.int (k+1)]),s2,.val kd,.un,.un,.un,.un]:=by
 obtain⟨r,r1,r2,er⟩:=bA n ns k 6 hk (by omega)
 have hb:aL.body=.cons (hdS aL.body) (.cons (hdS (iZ aL.body)) (.cons (hdS (iZ (iZ aL.body))) xU)):=rfl
 have sb:∀g,([.str "a",.str "b"]:List D).Sublist (hd 2++bZ g):=fun g=>List.sublist_append_left _ _
 have at6:∀(xs:List D)(i:Nat),i<xs.length->at? xs (i:Int)=xs[i]? :=iW
 have hh:∀g,bI (hd 2++bZ g) 1 (.tup [.str "held",.tup [.str "same",.str "a"],.str "b",.bl true]):=fun g=>.held (.same (by simp[hd])) (by simp[hd])
 rcases (by omega:r=0\/r=1\/r=2\/r=3\/r=4\/r=5)with rfl|rfl|rfl|rfl|rfl|rfl
 ·refine⟨.tup [.str "both",.tup [.str "a",.str "b"]],.val (.int 0),fun g=>.both (sb g) (by simp) (by simp),?_⟩
  rw[hb];simp[aL,hdS,iZ,er,aV,at?,ix?]
 ·refine⟨.tup [.str "both",.tup [.str "a",.str "b"]],.val (.int 1),fun g=>.both (sb g) (by simp) (by simp),?_⟩
  rw[hb];simp[aL,hdS,iZ,er,aV,at?,ix?]
 ·refine⟨.tup [.str "and",.tup [.str "a",.str "b"]],.val (.int 2),fun g=>.and (sb g) (by simp) (by simp),?_⟩
  rw[hb];simp[aL,hdS,iZ,er,aV,at?,ix?]
 ·refine⟨.tup [.str "or",.tup [.str "a",.str "b"]],.val (.int 3),fun g=>.or (sb g) (by simp) (by simp),?_⟩
  rw[hb];simp[aL,hdS,iZ,er,aV,at?,ix?]
 ·refine⟨_,.val (.int 4),hh,?_⟩
  rw[hb];simp[aL,hdS,iZ,er,aV,at?,ix?]
 ·refine⟨_,.val (.int 5),hh,?_⟩
  rw[hb];simp[aL,hdS,iZ,er,aV,at?,ix?]
def dN:List (List (D×Nat)):=[[(.str "a",1),(.str "b",2)],[(.str "b",3)],[(.str "a",3)],[(.str "p",0)]]
theorem nJ(g:Nat)(h1:1<=g):bY 2 g [.str "p"] dN:=by
 refine⟨?_,by simp[dN],by simp[dN],fun st h=>?_⟩
 ·obtain⟨j,rfl⟩:∃j,g=j+1:=⟨g-1,by omega⟩
  simp[bZ]
 ·simp only[dN,QCq,QAz,or_false]at h
  rcases h with rfl|rfl|rfl|rfl<;>simp[hd,dN]
theorem zV(n:Nat)(ns:List Int)(k:Int)(hk:0<=k):∃h g ks ls os sts k',cA h g ks ls/\bY h g os sts/\0<=k'/\pg.fn (n+4) 43 [.val (sc ns),.bor (.lst [.int k])]=.ok (.val (.tup [aO h g ks ls,aQ os sts])) [.val (sc ns),.bor (.lst [.int k'])]:=by
 obtain⟨kd,s2,a1,a2⟩:=Gh n ns k hk
 obtain⟨q,q1,q2,eq⟩:=bA n ns (k+1) 2 (by omega) (by omega)
 rcases (by omega:q=0\/q=1)with rfl|rfl
 ·obtain⟨z,z1,z2,ez⟩:=bA n ns (k+1+1) 2 (by omega) (by omega)
  refine⟨2,1,[kd],[z==1,z==1,z==1],[.str "p"],dN,k+1+1+1,⟨by omega,by omega,by omega,rfl,fun d h=>?_,rfl⟩,nJ 1 (by omega),by omega,?_⟩
  ·cases QDz.mp h;exact a1 1
  ·rw[gB,a2]
   simp[xU,aL,iZ,eq,ez,aV,aO,hd,bZ,aC,aQ,dZ,nH,dN]
 ·obtain⟨w,w1,w2,ew⟩:=bA n ns (k+1+1) 2 (by omega) (by omega)
  obtain⟨z,z1,z2,ez⟩:=bA n ns (k+1+1+1) 2 (by omega) (by omega)
  rcases (by omega:w=0\/w=1)with rfl|rfl
  ·refine⟨2,2,[kd,.tup [.str "same",.str "p"]],[z==1,z==1,z==1,z==1],[.str "p"],dN,k+1+1+1+1,⟨by omega,by omega,by omega,rfl,fun d h=>?_,rfl⟩,nJ 2 (by omega),by omega,?_⟩
   ·simp only[QCq,QAz,or_false]at h
    rcases h with rfl|rfl
    ·exact a1 2
    ·exact .same (by simp[hd,bZ])
   ·rw[gB,a2]
    simp[xU,aL,iZ,eq,ew,ez,aV,aO,hd,bZ,aC,aQ,dZ,nH,dN,dO,vz]
  ·refine⟨2,2,[kd,.tup [.str "not",.str "p"]],[z==1,z==1,z==1, !(z==1)],[.str "p"],dN,k+1+1+1+1,⟨by omega,by omega,by omega,rfl,fun d h=>?_,rfl⟩,nJ 2 (by omega),by omega,?_⟩
   ·simp only[QCq,QAz,or_false]at h
    rcases h with rfl|rfl
    ·exact a1 2
    ·exact .not (by simp[hd,bZ])
   ·rw[gB,a2]
    simp[xU,aL,iZ,eq,ew,ez,aV,aO,hd,bZ,aC,aQ,dZ,nH,dN,dO,vz]
end Tx
end
section
open PySem Mini
namespace Tx
theorem Bs:∀(gs ks:List D)(i:Nat)(x d:D),gs[i]? =some x->ks.length=gs.length->(aC gs ks).set i (.tup [x,d])=aC gs (ks.set i d)
 |[],_,_=>fun _ _ h _=>by simp at h
 |g::gs,[],_=>fun _ _ _ h=>by simp at h
 |g::gs,k::ks,0=>fun x d h _=>by simp at h;subst h;simp[aC]
 |g::gs,k::ks,i+1=>fun x d h hl=>by simp[aC,Bs gs ks i x d (by simpa using h) (by simpa using hl)]
theorem zip_get:∀(gs ks:List D)(i:Nat),i<gs.length->ks.length=gs.length->∃x d,(aC gs ks)[i]? =some (.tup [x,d])/\gs[i]? =some x
 |[],_,_=>fun h _=>by simp at h
 |g::gs,[],_=>fun _ h=>by simp at h
 |g::gs,k::ks,0=>fun _ _=>⟨g,k,by simp[aC],rfl⟩
 |g::gs,k::ks,i+1=>fun h hl=>by
  obtain⟨x,d,a,b⟩:=zip_get gs ks i (by simpa using h) (by simpa using hl)
  exact⟨x,d,by simp[aC,a],by simpa using b⟩
theorem Eu(n:Nat)(ns:List Int)(k:Int)(hk:0<=k){h g:Nat}{ks:List D}{ls:List Bool}(O:cA h g ks ls):∃ks' k',cA h g ks' ls/\0<=k'/\
  pg.fn (n+8) 44 [.val (sc ns),.bor (.lst [.int k]),.val (aO h g ks ls)]=.ok (.val (aO h g ks' ls)) [.val (sc ns),.bor (.lst [.int k']),.val (aO h g ks ls)]:=by
 have lg:=dM O.g5
 have lh:=gG O.h2
 have h2:=O.h2
 have g1:=O.g1
 have g5:=O.g5
 have kl:=O.kl
 have lz:(aC (bZ g) ks).length=g:=by rw[Bt (by rw[lg,kl]),lg]
 obtain⟨q,q1,q2,eq⟩:=bA (n+4) ns k g hk (by omega)
 obtain⟨i,rfl⟩:∃i:Nat,q=i:=⟨q.toNat,by omega⟩
 obtain⟨d,k',a1,a2,a3⟩:=vJ ns (hd h++bZ g) (by simp;omega) (by simp;omega) 1 n (k+1) (by omega)
 simp only[Int.natCast_one,show n+6+1=n+7 from rfl]at a3
 obtain⟨x,y,b1,b2⟩:=zip_get (bZ g) ks i (by omega) (by omega)
 refine⟨ks.set i d,k',⟨h2,g1,g5,by simp[kl],fun e he=>?_,O.ll⟩,a2,?_⟩
 ·rcases List.mem_or_eq_of_mem_set he with he|rfl
  ·exact O.kk e he
  ·exact a1
 ·have gc:=qR (c:=pg.cf (n+7)) (it:=.idx (.var 2) AAG) (σ:=[.val (sc ns),.bor (.lst [.int k]),.val (aO h g ks ls),.un,.un,.un]) (bZ g) ks (by omega) (by simp[aO])
  have hb:cu=⟨3,6,.cons (.set 3 (.op .add ABZ (.bi .tuple (yr AAh)))) (iZ cu.body)⟩:=rfl
  have f:fits ((hd h).length+(bZ g).length)=true:=by simp[fits];omega
  have i1:at? (aC (bZ g) ks) (i:Int)=some (.tup [x,y]):=by rw[iW _ _ (by omega),b1]
  have i2:ix? g (i:Int)=some i:=by simp[ix?];omega
  have zs:=Bs (bZ g) ks i x d b2 (by omega)
  have q0:∀it,(yr it).au=none:=fun _=>rfl
  have n0:getD (aO h g ks ls) (.int 0)=some (.tup (hd h)):=by simp[aO]
  have n1:getD (aO h g ks ls) (.int 1)=some (.tup (aC (bZ g) ks)):=by simp[aO]
  have n2:getD (aO h g ks ls) (.int 2)=some (.tup (ls.map .bl)):=by simp[aO]
  rw[lZ,hb]
  simp[cu,iZ,gc,q0,f,n0,n1,n2,lz,eq,a3,i1,i2,qz,zs,aV]
  simp[aO]
theorem ud(h g:Nat):bY h g [] [[]]:=⟨by simp,by simp,by simp,fun st h=>by cases QDz.mp h;simp⟩
theorem Vk(g:Nat)(h3:3<=g):bY 0 g [.str "q"] [[(.str "q",1)],[(.str "q",0)]]:=by
 refine⟨?_,by simp,by simp,fun st h=>?_⟩
 ·obtain⟨j,rfl⟩:∃j,g=j+2:=⟨g-2,by omega⟩
  simp[bZ]
 ·simp only[QCq,QAz,or_false]at h
  rcases h with rfl|rfl<;>simp[hd]
def rA:S:=iZ (iZ (iZ (iZ (iZ aY.body))))
def yK:S:=iZ rA
theorem QV(n:Nat)(ns:List Int)(k:Int)(hk:0<=k):∃h g ks ls os sts,cA h g ks ls/\bY h g os sts/\pg.fn (n+9) 45 [.val (sc ns),.val (.int k)]=.ok (.val (.tup [aO h g ks ls,aQ os sts])) [.val (sc ns),.val (.int k)]:=by
 obtain⟨r,r1,r2,er⟩:=bA (n+5) ns k 8 hk (by omega)
 by_cases c2:r<2
 ·obtain⟨h,g,ks,ls,k1,O,a1,a2⟩:=JD n ns (k+1) (by omega) 2 (by omega) (by omega)
  obtain⟨os,sts,k2,T,b1,b2⟩:=Nv (n+4) ns k1 a1 O
  exact⟨h,g,ks,ls,os,sts,O,T,by rw[dH];simp[aY,er,c2,a2,b2,aV]⟩
 have c2b:¬r<2:=c2
 by_cases c3:r=2
 ·subst c3
  obtain⟨h,g,ks,ls,k1,O,a1,a2⟩:=JD n ns (k+1) (by omega) 0 (by omega) (by omega)
  exact⟨h,g,ks,ls,[],[[]],O,ud h g,by rw[dH];simp[aY,er,a2,aV,aQ,dZ]⟩
 by_cases c4:r=3
 ·subst c4
  obtain⟨g,ks,ls,k1,O,g3,a1,a2⟩:=Ov (n+4) ns (k+1) (by omega)
  obtain⟨q,q1,q2,eq⟩:=bA (n+5) ns k1 2 a1 (by omega)
  rcases (by omega:q=1\/q=0)with rfl|rfl
  ·exact⟨0,g,ks,ls,[],[[]],O,ud 0 g,by rw[dH];simp[aY,er,a2,eq,aV,aQ,dZ]⟩
  ·exact⟨0,g,ks,ls,_,_,O,Vk g g3,by rw[dH];simp[aY,er,a2,eq,aV,aQ,dZ,nH]⟩
 have e2:(r==2)=false:=by simpa using c3
 have e3:(r==3)=false:=by simpa using c4
 have main:∃h g ks ls os sts k1,cA h g ks ls/\bY h g os sts/\0<=k1/\ex (pg.cf (n+8)) aY.body [.val (sc ns),.val (.int k),.un,.un,.un,.un]=ex (pg.cf (n+8)) yK [.val (sc ns),.val (.int k),.own (.lst [.int k1]),.val (.int r),.val (aO h g ks ls),.val (aQ os sts)]:=by
  have hb:aY.body=.cons (hdS aY.body) (.cons (hdS (iZ aY.body)) (.cons (hdS (iZ (iZ aY.body))) (.cons (hdS (iZ (iZ (iZ aY.body)))) (.cons (hdS (iZ (iZ (iZ (iZ aY.body))))) (.cons (hdS rA) yK))))):=rfl
  by_cases c6:r<6
  ·obtain⟨h,g,ks,ls,os,sts,k1,O,T,a1,a2⟩:=Lp (n+4) ns (k+1) (by omega)
   refine⟨h,g,ks,ls,os,sts,k1,O,T,a1,?_⟩
   rw[hb]
   simp[aY,hdS,iZ,rA,er,c2,e2,e3,c3,c4,c6,a2,aV,bD,dJ,cD]
  ·obtain⟨h,g,ks,ls,os,sts,k1,O,T,a1,a2⟩:=zV (n+4) ns (k+1) (by omega)
   refine⟨h,g,ks,ls,os,sts,k1,O,T,a1,?_⟩
   rw[hb]
   simp[aY,hdS,iZ,rA,er,c2,e2,e3,c3,c4,c6,a2,aV,bD,dJ,cD]
 obtain⟨h,g,ks,ls,os,sts,k1,O,T,a1,a2⟩:=main
 by_cases c7:r%2=1
 ·obtain⟨q,q1,q2,eq⟩:=bA (n+5) ns k1 2 a1 (by omega)
  rcases (by omega:q=1\/q=0)with rfl|rfl
  ·obtain⟨ks',k2,O',b1,b2⟩:=Eu n ns (k1+1) (by omega) O
   refine⟨h,g,ks',ls,os,sts,O',T,?_⟩
   rw[dH,a2]
   simp[yK,rA,aY,iZ,c7,eq,b2,aV]
  ·refine⟨h,g,ks,ls,os,sts,O,T,?_⟩
   rw[dH,a2]
   simp[yK,rA,aY,iZ,c7,eq,aV]
 ·refine⟨h,g,ks,ls,os,sts,O,T,?_⟩
  have c8:r%2=0:=by omega
  rw[dH,a2]
  simp[yK,rA,aY,iZ,c8,aV]
end Tx
end
section
open PySem Mini
namespace Tx
def Su:E:=.bi .all ADJ
def JL:E:=.bi .all ABW
def Xl:E:=.comp 1 (.name 0) (.var 0) AAL AAc
theorem yg(n:Nat){xs:List D}(h:cJ xs)(nd:xs.Nodup)(st:List (D×Nat))(N:Nat)(hs:(st.map (·.1)).Sublist xs)(hn:∀m∈st,m.2<N):
  pg.fn (n+3) 19 [.val (dZ st),.val (.tup xs),.val (.int N)]=.ok (.val (.bl true)) [.val (dZ st),.val (.tup xs),.val (.int N)]:=by
 have ll:=hs.length_le
 rw[QAq]at ll
 have t1:=aX (n+1) (st.map nH) 0 xs.length (by omega) (by simpa using ll)
 have t2:=cX n (d:=.tup xs) (.inl rfl) h nd hs 0 xs.length (by omega) (by simpa using ll)
 have e1:ev (pg.cf (n+2)) Su [.val (dZ st),.val (.tup xs),.val (.int N)]=.ok (.val (.bl true)) [.val (dZ st),.val (.tup xs),.val (.int N)]:=by
  refine all1 (d:=dZ st) (xs:=st.map nH) (r:=.val (dZ st)) (by simp) rfl rfl fun x hx=>?_
  obtain⟨m,_,rfl⟩:=QDq.mp hx
  have t:=aX (n+1) [m.1,.int m.2] 2 2 (by simp) (by simp)
  simp[nH,t]
 have e2:ev (pg.cf (n+2)) JL [.val (dZ st),.val (.tup xs),.val (.int N)]=.ok (.val (.bl true)) [.val (dZ st),.val (.tup xs),.val (.int N)]:=by
  refine all1 (d:=dZ st) (xs:=st.map nH) (r:=.val (dZ st)) (by simp) rfl rfl fun x hx=>?_
  obtain⟨m,hm,rfl⟩:=QDq.mp hx
  have t:pg.fn (n+2) 4 [.val (.int m.2),.val (.int 0),.val (.int (N-1))]=.ok (.val (.bl true)) [.val (.int m.2),.val (.int 0),.val (.int (N-1))]:=by
   rw[xx]
   have:(m.2:Int)<=N-1:=Int.le_sub_one_of_lt (Int.ofNat_lt.mpr (hn m hm))
   simp[jO,ad1,this]
  simp[nH,t]
 have e3:ev (pg.cf (n+2)) Xl [.val (dZ st),.val (.tup xs),.val (.int N)]=.ok (.new (.lst (st.map (·.1)))) [.val (dZ st),.val (.tup xs),.val (.int N)]:=by
  have:=kO (c:=pg.cf (n+2)) (it:=.var 0) (σ:=[.val (dZ st),.val (.tup xs),.val (.int N)]) (el:=.idx (.var 0) AAH) nY (d:=dZ st) (xs:=st.map nH) (r:=.val (dZ st)) (by simp;rfl) rfl rfl fun y hy=>by
   obtain⟨m,_,rfl⟩:=QDq.mp hy
   simp[nH,nY]
  rw[List.map_map]at this
  exact this
 have hb:lH=⟨3,3,(.cons (.ite (.or (.cons ACi (.cons (.not Su) .nil))) AAP .nil) (.cons (.ite (.not (.call 9 (.cons (.bi .tuple Xl) (.cons (.var 1) (.cons AAH ABG))))) AAP .nil) (.cons (.ret JL) .nil)))⟩:=rfl
 rw[zK,hb]
 have q1:Xl.au=none:=rfl
 have q2:JL.au=none:=rfl
 have t1':pg.fn (n+2) 3 [.val (dZ st),.val (.int 0),.val (.int xs.length)]=.ok (.val (.bl true)) [.val (dZ st),.val (.int 0),.val (.int xs.length)]:=t1
 simp[t1',e1,e3,q1,t2,e2,q2]
theorem gl8:pg.gl 8=some (.int 12):=rfl
def u0:E:=.bi .all ABX
section
variable{h g:Nat}{ks:List D}{ls:List Bool}{os:List D}{sts:List (List (D×Nat))}
theorem bY.sub(T:bY h g os sts):(hd h++os).Sublist (names h g):=(List.Sublist.refl _).append T.ou
theorem Ii:(bZ g).Sublist (names h g):=List.sublist_append_right _ _
theorem z7(n:Nat)(O:cA h g ks ls)(T:bY h g os sts):pg.fn (n+4) 18 [.val (aO h g ks ls),.val (aQ os sts)]=.ok (.val (.bl true)) [.val (aO h g ks ls),.val (aQ os sts)]:=by
 have lg:=dM O.g5
 have lh:=gG O.h2
 have h2:=O.h2
 have g5:=O.g5
 have s1:=T.s1
 have s4:=T.s4
 have lo:=T.ou.length_le
 have X:=bR h g
 have Nd:=names_nodup O.h2 O.g1 O.g5
 have t1:pg.fn (n+3) 3 [.val (aQ os sts),.val (.int 2),.val (.int 2)]=.ok (.val (.bl true)) [.val (aQ os sts),.val (.int 2),.val (.int 2)]:=aX (n+2) [.tup os,.tup (sts.map dZ)] 2 2 (by simp) (by simp)
 have gc:=qR (c:=pg.cf (n+3)) (it:=.idx (.var 0) AAG) (σ:=[.val (aO h g ks ls),.val (aQ os sts),.un,.un]) (bZ g) ks (by rw[O.kl,lg]) (by simp[aO])
 have t2:=cX (n+1) (d:=.lst (bZ g)) (ys:=os) (.inr rfl) (fun x hx=>X x (Ii.subset hx)) (Ii.nodup Nd) T.ou 0 g (by omega) (by omega)
 have t3:=aX (n+2) (sts.map dZ) 1 12 (by simp;omega) (by simp;omega)
 have hb:oF=⟨2,4,(.cons (.ite ADG AAP .nil) (.cons (.set 2 (yr AAb)) (.cons (.ite AAl AAP .nil) (.cons (.set 3 (.op .add AAc ABI)) (.cons (.ret u0) .nil)))))⟩:=rfl
 have q:u0.au=none:=rfl
 have f:fits ((hd h).length+os.length)=true:=by simp[fits];omega
 have n0:getD (aO h g ks ls) (.int 0)=some (.tup (hd h)):=by simp[aO]
 have m0:getD (aQ os sts) (.int 0)=some (.tup os):=by simp[aQ]
 have m1:getD (aQ os sts) (.int 1)=some (.tup (sts.map dZ)):=by simp[aQ]
 have e':ev (pg.cf (n+3)) u0 [.val (aO h g ks ls),.val (aQ os sts),.val (.lst (bZ g)),.val (.tup (hd h++os))]=.ok (.val (.bl true)) [.val (aO h g ks ls),.val (aQ os sts),.val (.lst (bZ g)),.val (.tup (hd h++os))]:=by
  refine all1 (d:=.tup (sts.map dZ)) (xs:=sts.map dZ) (r:=.val (.tup (sts.map dZ))) (by simp[aQ]) rfl rfl fun x hx=>?_
  obtain⟨st,hst,rfl⟩:=QDq.mp hx
  have t:=yg n (xs:=hd h++os) (fun x hx=>X x (T.sub.subset hx)) (T.sub.nodup Nd) st sts.length (T.mv st hst).1 (T.mv st hst).2
  simp[aQ,t]
 rw[Fw,hb]
 simp[t1,gc,m0,m1,n0,lg,t2,t3,gl8,f,e',q]
theorem pA(n:Nat)(O:cA h g ks ls)(T:bY h g os sts):pg.fn (n+9) 17 [.val (aO h g ks ls),.val (aQ os sts)]=.ok (.val (aQ os sts)) [.val (aO h g ks ls),.val (aQ os sts)]:=by
 have t:=z7 (n+4) O T
 have c:=Ay n O
 rw[qx]
 simp[fZ,c,t]
end
end Tx
end
section
open PySem Mini
namespace Tx
def lk(x:D):List (D×Nat)->Option Nat
 |[]=>none
 |m::st=>if bV m.1 x then some m.2 else lk x st
abbrev gD(st:List (D×Nat)):List D:=st.map (·.1)
abbrev pL(st:List (D×Nat)):List D:=st.map fun m=>.int m.2
def dcD(st:List (D×Nat)):D:=.cH (gD st) (pL st)
theorem Cy(x:D):∀st,bT x (gD st) (pL st)=(lk x st).map fun j:Nat=>D.int j
 |[]=>rfl
 |m::st=>by
  simp only[Qyz,bT,lk]
  split
  ·rfl
  ·exact Cy x st
theorem CG(x:D):∀st,aK x (gD st)=(lk x st).isSome
 |[]=>rfl
 |m::st=>by
  simp only[Qyz,aK,lk,CG x st]
  cases bV m.1 x<;>simp
theorem iH:∀(st:List (D×Nat))(ks vs:List D),cJ (ks++gD st)->(ks++gD st).Nodup->dictOf ks vs (st.map nH)=some (ks++gD st,vs++pL st)
 |[]=>fun ks vs _ _=>by simp[dictOf]
 |m::st=>fun ks vs h nd=>by
  obtain⟨s,e⟩:=h m.1 (by simp)
  have no:aK m.1 ks=false:=by
   rw[e]
   have hn:m.1∉ks:=fun hm=>by
    rw[show gD (m::st)=m.1::gD st from rfl,List.nodup_append]at nd
    exact nd.2.2 _ hm _ QYz rfl
   rw[e]at hn
   have hk:cJ ks:=fun x hx=>h x (QWz _ hx)
   clear nd h
   induction ks with
   |nil=>rfl
   |cons y ys ih=>
    obtain⟨q,rfl⟩:=hk y QYz
    have ne:¬q=s:=fun c=>hn (by rw[c];exact QYz)
    simp[aK,bV,ne,ih (fun c=>hn (QYq _ c)) fun x hx=>hk x (QYq _ hx)]
  have r:=iH st (ks++[m.1]) (vs++[.int m.2]) (by simpa using h) (by simpa using nd)
  have kk:keyOk m.1=true:=by rw[e];rfl
  rw[Qyz,show nH m=.tup [m.1,.int m.2]from rfl,dictOf,if_pos kk]
  simp only[putD,no]
  rw[if_neg (by simp),r]
  simp
def bF(sts:List (List (D×Nat)))(i:Nat):List (D×Nat):=sts.getD i []
end Tx
end
section
open PySem Mini
namespace Tx
theorem vI(n:Nat)(hs gs:List D)(ks:List D)(x:D)(hl:ks.length=gs.length)(hf:hs.length+gs.length<=1000):
  pg.fn (n+1) 46 [.val (.tup [.tup hs,.tup (aC gs ks),x])]=.ok (.new (.lst (hs++gs))) [.val (.tup [.tup hs,.tup (aC gs ks),x])]:=
 (show pg.fn (n+1) 46 _=pg.fn (n+1) 13 _ from(xq n _).trans (lY n _).symm).trans (eQ n hs gs ks x hl hf)
variable{xs:List D}
theorem qP{s:Str}(h:cJ xs)(hn:D.str s∉xs):aK (.str s) xs=false:=by
 induction xs with
 |nil=>rfl
 |cons x xs ih=>
  obtain⟨q,rfl⟩:=h x QYz
  have ne:q≠s:=fun e=>hn (by rw[e];exact QYz)
  simp[aK,bV,ne,ih (fun z hz=>h z (QYq _ hz)) fun hz=>hn (QYq _ hz)]
theorem DG:∀(xs ys ks vs:List D),ys.length=xs.length->cJ xs->cJ ks->(ks++xs).Nodup->dictOf ks vs (aC xs ys)=some (ks++xs,vs++ys)
 |[],ys=>fun ks vs hl _ _ _=>by
  have:ys=[]:=by cases ys<;>simp_all
  subst this
  simp[aC,dictOf]
 |x::xs,[]=>fun ks vs hl _ _ _=>by simp at hl
 |x::xs,y::ys=>fun ks vs hl h hk nd=>by
  obtain⟨s,rfl⟩:=h x QYz
  have hn:D.str s∉ks:=fun z=>by
   have:=List.nodup_append.mp nd
   exact this.2.2 _ z _ QYz rfl
  have e:=qP hk hn
  have ih:=DG xs ys (ks++[.str s]) (vs++[y]) (by simpa using hl) (fun z hz=>h z (QYq _ hz)) (fun z hz=>by
   rcases QXz.mp hz with hz|hz
   ·exact hk z hz
   ·simp at hz;exact⟨s,hz⟩) (by simpa using nd)
  simp only[aC,dictOf,keyOk,if_true,putD,e,Qxq,if_false]
  rw[ih]
  simp
theorem La{ys:List D}(hl:ys.length=xs.length)(h:cJ xs)(nd:xs.Nodup):dictOf [] [] (aC xs ys)=some (xs,ys):=by
 have:=DG xs ys [] [] hl h (fun z hz=>by cases hz) (by simpa using nd)
 simpa using this
def eV(xs:List D)(bs:List Bool)(x:D):Bool:=match bT x xs (bs.map .bl)with
 |some (.bl b)=>b
 |_=>false
theorem ur{x:D}:∀{xs:List D}{bs:List Bool},cJ xs->bs.length=xs.length->x∈xs->bT x xs (bs.map .bl)=some (.bl (eV xs bs x))
 |[],_=>fun _ _ hx=>by cases hx
 |y::ys,[]=>fun _ hl _=>by simp at hl
 |y::ys,b::bs=>fun h hl hx=>by
  obtain⟨q,rfl⟩:=h x hx
  obtain⟨s,rfl⟩:=h y QYz
  by_cases e:s=q
  ·subst e
   simp[eV,bT,bV]
  ·have hx':D.str q∈ys:=by
    rcases QCq.mp hx with z|z
    ·cases z;exact absurd rfl e
    ·exact z
   have ih:=ur (bs:=bs) (fun z hz=>h z (QYq _ hz)) (by simpa using hl) hx'
   have l:bT (.str q) (.str s::ys) ((b::bs).map .bl)=bT (.str q) ys (bs.map .bl):=by simp[bT,bV,e]
   have v:eV (.str s::ys) (b::bs) (.str q)=eV ys bs (.str q):=by
    unfold eV
    rw[l]
   rw[l,v]
   exact ih
theorem jD{x:D}{bs:List Bool}(h:cJ xs)(hl:bs.length=xs.length)(hx:x∈xs):getD (.cH xs (bs.map .bl)) x=some (.bl (eV xs bs x)):=by
 have e:=ur h hl hx
 obtain⟨q,rfl⟩:=h x hx
 exact e
theorem ue(bs:List Bool):nG (bs.map D.bl)=true:=by
 induction bs with
 |nil=>rfl
 |cons b bs ih=>simp[nG,nd,ih]
theorem An(bs:List Bool):n6 (bs.map D.bl)=0:=by
 induction bs with
 |nil=>rfl
 |cons b bs ih=>simp[n6,dep,ih]
theorem JG(rs:List (List Bool)):nG (rs.map aF)=true:=by
 induction rs with
 |nil=>rfl
 |cons r rs ih=>simp[nG,nd,aF,ue,ih]
theorem J8(bs:List Bool)(rs:List (List Bool)):∃b,aG .isin (.tup (bs.map .bl)) (.tup (rs.map aF))=some b:=by
 have o:gF (.tup (bs.map .bl)) (rs.map aF)=true:=by
  simp[gF,nd,dep,ue,An,JG]
 refine⟨aK (.tup (bs.map .bl)) (rs.map aF),?_⟩
 show(if gF (.tup (bs.map .bl)) (rs.map aF)then some (aK (.tup (bs.map .bl)) (rs.map aF))else none)=_
 rw[o]
 rfl
end Tx
end
section
open PySem Mini
namespace Tx
def qK:E:=.comp 1 (.name 0) AAb AAL (.idx (.var 3) (.var 0))
noncomputable def oR:Fn:=⟨3,5,(.cons (.set 3 AAc) (.cons (.ite (.cmp .eq (.var 3) ACc) (.cons (.ret ACg) .nil) .nil) (.cons (.ite ACw (.cons (.ret (.not ACg)) .nil) .nil) (.cons (.ite ABy ADP .nil) (.cons (.set 4 (.bi .tuple qK)) (.cons (.ite (.cmp .eq (.var 3) ACL) ACv .nil) (.cons (.ite (.cmp .eq (.var 3) ACP) ACu .nil) (.cons (.ite ABt ACn .nil) ABM))))))))⟩
theorem ig:Bj=oR:=rfl
section
variable{xs:List D}{bs:List Bool}
theorem Gp(n:Nat)(h:cJ xs)(hl:bs.length=xs.length){ys:List D}(hs:ys.Sublist xs)(w:D)(r:List D)(s1 s3 s4:Sl):
  ev (pg.cf n) qK [.val (.tup (w:: .tup ys::r)),s1,.val (.cH xs (bs.map .bl)),s3,s4]=.ok (.new (.lst ((ys.map (eV xs bs)).map .bl))) [.val (.tup (w:: .tup ys::r)),s1,.val (.cH xs (bs.map .bl)),s3,s4]:=by
 have:=kO (c:=pg.cf n) (it:=.idx (.var 0) AAG) (el:=.idx (.var 3) (.var 0)) (σ:=[.val (.tup (w:: .tup ys::r)),s1,.val (.cH xs (bs.map .bl)),s3,s4]) (fun x=>.bl (eV xs bs x)) (d:=.tup ys) (xs:=ys) (r:=.val (.tup ys)) (τ:=[.val (.tup (w:: .tup ys::r)),s1,.val (.cH xs (bs.map .bl)),s3,s4]) (by simp) rfl rfl fun x hx=>by
  have e:=jD h hl (hs.subset hx)
  simp[e]
 rw[qK,this]
 simp
theorem mD(h:cJ xs)(hl:bs.length=xs.length){ys:List D}(hs:ys.Sublist xs)(w:D)(r:List D):∃row:List Bool,row.length=ys.length/\
  (∀(n:Nat)(s1 s3 s4:Sl),ev (pg.cf n) qK [.val (.tup (w:: .tup ys::r)),s1,.val (.cH xs (bs.map .bl)),s3,s4]=.ok (.new (.lst (row.map .bl))) [.val (.tup (w:: .tup ys::r)),s1,.val (.cH xs (bs.map .bl)),s3,s4]):=
 ⟨ys.map (eV xs bs),by simp,fun n s1 s3 s4=>Gp n h hl hs w r s1 s3 s4⟩
def Agree(xs:List D)(bs:List Bool)(i:Nat)(d:D)(own b:Bool):Prop:=
 pg.fn i 15 [.val d,.val (.bl own),.val (.cH xs (bs.map .bl))]=.ok (.val (.bl b)) [.val d,.val (.bl own),.val (.cH xs (bs.map .bl))]
theorem Gq(n k:Nat):n+1+2*k=n+2*k+1:=Nat.add_right_comm n 1 (2*k)
theorem afa(n k:Nat):n+1+2*(k+1)=n+1+2*k+1+1:=rfl
theorem HB(h:cJ xs)(hl:bs.length=xs.length):∀{k:Nat}{d:D},bI xs k d->∀own:Bool,∃b,∀n:Nat,Agree xs bs (n+1+2*k) d own b:=by
 intro k d hk
 have q1:qK.au=none:=rfl
 induction hk with
 | @same k x hx=>
  intro own
  have e:=jD h hl hx
  refine⟨eV xs bs x,fun n=>?_⟩
  unfold Agree
  rw[Gq,kY,ig]
  simp[oR,e]
 | @not k x hx=>
  intro own
  have e:=jD h hl hx
  refine⟨!eV xs bs x,fun n=>?_⟩
  unfold Agree
  rw[Gq,kY,ig]
  simp[oR,e]
 | @and k ys hs h1 h2=>
  intro own
  obtain⟨row,_,e1⟩:=mD h hl hs (.str "and") []
  have bb:=jH row
  refine⟨row.all id,fun n=>?_⟩
  unfold Agree
  rw[Gq,kY,ig]
  simp[oR,e1,q1,bb]
 | @or k ys hs h1 h2=>
  intro own
  obtain⟨row,_,e1⟩:=mD h hl hs (.str "or") []
  have bb:=jH row
  refine⟨row.any id,fun n=>?_⟩
  unfold Agree
  rw[Gq,kY,ig]
  simp[oR,e1,q1,bb]
 | @both k ys hs h1 h2=>
  intro own
  obtain⟨row,hr,e1⟩:=mD h hl hs (.str "both") []
  have bb:=jH row
  refine⟨row.all id||(own&&row.any id),fun n=>?_⟩
  unfold Agree
  rw[Gq,kY,ig]
  cases ha:row.all id<;>cases own<;>simp[oR,e1,q1,bb,ha]
 | @table k ys rs hs h1 h2 hr hi=>
  intro own
  obtain⟨row,_,e1⟩:=mD h hl hs (.str "table") [.tup (rs.map aF)]
  obtain⟨b,eb⟩:=J8 row rs
  refine⟨b,fun n=>?_⟩
  unfold Agree
  rw[Gq,kY,ig]
  simp[oR,e1,q1,eb]
 | @held k d x bb hk hx ih=>
  intro own
  obtain⟨b,ib⟩:=ih own
  have i1:=ib
  unfold Agree at i1
  have e:=jD h hl hx
  have hh:∀n,pg.fn (n+1+2*k+1) 16 [.val (.tup [.str "held",d,x,.bl bb]),.val (.bl own),.val (.cH xs (bs.map .bl))]=.ok (.val (.bl (if (eV xs bs x==b)==bb then b else own))) [.val (.tup [.str "held",d,x,.bl bb]),.val (.bl own),.val (.cH xs (bs.map .bl))]:=fun n=>by
   rw[xj]
   cases hc:((eV xs bs x==b)==bb)<;>simp[jJ,i1,e,hc]
  refine⟨if (eV xs bs x==b)==bb then b else own,fun n=>?_⟩
  unfold Agree
  rw[afa,kY,ig]
  simp[oR,hh]
end
end Tx
end
section
open PySem Mini
namespace Tx
section
variable{h g:Nat}{ks:List D}{ls bs:List Bool}
def Hl:E:=.comp 2 (.tup [0,1]) AAb AAj (.var 0)
theorem G7(O:cA h g ks ls)(hl:bs.length=(names h g).length):∃zs:List D,zs.Sublist (bZ g)/\∀n:Nat,
  pg.fn (n+4) 14 [.val (aO h g ks ls),.val (aF bs)]=.ok (.new (.lst zs)) [.val (aO h g ks ls),.val (aF bs)]:=by
 have T:=bR h g
 have Nd:=names_nodup O.h2 O.g1 O.g5
 have lg:=dM O.g5
 have lh:=gG O.h2
 have ag:∀(k:D)(own:Bool),∃b,bI (names h g) 1 k->∀n,Agree (names h g) bs (n+3) k own b:=fun k own=>by
  by_cases hk:bI (names h g) 1 k
  ·obtain⟨b,z⟩:=HB T hl hk own
   exact⟨b,fun _=>z⟩
  ·exact⟨true,fun z=>absurd z hk⟩
 have sk:∃F:D->Bool->Bool,∀k own,bI (names h g) 1 k->∀n,Agree (names h g) bs (n+3) k own (F k own):=
  ⟨fun k own=>Classical.choose (ag k own),fun k own=>Classical.choose_spec (ag k own)⟩
 obtain⟨F,hF⟩:=sk
 let p:D×D->Bool:=fun x=> !(F x.2 (eV (names h g) bs x.1)==eV (names h g) bs x.1)
 have mem:∀x∈(bZ g).zip ks,x.1∈names h g/\bI (names h g) 1 x.2:=fun x hx=>⟨QVq _ (List.of_mem_zip hx).1,O.kk x.2 (List.of_mem_zip hx).2⟩
 obtain⟨x0,ps,zeq⟩:∃x0 ps,(bZ g).zip ks=x0::ps:=by
  cases q:(bZ g).zip ks with
  |nil=>
   have:=congrArg List.length q
   rw[List.length_zip,lg,O.kl]at this
   have:=O.g1
   simp at*
   omega
  |cons x ps=>exact⟨x,ps,rfl⟩
 have dz:dictOf [] [] (aC (names h g) (bs.map .bl))=some (names h g,bs.map .bl):=La (by simpa using hl) T Nd
 refine⟨(((bZ g).zip ks).filter p).map (·.1),?_,fun n=>?_⟩
 ·have s1:((((bZ g).zip ks).filter p).map (·.1)).Sublist (((bZ g).zip ks).map (·.1)):=(List.filter_sublist).map _
  have s2:((bZ g).zip ks).map (·.1)=bZ g:=List.map_fst_zip (by rw[lg,O.kl];exact QVz _)
  rw[s2]at s1
  exact s1
 have w1:pg.fn (n+3) 13 [.val (aO h g ks ls)]=.ok (.new (.lst (names h g))) [.val (aO h g ks ls)]:=
  eQ (n+2) (hd h) (bZ g) ks (.tup (ls.map .bl)) (by rw[O.kl,lg]) (by have:=O.h2;have:=O.g5;omega)
 have e1:ev (pg.cf (n+3)) Hl [.val (aO h g ks ls),.val (aF bs),.own (.dct (names h g) (bs.map .bl))]=.ok (.new (.lst ((((bZ g).zip ks).filter p).map (·.1)))) [.val (aO h g ks ls),.val (aF bs),.val (.cH (names h g) (bs.map .bl))]:=by
  rw[zeq]at mem⊢
  have c0:∀x,x∈x0::ps->∀s:Sl,(s=.own (.dct (names h g) (bs.map .bl))\/s=.val (.cH (names h g) (bs.map .bl)))->ev (pg.cf (n+3)) AAj [.val x.1,.val x.2,.val (aO h g ks ls),.val (aF bs),s]=.ok (.val (.bl (p x))) [.val x.1,.val x.2,.val (aO h g ks ls),.val (aF bs),.val (.cH (names h g) (bs.map .bl))]:=fun x hx s hs=>by
   obtain⟨m1,m2⟩:=mem x hx
   have gl:=jD T hl m1
   have a:=hF x.2 (eV (names h g) bs x.1) m2 n
   unfold Agree at a
   rcases hs with rfl|rfl<;>simp[gl,a,p]
  have it:items (.tup (aC (bZ g) ks))=some ((x0::ps).map pairD):=by show some _=some _;rw[cT,zeq]
  exact Xw (·.1) p (r:=.val (.tup (aC (bZ g) ks))) (τ0:=[.val (aO h g ks ls),.val (aF bs),.own (.dct (names h g) (bs.map .bl))]) (by simp[aO]) rfl it (c0 x0 QYz _ (.inl rfl)) (fun x hx=>c0 x (QYq _ hx) _ (.inr rfl)) (fun x _ _=>by simp)
 have hb:eZ=⟨2,3,(.cons (.set 2 (.bi .dict ABo)) (.cons (.ret Hl) .nil))⟩:=rfl
 have q:Hl.au=none:=rfl
 have z:bw (aF bs)=some (bs.map .bl):=rfl
 rw[o6,hb]
 simp[w1,z,dz,e1,q]
end
end Tx
end
section
open PySem Mini
namespace Tx
structure Wt(h g:Nat)(ks:List D)(ls:List Bool)(W:List Bool->List D):Prop where
 sub:∀bs,bs.length=(names h g).length->(W bs).Sublist (bZ g)
 pr:∀bs,bs.length=(names h g).length->∀n,pg.fn (n+4) 14 [.val (aO h g ks ls),.val (aF bs)]=.ok (.new (.lst (W bs))) [.val (aO h g ks ls),.val (aF bs)]
theorem Zm{h g:Nat}{ks:List D}{ls:List Bool}(O:cA h g ks ls):∃W,Wt h g ks ls W:=by
 have ag:∀bs:List Bool,∃zs:List D,bs.length=(names h g).length->zs.Sublist (bZ g)/\∀n:Nat,pg.fn (n+4) 14 [.val (aO h g ks ls),.val (aF bs)]=.ok (.new (.lst zs)) [.val (aO h g ks ls),.val (aF bs)]:=fun bs=>by
  by_cases hl:bs.length=(names h g).length
  ·obtain⟨zs,z⟩:=G7 O hl
   exact⟨zs,fun _=>z⟩
  ·exact⟨[],fun z=>absurd z hl⟩
 exact⟨fun bs=>Classical.choose (ag bs),fun bs hl=>(Classical.choose_spec (ag bs) hl).1,fun bs hl n=>(Classical.choose_spec (ag bs) hl).2 n⟩
theorem Aa{s:Str}{xs:List D}(h:cJ xs):aK (.str s) xs=true↔D.str s∈xs:=by
 constructor
 ·intro z
  by_cases c:D.str s∈xs
  ·exact c
  ·rw[qP h c]at z;cases z
 ·intro z;exact gn z h
theorem Ko{w:D}(hw:lu .str w=false):∀{xs:List D},cJ xs->aK w xs=false
 |[]=>fun _=>rfl
 |x::xs=>fun h=>by
  obtain⟨s,rfl⟩:=h x QYz
  rw[aK,Ko hw fun y hy=>h y (QYq _ hy),Bool.or_false]
  cases w<;>first|rfl|cases hw
theorem uC(x:D):∀xs ys:List D,aK x (xs++ys)=(aK x xs||aK x ys)
 |[]=>fun ys=>rfl
 |y::xs=>fun ys=>by simp[aK,uC x xs ys,Bool.or_assoc]
abbrev St:=List Bool×Nat
def aq(s:St):D:=.tup [aF s.1,.int s.2]
section
variable{h g:Nat}{ks:List D}{ls:List Bool}{os:List D}{sts:List (List (D×Nat))}{W:List Bool->List D}
structure MP(h g:Nat)(sts:List (List (D×Nat)))(s:St):Prop where
 l:s.1.length=(names h g).length
 j:s.2<sts.length
def pZ(h:Nat)(sts:List (List (D×Nat)))(W:List Bool->List D)(s:St):List D:=(hd h).filter (fun x=>(lk x (bF sts s.2)).isSome)++W s.1
theorem pI(h:Nat):cJ (hd h):=fun x hx=>bR h 0 x (QWz _ hx)
theorem BR(g:Nat):cJ (bZ g):=fun x hx=>bR 0 g x (QVq _ hx)
theorem p8(hj:j<sts.length):bF sts j∈sts:=by simp[bF,hj]
theorem p6{j:Nat}(hj:j<sts.length):at? (sts.map dZ) (j:Int)=some (dZ (bF sts j)):=by
 rw[iW _ _ (by simpa using hj)]
 simp[bF,hj]
theorem pY(Wk:Wt h g ks ls W){s:St}(S:MP h g sts s):(pZ h sts W s).Sublist (names h g):=(List.filter_sublist).append (Wk.sub s.1 S.l)
theorem jT(T:bY h g os sts)(O:cA h g ks ls){j:Nat}(hj:j<sts.length):cJ (gD (bF sts j))/\(gD (bF sts j)).Nodup:=by
 have:=(T.mv _ (p8 hj)).1
 exact⟨fun x hx=>bR h g x (T.sub.subset (this.subset hx)),this.nodup (T.sub.nodup (names_nodup O.h2 O.g1 O.g5))⟩
def stC:E:=.comp 1 (.name 0) AAc (.cmp .isin (.var 0) (.var 4)) (.var 0)
theorem wX(n:Nat)(O:cA h g ks ls)(T:bY h g os sts)(Wk:Wt h g ks ls W){s:St}(S:MP h g sts s):
  pg.fn (n+5) 22 [.val (aO h g ks ls),.val (aQ os sts),.val (aq s)]=.ok (.new (.lst (pZ h sts W s))) [.val (aO h g ks ls),.val (aQ os sts),.val (aq s)]:=by
 have K:=jT T O S.j
 have d:=iH (bF sts s.2) [] [] (by simpa using K.1) (by simpa using K.2)
 have e:ev (pg.cf (n+4)) stC [.val (aO h g ks ls),.val (aQ os sts),.val (aq s),.own (.dct (gD (bF sts s.2)) (pL (bF sts s.2)))]=.ok (.new (.lst ((hd h).filter fun x=>(lk x (bF sts s.2)).isSome))) [.val (aO h g ks ls),.val (aQ os sts),.val (aq s),.own (.dct (gD (bF sts s.2)) (pL (bF sts s.2)))]:=by
  have:=Lj (c:=pg.cf (n+4)) (it:=.idx (.var 0) AAH) (co:=.cmp .isin (.var 0) (.var 4)) (el:=.var 0) (σ:=[.val (aO h g ks ls),.val (aQ os sts),.val (aq s),.own (.dct (gD (bF sts s.2)) (pL (bF sts s.2)))]) (τ:=[.val (aO h g ks ls),.val (aQ os sts),.val (aq s),.own (.dct (gD (bF sts s.2)) (pL (bF sts s.2)))]) (d:=.tup (hd h)) (xs:=hd h) (r:=.val (.tup (hd h))) (fun x=>x) (fun x=>(lk x (bF sts s.2)).isSome) (by simp[aO]) rfl rfl (fun x hx=>by
   obtain⟨q,rfl⟩:=pI h x hx
   have:aG .isin (.str q) (.cH (gD (bF sts s.2)) (pL (bF sts s.2)))=some (lk (.str q) (bF sts s.2)).isSome:=by rw[<-CG];rfl
   simp[this,Ob.d]) (fun x _ _=>by simp)
  rw[List.map_id']at this
  exact this
 have w:=Wk.pr s.1 S.l n
 have t1:getD (aQ os sts) (.int 1)=some (.tup (sts.map dZ)):=by simp[aQ]
 have s0:getD (aq s) (.int 0)=some (aF s.1):=by simp[aq]
 have s1:getD (aq s) (.int 1)=some (.int s.2):=by simp[aq]
 have st:=p6 S.j
 have sl:=(pY Wk S).length_le
 have nl:=fL (g:=g) O.h2 O.g5
 have h2:=O.h2
 have g5:=O.g5
 have f:fits (((hd h).filter fun x=>(lk x (bF sts s.2)).isSome).length+(W s.1).length)=true:=by
  simp only[pZ,QTq]at sl
  simp[fits]
  omega
 have hb:lB=⟨3,4,(.cons (.set 3 ACj) (.cons (.ret (.op .add stC AAq)) .nil))⟩:=rfl
 rw[zB,hb]
 simp[t1,s0,s1,st,dZ,d,e,w,f,pZ]
end
end Tx
end
section
open PySem Mini
namespace Tx
section
variable{h g:Nat}{ks:List D}{ls:List Bool}{os:List D}{sts:List (List (D×Nat))}{W:List Bool->List D}
theorem V8{x:D}:∀{st:List (D×Nat)},cJ (gD st)->(∃s,x=.str s)->((lk x st).isSome=true↔x∈gD st)
 |[],_,_=>by simp[lk]
 |m::st,t,⟨s,hs⟩=>by
  subst hs
  rw[<-CG,Aa t]
theorem lN(n:Nat)(O:cA h g ks ls):pg.fn (n+1) 46 [.val (aO h g ks ls)]=.ok (.new (.lst (names h g))) [.val (aO h g ks ls)]:=
 vI n (hd h) (bZ g) ks (.tup (ls.map .bl)) (by rw[O.kl,dM O.g5]) (by rw[gG O.h2,dM O.g5];have:=O.h2;have:=O.g5;omega)
theorem Ks(O:cA h g ks ls){x:D}(hx:x∈hd h):x∉bZ g:=fun hs=>by
 have nd:=names_nodup O.h2 O.g1 O.g5
 rw[names,List.nodup_append]at nd
 exact nd.2.2 _ hx _ hs rfl
theorem mG{q:Str}{xs:List D}(t:cJ xs):aG .isin (.str q) (.lst xs)=some (aK (.str q) xs)/\aG .isin (.str q) (.tup xs)=some (aK (.str q) xs)/\aG .notin (.str q) (.tup xs)=some (!aK (.str q) xs):=by
 have o:gF (.str q) xs=true:=by unfold gF;rw[j5 t];rfl
 refine⟨?_,?_,?_⟩
 ·show(if gF (.str q) xs then some (aK (.str q) xs)else none)=_;rw[o];rfl
 ·show(if gF (.str q) xs then some (aK (.str q) xs)else none)=_;rw[o];rfl
 ·show(if gF (.str q) xs then some (!aK (.str q) xs)else none)=_;rw[o];rfl
end
end Tx
end
section
open PySem Mini
namespace Tx
section
variable{h g:Nat}{ks:List D}{ls:List Bool}{os:List D}{sts:List (List (D×Nat))}{W:List Bool->List D}
def dq(xs:List D)(bs:List Bool)(x:D):List Bool:=(xs.zip bs).map fun p=>if bV p.1 x then !p.2 else p.2
theorem qU{xs:List D}{bs:List Bool}(hl:bs.length=xs.length)(x:D):(dq xs bs x).length=xs.length:=by simp[dq,hl]
def chF(x:D)(p:D×D):D:=match p.2 with
 |.bl b=>.bl (if bV p.1 x then !b else b)
 |d=>d
theorem Ed(x:D):∀(xs:List D)(bs:List Bool),(xs.zip (bs.map D.bl)).map (chF x)=(dq xs bs x).map .bl
 |[],bs=>by simp[dq]
 |_::_,[]=>by simp[dq]
 |y::xs,b::bs=>by
  have:=Ed x xs bs
  simp only[dq]at this⊢
  simp[chF,this]
def chC:E:=.comp 2 (.tup [0,1]) ABo AAL (.ite ACf (.not (.var 1)) (.var 1))
theorem Az(n:Nat)(O:cA h g ks ls){bs:List Bool}(hl:bs.length=(names h g).length){x:D}(hx:∃s,x=.str s):
  pg.fn (n+2) 25 [.val (aO h g ks ls),.val (aF bs),.val x]=.ok (.val (aF (dq (names h g) bs x))) [.val (aO h g ks ls),.val (aF bs),.val x]:=by
 obtain⟨q,rfl⟩:=hx
 have w:pg.fn (n+1) 13 [.val (aO h g ks ls)]=.ok (.new (.lst (names h g))) [.val (aO h g ks ls)]:=
  eQ n (hd h) (bZ g) ks (.tup (ls.map .bl)) (by rw[O.kl,dM O.g5]) (by rw[gG O.h2,dM O.g5];have:=O.h2;have:=O.g5;omega)
 have e:ev (pg.cf (n+1)) chC [.val (aO h g ks ls),.val (aF bs),.val (.str q)]=.ok (.new (.lst ((dq (names h g) bs (.str q)).map .bl))) [.val (aO h g ks ls),.val (aF bs),.val (.str q)]:=by
  have:=Tu (c:=pg.cf (n+1)) (it:=.zip (.call 13 AAT) (.var 1)) (el:=.ite ACf (.not (.var 1)) (.var 1)) (σ:=[.val (aO h g ks ls),.val (aF bs),.val (.str q)]) (τ:=[.val (aO h g ks ls),.val (aF bs),.val (.str q)]) (d:=.lst (aC (names h g) (bs.map .bl))) (ps:=(names h g).zip (bs.map .bl)) (r:=.val (.lst (aC (names h g) (bs.map .bl)))) (chF (.str q)) (by
    have z:bw (aF bs)=some (bs.map .bl):=rfl
    simp[w,z]) rfl (by show some _=some _;rw[cT]) (fun p hp=>by
    obtain⟨u,eu⟩:=bR h g p.1 (List.of_mem_zip hp).1
    obtain⟨b,_,eb⟩:=QDq.mp (List.of_mem_zip hp).2
    rw[<-eb,eu]
    have e1:chF (.str q) p=.bl (if decide (u=q)then !b else b):=by
     unfold chF
     rw[<-eb,eu]
     rfl
    rw[e1]
    cases c:decide (u=q)<;>simp[c])
  rw[Ed]at this
  exact this
 have hb:oK=⟨3,3,(.cons (.ret (.bi .tuple chC)) .nil)⟩:=rfl
 have qv:chC.au=none:=rfl
 rw[FN,hb]
 simp[e,qv]
 rfl
theorem tW:∀(L pre:List D),(aW pre.length L.length).map (fun d=>match d with|.int i=>(pre++L).getD i.toNat .non|_=>.non)=L
 |[]=>fun pre=>rfl
 |x::L=>fun pre=>by
  have:=tW L (pre++[x])
  simp only[QTq,QBq,List.length_nil,QLq,List.cons_append,List.nil_append]at this
  simp only[QBq,aW,Qyz]
  rw[show((pre.length:Int)+1)=((pre.length+(0+1):Nat):Int) by simp,this]
  simp[List.getD]
def fgC:E:=.comp 1 (.name 0) (.range1 ADM) AAL ABh
theorem tV:∀(n:Nat)(lo:Int)(x:D),x∈aW lo n->∃j:Nat,j<n/\x=.int (lo+j)
 |0=>fun _ _ h=>by cases h
 |n+1=>fun lo x h=>by
  rcases QCq.mp h with rfl|h
  ·exact⟨0,by omega,by simp⟩
  ·obtain⟨j,hj,rfl⟩:=tV n (lo+1) x h
   exact⟨j+1,by omega,by congr 1;omega⟩
theorem QM(n:Nat)(O:cA h g ks ls)(T:D){s:St}(S:MP h g sts s){q:Str}(s5 s6 s7:Sl):
  ev (pg.cf n) fgC [.val (aO h g ks ls),.val T,.val (aq s),.val (.str q),.own (.lst (names h g)),s5,s6,s7]=.ok (.new (.lst ((dq (names h g) s.1 (.str q)).map .bl))) [.val (aO h g ks ls),.val T,.val (aq s),.val (.str q),.own (.lst (names h g)),s5,s6,s7]:=by
 have nl:=fL (g:=g) O.h2 O.g5
 have h2:=O.h2
 have g5:=O.g5
 have fl:=qU S.l (.str q)
 have f1:fits (names h g).length=true:=by simp[fits];omega
 have f2:Cu (names h g).length=true:=by simp[Cu];omega
 have s0:getD (aq s) (.int 0)=some (aF s.1):=by simp[aq]
 have:=kO (c:=pg.cf n) (it:=.range1 ADM) (el:=.cmp .ne (.idx (.idx (.var 3) AAH) (.var 0)) (.cmp .eq (.idx (.var 5) (.var 0)) (.var 4))) (σ:=[.val (aO h g ks ls),.val T,.val (aq s),.val (.str q),.own (.lst (names h g)),s5,s6,s7]) (τ:=[.val (aO h g ks ls),.val T,.val (aq s),.val (.str q),.own (.lst (names h g)),s5,s6,s7]) (d:=.lst (aW 0 (names h g).length)) (xs:=aW 0 (names h g).length) (r:=.val (.lst (aW 0 (names h g).length))) (fun d=>match d with|.int i=>([]++(dq (names h g) s.1 (.str q)).map D.bl).getD i.toNat .non|_=>.non) (by simp[f1,f2,Ob.d]) rfl rfl (fun x hx=>by
  obtain⟨j,hj,rfl⟩:=tV _ _ _ hx
  have hb:j<s.1.length:=by rw[S.l];exact hj
  obtain⟨u,eu⟩:=bR h g _ (List.getElem_mem hj)
  have a1:at? (names h g) (j:Int)=some (.str u):=by rw[iW _ _ hj,QXq hj,eu]
  have a2:at? (s.1.map D.bl) (j:Int)=some (.bl s.1[j]):=by rw[iW _ _ (by simpa using hb)];simp[hb]
  have a3:getD (aF s.1) (.int j)=some (.bl s.1[j]):=by simpa[aF]using a2
  have fj:(dq (names h g) s.1 (.str q)).length=(names h g).length:=fl
  have v:([]++(dq (names h g) s.1 (.str q)).map D.bl).getD ((0:Int)+(j:Int)).toNat .non=.bl (!(s.1[j]==decide (u=q))):=by
   rw[List.nil_append,Int.zero_add,Int.toNat_natCast,List.getD_eq_getElem?_getD,QFz,QXq (by rw[fj];exact hj)]
   have e2:bV (names h g)[j] (.str q)=decide (u=q):=by rw[eu];rfl
   simp only[dq,List.getElem_map,List.getElem_zip,Option.map_some,Option.getD_some,e2]
   cases decide (u=q)<;>cases s.1[j]<;>rfl
  simp only[v]
  simp[s0,a3,a1,Ob.d])
 have fl':((dq (names h g) s.1 (.str q)).map D.bl).length=(names h g).length:=by rw[QAq,fl]
 have rg:=tW ((dq (names h g) s.1 (.str q)).map D.bl) []
 rw[fl']at rg
 rw[show((([]:List D).length:Nat):Int)=0 from rfl]at rg
 rw[rg]at this
 exact this
end
end Tx
end
section
open PySem Mini
namespace Tx
variable{s:St}{x:D}
section
variable{h g:Nat}{ks:List D}{ls:List Bool}{os:List D}{sts:List (List (D×Nat))}{W:List Bool->List D}
def vH(h g:Nat)(os:List D)(sts:List (List (D×Nat)))(s:St)(x:D):Option St:=
 if aK x (hd h)||aK x os then(lk x (bF sts s.2)).map fun j=>(dq (names h g) s.1 x,j)else some (dq (names h g) s.1 x,s.2)
def iu:Option St->D
 |none=>.non
 |some s=>aq s
theorem sdE(a:List Bool)(j:Nat):D.tup [aF a,.int j]=aq (a,j):=rfl
theorem mq(T:bY h g os sts):cJ os:=fun x hx=>BR g x (T.ou.subset hx)
theorem Sw{x:D}{N:Nat}:∀{st:List (D×Nat)},(∀m∈st,m.2<N)->∀{j:Nat},lk x st=some j->j<N
 |[],_,_,e=>by cases e
 |m::st,hm,j,e=>by
  simp only[lk]at e
  split at e
  ·cases e;exact hm m QYz
  ·exact Sw (fun q hq=>hm q (QYq _ hq)) e
theorem Wa(T:bY h g os sts){s':St}(S:MP h g sts s)(e:vH h g os sts s x=some s'):MP h g sts s':=by
 unfold vH at e
 split at e
 ·obtain⟨j,hj,rfl⟩:=QJz.mp e
  exact⟨qU S.l x,Sw (T.mv _ (p8 S.j)).2 hj⟩
 ·cases e
  exact⟨qU S.l x,S.j⟩
theorem pO(n:Nat)(O:cA h g ks ls)(T:bY h g os sts)(S:MP h g sts s)(q:Str):
  pg.fn (n+1) 23 [.val (aQ os sts),.val (aq s),.val (.str q)]=.ok (.val (.bl (aK (.str q) os&& !(lk (.str q) (bF sts s.2)).isSome))) [.val (aQ os sts),.val (aq s),.val (.str q)]:=by
 have K:=jT T O S.j
 have d:=iH (bF sts s.2) [] [] (by simpa using K.1) (by simpa using K.2)
 have t0:getD (aQ os sts) (.int 0)=some (.tup os):=by simp[aQ]
 have t1:getD (aQ os sts) (.int 1)=some (.tup (sts.map dZ)):=by simp[aQ]
 have s1:getD (aq s) (.int 1)=some (.int s.2):=by simp[aq]
 have st:=p6 S.j
 have i:=(mG (q:=q) (mq T)).2.1
 have i2:aG .notin (.str q) (.cH (gD (bF sts s.2)) (pL (bF sts s.2)))=some (!(lk (.str q) (bF sts s.2)).isSome):=by rw[<-CG];rfl
 rw[vg]
 cases c:aK (.str q) os<;>rw[c]at i<;>simp[iU,t0,i,t1,s1,st,dZ,d,Ob.d,i2]
theorem CT(O:cA h g ks ls)(T:bY h g os sts)(Wk:Wt h g ks ls W)(S:MP h g sts s){q:Str}(hx:D.str q∈pZ h sts W s):(aK (.str q) os&& !(lk (.str q) (bF sts s.2)).isSome)=true/\vH h g os sts s (.str q)=none\/(aK (.str q) os&& !(lk (.str q) (bF sts s.2)).isSome)=false/\vH h g os sts s (.str q)=some (dq (names h g) s.1 (.str q),(lk (.str q) (bF sts s.2)).getD s.2):=by
 have K:=jT T O S.j
 unfold vH
 rcases QXz.mp hx with z|z
 ·obtain⟨z1,z2⟩:=List.mem_filter.mp z
  have no:aK (.str q) os=false:=qP (mq T) fun w=>Ks O z1 (T.ou.subset w)
  have yes:aK (.str q) (hd h)=true:=gn z1 (pI h)
  rw[no,yes]
  obtain⟨j,hj⟩:=Option.isSome_iff_exists.mp z2
  rw[hj]
  exact .inr ⟨rfl,rfl⟩
 ·have zr:=(Wk.sub s.1 S.l).subset z
  have no:aK (.str q) (hd h)=false:=qP (pI h) fun w=>Ks O w zr
  rw[no]
  cases ho:aK (.str q) os with
  |true=>
   cases hj:lk (.str q) (bF sts s.2)with
   |none=>exact .inl ⟨rfl,rfl⟩
   |some j=>exact .inr ⟨rfl,rfl⟩
  |false=>
   have hn:lk (.str q) (bF sts s.2)=none:=by
    cases hj:lk (.str q) (bF sts s.2)with
    |none=>rfl
    |some j=>
     have m:=(V8 K.1 ⟨q,rfl⟩).mp (by rw[hj];rfl)
     rcases QXz.mp ((T.mv _ (p8 S.j)).1.subset m)with w|w
     ·exact absurd zr (Ks O w)
     ·rw[gn w (mq T)]at ho;cases ho
   rw[hn]
   exact .inr ⟨rfl,rfl⟩
theorem Gn(n:Nat)(O:cA h g ks ls)(T:bY h g os sts)(Wk:Wt h g ks ls W)(S:MP h g sts s)(hx:x∈pZ h sts W s):
  pg.fn (n+3) 24 [.val (aO h g ks ls),.val (aQ os sts),.val (aq s),.val x]=.ok (.val (iu (vH h g os sts s x))) [.val (aO h g ks ls),.val (aQ os sts),.val (aq s),.val x]:=by
 have K:=jT T O S.j
 have d:=iH (bF sts s.2) [] [] (by simpa using K.1) (by simpa using K.2)
 obtain⟨q,rfl⟩:=bR h g x ((pY Wk S).subset hx)
 have u:=pO (n+1) O T S q
 have c:=Az n O S.l ⟨q,rfl⟩
 have t1:getD (aQ os sts) (.int 1)=some (.tup (sts.map dZ)):=by simp[aQ]
 have s0:getD (aq s) (.int 0)=some (aF s.1):=by simp[aq]
 have s1:getD (aq s) (.int 1)=some (.int s.2):=by simp[aq]
 have st:=p6 S.j
 have gt:kJ (.cH (gD (bF sts s.2)) (pL (bF sts s.2))) (.str q) (.int s.2)=some (.int ((lk (.str q) (bF sts s.2)).getD s.2)):=by
  show(if keyOk (.str q)then some ((bT (.str q) (gD (bF sts s.2)) (pL (bF sts s.2))).getD (.int s.2))else none)=_
  rw[Cy]
  cases lk (.str q) (bF sts s.2)<;>rfl
 have key:=CT O T Wk S hx
 rw[Iw]
 rcases key with ⟨k1,k2⟩|⟨k1,k2⟩
 ·rw[k1]at u
  rw[k2]
  simp[mV,u,iu]
 ·rw[k1]at u
  rw[k2]
  simp[mV,u,t1,s0,s1,st,dZ,d,Ob.d,c,fG,gt,aV,iu,sdE]
def YB:S:=(.cons (.ite (.cmp .eq (.var 6) (.var 3)) ACN .nil) .nil)
theorem SM(c:Cf)(a b e F:D)(N:Sl){q:Str}:∀(st:List (D×Nat))(s6 s7:Sl),cJ (gD st)->cL s6->cL s7->
  (∀j,lk (.str q) st=some j->∃s6' s7',bj (.tup [6,7]) (ex c YB) (st.map nH) [.val a,.val b,.val e,.val (.str q),N,.val F,s6,s7]=.ret (.val (.tup [F,.int j])) [.val a,.val b,.val e,.val (.str q),N,.val F,s6',s7'])/\
  (lk (.str q) st=none->∃s6' s7',bj (.tup [6,7]) (ex c YB) (st.map nH) [.val a,.val b,.val e,.val (.str q),N,.val F,s6,s7]=.next [.val a,.val b,.val e,.val (.str q),N,.val F,s6',s7'])
 |[]=>fun s6 s7 _ _ _=>⟨fun j z=>(by cases z),fun _=>⟨s6,s7,rfl⟩⟩
 |m::st=>fun s6 s7 t h6 h7=>by
  obtain⟨u,eu⟩:=t m.1 QYz
  have tt:bD (.tup [6,7]) (nH m) [.val a,.val b,.val e,.val (.str q),N,.val F,s6,s7]=some [.val a,.val b,.val e,.val (.str q),N,.val F,.val m.1,.val (.int m.2)]:=by
   rcases h6 with rfl|⟨d,rfl⟩<;>rcases h7 with rfl|⟨d,rfl⟩<;>simp[bD,dJ,cD,nH]
  have ih:=SM c a b e F N (q:=q) st (.val m.1) (.val (.int m.2)) (fun x hx=>t x (QYq _ hx)) (.inr ⟨_,rfl⟩) (.inr ⟨_,rfl⟩)
  rw[Qyz,bj,tt]
  have e1:lk (.str q) (m::st)=if decide (u=q)then some m.2 else lk (.str q) st:=by rw[lk,eu];rfl
  rw[e1,eu]at*
  by_cases cq:u=q
  ·subst cq
   refine⟨fun j z=>?_,fun z=>by simp at z⟩
   simp at z
   subst z
   exact⟨.val (.str u),.val (.int m.2),by simp[YB,aV]⟩
  ·have sk:(ex c YB [.val a,.val b,.val e,.val (.str q),N,.val F,.val (.str u),.val (.int m.2)])=.next [.val a,.val b,.val e,.val (.str q),N,.val F,.val (.str u),.val (.int m.2)]:=by simp[YB,cq]
   simp only[sk]
   simp only[cq,decide_false,Qxq,if_false]
   exact ih
theorem zZ(n:Nat)(O:cA h g ks ls)(T:bY h g os sts)(S:MP h g sts s)(hx:∃q,x=.str q):
  pg.fn (n+2) 47 [.val (aO h g ks ls),.val (aQ os sts),.val (aq s),.val x]=.ok (.val (iu (vH h g os sts s x))) [.val (aO h g ks ls),.val (aQ os sts),.val (aq s),.val x]:=by
 obtain⟨q,rfl⟩:=hx
 have K:=jT T O S.j
 have ln:=lN n O
 have n0:getD (aO h g ks ls) (.int 0)=some (.tup (hd h)):=by simp[aO]
 have t0:getD (aQ os sts) (.int 0)=some (.tup os):=by simp[aQ]
 have t1:getD (aQ os sts) (.int 1)=some (.tup (sts.map dZ)):=by simp[aQ]
 have s1:getD (aq s) (.int 1)=some (.int s.2):=by simp[aq]
 have st:=p6 S.j
 have i1:=(mG (q:=q) (pI h)).2.2
 have i2:=(mG (q:=q) (mq T)).2.2
 have fe:=QM (n+1) O (aQ os sts) S (q:=q) .un .un .un
 have lg:=SM (pg.cf (n+1)) (aO h g ks ls) (aQ os sts) (aq s) (aF (dq (names h g) s.1 (.str q))) (.own (.lst (names h g))) (q:=q) (bF sts s.2) .un .un K.1 (.inl rfl) (.inl rfl)
 have it:items (dZ (bF sts s.2))=some ((bF sts s.2).map nH):=rfl
 have rd:D.tup ((dq (names h g) s.1 (.str q)).map D.bl)=aF (dq (names h g) s.1 (.str q)):=rfl
 have hb:oA=⟨4,8,(.cons (.set 4 (.call 46 AAT)) (.cons (.set 5 (.bi .tuple fgC)) (.cons (.ite ABq ACU .nil) (.cons (.for_ (.tup [6,7]) (.idx AAt AAh) YB) AAs))))⟩:=rfl
 have qv:fgC.au=none:=rfl
 rw[Ft,hb]
 unfold vH
 cases c1:aK (.str q) (hd h)with
 |false=>
  cases c2:aK (.str q) os with
  |false=>
   rw[c1]at i1
   rw[c2]at i2
   simp[ln,fe,qv,rd,n0,t0,i1,i2,s1,aV,iu,sdE]
  |true=>
   rw[c1]at i1
   rw[c2]at i2
   cases hj:lk (.str q) (bF sts s.2)with
   |none=>
    obtain⟨s6,s7,e⟩:=lg.2 hj
    simp[ln,fe,qv,rd,n0,t0,i1,i2,t1,s1,st,it,e,iu]
   |some j=>
    obtain⟨s6,s7,e⟩:=lg.1 j hj
    simp[ln,fe,qv,rd,n0,t0,i1,i2,t1,s1,st,it,e,iu,sdE]
 |true=>
  rw[c1]at i1
  cases hj:lk (.str q) (bF sts s.2)with
  |none=>
   obtain⟨s6,s7,e⟩:=lg.2 hj
   simp[ln,fe,qv,rd,n0,i1,t1,s1,st,it,e,iu]
  |some j=>
   obtain⟨s6,s7,e⟩:=lg.1 j hj
   simp[ln,fe,qv,rd,n0,i1,t1,s1,st,it,e,iu,sdE]
end
end Tx
end
section
open PySem Mini
namespace Tx
structure Cs where
 h:Nat
 g:Nat
 ks:List D
 ls:List Bool
 os:List D
 sts:List (List (D×Nat))
 W:List Bool->List D
namespace Cs
variable(C:Cs)
structure Ok:Prop where
 o:cA C.h C.g C.ks C.ls
 t:bY C.h C.g C.os C.sts
 w:Wt C.h C.g C.ks C.ls C.W
def n:D:=aO C.h C.g C.ks C.ls
def t:D:=aQ C.os C.sts
abbrev nm:List D:=names C.h C.g
abbrev S(s:St):Prop:=MP C.h C.g C.sts s
def st(s:St):List D:=pZ C.h C.sts C.W s
def led(s:St)(x:D):Option St:=vH C.h C.g C.os C.sts s x
end Cs
variable{x:D}
section
variable{C:Cs}{s:St}
namespace Cs.Ok
variable(K:C.Ok)
include K
theorem sub(S:C.S s):(C.st s).Sublist C.nm:=pY K.w S
theorem ie(S:C.S s):cJ (C.st s):=fun x hx=>bR C.h C.g x ((K.sub S).subset hx)
theorem wtx(S:C.S s):cJ (C.W s.1):=fun x hx=>BR C.g x ((K.w.sub s.1 S.l).subset hx)
theorem zY{t:St}(S:C.S s)(e:C.led s x=some t):C.S t:=Wa K.t S e
theorem di(m:Nat)(S:C.S s):pg.fn (m+5) 22 [.val C.n,.val C.t,.val (aq s)]=.ok (.new (.lst (C.st s))) [.val C.n,.val C.t,.val (aq s)]:=wX m K.o K.t K.w S
theorem iz(m:Nat)(S:C.S s)(hx:x∈C.st s):pg.fn (m+3) 24 [.val C.n,.val C.t,.val (aq s),.val x]=.ok (.val (iu (C.led s x))) [.val C.n,.val C.t,.val (aq s),.val x]:=Gn m K.o K.t K.w S hx
theorem Qk(m:Nat)(S:C.S s)(hx:∃q,x=.str q):pg.fn (m+2) 47 [.val C.n,.val C.t,.val (aq s),.val x]=.ok (.val (iu (C.led s x))) [.val C.n,.val C.t,.val (aq s),.val x]:=zZ m K.o K.t S hx
theorem checked(m:Nat):pg.fn (m+9) 17 [.val C.n,.val C.t]=.ok (.val C.t) [.val C.n,.val C.t]:=pA m K.o K.t
theorem wpr(m:Nat)(S:C.S s):pg.fn (m+4) 14 [.val C.n,.val (aF s.1)]=.ok (.new (.lst (C.W s.1))) [.val C.n,.val (aF s.1)]:=K.w.pr s.1 S.l m
theorem unasked(m:Nat)(S:C.S s){q:Str}(hx:D.str q∈C.st s):pg.fn (m+1) 23 [.val C.t,.val (aq s),.val (.str q)]=.ok (.val (.bl (C.led s (.str q)).isNone)) [.val C.t,.val (aq s),.val (.str q)]:=by
 have u:=pO m K.o K.t S q
 rcases CT K.o K.t K.w S hx with ⟨a,b⟩|⟨a,b⟩<;>rw[a]at u<;>rw[Cs.led,b]<;>exact u
end Cs.Ok
theorem QW(m:Nat)(ns:List Int)(k:Int)(hk:0<=k):∃C:Cs,C.Ok/\pg.fn (m+9) 45 [.val (.lst (ns.map .int)),.val (.int k)]=.ok (.val (.tup [C.n,C.t])) [.val (.lst (ns.map .int)),.val (.int k)]:=by
 obtain⟨h,g,ks,ls,os,sts,O,T,e⟩:=QV m ns k hk
 obtain⟨W,w⟩:=Zm O
 exact⟨⟨h,g,ks,ls,os,sts,W⟩,⟨O,T,w⟩,e⟩
theorem Ss:getD C.n (.int 2)=some (aF C.ls):=by simp[Cs.n,aO];rfl
theorem Ut:getD C.t (.int 0)=some (.tup C.os):=by simp[Cs.t,aQ]
theorem ZL:getD C.t (.int 1)=some (.tup (C.sts.map dZ)):=by simp[Cs.t,aQ]
theorem Z4(s:St):getD (aq s) (.int 0)=some (aF s.1):=by simp[aq]
theorem aec(s:St):getD (aq s) (.int 1)=some (.int s.2):=by simp[aq]
end
abbrev Rs:=List (St×List D)
def kD(R:Rs):List D:=R.map fun p=>aq p.1
def vD(R:Rs):List D:=R.map fun p=>.lst p.2
theorem J2(R N:Rs):kD (R++N)=kD R++kD N:=List.map_append
theorem Ul(R N:Rs):vD (R++N)=vD R++vD N:=List.map_append
theorem z6(R:Rs):(kD R).length=R.length:=QAq _
theorem BX:∀a b:List Bool,ji (a.map .bl) (b.map .bl)=decide (a=b)
 |[],[]=>rfl
 |[],_::_=>rfl
 |_::_,[]=>rfl
 |x::a,y::b=>by
  simp only[Qyz,ji,bV,BX a b,List.cons.injEq]
  by_cases e:x=y<;>by_cases e':a=b<;>simp[e,e']
theorem By(a b:St):bV (aq a) (aq b)=decide (a=b):=by
 obtain⟨a,i⟩:=a
 obtain⟨b,j⟩:=b
 simp only[aq,aF,bV,ji,BX,Bool.and_true,Prod.mk.injEq]
 by_cases e:a=b<;>by_cases e':i=j<;>simp[e,e']<;>omega
theorem Kq(t:St):∀R:Rs,aK (aq t) (kD R)=decide (t∈R.map (·.1))
 |[]=>by simp[kD,aK]
 |p::R=>by
  have:=Kq t R
  simp only[kD]at this
  simp only[kD,Qyz,aK,By,this,QCq]
  by_cases e:p.1=t
  ·simp[e]
  ·have:¬t=p.1:=fun z=>e z.symm
   simp[e,this]
def JP(s:St):Rs->Option (List D)
 |[]=>none
 |p::R=>if p.1=s then some p.2 else JP s R
theorem Sx(s:St):∀R:Rs,bT (aq s) (kD R) (vD R)=(JP s R).map D.lst
 |[]=>rfl
 |p::R=>by
  have:=Sx s R
  simp only[kD,vD]at this
  simp only[kD,vD,Qyz,bT,By,this,JP]
  by_cases e:p.1=s<;>simp[e]
theorem CJ{s:St}{r:List D}(N:Rs):∀{R:Rs},JP s R=some r->JP s (R++N)=some r
 |[]=>fun e=>by cases e
 |p::R=>fun e=>by
  simp only[List.cons_append,JP]at e⊢
  split
  ·rename_i z;rw[if_pos z]at e;exact e
  ·rename_i z;rw[if_neg z]at e;exact CJ N e
theorem zX{s:St}{r:List D}:∀{R:Rs}{k:Nat},(R.map (·.1)).Nodup->R[k]? =some (s,r)->JP s R=some r
 |[],_=>fun _ e=>by cases e
 |p::R,0=>fun _ e=>by cases e;simp[JP]
 |p::R,k+1=>fun nd e=>by
  have e':R[k]? =some (s,r):=e
  rw[Qyz,List.nodup_cons]at nd
  have ne:¬p.1=s:=fun z=>nd.1 (by rw[z];exact QTz (f:=(·.1)) (QBz e'))
  rw[JP,if_neg ne]
  exact zX nd.2 e'
theorem mH(s:St):nR (aq s)=true:=by
 have:∀bs:List Bool,(bools (bs.map .bl)).isSome=true:=fun bs=>by
  induction bs with
  |nil=>rfl
  |cons b bs ih=>simp only[Qyz,bools,Option.isSome_map,ih]
 exact this s.1
theorem Qc(t:St)(R:Rs):aG .notin (aq t) (.jf (kD R) (vD R))=some (!decide (t∈R.map (·.1))):=by
 show(if nR (aq t)then some (!aK (aq t) (kD R))else none)=_
 rw[mH,Kq]
 rfl
variable{R:Rs}{r:List D}
theorem Th{s:St}(e:JP s R=some r):getD (.jf (kD R) (vD R)) (aq s)=some (.lst r):=by
 show(if nR (aq s)then bT (aq s) (kD R) (vD R)else none)=_
 rw[mH,Sx,e]
 rfl
theorem aaH{t:St}(e:t∉R.map (·.1))(f:R.length+1<=1000):qz (aq t) (.lst r) (.sdt (kD R) (vD R))=some (.sdt (kD (R++[(t,r)])) (vD (R++[(t,r)]))):=by
 have f':fits ((kD R).length+1)=true:=by rw[z6];simp[fits];omega
 show(if nR (aq t)&&fits ((kD R).length+1)then some (Ob.sdt (putD (aq t) (.lst r) (kD R) (vD R)).1 (putD (aq t) (.lst r) (kD R) (vD R)).2)else none)=_
 have i:aK (aq t) (kD R)=false:=by rw[Kq];simpa using e
 have p:putD (aq t) (.lst r) (kD R) (vD R)=(kD R++[aq t],vD R++[.lst r]):=by unfold putD;rw[i];rfl
 rw[mH,f',p,J2,Ul]
 rfl
section
variable{C:Cs}
structure Cs.Ro(C:Cs)(R:Rs):Prop where
 nd:(R.map (·.1)).Nodup
 ok:∀p∈R,C.S p.1
 le:∀p∈R,p.2.length<=R.length
 wr:∀p∈R,∀x∈p.2,x∈C.nm
def Cs.new(C:Cs)(s:St)(r:List D):List D->Rs->Rs
 |[],_=>[]
 |x::xs,R=>match C.led s x with
  |none=>C.new s r xs R
  |some t=>if t∈R.map (·.1)then C.new s r xs R else(t,r++[x])::C.new s r xs (R++[(t,r++[x])])
theorem Jw(Y:C.Ro R){t:St}(S:C.S t)(hr:r.length<=R.length+1)(ht:t∉R.map (·.1))(hw:∀x∈r,x∈C.nm):C.Ro (R++[(t,r)]):=by
 refine⟨?_,fun p hp=>?_,fun p hp=>?_,fun p hp=>?_⟩
 ·rw[List.map_append,List.nodup_append]
  exact⟨Y.nd,by simp,fun a ha b hb e=>ht (by
   have:b=t:=by simpa using hb
   rw[<-this,<-e];exact ha)⟩
 ·rcases QXz.mp hp with z|z
  ·exact Y.ok p z
  ·rw[QDz.mp z];exact S
 ·rw[QTq]
  rcases QXz.mp hp with z|z
  ·exact Nat.le_succ_of_le (Y.le p z)
  ·rw[QDz.mp z];exact hr
 ·rcases QXz.mp hp with z|z
  ·exact Y.wr p z
  ·rw[QDz.mp z];exact hw
theorem uU(hw:∀x∈r,x∈C.nm)(hx:x∈C.nm):∀y∈r++[x],y∈C.nm:=fun y hy=>by
 rcases QXz.mp hy with z|z
 ·exact hw y z
 ·rw[QDz.mp z];exact hx
theorem nF(K:C.Ok){s:St}(S:C.S s){r:List D}(hw:∀x∈r,x∈C.nm):∀(xs:List D){R:Rs},(∀x∈xs,x∈C.nm)->C.Ro R->r.length<=R.length->C.Ro (R++C.new s r xs R)
 |[],R,_,Y,_=>by simpa[Cs.new]using Y
 |x::xs,R,hx,Y,hr=>by
  have hx':∀y∈xs,y∈C.nm:=fun y hy=>hx y (QYq _ hy)
  rw[Cs.new]
  split
  ·exact nF K S hw xs hx' Y hr
  ·rename_i t e
   split
   ·exact nF K S hw xs hx' Y hr
   ·rename_i ht
    have:=nF K S (r:=r) hw xs hx' (Jw Y (K.zY S e) (r:=r++[x]) (by simp;omega) ht (uU hw (hx x QYz))) (by simp;omega)
    rw[QLq]at this
    exact this
def allB:Nat->List (List Bool)
 |0=>[[]]
 |n+1=>(allB n).map (true:: ·)++(allB n).map (false:: ·)
theorem yO:∀n,(allB n).length=2 ^n
 |0=>rfl
 |n+1=>by rw[allB,QTq,QAq,QAq,yO n,Nat.pow_succ];omega
theorem rM:∀bs:List Bool,bs∈allB bs.length
 |[]=>by simp[allB]
 |b::bs=>by
  rw[QBq,allB,QXz]
  cases b
  ·exact .inr (QTz (rM bs))
  ·exact .inl (QTz (rM bs))
def Ml(n:Nat):List St:=(allB n).map (·,0)++((allB n).map (·,1)++((allB n).map (·,2)++(allB n).map (·,3)))
theorem Mj(n:Nat):(Ml n).length=4*2 ^n:=by
 simp only[Ml,QTq,QAq,yO]
 omega
theorem Mi{s:St}(h:s.2<4):s∈Ml s.1.length:=by
 obtain⟨bs,j⟩:=s
 have m:=rM bs
 simp only[Ml,QXz,QDq]
 rcases j with _|_|_|_|j
 ·exact .inl ⟨bs,m,rfl⟩
 ·exact .inr (.inl ⟨bs,m,rfl⟩)
 ·exact .inr (.inr (.inl ⟨bs,m,rfl⟩))
 ·exact .inr (.inr (.inr ⟨bs,m,rfl⟩))
 ·simp at h;omega
theorem xP:∀(l L:List St),l.Nodup->(∀x∈l,x∈L)->l.length<=L.length
 |[]=>fun _ _ _=>QIq _
 |x::l=>fun L nd m=>by
  rw[List.nodup_cons]at nd
  have mx:=m x QYz
  have:=xP l (L.erase x) nd.2 fun y hy=>(List.mem_erase_of_ne fun e=>nd.1 (by rw[<-e];exact hy)).mpr (m y (QYq _ hy))
  rw[List.length_erase_of_mem mx]at this
  have:=List.length_pos_of_mem mx
  rw[QBq]
  omega
theorem Cs.Ro.uq(K:C.Ok)(X:C.Ro R):R.length<=512:=by
 have a:=xP (R.map (·.1)) (Ml (C.nm).length) X.nd fun s hs=>by
  obtain⟨p,hp,rfl⟩:=QDq.mp hs
  have S:=X.ok p hp
  rw[<-S.l]
  exact Mi (Qvq S.j K.t.s4)
 rw[QAq,Mj,fL K.o.h2 K.o.g5]at a
 have h2:=K.o.h2
 have g5:=K.o.g5
 have:2 ^(C.h+C.g)<=2 ^7:=Nat.pow_le_pow_right (by omega) (by omega)
 omega
def Cs.sG(C:Cs):Nat->Nat->Rs->Rs
 |0,_,R=>R
 |f+1,k,R=>match R[k]? with
  |none=>R
  |some p=>C.sG f (k+1) (R++C.new p.1 p.2 (C.st p.1) R)
theorem Ly(K:C.Ok):∀(f k:Nat){R:Rs},C.Ro R->C.Ro (C.sG f k R)
 |0,_,_,X=>X
 |f+1,k,R,X=>by
  rw[Cs.sG]
  split
  ·exact X
  ·rename_i p e
   have m:=QBz e
   exact Ly K f (k+1) (nF K (X.ok p m) (X.wr p m) _ (fun x hx=>(K.sub (X.ok p m)).subset hx) X (X.le p m))
def sI(ls:List Bool):St:=(ls,0)
theorem tB(K:C.Ok):C.S (sI C.ls):=⟨by rw[fL K.o.h2 K.o.g5];exact K.o.ll,K.t.s1⟩
def R0(ls:List Bool):Rs:=[(sI ls,[])]
theorem Mw(K:C.Ok):C.Ro (R0 C.ls):=⟨by simp[R0],fun p hp=>by rw[QDz.mp hp];exact tB K,fun p hp=>by rw[QDz.mp hp];simp,fun p hp=>by rw[QDz.mp hp];simp⟩
end
end Tx
end
section
open PySem Mini
namespace Tx
section
variable{C:Cs}
theorem nT(s:St):cg (aq s)=false:=rfl
theorem yu(n:Nat):pg.fn (n+1) 21 [.val C.n]=.ok (.val (aq (sI C.ls))) [.val C.n]:=by
 have n2:=Ss (C:=C)
 rw[rR]
 simp[gH,n2,aV]
 rfl
def Qd:S:=(.cons ABf (.cons (.ite (.and (.cons (.cmp .notN (.var 6) ABV) ACq)) ABK .nil) .nil))
theorem Cp(n:Nat)(K:C.Ok){s:St}(S:C.S s){r:List D}:∀(xs:List D)(R:Rs)(M:List D)(s5 s6:Sl),(∀x∈xs,x∈C.st s)->C.Ro R->JP s R=some r->r.length<=R.length->(∀x∈r,x∈C.nm)->M.length<=R.length->cL s5->cL s6->∃s5' s6',
  bj (.name 5) (ex (pg.cf (n+3)) Qd) xs [.val C.n,.val C.t,.val (aq s),.bor (.sdt (kD R) (vD R)),.own (.lst M),s5,s6]=.next [.val C.n,.val C.t,.val (aq s),.bor (.sdt (kD (R++C.new s r xs R)) (vD (R++C.new s r xs R))),.own (.lst (M++kD (C.new s r xs R))),s5',s6']
 |[]=>fun R M s5 s6 _ _ _ _ _ _ _ _=>⟨s5,s6,by simp[bj,Cs.new,kD]⟩
 |x::xs=>fun R M s5 s6 hx X lr rl rw_' ml h5 h6=>by
  have lt:=K.iz n S (hx x QYz)
  have hx':∀y∈xs,y∈C.st s:=fun y hy=>hx y (QYq _ hy)
  have tt:bD (.name 5) x [.val C.n,.val C.t,.val (aq s),.bor (.sdt (kD R) (vD R)),.own (.lst M),s5,s6]=some [.val C.n,.val C.t,.val (aq s),.bor (.sdt (kD R) (vD R)),.own (.lst M),.val x,s6]:=by
   rcases h5 with rfl|⟨d,rfl⟩<;>simp[bD,cD]
  rw[bj,tt]
  simp only[Cs.new]
  have c6:∀d,u9 6 [.val C.n,.val C.t,.val (aq s),.bor (.sdt (kD R) (vD R)),.own (.lst M),.val x,s6] (.val d) (some s6)=some [.val C.n,.val C.t,.val (aq s),.bor (.sdt (kD R) (vD R)),.own (.lst M),.val x,.val d]:=fun d=>by
   rcases h6 with rfl|⟨d,rfl⟩<;>simp
  cases e:C.led s x with
  |none=>
   rw[e]at lt
   have go:ex (pg.cf (n+3)) Qd [.val C.n,.val C.t,.val (aq s),.bor (.sdt (kD R) (vD R)),.own (.lst M),.val x,s6]=.next [.val C.n,.val C.t,.val (aq s),.bor (.sdt (kD R) (vD R)),.own (.lst M),.val x,.val .non]:=by
    simp[Qd,lt,c6,iu]
   simp only[go]
   exact Cp n K S xs R M (.val x) (.val .non) hx' X lr rl rw_' ml (.inr ⟨_,rfl⟩) (.inr ⟨_,rfl⟩)
  |some t=>
   rw[e]at lt
   have ni:=Qc t R
   by_cases ht:t∈R.map (·.1)
   ·have go:ex (pg.cf (n+3)) Qd [.val C.n,.val C.t,.val (aq s),.bor (.sdt (kD R) (vD R)),.own (.lst M),.val x,s6]=.next [.val C.n,.val C.t,.val (aq s),.bor (.sdt (kD R) (vD R)),.own (.lst M),.val x,.val (aq t)]:=by
     rw[QFq ht]at ni
     simp[Qd,lt,c6,iu,nT,ni,Ob.d]
    simp only[go,if_pos ht]
    exact Cp n K S xs R M (.val x) (.val (aq t)) hx' X lr rl rw_' ml (.inr ⟨_,rfl⟩) (.inr ⟨_,rfl⟩)
   ·have rb:=X.uq K
    have pr:=aaH (t:=t) (r:=r++[x]) (R:=R) ht (by omega)
    have ge:=Th lr
    have f1:fits (r.length+1)=true:=by simp[fits];omega
    have f2:fits (M.length+1)=true:=by simp[fits];omega
    have go:ex (pg.cf (n+3)) Qd [.val C.n,.val C.t,.val (aq s),.bor (.sdt (kD R) (vD R)),.own (.lst M),.val x,s6]=.next [.val C.n,.val C.t,.val (aq s),.bor (.sdt (kD (R++[(t,r++[x])])) (vD (R++[(t,r++[x])]))),.own (.lst (M++[aq t])),.val x,.val (aq t)]:=by
     rw[QEz ht]at ni
     simp[Qd,lt,c6,iu,nT,ni,Ob.d,ge,aV,f1,pr,f2,vz,dO]
    simp only[go,if_neg ht]
    obtain⟨a,b,z⟩:=Cp n K S (r:=r) xs (R++[(t,r++[x])]) (M++[aq t]) (.val x) (.val (aq t)) hx' (Jw X (K.zY S e) (by simp;omega) ht (uU rw_' ((K.sub S).subset (hx x QYz)))) (CJ _ lr) (by simp;omega) rw_' (by simp;omega) (.inr ⟨_,rfl⟩) (.inr ⟨_,rfl⟩)
    refine⟨a,b,?_⟩
    rw[show(Fl.next [.val C.n,.val C.t,.val (aq s),.bor (.sdt (kD (R++[(t,r++[x])])) (vD (R++[(t,r++[x])]))),.own (.lst (M++[aq t])),.val x,.val (aq t)]).turn (bj (.name 5) (ex (pg.cf (n+3)) Qd) xs)=_ from z]
    simp only[QLq,List.cons_append,List.nil_append]
    rfl
theorem JB(n:Nat)(K:C.Ok){R:Rs}(X:C.Ro R){k:Nat}{s:St}{r:List D}(e:R[k]? =some (s,r)):
  pg.fn (n+6) 26 [.val C.n,.val C.t,.val (aq s),.bor (.sdt (kD R) (vD R))]=.ok (.new (.lst (kD (C.new s r (C.st s) R)))) [.val C.n,.val C.t,.val (aq s),.bor (.sdt (kD (R++C.new s r (C.st s) R)) (vD (R++C.new s r (C.st s) R)))]:=by
 have m:=QBz e
 have S:=X.ok _ m
 have st:=K.di n S
 obtain⟨a,b,z⟩:=Cp (n+2) K S (r:=r) (C.st s) R [] .un .un (fun x hx=>hx) X (zX X.nd e) (X.le _ m) (X.wr _ m) (QIq _) (.inl rfl) (.inl rfl)
 have hb:jK=⟨4,7,(.cons (.set 4 ABY) (.cons (.for_ (.name 5) ADK Qd) ABu))⟩:=rfl
 rw[xm,hb]
 simp[aV,st,items,z,Ob.d]
theorem QR(x:D)(xs:List D):cut (x::xs) (some 1) none=xs:=by
 have a:clip (xs.length+1) 1=1:=by
  unfold clip
  simp
  intro z
  omega
 simp[cut,a]
theorem Q5(x:D)(xs:List D):at? (x::xs) 0=some x:=by
 unfold at? ix?
 simp
end
end Tx
end
section
open PySem Mini
namespace Tx
section
variable{C:Cs}
theorem JF{xs:List D}(t:∀x∈xs,x∈C.nm):nG xs=true/\n6 xs=0:=by
 have ok:∀s∈Sh 3 5,sOk s=true:=by decide+kernel
 induction xs with
 |nil=>exact⟨rfl,rfl⟩
 |cons x xs ih=>
  have m:=t x QYz
  rw[Cs.nm,mC]at m
  obtain⟨s,hs,rfl⟩:=QDq.mp m
  have i:=ih fun y hy=>t y (QYq _ hy)
  exact⟨by simp[nG,nd,ok s (Cq hs),i.1],by simp[n6,dep,i.2]⟩
end
mutual
theorem vV:∀d:D,nd d=true->bV d d=true
 |.non=>fun _=>rfl
 |.bl b=>fun _=>by cases b<;>rfl
 |.int i=>fun _=>by simp[bV]
 |.str s=>fun _=>by simp[bV]
 |.tup xs=>fun h=>by simpa[bV]using qW xs h
 |.lst xs=>fun h=>by simpa[bV]using qW xs h
 |.cH _ _=>fun h=>by simp[nd]at h
 |.jf _ _=>fun h=>by simp[nd]at h
theorem qW:∀xs:List D,nG xs=true->ji xs xs=true
 |[]=>fun _=>rfl
 |x::xs=>fun h=>by
  simp only[nG,QUq]at h
  simp[ji,vV x h.1,qW xs h.2]
end
theorem abR{d:D}(h:nd d=true/\dep d<=50):aG .eq d d=some true/\aG .ne d d=some false:=by
 have o:nZ d d=true:=by simp[nZ,h.1,h.2]
 constructor
 ·show(if nZ d d then some (bV d d)else none)=_
  rw[vV _ h.1,o];rfl
 ·show(if nZ d d then some (!bV d d)else none)=_
  rw[vV _ h.1,o];rfl
end Tx
end
section
open PySem Mini
namespace Tx
variable{s:St}
section
variable{C:Cs}
def Cs.gone(C:Cs)(s t:St)(x:D):List D:=(C.W s.1).filter fun y=> !aK y (C.W t.1++[x])
def Nt(r:List D):List D->D
 |[]=>.non
 |y::_=>.tup [.str "taken",.lst r,y]
def Cs.sf(C:Cs)(s:St)(r:List D)(x:D):D:=
 match C.led s x with
 |none=>.tup [.str "unasked",.lst r]
 |some t=>Nt r (C.gone s t x)
def fY(f:D->D):List D->D
 |[]=>.non
 |x::xs=>if cg (f x)then fY f xs else f x
def zQ(os:List D)(st:List (D×Nat)):Bool:=st.any fun m=>aK m.1 os
def Cs.flt(C:Cs)(s:St)(r:List D):D:=
 if (C.st s).isEmpty then(if zQ C.os (bF C.sts s.2)then .tup [.str "stuck",.lst r]else .non)else fY (fun x=>C.sf s (r++[x]) x) (C.st s)
def yS(s:Sl):Prop:=s=.un\/(∃d,s=.val d)\/∃o,s=.own o
theorem Ge{q:Str}{xs:List D}(t:cJ xs):aG .notin (.str q) (.lst xs)=some (!aK (.str q) xs):=by
 have o:gF (.str q) xs=true:=by unfold gF;rw[j5 t];rfl
 show(if gF (.str q) xs then some (!aK (.str q) xs)else none)=_;rw[o];rfl
def Tr:S:=(.cons (.ite ABl ABc .nil) .nil)
theorem Qp(u q:Str)(ws:List D):aK (.str u) (ws++[.str q])=(aK (.str u) ws||decide (u=q)):=by
 rw[uC]
 congr 1
 simp[aK,bV]
 by_cases e:u=q
 ·simp[e]
 ·simp[e]
  exact fun z=>e z.symm
theorem Tq(c:Cf)(a b e:Sl)(q:Str)(r:List D){ws:List D}(tw:cJ ws):∀(xs:List D)(s6:Sl),cJ xs->cL s6->∃s6',
  bj (.name 6) (ex c Tr) xs [a,b,e,.val (.str q),.val (.lst r),.own (.lst ws),s6]=match xs.filter (fun y=> !aK y (ws++[.str q]))with
   |[]=>.next [a,b,e,.val (.str q),.val (.lst r),.own (.lst ws),s6']
   |y::ys=>.ret (.val (Nt r (y::ys))) [a,b,e,.val (.str q),.val (.lst r),.own (.lst ws),s6']
 |[]=>fun s6 _ _=>⟨s6,rfl⟩
 |x::xs=>fun s6 t h6=>by
  obtain⟨u,rfl⟩:=t x QYz
  have tt:bD (.name 6) (.str u) [a,b,e,.val (.str q),.val (.lst r),.own (.lst ws),s6]=some [a,b,e,.val (.str q),.val (.lst r),.own (.lst ws),.val (.str u)]:=by
   rcases h6 with rfl|⟨d,rfl⟩<;>simp[bD,cD]
  obtain⟨s6',z⟩:=Tq c a b e q r tw xs (.val (.str u)) (fun y hy=>t y (QYq _ hy)) (.inr ⟨_,rfl⟩)
  have ni:=Ge (q:=u) tw
  rw[bj,tt,List.filter_cons,Qp]
  cases c1:aK (.str u) ws with
  |true=>
   refine⟨s6',?_⟩
   rw[c1]at ni
   have go:ex c Tr [a,b,e,.val (.str q),.val (.lst r),.own (.lst ws),.val (.str u)]=.next [a,b,e,.val (.str q),.val (.lst r),.own (.lst ws),.val (.str u)]:=by
    by_cases cq:u=q<;>simp[Tr,cq,ni,Ob.d]
   simp only[go]
   exact z
  |false=>
   rw[c1]at ni
   by_cases cq:u=q
   ·refine⟨s6',?_⟩
    have go:ex c Tr [a,b,e,.val (.str q),.val (.lst r),.own (.lst ws),.val (.str u)]=.next [a,b,e,.val (.str q),.val (.lst r),.own (.lst ws),.val (.str u)]:=by
     simp[Tr,cq]
    simp only[go,QFq cq]
    exact z
   ·refine⟨.val (.str u),?_⟩
    have go:ex c Tr [a,b,e,.val (.str q),.val (.lst r),.own (.lst ws),.val (.str u)]=.ret (.val (.tup [.str "taken",.lst r,.str u])) [a,b,e,.val (.str q),.val (.lst r),.own (.lst ws),.val (.str u)]:=by
     simp[Tr,cq,ni,Ob.d,aV]
    simp only[go,QEz cq]
    rfl
theorem Xm(n:Nat)(K:C.Ok)(S:C.S s){x:D}(hx:x∈C.st s)(r:List D):
  pg.fn (n+5) 30 [.val C.n,.val C.t,.val (aq s),.val x,.val (.lst r)]=.ok (.val (C.sf s r x)) [.val C.n,.val C.t,.val (aq s),.val x,.val (.lst r)]:=by
 have lt:=K.iz (n+1) S hx
 obtain⟨q,rfl⟩:=bR C.h C.g x ((K.sub S).subset hx)
 have u:=K.unasked (n+3) S hx
 have s0:=Z4 s
 have hb:fc=⟨5,7,(.cons (.ite (.call 23 ABH) ABr .nil) (.cons ABg (.cons (.for_ (.name 6) AAq Tr) ACO)))⟩:=rfl
 rw[o7,hb]
 unfold Cs.sf
 cases e:C.led s (.str q)with
 |none=>
  rw[e]at u
  simp[u,aV]
 |some t=>
  rw[e]at u lt
  have St:=K.zY S e
  have w1:=K.wpr n St
  have w2:=K.wpr n S
  have t0:=Z4 t
  obtain⟨s6,z⟩:=Tq (pg.cf (n+4)) (.val C.n) (.val C.t) (.val (aq s)) q r (K.wtx St) (C.W s.1) .un (K.wtx S) (.inl rfl)
  show _=Res.ok (.val (Nt r ((C.W s.1).filter fun y=> !aK y (C.W t.1++[.str q])))) _
  cases hf:(C.W s.1).filter (fun y=> !aK y (C.W t.1++[.str q]))with
  |nil=>
   rw[hf]at z
   simp[u,lt,iu,t0,w1,w2,s0,Ob.d,items,z,Nt]
  |cons y ys=>
   rw[hf]at z
   simp[u,lt,iu,t0,w1,w2,s0,Ob.d,items,z]
def hoC:E:=.comp 1 (.name 0) (.idx AAb AAt) AAL (.cmp .isin AAc ABI)
theorem Ab(n:Nat)(K:C.Ok)(S:C.S s):
  pg.fn (n+1) 29 [.val C.t,.val (aq s)]=.ok (.val (.bl (zQ C.os (bF C.sts s.2)))) [.val C.t,.val (aq s)]:=by
 have Ky:=jT K.t K.o S.j
 have t0:=Ut (C:=C)
 have t1:=ZL (C:=C)
 have s1:=aec s
 have st:=p6 S.j
 have e:=kO (c:=pg.cf n) (it:=.idx AAb AAt) (el:=.cmp .isin AAc ABI) (σ:=[.val C.t,.val (aq s)]) (τ:=[.val C.t,.val (aq s)]) (d:=dZ (bF C.sts s.2)) (xs:=(bF C.sts s.2).map nH) (r:=.val (dZ (bF C.sts s.2))) (fun d=>match d with|.tup (a::_)=>.bl (aK a C.os)|_=>.non) (by simp[t1,s1,st]) rfl rfl (fun x hx=>by
  obtain⟨m,hm,rfl⟩:=QDq.mp hx
  obtain⟨q,eq⟩:=Ky.1 m.1 (QTz hm)
  have i:=(mG (q:=q) (mq K.t)).2.1
  simp[nH,t0,eq,i])
 have e':ev (pg.cf n) hoC [.val C.t,.val (aq s)]=.ok (.new (.lst ((bF C.sts s.2).map fun m=>.bl (aK m.1 C.os)))) [.val C.t,.val (aq s)]:=by
  rw[List.map_map]at e
  exact e
 have bs:∀st:List (D×Nat),bools (st.map fun m=>D.bl (aK m.1 C.os))=some (st.map fun m=>aK m.1 C.os):=fun st=>by
  induction st with
  |nil=>rfl
  |cons m st ih=>simp only[Qyz,bools,ih,Option.map_some]
 have ba:b1 .any (.lst ((bF C.sts s.2).map fun m=>D.bl (aK m.1 C.os)))=some (.val (.bl (zQ C.os (bF C.sts s.2)))):=by
  show(bools _).map _=_
  rw[bs]
  simp[zQ,List.any_map]
 have hb:oH=⟨2,2,(.cons (.ret (.bi .any hoC)) .nil)⟩:=rfl
 have q:hoC.au=none:=rfl
 rw[Fz,hb]
 simp[q,e',Ob.d,ba]
def YL:S:=(.cons AAy (.cons (.ite (.cmp .notN (.var 6) ABV) (.cons (.ret (.var 6)) .nil) .nil) .nil))
theorem Tt(n:Nat)(K:C.Ok){s:St}(S:C.S s){r:List D}(hr:r.length<=512)(a4:Sl):∀(xs:List D)(s5 s6:Sl),(∀x∈xs,x∈C.st s)->cL s5->cL s6->∃s5' s6',
  bj (.name 5) (ex (pg.cf (n+5)) YL) xs [.val C.n,.val C.t,.val (aq s),.val (.lst r),a4,s5,s6]=if cg (fY (fun x=>C.sf s (r++[x]) x) xs)then .next [.val C.n,.val C.t,.val (aq s),.val (.lst r),a4,s5',s6']
   else .ret (.val (fY (fun x=>C.sf s (r++[x]) x) xs)) [.val C.n,.val C.t,.val (aq s),.val (.lst r),a4,s5',s6']
 |[]=>fun s5 s6 _ _ _=>⟨s5,s6,rfl⟩
 |x::xs=>fun s5 s6 hx h5 h6=>by
  have fo:=Xm n K S (hx x QYz) (r++[x])
  have f1:fits (r.length+1)=true:=by simp[fits];omega
  have tt:bD (.name 5) x [.val C.n,.val C.t,.val (aq s),.val (.lst r),a4,s5,s6]=some [.val C.n,.val C.t,.val (aq s),.val (.lst r),a4,.val x,s6]:=by
   rcases h5 with rfl|⟨d,rfl⟩<;>simp[bD,cD]
  have c6:∀d,u9 6 [.val C.n,.val C.t,.val (aq s),.val (.lst r),a4,.val x,s6] (.val d) (some s6)=some [.val C.n,.val C.t,.val (aq s),.val (.lst r),a4,.val x,.val d]:=fun d=>by
   rcases h6 with rfl|⟨d,rfl⟩<;>simp
  rw[bj,tt]
  simp only[fY]
  cases e:cg (C.sf s (r++[x]) x)with
  |true=>
   have en:C.sf s (r++[x]) x=.non:=by
    cases he:C.sf s (r++[x]) x<;>first|rfl|(rw[he]at e;cases e)
   rw[en]at fo
   have go:ex (pg.cf (n+5)) YL [.val C.n,.val C.t,.val (aq s),.val (.lst r),a4,.val x,s6]=.next [.val C.n,.val C.t,.val (aq s),.val (.lst r),a4,.val x,.val .non]:=by
    simp[YL,aV,Ob.d,f1,fo,c6]
   simp only[go,if_true]
   exact Tt n K S hr a4 xs (.val x) (.val .non) (fun y hy=>hx y (QYq _ hy)) (.inr ⟨_,rfl⟩) (.inr ⟨_,rfl⟩)
  |false=>
   refine⟨.val x,.val (C.sf s (r++[x]) x),?_⟩
   have go:ex (pg.cf (n+5)) YL [.val C.n,.val C.t,.val (aq s),.val (.lst r),a4,.val x,s6]=.ret (.val (C.sf s (r++[x]) x)) [.val C.n,.val C.t,.val (aq s),.val (.lst r),a4,.val x,.val (C.sf s (r++[x]) x)]:=by
    simp[YL,aV,Ob.d,f1,fo,c6,e]
   simp only[go,Qxq,if_false,e]
   rfl
theorem yz(n:Nat)(K:C.Ok)(S:C.S s){r:List D}(hr:r.length<=512):
  pg.fn (n+6) 28 [.val C.n,.val C.t,.val (aq s),.val (.lst r)]=.ok (.val (C.flt s r)) [.val C.n,.val C.t,.val (aq s),.val (.lst r)]:=by
 have st:=K.di n S
 have ho:=Ab (n+4) K S
 obtain⟨a,b,z⟩:=Tt n K S hr (.val (.lst (C.st s))) (C.st s) .un .un (fun x hx=>hx) (.inl rfl) (.inl rfl)
 have hb:lJ=⟨4,7,(.cons (.set 4 ADK) (.cons (.ite ACX ACV .nil) (.cons (.for_ (.name 5) (.var 4) YL) ACO)))⟩:=rfl
 rw[zL,hb]
 unfold Cs.flt
 cases c:(C.st s).isEmpty with
 |true=>
  have en:C.st s=[]:=List.isEmpty_iff.mp c
  rw[en]at z
  cases co:zQ C.os (bF C.sts s.2)with
  |true=>
   rw[co]at ho
   simp[st,Ob.d,c,ho,aV]
  |false=>
   rw[co]at ho
   simp[st,Ob.d,ho,en,items,bj]
 |false=>
  simp only[Qxq,if_false]
  cases cn:cg (fY (fun x=>C.sf s (r++[x]) x) (C.st s))with
  |true=>
   have en:fY (fun x=>C.sf s (r++[x]) x) (C.st s)=.non:=by
    cases he:fY (fun x=>C.sf s (r++[x]) x) (C.st s)<;>first|rfl|(rw[he]at cn;cases cn)
   rw[cn,if_pos rfl]at z
   rw[en]
   simp[st,Ob.d,c,items,z]
  |false=>
   rw[cn,if_neg (by simp)]at z
   simp[st,Ob.d,c,items,z]
end
end Tx
end
section
open PySem Mini
namespace Tx
section
variable{C:Cs}
theorem zT{d:D}(e:cg d=true):d=.non:=by
 cases d<;>first|rfl|cases e
theorem wj:∀(f k:Nat)(R:Rs),∃Z,C.sG f k R=R++Z
 |0=>fun _ R=>⟨[],by simp[Cs.sG]⟩
 |f+1=>fun k R=>by
  rw[Cs.sG]
  split
  ·exact⟨[],by simp⟩
  ·rename_i p e
   obtain⟨Z,z⟩:=wj f (k+1) (R++C.new p.1 p.2 (C.st p.1) R)
   exact⟨_,by rw[z,QLq]⟩
def Cs.ff(C:Cs):Rs->D
 |[]=>.non
 |p::R=>if cg (C.flt p.1 p.2)then C.ff R else C.flt p.1 p.2
def YK:S:=(.cons ABJ (.cons (.ite (.cmp .notN (.var 4) ABV) ABu .nil) AAw))
theorem Tp(n:Nat)(K:C.Ok):∀(f k:Nat)(R:Rs)(s4:Sl),C.Ro R->k<=R.length->512<f+k->cL s4->∃a b c,
  b7 (ev (pg.cf (n+6)) (.var 3)) (ex (pg.cf (n+6)) YK) f [.val C.n,.val C.t,.own (.sdt (kD R) (vD R)),.own (.lst (kD (R.drop k))),s4]=
   if cg (C.ff ((C.sG f k R).drop k))then .next [.val C.n,.val C.t,a,b,c]else .ret (.val (C.ff ((C.sG f k R).drop k))) [.val C.n,.val C.t,a,b,c]
 |0=>fun k R _ X hk hf _=>by have:=X.uq K;omega
 |f+1=>fun k R s4 X hk hf h4=>by
  have rb:=X.uq K
  by_cases c:k<R.length
  ·obtain⟨p,e⟩:∃p,R[k]? =some p:=⟨_,QXq c⟩
   obtain⟨s,r⟩:=p
   have m:=QBz e
   have S:=X.ok _ m
   have nw:=JB n K X e
   have fa:=yz n K S (r:=r) (Nat.le_trans (X.le _ m) rb)
   have ge:=Th (zX X.nd e)
   have dr:kD (R.drop k)=aq s::kD (R.drop (k+1)):=by
    rw[List.drop_eq_getElem_cons c]
    rw[QXq c]at e
    simp only[Option.some.injEq]at e
    simp[kD,e]
   have X':=nF K S (X.wr _ m) (C.st s) (fun x hx=>(K.sub S).subset hx) X (X.le _ m)
   have rb':=X'.uq K
   simp only[QTq]at rb'
   have fi:fits ((kD (R.drop (k+1))).length+(kD (C.new s r (C.st s) R)).length)=true:=by
    rw[z6,z6,List.length_drop];simp[fits];omega
   have az:=Q5 (aq s) (kD (R.drop (k+1)))
   have c4:∀d,u9 4 [.val C.n,.val C.t,.own (.sdt (kD R) (vD R)),.val (.lst (aq s::kD (R.drop (k+1)))),s4] (.val d) (some s4)=some [.val C.n,.val C.t,.own (.sdt (kD R) (vD R)),.val (.lst (aq s::kD (R.drop (k+1)))),.val d]:=fun d=>by
    rcases h4 with rfl|⟨d,rfl⟩<;>simp
   have bd:(C.sG (f+1) k R).drop k=(s,r)::(C.sG f (k+1) (R++C.new s r (C.st s) R)).drop (k+1):=by
    have b1:C.sG (f+1) k R=C.sG f (k+1) (R++C.new s r (C.st s) R):=by simp only[Cs.sG,e]
    obtain⟨Z,z⟩:=wj (C:=C) f (k+1) (R++C.new s r (C.st s) R)
    have l:k< (R++(C.new s r (C.st s) R++Z)).length:=by simp;omega
    rw[b1,z,QLq,List.drop_eq_getElem_cons l,List.getElem_append_left c]
    rw[QXq c]at e
    simp only[Option.some.injEq]at e
    rw[e]
   rw[bd,dr,b7]
   simp only[Cs.ff,afW,Ip]
   cases cn:cg (C.flt s r)with
   |true=>
    have dd:kD ((R++C.new s r (C.st s) R).drop (k+1))=kD (R.drop (k+1))++kD (C.new s r (C.st s) R):=by
     rw[List.drop_append_of_le_length (by omega),J2]
    rw[zT cn]at fa
    have go:ex (pg.cf (n+6)) YK [.val C.n,.val C.t,.own (.sdt (kD R) (vD R)),.val (.lst (aq s::kD (R.drop (k+1)))),s4]=.next [.val C.n,.val C.t,.own (.sdt (kD (R++C.new s r (C.st s) R)) (vD (R++C.new s r (C.st s) R))),.own (.lst (kD ((R++C.new s r (C.st s) R).drop (k+1)))),.val .non]:=by
     rw[dd]
     simp[YK,cM,E.f9,fQ,QR,az,nw,fi,Ob.d,ge,fa,c4]
    obtain⟨a,b,c',z⟩:=Tp n K f (k+1) _ (.val .non) X' (by simp;omega) (by omega) (.inr ⟨_,rfl⟩)
    refine⟨a,b,c',?_⟩
    simp only[if_true]
    rw[<-z]
    simp[Ob.d,go,Out.Ai]
    rfl
   |false=>
    have go:ex (pg.cf (n+6)) YK [.val C.n,.val C.t,.own (.sdt (kD R) (vD R)),.val (.lst (aq s::kD (R.drop (k+1)))),s4]=.ret (.val (C.flt s r)) [.val C.n,.val C.t,.own (.sdt (kD R) (vD R)),.val (.lst (aq s::kD (R.drop (k+1)))),.val (C.flt s r)]:=by
     simp[YK,az,Ob.d,ge,fa,c4,cn]
    refine⟨.own (.sdt (kD R) (vD R)),.val (.lst (aq s::kD (R.drop (k+1)))),.val (C.flt s r),?_⟩
    simp[Ob.d,go,Out.Ai,cn]
    rfl
  ·have dk:R.drop k=[]:=List.drop_eq_nil_of_le (by omega)
   have ge:R[k]? =none:=List.getElem?_eq_none (by omega)
   refine⟨.own (.sdt (kD R) (vD R)),.val (.lst []),s4,?_⟩
   rw[b7,Cs.sG,ge]
   simp[kD,Ob.d,Out.Ai,dk,Cs.ff,cg]
   rfl
theorem yx(n:Nat)(K:C.Ok):
  pg.fn (n+10) 27 [.val C.n,.val C.t]=.ok (.val (C.ff (C.sG 1000 0 (R0 C.ls)))) [.val C.n,.val C.t]:=by
 have c:=K.checked n
 have f:=yu (n+8) (C:=C)
 obtain⟨q1,q2,q3,z⟩:=Tp (n+3) K 1000 0 (R0 C.ls) .un (Mw K) (QIq _) (by omega) (.inl rfl)
 have k0:kD ((R0 C.ls).drop 0)=[aq (sI C.ls)]:=rfl
 have k1:kD (R0 C.ls)=[aq (sI C.ls)]:=rfl
 have v1:vD (R0 C.ls)=[.lst []]:=rfl
 rw[k0,k1,v1,List.drop_zero]at z
 have tn:(pg.cf (n+9)).turns=1000:=rfl
 have ds:Am [aq (sI C.ls),.lst []]=some (.new (.sdt [aq (sI C.ls)] [.lst []])):=by
  have:K9 [aq (sI C.ls),.lst []]=some (.new (.sdt [aq (sI C.ls)] [.lst []])):=by
   show(if nR (aq (sI C.ls))then _ else none)=_
   rw[mH];rfl
  unfold Am
  rw[this]
  rfl
 have hb:wu=⟨2,5,(.cons (.expr (.call 17 ABi)) (.cons ACZ (.cons (.set 3 ACe) (.cons (.while_ (.var 3) YK) ACO))))⟩:=rfl
 have bl:∀ks vs:List D,b1 .list (.jf ks vs)=some (.new (.lst ks)):=fun _ _=>rfl
 rw[OJ,hb]
 generalize C.ff (C.sG 1000 0 (R0 C.ls))=d at*
 cases cn:cg d with
 |true=>
  rw[cn,if_pos rfl]at z
  rw[zT cn]
  simp[c,f,aV,ds,bl,Ob.d,tn,z]
 |false=>
  rw[cn,if_neg (by simp)]at z
  simp[c,f,aV,ds,bl,Ob.d,tn,z]
end
end Tx
end
section
open PySem Mini
namespace Tx
section
variable{C:Cs}
def Cs.run(C:Cs):List D->St->Option St
 |[],s=>some s
 |w::ws,s=>if aK w (C.st s)then(C.led s w).bind (C.run ws)else none
theorem ql:∀(a b:List D)(s:St),C.run (a++b) s=(C.run a s).bind (C.run b)
 |[]=>fun b s=>rfl
 |w::a=>fun b s=>by
  simp only[List.cons_append,Cs.run]
  split
  ·cases C.led s w with
   |none=>rfl
   |some s'=>exact ql a b s'
  ·rfl
end
end Tx
end
section
open PySem Mini
namespace Tx
section
variable{C:Cs}
theorem mz{s:St}{r:List D}{p:St×List D}:∀{xs:List D}{R:Rs},p∈C.new s r xs R->∃x∈xs,C.led s x=some p.1/\p.2=r++[x]
 |[],R,hp=>by cases hp
 |x::xs,R,hp=>by
  rw[Cs.new]at hp
  split at hp
  ·obtain⟨y,hy,z⟩:=mz hp
   exact⟨y,QYq _ hy,z⟩
  ·rename_i t e
   split at hp
   ·obtain⟨y,hy,z⟩:=mz hp
    exact⟨y,QYq _ hy,z⟩
   ·rcases QCq.mp hp with rfl|hp
    ·exact⟨x,QYz,e,rfl⟩
    ·obtain⟨y,hy,z⟩:=mz hp
     exact⟨y,QYq _ hy,z⟩
theorem pF{s t:St}{r:List D}{x:D}(e:C.led s x=some t):∀{xs:List D}{R:Rs},x∈xs->t∈(R++C.new s r xs R).map (·.1)
 |[],R,hx=>by cases hx
 |y::xs,R,hx=>by
  rw[Cs.new]
  split
  ·rename_i ey
   rcases QCq.mp hx with rfl|hx
   ·rw[e]at ey;cases ey
   ·exact pF e hx
  ·rename_i u ey
   split
   ·rename_i hu
    rcases QCq.mp hx with rfl|hx
    ·rw[e]at ey;cases ey
     rw[List.map_append];exact QWz _ hu
    ·exact pF e hx
   ·rcases QCq.mp hx with rfl|hx
    ·rw[e]at ey;cases ey
     simp
    ·have:=pF (r:=r) (R:=R++[(u,r++[y])]) e hx
     rw[QLq]at this
     exact this
structure Cs.Bf(C:Cs)(k:Nat)(R:Rs):Prop where
 run:∀p∈R,C.run p.2 (sI C.ls)=some p.1
 srt:∀(i j:Nat)(p q:St×List D),i<=j->R[i]? =some p->R[j]? =some q->p.2.length<=q.2.length
 clo:∀(j:Nat)(p:St×List D),j<k->R[j]? =some p->∀x∈C.st p.1,∀t,C.led p.1 x=some t->t∈R.map (·.1)
 lvl:∀q,R[k]? =some q->∀p∈R,p.2.length<=q.2.length+1
theorem vO{R N:Rs}{i:Nat}{p:St×List D}(e:(R++N)[i]? =some p):R[i]? =some p\/R.length<=i/\p∈N:=by
 by_cases c:i<R.length
 ·rw[Qwz c]at e;exact .inl e
 ·rw[QIz (by omega)]at e
  exact .inr ⟨by omega,QBz e⟩
theorem Q3(K:C.Ok){k:Nat}{R:Rs}(X:C.Ro R)(B:C.Bf k R){s:St}{r:List D}(e:R[k]? =some (s,r)):
  C.Bf (k+1) (R++C.new s r (C.st s) R):=by
 have m:=QBz e
 have S:=X.ok _ m
 have nl:∀p∈C.new s r (C.st s) R,p.2.length=r.length+1:=fun p hp=>by
  obtain⟨x,_,_,z⟩:=mz hp
  rw[z];simp
 have al:∀p∈R++C.new s r (C.st s) R,p.2.length<=r.length+1:=fun p hp=>by
  rcases QXz.mp hp with z|z
  ·exact B.lvl _ e p z
  ·rw[nl p z];exact QVz _
 have up:∀(i:Nat)p,R[i]? =some p->(R++C.new s r (C.st s) R)[i]? =some p:=fun i p ei=>by
  rw[Qwz (QCz.mp ei).1];exact ei
 refine⟨fun p hp=>?_,fun i j p q hij ei ej=>?_,fun j p hj ej x hx t et=>?_,fun q eq p hp=>?_⟩
 ·rcases QXz.mp hp with z|z
  ·exact B.run p z
  ·obtain⟨x,hx,ex_,z⟩:=mz z
   rw[z,ql,B.run _ m]
   have i:aK x (C.st s)=true:=by
    obtain⟨q,rfl⟩:=K.ie S x hx
    exact gn hx (K.ie S)
   simp[Cs.run,i,ex_]
 ·rcases vO ej with z|⟨z1,z2⟩
  ·rcases vO ei with y|⟨y1,y2⟩
   ·exact B.srt i j p q hij y z
   ·have:=(QCz.mp z).1
    omega
  ·rw[nl q z2]
   exact al p (QBz ei)
 ·by_cases c:j=k
  ·subst c
   rw[up _ _ e]at ej
   cases ej
   exact pF et hx
  ·have jl:j<R.length:=by have:=(QCz.mp e).1;omega
   rw[Qwz jl]at ej
   rw[List.map_append]
   exact QWz _ (B.clo j p (by omega) ej x hx t et)
 ·have le:r.length<=q.2.length:=by
   rcases vO eq with z|⟨z1,z2⟩
   ·exact B.srt k (k+1) (s,r) q (by omega) e z
   ·rw[nl q z2];omega
  have:=al p hp
  omega
theorem Eg(K:C.Ok):∀(f k:Nat)(R:Rs),C.Ro R->k<=R.length->512<f+k->C.Bf k R->∃m,(C.sG f k R).length<=m/\C.Bf m (C.sG f k R)
 |0=>fun k R X hk hf _=>by have:=X.uq K;omega
 |f+1=>fun k R X hk hf B=>by
  rw[Cs.sG]
  split
  ·rename_i e
   exact⟨k,List.getElem?_eq_none_iff.mp e,B⟩
  ·rename_i p e
   obtain⟨s,r⟩:=p
   have m:=QBz e
   have S:=X.ok _ m
   have kl:=(QCz.mp e).1
   exact Eg K f (k+1) _ (nF K S (X.wr _ m) _ (fun x hx=>(K.sub S).subset hx) X (X.le _ m)) (by simp;omega) (by omega) (Q3 K X B e)
theorem Q0:C.Bf 0 (R0 C.ls):=by
 refine⟨fun p hp=>?_,fun i j p q _ ei ej=>?_,fun j p hj=>(by omega),fun q _ p hp=>?_⟩
 ·rw[QDz.mp hp];rfl
 ·have:p=(sI C.ls,[]):=QDz.mp (QBz ei)
  rw[this];exact QIq _
 ·rw[QDz.mp hp];exact QIq _
structure Cs.Fi(C:Cs)(F:Rs):Prop where
 ok:C.Ro F
 fst:sI C.ls∈F.map (·.1)
 run:∀p∈F,C.run p.2 (sI C.ls)=some p.1
 srt:∀(i j:Nat)(p q:St×List D),i<=j->F[i]? =some p->F[j]? =some q->p.2.length<=q.2.length
 clo:∀s∈F.map (·.1),∀x∈C.st s,∀t,C.led s x=some t->t∈F.map (·.1)
theorem Xn(K:C.Ok):C.Fi (C.sG 1000 0 (R0 C.ls)):=by
 have X:=Ly K 1000 0 (Mw K)
 obtain⟨m,hm,B⟩:=Eg K 1000 0 (R0 C.ls) (Mw K) (QIq _) (by omega) (Q0 (C:=C))
 refine⟨X,?_,B.run,B.srt,fun s hs x hx t et=>?_⟩
 ·obtain⟨Z,z⟩:=wj (C:=C) 1000 0 (R0 C.ls)
  rw[z]
  simp[R0]
 ·obtain⟨p,hp,rfl⟩:=QDq.mp hs
  obtain⟨j,ej⟩:=List.getElem?_of_mem hp
  exact B.clo j p (Qvq (QCz.mp ej).1 hm) ej x hx t et
theorem mK:∀{R:Rs},cg (C.ff R)=false->∃(k:Nat)(s:St)(r:List D),R[k]? =some (s,r)/\(∀(j:Nat)(p:St×List D),j<k->R[j]? =some p->cg (C.flt p.1 p.2)=true)/\cg (C.flt s r)=false/\C.ff R=C.flt s r
 |[]=>fun e=>by cases e
 |q::R=>fun e=>by
  rw[Cs.ff]at e⊢
  cases c:cg (C.flt q.1 q.2)with
  |false=>exact⟨0,q.1,q.2,rfl,fun j p hj=>(by omega),c,by simp⟩
  |true=>
   rw[c]at e
   obtain⟨k,s,r,a,b,d1,d2⟩:=mK (R:=R) (by simpa using e)
   refine⟨k+1,s,r,a,fun j p hj ej=>?_,d1,by simpa using d2⟩
   cases j with
   |zero=>cases ej;exact c
   |succ j=>exact b j p (by omega) ej
theorem yw{f:D->D}:∀{xs:List D},cg (fY f xs)=false->∃x∈xs,fY f xs=f x/\cg (f x)=false
 |[]=>fun e=>by cases e
 |x::xs=>fun e=>by
  rw[fY]at e⊢
  cases c:cg (f x)with
  |false=>exact⟨x,QYz,by simp,c⟩
  |true=>
   rw[c]at e
   obtain⟨y,hy,a,b⟩:=yw (f:=f) (xs:=xs) (by simpa using e)
   exact⟨y,QYq _ hy,by simpa using a,b⟩
theorem GK(s:St)(r:List D)(e:cg (C.flt s r)=false):
  (C.st s=[]/\zQ C.os (bF C.sts s.2)=true/\C.flt s r=.tup [.str "stuck",.lst r])\/
  (∃x∈C.st s,C.led s x=none/\C.flt s r=.tup [.str "unasked",.lst (r++[x])])\/
  (∃x∈C.st s,∃t y,C.led s x=some t/\y∈C.W s.1/\aK y (C.W t.1++[x])=false/\C.flt s r=.tup [.str "taken",.lst (r++[x]),y]):=by
 unfold Cs.flt at e⊢
 cases c:(C.st s).isEmpty with
 |true=>
  rw[c]at e
  cases co:zQ C.os (bF C.sts s.2)with
  |true=>exact .inl ⟨List.isEmpty_iff.mp c,rfl,by simp⟩
  |false=>rw[co]at e;cases e
 |false=>
  rw[c]at e
  simp only[Qxq,if_false]at e⊢
  obtain⟨x,hx,a,b⟩:=yw e
  rw[a]
  unfold Cs.sf at b⊢
  cases el:C.led s x with
  |none=>exact .inr (.inl ⟨x,hx,el,rfl⟩)
  |some t=>
   rw[el]at b
   simp only at b⊢
   cases eg:C.gone s t x with
   |nil=>rw[eg]at b;cases b
   |cons y ys=>
    have hy:y∈C.gone s t x:=by rw[eg];exact QYz
    obtain⟨y1,y2⟩:=List.mem_filter.mp hy
    exact .inr (.inr ⟨x,hx,t,y,el,y1,by simpa using y2,rfl⟩)
end
end Tx
end
section
open PySem Mini
namespace Tx
theorem lA(F:D->D):∀(xs ks vs:List D),cJ (ks++xs)->(ks++xs).Nodup->dictOf ks vs (xs.map fun x=>.tup [x,F x])=some (ks++xs,vs++xs.map F)
 |[]=>fun ks vs _ _=>by simp[dictOf]
 |x::xs=>fun ks vs h nd=>by
  obtain⟨s,e⟩:=h x (by simp)
  have no:aK x ks=false:=by
   rw[e]
   refine qP (fun y hy=>h y (QWz _ hy)) fun hm=>?_
   rw[List.nodup_append]at nd
   exact nd.2.2 _ hm _ QYz e.symm
  have r:=lA F xs (ks++[x]) (vs++[F x]) (by simpa using h) (by simpa using nd)
  have kk:keyOk x=true:=by rw[e];rfl
  rw[Qyz,dictOf,if_pos kk]
  simp only[putD,no]
  rw[if_neg (by simp),r]
  simp
theorem jz(F:D->D)(q:Str):∀xs:List D,cJ xs->bT (.str q) xs (xs.map F)=if aK (.str q) xs then some (F (.str q))else none
 |[]=>fun _=>rfl
 |x::xs=>fun h=>by
  obtain⟨s,rfl⟩:=h x QYz
  have r:=jz F q xs fun y hy=>h y (QYq _ hy)
  simp only[Qyz,bT,aK,r]
  by_cases c:s=q
  ·subst c;simp[bV]
  ·simp[bV,c]
theorem yE(F:D->D)(q:Str):∀xs:List D,jd (.str q) xs (xs.map F)=(xs.filter (fun x=> !bV x (.str q)),(xs.filter (fun x=> !bV x (.str q))).map F)
 |[]=>rfl
 |x::xs=>by
  rw[Qyz,jd,yE F q xs,List.filter_cons]
  cases bV x (.str q)<;>simp
theorem uB(p q:Str):∀xs:List D,cJ xs->aK (.str p) (xs.filter fun x=> !bV x (.str q))=(aK (.str p) xs&& !decide (p=q))
 |[]=>fun _=>rfl
 |x::xs=>fun h=>by
  obtain⟨s,rfl⟩:=h x QYz
  have r:=uB p q xs fun y hy=>h y (QYq _ hy)
  have e:bV (.str s) (.str q)=decide (s=q):=rfl
  have e2:bV (.str s) (.str p)=decide (s=p):=rfl
  rw[List.filter_cons,e]
  by_cases c:s=q
  ·simp only[c,decide_true,Bool.not_true,Qxq,if_false,r,aK,show bV (.str q) (.str p)=decide (q=p)from rfl]
   by_cases d:p=q
   ·simp[d]
   ·have d':¬q=p:=fun z=>d z.symm
    simp[d',d]
  ·simp only[c,decide_false,Bool.not_false,if_true,aK,r,e2]
   by_cases d:s=p
   ·subst d;simp[c]
   ·simp[d]
section
variable{C:Cs}{s:St}
def Cs.nx(C:Cs)(s:St)(w:D)(t:Nat)(f:D->Int)(x:D):Int:=if bV x w then t+1 else if aK x (C.st s)then f x else t+1
def Cs.rows(C:Cs):Nat->St->(D->Int)->List D->List D
 |_,_,_,[]=>[]
 |t,s,f,w::ws=>.tup [w,.int (t+1-f w)]::match C.led s w with
  |some s'=>C.rows (t+1) s' (C.nx s w t f) ws
  |none=>[]
def Cs.zu(C:Cs):St->List D->Prop
 |_,[]=>True
 |s,w::ws=>w∈C.st s/\match C.led s w with
  |some s'=>C.zu s' ws
  |none=>ws=[]
theorem m6(K:C.Ok){x:D}:∀{r:List D}{s v:St},C.S s->C.run r s=some v->x∈C.st v->C.zu s (r++[x])
 |[],s,v,_,e,hx=>by
  cases e
  refine⟨hx,?_⟩
  cases C.led s x<;>first|rfl|trivial
 |w::r,s,v,S,e,hx=>by
  rw[Cs.run]at e
  cases c:aK w (C.st s)with
  |false=>rw[c]at e;cases e
  |true=>
   rw[c]at e
   obtain⟨t,et,e⟩:=QJq.mp e
   refine⟨?_,?_⟩
   ·cases cy:lu .str w with
    |false=>rw[Ko cy (K.ie S)]at c;cases c
    |true=>
     cases w with
     |str q=>exact(Aa (K.ie S)).mp c
     |_=>cases cy
   ·rw[et]
    exact m6 K (K.zY S et) e hx
theorem BV(K:C.Ok):∀{r:List D}{s v:St},C.S s->C.run r s=some v->C.zu s r
 |[],_,_,_,_=>trivial
 |w::r,s,v,S,e=>by
  rw[Cs.run]at e
  cases c:aK w (C.st s)with
  |false=>rw[c]at e;cases e
  |true=>
   rw[c]at e
   obtain⟨t,et,e⟩:=QJq.mp e
   refine⟨?_,?_⟩
   ·cases cy:lu .str w with
    |false=>rw[Ko cy (K.ie S)]at c;cases c
    |true=>
     cases w with
     |str q=>exact(Aa (K.ie S)).mp c
     |_=>cases cy
   ·rw[et]
    exact BV K (K.zY S et) e
theorem w6:∀{ws:List D}{s:St}(t:Nat)(f:D->Int),C.zu s ws->(C.rows t s f ws).map nY=ws
 |[],_,_,_,_=>rfl
 |w::ws,s,t,f,h=>by
  obtain⟨_,h⟩:=h
  rw[Cs.rows,Qyz]
  cases e:C.led s w with
  |none=>rw[e]at h;simp only at h⊢;rw[h];rfl
  |some s'=>rw[e]at h;simp only at h⊢;rw[w6 (t+1) _ h];rfl
theorem wY(K:C.Ok)(S:C.S s):(C.st s).Nodup:=(K.sub S).nodup (names_nodup K.o.h2 K.o.g1 K.o.g5)
def Mu(ks vs:List D)(t:Nat)(f:D->Int):Prop:=∀q:Str,kJ (.cH ks vs) (.str q) (.int t)=some (.int (f (.str q)))
theorem Fb(K:C.Ok)(S:C.S s)(t:Nat)(f:D->Int)(w:Str):Mu ((C.st s).filter fun x=> !bV x (.str w)) (((C.st s).filter fun x=> !bV x (.str w)).map fun x=>.int (f x)) (t+1) (C.nx s (.str w) t f):=fun q=>by
 show(if keyOk (.str q)then some ((bT (.str q) _ _).getD (.int ((t+1:Nat):Int)))else none)=_
 rw[if_pos (show keyOk (.str q)=true from rfl),jz (fun x=>.int (f x)) q _ (fun x hx=>K.ie S x (List.mem_filter.mp hx).1),uB q w _ (K.ie S)]
 unfold Cs.nx
 have e:bV (.str q) (.str w)=decide (q=w):=rfl
 rw[e]
 by_cases c:q=w
 ·simp[c]
 ·cases aK (.str q) (C.st s)<;>simp[c]
def swC:E:=.comp 1 (.name 0) (.var 0) AAL (.tup ABL)
theorem HX(n:Nat){xs ks vs:List D}{t:Nat}{f:D->Int}(tx:cJ xs)(nd:xs.Nodup)(h:Mu ks vs t f):
  pg.fn (n+1) 32 [.val (.lst xs),.val (.cH ks vs),.val (.int t)]=.ok (.new (.dct xs (xs.map fun x=>.int (f x)))) [.val (.lst xs),.val (.cH ks vs),.val (.int t)]:=by
 have e:=kO (c:=pg.cf n) (it:=.var 0) (el:=.tup ABL) (σ:=[.val (.lst xs),.val (.cH ks vs),.val (.int t)]) (τ:=[.val (.lst xs),.val (.cH ks vs),.val (.int t)]) (d:=.lst xs) (xs:=xs) (r:=.val (.lst xs)) (fun x=>.tup [x,.int (f x)]) (by simp) rfl rfl (fun x hx=>by
  obtain⟨q,rfl⟩:=tx x hx
  have g:=h q
  simp[aV,g])
 have e':ev (pg.cf n) swC [.val (.lst xs),.val (.cH ks vs),.val (.int t)]=_:=e
 have d:=lA (fun x=>.int (f x)) xs [] [] (by simpa using tx) (by simpa using nd)
 have b:b1 .dict (.lst (xs.map fun x=>.tup [x,.int (f x)]))=some (.new (.dct xs (xs.map fun x=>.int (f x)))):=by
  show(dictOf [] [] _).map _=_
  rw[d];rfl
 have q:swC.au=none:=rfl
 have hb:iT=⟨3,3,(.cons (.ret (.bi .dict swC)) .nil)⟩:=rfl
 rw[vf,hb]
 simp[q,e',Ob.d,b]
def Z5:S:=AAd
theorem NP(n:Nat)(K:C.Ok)(S:C.S s)(a2:Sl){ks vs acc:List D}{t:Nat}{f:D->Int}(h:Mu ks vs t f)(ha:acc.length<=1000){q:Str}(hw:D.str q∈C.st s):
  ex (pg.cf (n+5)) Z5 [.val C.n,.val C.t,a2,.own (.lst acc),.val (aq s),.own (.dct ks vs),.val (.int t),.val (.str q)]=.next [.val C.n,.val C.t,a2,.own (.lst (acc++[.tup [.str q,.int (t+1-f (.str q))]])),.val (iu (C.led s (.str q))),.own (.dct ((C.st s).filter fun x=> !bV x (.str q)) (((C.st s).filter fun x=> !bV x (.str q)).map fun x=>.int (f x))),.val (.int t),.val (.str q)]:=by
 have st:=K.di n S
 have sw:=HX (n+4) (K.ie S) (wY K S) h
 have lt:=K.iz (n+2) S hw
 have lm:=jz (fun x=>.int (f x)) q (C.st s) (K.ie S)
 rw[gn hw (K.ie S),if_pos rfl]at lm
 have ge:getD (.cH (C.st s) ((C.st s).map fun x=>.int (f x))) (.str q)=some (.int (f (.str q))):=lm
 have dr:Dz (.str q) (.dct (C.st s) ((C.st s).map fun x=>.int (f x)))=some (.dct ((C.st s).filter fun x=> !bV x (.str q)) (((C.st s).filter fun x=> !bV x (.str q)).map fun x=>.int (f x))):=by
  show(if keyOk (.str q)then some (Ob.dct (jd (.str q) _ _).1 (jd (.str q) _ _).2)else none)=_
  rw[if_pos (show keyOk (.str q)=true from rfl),yE]
 have f1:fits (acc.length+1)=true:=by simp[fits];omega
 simp[Z5,st,sw,Ob.d,xK,ge,dr,aV,f1,lt,dO,vz]
theorem RM(n:Nat)(K:C.Ok)(a2:Sl):∀(ws:List D)(s:St)(t:Nat)(f:D->Int)(ks vs acc:List D)(s6 s7:Sl),C.S s->C.zu s ws->Mu ks vs t f->acc.length+ws.length<=1000->cL s6->cL s7->∃a4 a5 a6 a7,
  bj (.tup [6,7]) (ex (pg.cf (n+5)) Z5) (aC (aW t ws.length) ws) [.val C.n,.val C.t,a2,.own (.lst acc),.val (aq s),.own (.dct ks vs),s6,s7]=.next [.val C.n,.val C.t,a2,.own (.lst (acc++C.rows t s f ws)),a4,a5,a6,a7]
 |[]=>fun s t f ks vs acc s6 s7 _ _ _ _ _ _=>⟨_,_,s6,s7,by simp[aW,aC,bj,Cs.rows];exact⟨rfl,rfl⟩⟩
 |w::ws=>fun s t f ks vs acc s6 s7 S hr h ha h6 h7=>by
  obtain⟨hw,hr⟩:=hr
  obtain⟨q,rfl⟩:=K.ie S w hw
  have st:=NP n K S a2 h (acc:=acc) (by simp at ha;omega) hw
  have tt:bD (.tup [6,7]) (.tup [.int t,.str q]) [.val C.n,.val C.t,a2,.own (.lst acc),.val (aq s),.own (.dct ks vs),s6,s7]=some [.val C.n,.val C.t,a2,.own (.lst acc),.val (aq s),.own (.dct ks vs),.val (.int t),.val (.str q)]:=by
   rcases h6 with rfl|⟨d,rfl⟩<;>rcases h7 with rfl|⟨d,rfl⟩<;>simp[bD,dJ,cD]
  rw[QBq,aW,aC,bj,tt]
  simp only[st]
  rw[Cs.rows]
  cases e:C.led s (.str q)with
  |none=>
   rw[e]at hr
   simp only at hr
   subst hr
   exact⟨_,_,_,_,rfl⟩
  |some s'=>
   rw[e]at hr
   obtain⟨a4,a5,a6,a7,z⟩:=RM n K a2 ws s' (t+1) (C.nx s (.str q) t f) _ _ (acc++[.tup [.str q,.int (t+1-f (.str q))]]) (.val (.int t)) (.val (.str q)) (K.zY S e) hr (Fb K S t f q) (by simp at ha⊢;omega) (.inr ⟨_,rfl⟩) (.inr ⟨_,rfl⟩)
   refine⟨a4,a5,a6,a7,?_⟩
   rw[QLq]at z
   exact z
end
end Tx
end
section
open PySem Mini
namespace Tx
section
variable{C:Cs}{s:St}
structure acp(C:Cs)(d:D)(ws:List D):Prop where
 one:getD d (.int 1)=some (.lst ws)
 run:C.zu (sI C.ls) ws
 nm:∀x∈ws,x∈C.nm
 le:ws.length<=600
theorem abM(K:C.Ok){F:Rs}(Z:C.Fi F)(c:cg (C.ff F)=false):∃ws,acp C (C.ff F) ws:=by
 obtain⟨k,s,r,r1,r2,r3,r4⟩:=mK c
 have m:=QBz r1
 have X:=Z.ok
 have rl:r.length<=512:=Nat.le_trans (X.le _ m) (X.uq K)
 have S:=X.ok _ m
 have rn:=Z.run _ m
 rw[r4]
 rcases GK s r r3 with ⟨_,_,w⟩|⟨x,hx,_,w⟩|⟨x,hx,t,y,_,_,_,w⟩
 ·exact⟨r,by rw[w];rfl,BV K (tB K) rn,X.wr _ m,by omega⟩
 ·exact⟨r++[x],by rw[w];rfl,m6 K (tB K) rn hx,uU (X.wr _ m) ((K.sub S).subset hx),by simp;omega⟩
 ·exact⟨r++[x],by rw[w];rfl,m6 K (tB K) rn hx,uU (X.wr _ m) ((K.sub S).subset hx),by simp;omega⟩
theorem Ig:Mu [] [] 0 (fun _=>0):=fun q=>rfl
theorem Ew(n:Nat)(K:C.Ok)(h:pg.fn (n+10) 27 [.val C.n,.val C.t]=.ok (.val .non) [.val C.n,.val C.t]):
  pg.fn (n+11) 31 [.val C.n,.val C.t]=.ok (.val .non) [.val C.n,.val C.t]:=by
 rw[qw]
 simp[iR,h]
theorem HR(n:Nat)(K:C.Ok){d:D}{ws:List D}(O:acp C d ws)(hd:cg d=false)(h:pg.fn (n+10) 27 [.val C.n,.val C.t]=.ok (.val d) [.val C.n,.val C.t]):
  pg.fn (n+11) 31 [.val C.n,.val C.t]=.ok (.new (.lst (C.rows 0 (sI C.ls) (fun _=>0) ws))) [.val C.n,.val C.t]:=by
 have f:=yu (n+9) (C:=C)
 obtain⟨a4,a5,a6,a7,z⟩:=RM (n+5) K (.val d) ws (sI C.ls) 0 (fun _=>0) [] [] [] .un .un (tB K) O.run Ig (by have:=O.le;simp;omega) (.inl rfl) (.inl rfl)
 have z':bj (.tup [6,7]) (ex (pg.cf (n+10)) Z5) (aC (aW 0 ws.length) ws) [.val C.n,.val C.t,.val d,.own (.lst []),.val (aq (sI C.ls)),.own (.dct [] []),.un,.un]=_:=z
 have one:=O.one
 have hb:iR=⟨2,8,(.cons (.set 2 (.call 27 ABi)) (.cons (.ite (.cmp .f9 (.var 2) ABV) ACO .nil) (.cons (.set 3 ABY) (.cons (.set 4 (.call 21 AAT)) (.cons (.set 5 .emp) (.cons (.for_ (.tup [6,7]) (.enum AAh) Z5) (.cons (.ret (.var 3)) .nil)))))))⟩:=rfl
 rw[qw,hb]
 simp[h,hd,aV,f,one,jy,items,z']
theorem wW(n:Nat)(K:C.Ok)(S:C.S s):pg.fn (n+10) 20 [.val C.n,.val C.t,.val (aq s)]=.ok (.new (.lst (C.st s))) [.val C.n,.val C.t,.val (aq s)]:=by
 have c:=K.checked n
 have e:=K.di (n+4) S
 rw[OD]
 simp[wk,c,e]
def l0C:E:=.comp 1 (.name 0) ADL AAL (.tup ACb)
def l1C:E:=.comp 1 (.name 0) (.var 11) AAL (.tup AAp)
def SJ:S:=(.cons (.setT [9,10] (.var 5)) (.cons (.ite AAr AAP .nil) (.cons ABe (.cons (.ite (.cmp .f9 (.var 6) ABV) ACG .nil) (.cons (.set 11 ADL) (.cons (.set 7 (.bi .dict l1C)) .nil))))))
theorem gA(K:C.Ok)(S:C.S s)(F:D->D):b1 .dict (.lst ((C.st s).map fun x=>.tup [x,F x]))=some (.new (.dct (C.st s) ((C.st s).map F))):=by
 show(dictOf [] [] _).map _=_
 rw[lA F (C.st s) [] [] (by simpa using K.ie S) (by simpa using wY K S)]
 rfl
abbrev fD(C:Cs)(s:St)(f:D->Int):Ob:=.dct (C.st s) ((C.st s).map fun x=>.int (f x))
theorem aa8(K:C.Ok)(S:C.S s){s':St}(S':C.S s')(a0 a3 a4 a5 a8:Sl)(t:Nat)(f:D->Int)(q:Str)(v:D):
  ev (pg.cf 59) l1C [a0,.val C.n,.val C.t,a3,a4,a8,a5,.own (fD C s f),.val (.int t),.val (.str q),.val v,.own (.lst (C.st s'))]=.ok (.new (.lst ((C.st s').map fun x=>.tup [x,.int (C.nx s (.str q) t f x)]))) [a0,.val C.n,.val C.t,a3,a4,a8,a5,.own (fD C s f),.val (.int t),.val (.str q),.val v,.val (.lst (C.st s'))]:=by
 refine kO (it:=.var 11) (d:=.lst (C.st s')) (xs:=C.st s') (r:=.val (.lst (C.st s'))) (fun x=>.tup [x,.int (C.nx s (.str q) t f x)]) (by simp[Ob.d]) rfl rfl fun x hx=>?_
 obtain⟨p,rfl⟩:=K.ie S' x hx
 have lm:=jz (fun x=>.int (f x)) p (C.st s) (K.ie S)
 have g:∀u:D,kJ (.cH (C.st s) ((C.st s).map fun x=>.int (f x))) (.str p) u=some ((if aK (.str p) (C.st s)then some (.int (f (.str p)))else none).getD u):=fun u=>by
  show(if keyOk (.str p)then some ((bT (.str p) _ _).getD u)else none)=_
  rw[if_pos (show keyOk (.str p)=true from rfl),lm]
 unfold Cs.nx
 rw[show bV (.str p) (.str q)=decide (p=q)from rfl]
 by_cases c:p=q
 ·subst c
  cases c1:aK (.str p) (C.st s)<;>rw[c1]at g<;>simp[aV,Ob.d,g,fG,b2i,b1]
 ·cases c1:aK (.str p) (C.st s)<;>rw[c1]at g<;>simp[c,aV,Ob.d,g,fG,b2i,b1]
theorem Sy(K:C.Ok){N:Nat}(a0 a3:Sl)(A:List D)(hA:A.length=N)(hN:N<=1000):∀(ws:List D)(s:St)(t:Nat)(f:D->Int)(s7 s8 s9 Ff w5:Sl),C.S s->C.zu s ws->(∀x,f x<=t)->t+(C.rows t s f ws).length=N->yS s7->yS s8->yS s9->yS Ff->yS w5->
  ∃τ,bj (.tup [8,5]) (ex (pg.cf 59) SJ) (aC (aW t (C.rows t s f ws).length) (C.rows t s f ws)) [a0,.val C.n,.val C.t,a3,.val (.lst A),s8,.val (aq s),.own (fD C s f),s7,s9,Ff,w5]=.next τ\/bj (.tup [8,5]) (ex (pg.cf 59) SJ) (aC (aW t (C.rows t s f ws).length) (C.rows t s f ws)) [a0,.val C.n,.val C.t,a3,.val (.lst A),s8,.val (aq s),.own (fD C s f),s7,s9,Ff,w5]=.ret (.val (.bl true)) τ
 |[]=>fun s t f s7 s8 s9 Ff w5 _ _ _ _ _ _ _ _ _=>⟨_,.inl rfl⟩
 |w::ws=>fun s t f s7 s8 s9 Ff w5 S hr hf hN' h7 h8 h9 h10 h11=>by
  obtain⟨hw,hr⟩:=hr
  obtain⟨q,rfl⟩:=K.ie S w hw
  have lm:=jz (fun x=>.int (f x)) q (C.st s) (K.ie S)
  rw[gn hw (K.ie S),if_pos rfl]at lm
  have ge:getD (.cH (C.st s) ((C.st s).map fun x=>.int (f x))) (.str q)=some (.int (f (.str q))):=lm
  have ni:aG .notin (.str q) (.cH (C.st s) ((C.st s).map fun x=>.int (f x)))=some false:=by
   show(if keyOk (.str q)then some (!aK (.str q) (C.st s))else none)=_
   rw[if_pos (show keyOk (.str q)=true from rfl),gn hw (K.ie S)]
   rfl
  have fq:=hf (.str q)
  have c1:¬((t:Int)+1-f (.str q)<1):=by omega
  have ld:=K.Qk 57 S (x:=.str q) ⟨q,rfl⟩
  have tt:bD (.tup [8,5]) (.tup [.int t,.tup [.str q,.int (t+1-f (.str q))]]) [a0,.val C.n,.val C.t,a3,.val (.lst A),s8,.val (aq s),.own (fD C s f),s7,s9,Ff,w5]=some [a0,.val C.n,.val C.t,a3,.val (.lst A),.val (.tup [.str q,.int (t+1-f (.str q))]),.val (aq s),.own (fD C s f),.val (.int t),s9,Ff,w5]:=by
   rcases h7 with rfl|⟨d,rfl⟩|⟨d,rfl⟩<;>rcases h8 with rfl|⟨d,rfl⟩|⟨d,rfl⟩<;>simp[bD,dJ,cD]
  have t2:bD (.tup [9,10]) (.tup [.str q,.int (t+1-f (.str q))]) [a0,.val C.n,.val C.t,a3,.val (.lst A),.val (.tup [.str q,.int (t+1-f (.str q))]),.val (aq s),.own (fD C s f),.val (.int t),s9,Ff,w5]=some [a0,.val C.n,.val C.t,a3,.val (.lst A),.val (.tup [.str q,.int (t+1-f (.str q))]),.val (aq s),.own (fD C s f),.val (.int t),.val (.str q),.val (.int (t+1-f (.str q))),w5]:=by
   rcases h9 with rfl|⟨d,rfl⟩|⟨d,rfl⟩<;>rcases h10 with rfl|⟨d,rfl⟩|⟨d,rfl⟩<;>simp[bD,dJ,cD]
  rw[Cs.rows]at hN'⊢
  cases e:C.led s (.str q)with
  |none=>
   rw[e]at ld
   rw[e]at hN'
   simp only[QBq,List.length_nil]at hN'
   have hA2:(A.length:Int)=t+1:=by omega
   simp only[QBq,List.length_nil,aW,aC,bj,tt]
   refine⟨[a0,.val C.n,.val C.t,a3,.val (.lst A),.val (.tup [.str q,.int (t+1-f (.str q))]),.val .non,.own (fD C s f),.val (.int t),.val (.str q),.val (.int (t+1-f (.str q))),w5],.inr ?_⟩
   have qv:∀x y,(E.cmp .eq x y).au=none:=fun _ _=>rfl
   simp[SJ,t2,ni,Ob.d,ge,c1,ld,iu,qv,hA2]
  |some s'=>
   rw[e]at ld hr hN'
   simp only[QBq]at hN'⊢
   have S':=K.zY S e
   have st:=wW 49 K S'
   have l1:=aa8 K S S' a0 a3 (.val (.lst A)) (.val (aq s')) (.val (.tup [.str q,.int (t+1-f (.str q))])) t f q (.int (t+1-f (.str q)))
   have dp:=gA K S' fun x=>.int (C.nx s (.str q) t f x)
   have c11:∀o,u9 11 [a0,.val C.n,.val C.t,a3,.val (.lst A),.val (.tup [.str q,.int (t+1-f (.str q))]),.val (aq s'),.own (fD C s f),.val (.int t),.val (.str q),.val (.int (t+1-f (.str q))),w5] (.own o) (some w5)=some [a0,.val C.n,.val C.t,a3,.val (.lst A),.val (.tup [.str q,.int (t+1-f (.str q))]),.val (aq s'),.own (fD C s f),.val (.int t),.val (.str q),.val (.int (t+1-f (.str q))),.own o]:=fun o=>by
    rcases h11 with rfl|⟨d,rfl⟩|⟨d,rfl⟩<;>simp
   have qv:l1C.au=none:=rfl
   have go:ex (pg.cf 59) SJ [a0,.val C.n,.val C.t,a3,.val (.lst A),.val (.tup [.str q,.int (t+1-f (.str q))]),.val (aq s),.own (fD C s f),.val (.int t),s9,Ff,w5]=.next [a0,.val C.n,.val C.t,a3,.val (.lst A),.val (.tup [.str q,.int (t+1-f (.str q))]),.val (aq s'),.own (fD C s' (C.nx s (.str q) t f)),.val (.int t),.val (.str q),.val (.int (t+1-f (.str q))),.val (.lst (C.st s'))]:=by
    simp[SJ,t2,ni,Ob.d,ge,c1,ld,iu,nT,st,c11,qv,l1,dp]
   obtain⟨τ,z⟩:=Sy K a0 a3 A hA hN ws s' (t+1) (C.nx s (.str q) t f) (.val (.int t)) (.val (.tup [.str q,.int (t+1-f (.str q))])) (.val (.str q)) (.val (.int (t+1-f (.str q)))) (.val (.lst (C.st s'))) S' hr (fun x=>by
    unfold Cs.nx
    have:=hf x
    split
    ·push_cast;omega
    ·split<;>push_cast<;>omega) (by omega) (.inr (.inl ⟨_,rfl⟩)) (.inr (.inl ⟨_,rfl⟩)) (.inr (.inl ⟨_,rfl⟩)) (.inr (.inl ⟨_,rfl⟩)) (.inr (.inl ⟨_,rfl⟩))
   refine⟨τ,?_⟩
   rw[aW,aC,bj,tt]
   simp only[go]
   exact z
end
end Tx
end
section
open PySem Mini
namespace Tx
def prC:E:=.comp 1 (.name 0) (.var 4) AAL AAc
theorem af5:LK=⟨1,12,(.cons (.setT [1,2] (.call 45 ACb)) (.cons (.set 3 (.call 27 AAR)) (.cons (.set 4 (.call 31 AAR)) (.cons (.ite (.cmp .f9 (.var 3) ABV) (.cons (.ret (.cmp .f9 (.var 4) ABV)) .nil) .nil) (.cons (.ite (.or (.cons (.not (.isi (.var 4) .lst)) (.cons (.cmp .ne prC (.idx (.var 3) AAG)) .nil))) AAP .nil) (.cons ACk (.cons (.set 7 (.bi .dict l0C)) (.cons (.for_ (.tup [8,5]) (.enum (.var 4)) SJ) (.cons (.ret AAL) .nil)))))))))⟩:=rfl
theorem tH{C:Cs}:∀{ws:List D}{s:St}(t:Nat)(f:D->Int),∀x∈C.rows t s f ws,∃a b,x=.tup [a,b]
 |[],_,_,_,x,hx=>by cases hx
 |w::ws,s,t,f,x,hx=>by
  rw[Cs.rows]at hx
  rcases QCq.mp hx with rfl|hx
  ·exact⟨_,_,rfl⟩
  ·cases e:C.led s w with
   |none=>rw[e]at hx;cases hx
   |some s'=>rw[e]at hx;exact tH (t+1) _ x hx
theorem math(ns:List Int)(hl:ns.length<=63):∃qs,pg.fn 60 48 [.val (.lst (ns.map .int))]=.ok (.val (.bl true)) qs:=by
 obtain⟨C,K,e'⟩:=QW 50 ns 0 (by omega)
 have a:=yx 49 K
 have a':=yx 48 K
 have Z:=Xn K
 generalize C.sG 1000 0 (R0 C.ls)=F at*
 rw[show(60:Nat)=59+1 from rfl,aaw,af5]
 cases c:cg (C.ff F)with
 |true=>
  rw[zT c]at a a'
  have sp:=Ew 48 K a'
  have q:∀x y,(E.cmp .f9 x y).au=none:=fun _ _=>rfl
  exact⟨[.val (.lst (ns.map .int))],by simp[e',bD,dJ,cD,a,sp,q]⟩
 |false=>
  obtain⟨ws,O⟩:=abM K Z c
  have sp:=HR 48 K O c a'
  have one:=O.one
  have rf:=w6 0 (fun _=>0) O.run
  have rp:=tH (C:=C) (ws:=ws) (s:=sI C.ls) 0 (fun _=>0)
  have S0:=tB K
  have st:=wW 49 K S0
  have n2:=Ss (C:=C)
  have se:D.tup [aF C.ls,.int 0]=aq (sI C.ls):=rfl
  have le:=O.le
  have rl:(C.rows 0 (sI C.ls) (fun _=>0) ws).length=ws.length:=by
   have:=congrArg List.length rf
   simpa using this
  obtain⟨τ,z⟩:=Sy K (N:=(C.rows 0 (sI C.ls) (fun _=>0) ws).length) (.val (.lst (ns.map .int))) (.val (C.ff F)) (C.rows 0 (sI C.ls) (fun _=>0) ws) rfl (by omega) ws (sI C.ls) 0 (fun _=>0) .un .un .un .un .un S0 O.run (fun _=>by simp) (by omega) (.inl rfl) (.inl rfl) (.inl rfl) (.inl rfl) (.inl rfl)
  generalize C.rows 0 (sI C.ls) (fun _=>0) ws=A at*
  have e1:ev (pg.cf 59) prC [.val (.lst (ns.map .int)),.val C.n,.val C.t,.val (C.ff F),.val (.lst A),.un,.un,.un,.un,.un,.un,.un]=.ok (.new (.lst ws)) [.val (.lst (ns.map .int)),.val C.n,.val C.t,.val (C.ff F),.val (.lst A),.un,.un,.un,.un,.un,.un,.un]:=by
   have:=kO (c:=pg.cf 59) (it:=.var 4) (el:=.idx (.var 0) AAH) (σ:=[.val (.lst (ns.map .int)),.val C.n,.val C.t,.val (C.ff F),.val (.lst A),.un,.un,.un,.un,.un,.un,.un]) (τ:=[.val (.lst (ns.map .int)),.val C.n,.val C.t,.val (C.ff F),.val (.lst A),.un,.un,.un,.un,.un,.un,.un]) (d:=.lst A) (xs:=A) (r:=.val (.lst A)) nY (by simp) rfl rfl (fun x hx=>by
    obtain⟨u,v,rfl⟩:=rp x hx
    simp[nY])
   rw[rf]at this
   exact this
  have nn:=JF (C:=C) O.nm
  have ne:=(abR (d:=.lst ws) ⟨nn.1,by show n6 ws+1<=50;rw[nn.2];omega⟩).2
  have e2:ev (pg.cf 59) l0C [.val (.lst (ns.map .int)),.val C.n,.val C.t,.val (C.ff F),.val (.lst A),.un,.val (aq (sI C.ls)),.un,.un,.un,.un,.un]=.ok (.new (.lst ((C.st (sI C.ls)).map fun x=>.tup [x,.int 0]))) [.val (.lst (ns.map .int)),.val C.n,.val C.t,.val (C.ff F),.val (.lst A),.un,.val (aq (sI C.ls)),.un,.un,.un,.un,.un]:=by
   refine kO (it:=.call 20 AAm) (d:=.lst (C.st (sI C.ls))) (xs:=C.st (sI C.ls)) (r:=.new (.lst (C.st (sI C.ls)))) (fun x=>.tup [x,.int 0]) (by simp[st]) rfl rfl fun x hx=>?_
   simp[aV]
  have dp:=gA K S0 fun _=>.int 0
  have q0:l0C.au=none:=rfl
  refine⟨τ.take 1,?_⟩
  have z':bj (.tup [8,5]) (ex (pg.cf 59) SJ) (aC (aW 0 A.length) A) [.val (.lst (ns.map .int)),.val C.n,.val C.t,.val (C.ff F),.val (.lst A),.un,.val (aq (sI C.ls)),.own (.dct (C.st (sI C.ls)) ((C.st (sI C.ls)).map fun _=>.int 0)),.un,.un,.un,.un]=.next τ\/bj (.tup [8,5]) (ex (pg.cf 59) SJ) (aC (aW 0 A.length) A) [.val (.lst (ns.map .int)),.val C.n,.val C.t,.val (C.ff F),.val (.lst A),.un,.val (aq (sI C.ls)),.own (.dct (C.st (sI C.ls)) ((C.st (sI C.ls)).map fun _=>.int 0)),.un,.un,.un,.un]=.ret (.val (.bl true)) τ:=z
  rcases z' with z|z<;>simp[e',bD,dJ,cD,a,sp,c,lu,Ob.d,e1,one,ne,n2,aV,se,q0,e2,dp,jy,items,z]
end Tx
end
namespace Tx
open PySem PySem.W L2 Mini
theorem bM{K:QQq}{x:Str}{st:Stmt}(m:Value)(f c:Addr)(a:PySem.W.nsIn K mainGlobals x=some (some (.ref f)):=by kernel_rfl)(l:K.lookup f=some (fO x st m c):=by kernel_rfl)(q:PySem.W.codeIn K (.ref c) x=true:=by kernel_rfl):My K x st:=Mini.dIn a l q (by unfold PySem.W.keepIn;dsimp only;rw[l];rfl)
end Tx
open PySem PySem.W PyProof.Rows
theorem PySem.Challenge.cw_anywait_k15_whole_spoiling_holds : PySem.Challenge.rw_anywait_k15_whole_spoiling.Holds := by
 w_on
 refine PySem.W.holds_law (by kernel_rfl) fun said => ?_
 refine PySem.W.holds_open (q := Tx.qV) (loose := Tx.lo) (Xt := fun s => recOk [] s) (XP := fun _ _ => True) (Yf := Hook.obs Tx.Kh) (Ya := Hook.val Tx.Kh) (YP := Hook.says Tx.Kh) (N := 4698) Tx.hl (Hook.of Tx.Kh) (Hook.keeps Tx.Kh) (fun _ _ => trivial) (fun _ _ _ _ _ => trivial) (by rfl) (by rfl) (by rfl) (fun s e => recFacts_of e) (by rfl) said (by decide +kernel) ⟨rfl, rfl, rfl, rfl, rfl, by decide +kernel⟩ ?hw ?hc
 case hw => w_witness2
 case hc =>
  refine Mini.Hk (p := Tx.pg) (L := 48) (y := "_law_script") (l := PySem.Challenge.rw_anywait_k15_whole_spoiling) rfl rfl (fun w h Y => PySem.W.kIn_of Y) Tx.math ?qF
  intro w mg fa h KX G hmg
  refine Mini.Ra (dL := Tx.d48) KX G hmg rfl rfl rfl Tx.bd Tx.scp Tx.lM ?qA ?qB ?qZ
  case qA =>
   show Mini.AllIn _ Tx.nms
   exact ⟨Tx.bM Tx.jX 59 58, Tx.bM Tx.jX 64 63, Tx.bM Tx.jX 69 68, Tx.bM Tx.jX 76 75, Tx.bM Tx.jX 83 82, Tx.bM Tx.jX 88 87, Tx.bM Tx.jX 93 92, Tx.bM Tx.jX 98 97, Tx.bM Tx.jX 105 104, Tx.bM Tx.jX 110 109, Tx.bM Tx.jX 115 114, Tx.bM Tx.jX 122 121, Tx.bM Tx.jX 129 128, Tx.bM Tx.jX 134 133, Tx.bM Tx.jX 139 138, Tx.bM Tx.jX 144 143, Tx.bM Tx.jX 151 150, Tx.bM Tx.Yu 158 157, Tx.bM Tx.Yu 163 162, Tx.bM Tx.Yu 168 167, Tx.bM Tx.Cr 175 174, Tx.bM Tx.Cr 182 181, Tx.bM Tx.Cr 187 186, Tx.bM Tx.Cr 194 193, Tx.bM Tx.Cr 201 200, Tx.bM Tx.Cr 206 205, Tx.bM Tx.Cr 213 212, Tx.bM Tx.Sv 220 219, Tx.bM Tx.Sv 227 226, Tx.bM Tx.Sv 232 231, Tx.bM Tx.Sv 239 238, Tx.bM Tx.mo4 246 245, Tx.bM Tx.mo4 251 250, Tx.bM Tx.km 258 257, Tx.bM Tx.km 265 264, Tx.bM Tx.km 272 271, Tx.bM Tx.km 279 278, Tx.bM Tx.km 284 283, Tx.bM Tx.km 291 290, Tx.bM Tx.km 296 295, Tx.bM Tx.km 301 300, Tx.bM Tx.km 306 305, Tx.bM Tx.km 313 312, Tx.bM Tx.km 320 319, Tx.bM Tx.km 325 324, Tx.bM Tx.km 332 331, Tx.bM Tx.km 337 336, Tx.bM Tx.km 357 356, Tx.bM Tx.km 362 361, trivial⟩
  case qB => exact ⟨.v (u := .str "abcdefghijklmnopqrstuvwxyz" 241) (by kernel_rfl) (by decide +kernel), .v (u := .int 6 243) (by kernel_rfl) (by decide +kernel), .t (a := 52) (o := Tx.o52) (by kernel_rfl) (by kernel_rfl) (by decide +kernel), .v (u := .int 3 260) (by kernel_rfl) (by decide +kernel), .v (u := .int 5 262) (by kernel_rfl) (by decide +kernel), .v (u := .int 4 264) (by kernel_rfl) (by decide +kernel), .v (u := .int 8 266) (by kernel_rfl) (by decide +kernel), .v (u := .int 3 268) (by kernel_rfl) (by decide +kernel), .v (u := .int 12 396) (by kernel_rfl) (by decide +kernel), trivial⟩
  case qZ => exact ⟨by kernel_rfl, by kernel_rfl, by kernel_rfl, by kernel_rfl, by kernel_rfl, by kernel_rfl, by kernel_rfl, by kernel_rfl, by kernel_rfl, by kernel_rfl, by kernel_rfl, by kernel_rfl, by kernel_rfl, by kernel_rfl, trivial⟩