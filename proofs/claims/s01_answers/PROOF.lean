import PyProof.Rows.All
import Wide.All
import OpenK.KWalk
import PyProof.EqAt
import PyProof.EqKinds
import PyProof.TupleCall
import KE.BitLaws
import Open.SpecLaws
import KE.OsHead
import KE.KIntText
import KE.KItem
import KE.KRevIter
import KE.KTurns
import PySem.Challenge.RW_channelnet_s01_answers
set_option Elab.async false
set_option maxRecDepth 100000
set_option linter.all false
set_option exponentiation.threshold 2000
set_option maxHeartbeats 2000000
namespace CH
open PySem PySem.W PyProof.Rows
noncomputable abbrev pp:Program:=PySem.Challenge.pw_channelnet_s01_answers
noncomputable def qq:Program:=view pp [1,2,3,5,6,7,8,9,10,11,12,13,15,16,18,19,20,22,23,24,25,27,28,30,31,32,33,34,35,36,37,38,39,40,41,42,43,44,45,46,47,48,49,50,51,53,54,55,56,57,58,59,60,61,62,63,65,66,67,68,69,70,71,72,73,74,75,76,77,78,79,80,81,82,83,84,85,86,87,88,89,90,91,92,93,94,95,96,97,98,99,100]
noncomputable abbrev lo:List Str:=["FUNCTIONS"]
noncomputable abbrev sn (s:Shared):=seen ((recsOf qq).map (·.name)) (ownsOf qq) [] { s with gens:=#[] }
noncomputable def hTop (i:Nat):Stmt:=pp.main.body.getD i (.Pass ⟨0,0,0,0⟩)
def hIn (s:Stmt) (j:Nat):Stmt:=match s with
  | .ClassDef _ _ _ b _ _ _ _ _ _ _=>b.getD j (.Pass ⟨0,0,0,0⟩)
  | _=>.Pass ⟨0,0,0,0⟩
def dA (s:Stmt):Arguments:=match s with
  | .FunctionDef _ a _ _ _ _ _ _ _ _=>a
  | _=>{ posonlyargs:=[],args:=[],vararg:=none,kwonlyargs:=[],kw_defaults:=[],kwarg:=none,defaults:=[] }
def dB (s:Stmt):List Stmt:=match s with
  | .FunctionDef _ _ b _ _ _ _ _ _ _=>b
  | _=>[]
def dS (s:Stmt):Scope:=match s with
  | .FunctionDef _ _ _ _ _ _ sc _ _ _=>sc
  | _=>{ kind:=.function,names:=[],isGenerator:=false,isCoroutine:=false }
noncomputable section
abbrev vi (n:Int):Value:=.int n 0
abbrev ob (c:String) (d:Data):Obj:={ cls:=.type c,data:=d }
abbrev tu (l:List Value):Obj:=ob "tuple" (.seq l.toArray)
abbrev fl (l:List Value):Obj:={ cls:=.none,data:=.fields l.toArray }
def tx:Nat→List Str→List Value
  | _,[]=>[]
  | t,x :: r=>.str x t :: tx (t + 1) r
def ti:Nat→List Int→List Value
  | _,[]=>[]
  | t,x :: r=>.int x t :: ti (t + 1) r
def pl:List (Int × Int × Nat)→List Value
  | []=>[]
  | (x,y,z) :: r=>vi x :: vi y :: .ref z :: pl r
abbrev fc:Str := "/claim/cut.py"
abbrev en (x:Str) (t:Nat) (v:Value):Str × Nat × Value:=(x,t,v)
abbrev di (P:Params) (n:Nat) (l:List (Str × Nat × Value)):Obj:=ob "dict" (.dict (l.map fun e=>{ hash:=PyData.keyHash P e.1,key:=.str e.1 e.2.1,val:=e.2.2 }).toArray n)
abbrev cl (a:Nat) (n:Str) (d t u:Nat):Obj:={ cls:=.type "type",data:=.cls { name:=n,bases:=[.type "object"],mro:=[.ref a,.type "object"],ns:=d,qualname:=n },slots:=#[none,none,some (.str n t),some (.str n u),some (.builtin "object.__new__"),some (.bool true)] }
abbrev co (n q:Str) (t i:Nat) (l c f:Int) (b:Bool) (x y:Nat) (u v z:Value):Obj:=ob "code" (.fields #[.str n t,.str q (t + 1),.str fc (t + 2),vi l,vi c,vi 0,vi 0,vi f,.ref x,.bool b,vi 181,.ref y,.none,u,v,z,vi i,vi l,.str fc (i + 1)])
abbrev tm (n q:Str) (st:Stmt):Obj:={ cls:=.none,data:=.func { name:=n,qualname:=q,params:=dA st,body:=.stmts (dB st),scope:=dS st,globals:=builtinsNs,closure:=[],defaults:=.none,kwdefaults:=.none } }
abbrev fo (n q:Str) (st:Stmt) (m:Value) (c:Nat):Obj:=ob "function" (.func (fnOf n q (dA st) (dB st) (dS st) .none .none .none m none (.ref c) .none))
abbrev nP (st:Stmt):Int:=(dA st).args.length
abbrev g7 (a t:Nat) (n q:Str) (st:Stmt) (l:Int) (m:Value) (x:List Str):List Obj:=[tu [],fl [],tu (tx (t + 3) x),tu [],tm n q st,co n q t (t + 3 + x.length) l (nP st) 3 true a (a + 1) (.ref (a + 2)) (.ref (a + 3)) (.ref (a + 4)),fo n q st m (a + 5)]
abbrev g5 (a t:Nat) (n q:Str) (st:Stmt) (l:Int) (m:Value):List Obj:=[tu [],fl [],tm n q st,co n q t (t + 3) l (nP st) 3 true a (a + 1) .none .none (.ref (a + 2)),fo n q st m (a + 3)]
abbrev m0:Value:=.str "channelnet.fraction" 187
abbrev m1:Value:=.str "channelnet.state" 219
abbrev m2:Value:=.str "channelnet.gates" 342
abbrev m3:Value:=.str "channelnet.need" 363
abbrev m4:Value:=.str "channelnet.asked" 397
abbrev m5:Value:=.str "channelnet.printing" 431
abbrev m6:Value:=.str "channelnet.reading" 450
abbrev m7:Value:=.str "channelnet.water" 588
abbrev m8:Value:=.str "channelnet.channels" 695
def o3 (P:Params):Obj:=di P 101 [en "__name__" 165 (.str "channelnet.channels" 695),en "__doc__" 166 (.none),en "__package__" 167 (.none),en "__loader__" 168 (.builtin "__main__.__loader__#opaque"),en "__spec__" 169 (.none),en "__annotations__" 170 (.ref 6),en "__builtins__" 171 (.ref 4),en "__file__" 173 (.str "/claim/cut.py" 172),en "__cached__" 174 (.none),en "common_divisor" 199 (.ref 21),en "lowest" 208 (.ref 28),en "total" 218 (.ref 35),en "SOURCE" 223 (.int (-1) 222),en "TICKS" 225 (.int 60 224),en "Reach" 266 (.ref 52),en "Net" 304 (.ref 80),en "with_cap" 313 (.ref 91),en "if_held" 319 (.ref 96),en "way_to" 329 (.ref 103),en "beginning_at" 335 (.ref 108),en "ends_of" 341 (.ref 113),en "gate_part" 356 (.ref 120),en "parts_fit" 362 (.ref 125),en "to_take" 373 (.ref 132),en "can_take" 381 (.ref 139),en "needed" 396 (.ref 146),en "from_below" 408 (.ref 153),en "offered_at" 414 (.ref 158),en "offers_for" 420 (.ref 163),en "part_of" 430 (.ref 170),en "line_of" 443 (.ref 177),en "text_of" 449 (.ref 182),en "LETTERS" 453 (.str "abcdefghijklmnopqrstuvwxyz" 452),en "DIGITS" 455 (.str "0123456789" 454),en "FORM" 463 (.ref 183),en "LEAST" 469 (.ref 184),en "GREATEST" 475 (.ref 185),en "MOST_REACHES" 477 (.int 30 476),en "LONGEST_WAY" 479 (.int 8 478),en "LONGEST_NAME" 481 (.int 8 480),en "LONGEST_NUMBER" 483 (.int 8 482),en "NOWHERE" 486 (.int (-2) 485),en "sign_of" 493 (.ref 192),en "words_of" 503 (.ref 199),en "lines_of" 513 (.ref 206),en "has_form" 519 (.ref 211),en "is_number" 526 (.ref 218),en "are_numbers_right" 535 (.ref 225),en "is_name_free" 541 (.ref 230),en "place_of" 551 (.ref 237),en "reach_at" 562 (.ref 244),en "fits" 568 (.ref 249),en "read_reach" 574 (.ref 254),en "read_net" 587 (.ref 261),en "DROPS" 591 (.int 100000000000000000000000000000000 590),en "pass_through" 605 (.ref 268),en "passes" 617 (.ref 275),en "pass_of" 626 (.ref 282),en "leaving_at" 636 (.ref 289),en "flow_at" 646 (.ref 296),en "account_of" 661 (.ref 303),en "account_of_all" 667 (.ref 308),en "spills_of_all" 673 (.ref 313),en "most_leaving" 685 (.ref 320),en "told" 694 (.ref 327),en "NO_NET" 699 (.int (-9) 698),en "OUT_OF_RANGE" 702 (.int (-1) 701),en "TOO_MUCH_PARTED" 705 (.int (-7) 704),en "CANNOT" 708 (.int (-8) 707),en "TOO_MANY_SETTINGS" 711 (.int (-6) 710),en "MOST_WATER" 713 (.int 1000000 712),en "MOST_SETTINGS" 715 (.int 60 714),en "MOST_CAP" 717 (.int 100000 716),en "is_reach" 725 (.ref 334),en "is_tick" 732 (.ref 341),en "is_water" 739 (.ref 348),en "are_asks" 745 (.ref 353),en "answer_net" 756 (.ref 360),en "answer_let" 762 (.ref 365),en "answer_gate" 773 (.ref 372),en "answer_flow" 782 (.ref 379),en "answer_comes" 788 (.ref 384),en "answer_account" 797 (.ref 391),en "answer_accounts" 806 (.ref 398),en "answer_way" 817 (.ref 405),en "answer_need" 827 (.ref 412),en "answer_most" 836 (.ref 419),en "answer_wants" 846 (.ref 426),en "answer_set_gates" 858 (.ref 433),en "answer_part" 867 (.ref 440),en "answer_spills" 876 (.ref 447),en "answer_ifcap" 885 (.ref 454),en "answer_ends" 895 (.ref 461),en "answer_print_text" 905 (.ref 468),en "answer_counts" 914 (.ref 475),en "NET" 916 (.int 0 915),en "FUNCTIONS" 917 (.ref 476),en "HOW_MANY_NUMBERS" 936 (.ref 477),en "WITH_ROW" 941 (.ref 478),en "answer_call" 952 (.ref 485),en "answers" 967 (.ref 492)]
def OX (P:Params):List Obj:=[tu [],fl (pl [(2,0,20),(10,0,27),(13,0,34),(23,0,41),(35,0,62),(46,0,90),(49,0,95),(55,0,102),(62,0,107),(64,0,112),(67,0,119),(75,0,124),(82,0,131),(85,0,138),(87,0,145),(100,0,152),(108,0,157),(110,0,162),(122,0,169),(128,0,176),(136,0,181),(150,0,191),(156,0,198),(166,0,205),(178,0,210),(182,0,217),(184,0,224),(189,0,229),(195,0,236),(202,0,243),(207,0,248),(210,0,253),(223,0,260),(238,0,267),(244,0,274),(252,0,281),(256,0,288),(259,0,295),(262,0,302),(277,0,307),(282,0,312),(287,0,319),(293,0,326),(307,0,333),(309,0,340),(311,0,347),(313,0,352),(315,0,359),(322,0,364),(329,0,371),(340,0,378),(344,0,383),(350,0,390),(354,0,397),(356,0,404),(362,0,411),(369,0,418),(373,0,425),(380,0,432),(390,0,439),(394,0,446),(396,0,453),(400,0,460),(403,0,467),(406,0,474),(412,0,484),(417,0,491)]),co "<module>" "<module>" 182 185 1 0 0 false 11 12 .none .none .none,{ cls:=.type "frame",slots:=#[some (.ref 13),some (.ref 3),some (.ref 3),none,some (.str "__main__" 164),none,some (.ref 0)] }]++(g7 15 189 "common_divisor" "common_divisor" (hTop 1) 2 m0 ["a", "b", "greater", "less", "rest"]++(g7 22 200 "lowest" "lowest" (hTop 2) 10 m0 ["top", "bottom", "divisor"]++(g7 29 209 "total" "total" (hTop 3) 13 m0 ["fractions", "top", "bottom", "fraction"]++([tu [],ob "builtin_function_or_method" (.fields #[.builtin "type.__prepare__",.type "type"]),di P 5 [en "__module__" 233 (.str "channelnet.state" 219),en "__qualname__" 235 (.str "Reach" 234),en "__firstlineno__" 237 (.int 23 236),en "__init__" 249 (.ref 49),en "__static_attributes__" 259 (.ref 50)],tu [],fl (pl [(25,4,48)]),co "Reach" "Reach" 228 231 23 0 0 false 39 40 .none .none .none,{ cls:=.type "frame",slots:=#[some (.ref 41),some (.ref 3),some (.ref 38),none,some (.str "channelnet.state" 219),none,some (.ref 0)] }]++(g7 43 238 "__init__" "Reach.__init__" (hIn (hTop 7) 0) 25 m1 ["self", "name", "begins", "above", "depth", "numbers"]++([tu (tx 250 ["above", "begins", "cap", "delay", "depth", "gate", "loss", "name", "soak"]),di P 4 [en "__module__" 233 (.str "channelnet.state" 219),en "__firstlineno__" 237 (.int 23 236),en "__init__" 249 (.ref 49),en "__static_attributes__" 259 (.ref 50),en "__dict__" 261 (.ref 53),en "__weakref__" 263 (.ref 54),en "__doc__" 264 (.none)],cl 52 "Reach" 51 226 234,ob "getset_descriptor" (.fields #[.str "__dict__" 260,.ref 52,.builtin "function.__dict__",.builtin "function.__dict__#set"]),ob "getset_descriptor" (.fields #[.str "__weakref__" 262,.ref 52,.builtin "ExceptionGroup.__weakref__",.none]),ob "super" (.fields #[.ref 52,.ref 52,.ref 52]),ob "builtin_function_or_method" (.fields #[.builtin "object.__init_subclass__",.ref 52]),tu [],ob "builtin_function_or_method" (.fields #[.builtin "type.__prepare__",.type "type"]),di P 6 [en "__module__" 274 (.str "channelnet.state" 219),en "__qualname__" 276 (.str "Net" 275),en "__firstlineno__" 278 (.int 35 277),en "__init__" 285 (.ref 70),en "renew" 293 (.ref 77),en "__static_attributes__" 297 (.ref 78)],tu [],fl (pl [(37,4,69),(42,4,76)]),co "Net" "Net" 269 272 35 0 0 false 60 61 .none .none .none,{ cls:=.type "frame",slots:=#[some (.ref 62),some (.ref 3),some (.ref 59),none,some (.str "channelnet.state" 219),none,some (.ref 0)] }]++(g7 64 279 "__init__" "Net.__init__" (hIn (hTop 8) 0) 37 m1 ["self"]++(g7 71 286 "renew" "Net.renew" (hIn (hTop 8) 1) 42 m1 ["self", "reaches"]++([tu (tx 294 ["reaches", "settings", "waters"]),di P 4 [en "__module__" 274 (.str "channelnet.state" 219),en "__firstlineno__" 278 (.int 35 277),en "__init__" 285 (.ref 70),en "renew" 293 (.ref 77),en "__static_attributes__" 297 (.ref 78),en "__dict__" 299 (.ref 81),en "__weakref__" 301 (.ref 82),en "__doc__" 302 (.none)],cl 80 "Net" 79 267 275,ob "getset_descriptor" (.fields #[.str "__dict__" 298,.ref 80,.builtin "function.__dict__",.builtin "function.__dict__#set"]),ob "getset_descriptor" (.fields #[.str "__weakref__" 300,.ref 80,.builtin "ExceptionGroup.__weakref__",.none]),ob "super" (.fields #[.ref 80,.ref 80,.ref 80]),ob "builtin_function_or_method" (.fields #[.builtin "object.__init_subclass__",.ref 80])]++(g7 85 305 "with_cap" "with_cap" (hTop 9) 46 m1 ["reach", "cap", "numbers"]++(g5 92 314 "if_held" "if_held" (hTop 10) 49 m1++(g7 97 320 "way_to" "way_to" (hTop 11) 55 m1 ["reaches", "i", "upward", "at"]++(g5 104 330 "beginning_at" "beginning_at" (hTop 12) 62 m1++(g5 109 336 "ends_of" "ends_of" (hTop 13) 64 m1++(g7 114 344 "gate_part" "gate_part" (hTop 15) 67 m2 ["reaches", "settings", "i", "tick", "part", "latest", "setting"]++(g5 121 357 "parts_fit" "parts_fit" (hTop 16) 75 m2++(g7 126 365 "to_take" "to_take" (hTop 18) 82 m3 ["reach", "water", "kept"]++(g7 133 374 "can_take" "can_take" (hTop 19) 85 m3 ["reach", "water"]++(g7 140 382 "needed" "needed" (hTop 20) 87 m3 ["net", "i", "tick", "water", "wanted", "k", "reach", "part", "taken"]++(g7 147 399 "from_below" "from_below" (hTop 22) 100 m4 ["reaches", "downward", "waiting", "i"]++(g5 154 409 "offered_at" "offered_at" (hTop 23) 108 m4++(g5 159 415 "offers_for" "offers_for" (hTop 24) 110 m4++(g7 164 421 "part_of" "part_of" (hTop 25) 122 m4 ["reaches", "offers", "i", "whole"]++(g7 171 433 "line_of" "line_of" (hTop 27) 128 m5 ["reaches", "i", "reach", "where", "words"]++(g5 178 444 "text_of" "text_of" (hTop 28) 136 m5++([tu (tx 456 ["reach", "from", "delay", "loss", "soak", "cap", "gate"]),tu (ti 464 [0,0,0,1,0]),tu (ti 470 [10,99,1000,100000,100])]++(g7 186 487 "sign_of" "sign_of" (hTop 40) 150 m6 ["byte"]++(g7 193 494 "words_of" "words_of" (hTop 41) 156 m6 ["line", "words", "word", "byte"]++(g7 200 504 "lines_of" "lines_of" (hTop 42) 166 m6 ["text", "lines", "line", "byte"]++(g5 207 514 "has_form" "has_form" (hTop 43) 178 m6++(g7 212 520 "is_number" "is_number" (hTop 44) 182 m6 ["word"]++(g7 219 527 "are_numbers_right" "are_numbers_right" (hTop 45) 184 m6 ["words", "k", "word"]++(g5 226 536 "is_name_free" "is_name_free" (hTop 46) 189 m6++(g7 231 542 "place_of" "place_of" (hTop 47) 195 m6 ["where", "reaches", "k", "reach"]++(g7 238 552 "reach_at" "reach_at" (hTop 48) 202 m6 ["name", "place", "numbers", "reaches", "before"]++(g5 245 563 "fits" "fits" (hTop 49) 207 m6++(g5 250 569 "read_reach" "read_reach" (hTop 50) 210 m6++(g7 255 575 "read_net" "read_net" (hTop 51) 223 m6 ["text", "reaches", "lines", "number", "line", "words", "reach"]++(g7 262 592 "pass_through" "pass_through" (hTop 54) 238 m7 ["net", "i", "tick", "water", "reach", "offered", "taken", "left"]++(g7 269 606 "passes" "passes" (hTop 55) 244 m7 ["net", "tick", "rows", "i", "reach", "water"]++(g7 276 618 "pass_of" "pass_of" (hTop 56) 252 m7 ["net", "i", "tick"]++(g7 283 627 "leaving_at" "leaving_at" (hTop 57) 256 m7 ["net", "i", "tick", "reach"]++(g7 290 637 "flow_at" "flow_at" (hTop 58) 259 m7 ["net", "i", "tick", "row"]++(g7 297 647 "account_of" "account_of" (hTop 59) 262 m7 ["net", "tick", "ends", "arrived", "lost", "spilled", "parted", "i", "row"]++(g5 304 662 "account_of_all" "account_of_all" (hTop 60) 277 m7++(g5 309 668 "spills_of_all" "spills_of_all" (hTop 61) 282 m7++(g7 314 674 "most_leaving" "most_leaving" (hTop 62) 287 m7 ["net", "i", "tick", "way", "water", "k"]++(g7 321 686 "told" "told" (hTop 63) 293 m7 ["waters", "numbers", "water"]++(g7 328 718 "is_reach" "is_reach" (hTop 73) 307 m8 ["net", "i"]++(g7 335 726 "is_tick" "is_tick" (hTop 74) 309 m8 ["tick"]++(g7 342 733 "is_water" "is_water" (hTop 75) 311 m8 ["number"]++(g5 349 740 "are_asks" "are_asks" (hTop 76) 313 m8++(g7 354 746 "answer_net" "answer_net" (hTop 77) 315 m8 ["net", "numbers", "row", "read", "reaches"]++(g5 361 757 "answer_let" "answer_let" (hTop 78) 322 m8++(g7 366 763 "answer_gate" "answer_gate" (hTop 79) 329 m8 ["net", "numbers", "row", "i", "settings"]++(g7 373 774 "answer_flow" "answer_flow" (hTop 80) 340 m8 ["net", "numbers", "row"]++(g5 380 783 "answer_comes" "answer_comes" (hTop 81) 344 m8++(g7 385 789 "answer_account" "answer_account" (hTop 82) 350 m8 ["net", "numbers", "row"]++(g7 392 798 "answer_accounts" "answer_accounts" (hTop 83) 354 m8 ["net", "numbers", "row"]++(g7 399 807 "answer_way" "answer_way" (hTop 84) 356 m8 ["net", "numbers", "row", "reach", "way"]++(g7 406 818 "answer_need" "answer_need" (hTop 85) 362 m8 ["net", "numbers", "row", "water"]++(g7 413 828 "answer_most" "answer_most" (hTop 86) 369 m8 ["net", "numbers", "row"]++(g7 420 837 "answer_wants" "answer_wants" (hTop 87) 373 m8 ["net", "numbers", "row", "found"]++(g7 427 847 "answer_set_gates" "answer_set_gates" (hTop 88) 380 m8 ["net", "numbers", "row", "found", "answer", "i"]++(g7 434 859 "answer_part" "answer_part" (hTop 89) 390 m8 ["net", "numbers", "row"]++(g7 441 868 "answer_spills" "answer_spills" (hTop 90) 394 m8 ["net", "numbers", "row"]++(g7 448 877 "answer_ifcap" "answer_ifcap" (hTop 91) 396 m8 ["net", "numbers", "row"]++(g7 455 886 "answer_ends" "answer_ends" (hTop 92) 400 m8 ["net", "numbers", "row", "ends"]++(g7 462 896 "answer_print_text" "answer_print_text" (hTop 93) 403 m8 ["net", "numbers", "row", "text"]++(g7 469 906 "answer_counts" "answer_counts" (hTop 94) 406 m8 ["net", "numbers", "row"]++([tu ([360,365,372,379,384,391,398,405,412,419,426,433,440,447,454,461,468,475].map .ref),tu (ti 918 [0,1,3,2,3,1,0,1,3,2,0,0,2,0,2,0,0,0]),tu (ti 937 [0,1,10,11])]++(g7 479 942 "answer_call" "answer_call" (hTop 99) 412 m8 ["net", "call", "numbers", "row", "function"]++(g7 486 953 "answers" "answers" (hTop 100) 417 m8 ["calls", "net", "answered", "at", "call", "behind", "numbers", "row", "answer"])))))))))))))))))))))))))))))))))))))))))))))))))))))))))))))))))))))))))
def bo (w:World) (i:Nat):Obj:=((fencedOpening treeTable pp w 5932).map fun s=>s.heap.objs.toList.getD i default).getD default
abbrev o2:Obj:={ cls:=.none,data:=.dict #[] }
def OL (w:World):List Obj:=bo w 0 :: bo w 1 :: o2 :: o3 w.params :: bo w 4 :: bo w 5 :: bo w 6 :: bo w 7 :: bo w 8 :: bo w 9 :: bo w 10 :: OX w.params
def SM (w:World) (o:OsState):Shared:={ heap:={ objs:=(OL w).toArray },toks:=968,os:=o }
def aK:List Addr:=[20,21,27,28,34,35,48,49,51,52,69,70,76,77,79,80,90,91,95,96,102,103,107,108,112,113,119,120,124,125,131,132,138,139,145,146,152,153,157,158,162,163,169,170,176,177,181,182,183,184,185,191,192,198,199,205,206,210,211,217,218,224,225,229,230,236,237,243,244,248,249,253,254,260,261,267,268,274,275,281,282,288,289,295,296,302,303,307,308,312,313,319,320,326,327,333,334,340,341,347,348,352,353,359,360,364,365,371,372,378,379,383,384,390,391,397,398,404,405,411,412,418,419,425,426,432,433,439,440,446,447,453,454,460,461,467,468,474,475,476,477,478,484,485,491,492]
def aM:List Addr:=2 :: 3 :: aK
def KM (P:Params):Frag:=(2,o2) :: (3,o3 P) :: aK.map fun a=>(a,(OX P).getD (a - 11) default)
end
theorem aM_is:∀ P,aM=(KM P).map (·.1):=fun P=>by kernel_rfl
end CH
namespace CH
open PySem PySem.W PyProof.Rows
theorem run_is:∀ w:World,(openEnds treeTable pp w 5932).map (fun s=>(s.heap.objs.toList,s.heap.life,s.gens.toList,s.drawn,s.toks))=some (OL w,{},[],{},968):=by
  intro w
  kernel_rfl
end CH
namespace CH
open PySem PySem.W PyProof.Rows
section
variable (w:World) (o:OsState)
theorem c1:sn (SM w o)=expectedOf qq:=by kernel_rfl
theorem c2:(SM w o).heap.bltView=bltViewBooted:=by kernel_rfl
theorem c3:(SM w o).heap.keysOk (looseW qq lo) ((recsOf qq).map (·.name)) ((litsOf qq).map (·.1)) ((clssOf qq (looseW qq lo)).map (·.name))=true:=by kernel_rfl
theorem c4:((SM w o).heap.accountedOkI (importedModules pp.main.body) && (SM w o).heap.isNs mainGlobals && (SM w o).heap.isNs builtinsNs && tablesOk qq (SM w o).heap && (xlAt qq [] (SM w o) && recOk [] (SM w o)))=true:=by kernel_rfl
theorem c5:tabsOk qq (SM w o)=true:=by kernel_rfl
theorem c6:pinSeenD qq (drecsOf qq) (SM w o)=pinGoodD (drecsOf qq):=by kernel_rfl
theorem c7:plainSeenE qq (looseW qq lo) (SM w o)=plainGoodE qq (looseW qq lo):=by kernel_rfl
theorem c8:plainSeenD qq lo (SM w o)=plainGoodD qq lo:=by kernel_rfl
theorem c9:wideSeen qq (SM w o)=wideGood qq:=by kernel_rfl
theorem c10:clsSeenW qq lo (SM w o)=clsGoodW qq lo:=by kernel_rfl
theorem c11:aM.map (SM w o).heap.get?=(KM w.params).map fun p=>some p.2:=by kernel_rfl
end
end CH
namespace CH
open PySem PySem.W PyProof.Rows
theorem zw {q:Program} {l mods:List Str} {Xt:Shared→Bool} {α:Type} {Yf:Shared→α} {Ya:α} {s:Shared} {e:Option Shared} (he:e=some s)
    (h1:seen ((recsOf q).map (·.name)) (ownsOf q) [] { s with gens:=#[] }=expectedOf q) (h2:s.heap.bltView=bltViewBooted)
    (h3:s.heap.keysOk (looseW q l) ((recsOf q).map (·.name)) ((litsOf q).map (·.1)) ((clssOf q (looseW q l)).map (·.name))=true)
    (h4:(s.heap.accountedOkI mods && s.heap.isNs mainGlobals && s.heap.isNs builtinsNs && tablesOk q s.heap && Xt s)=true) (h5:tabsOk q s=true) (h6:pinSeenD q (drecsOf q) s=pinGoodD (drecsOf q)) (h7:plainSeenE q (looseW q l) s=plainGoodE q (looseW q l))
    (h8:plainSeenD q l s=plainGoodD q l) (h9:wideSeen q s=wideGood q) (h10:clsSeenW q l s=clsGoodW q l) (g:(s.gens.size == 0)=true) (hk:Yf s=Ya):e.map (fun s=>(openSeen q l mods Xt true s,Yf s))=some (openGood q l,Ya):=by
  subst he
  simp only [Bool.and_eq_true] at h4
  obtain ⟨⟨⟨⟨a,b⟩,c⟩,d⟩,x⟩:=h4
  rw [Option.map_some]
  refine congrArg some (Prod.ext ?_ hk)
  show openSeen q l mods Xt true s=openGood q l
  unfold openSeen openGood
  rw [h1,h2,h3,a,b,c,d,x,h5,h6,h7,h8,h9,h10,if_pos rfl,g]
  rfl
theorem s_of {s:Shared} {l:List Obj} {t:Nat} (h:(s.heap.objs.toList,s.heap.life,s.gens.toList,s.drawn,s.toks)=(l,{},[],{},t)):s={ heap:={ objs:=l.toArray },toks:=t,os:=s.os }:=by
  obtain ⟨⟨⟨ob⟩,lf⟩,⟨g⟩,d,t',o⟩:=s
  injection h with a h
  injection h with b h
  injection h with c h
  injection h with d h
  cases a
  cases b
  cases c
  cases d
  cases h
  rfl
theorem zH (w:World):∃ o,openEnds treeTable pp w 5932=some (SM w o):=by
  have h:=run_is w
  generalize openEnds treeTable pp w 5932=e at h ⊢
  cases e with
  | none=>cases h
  | some s=>exact ⟨s.os,congrArg some (s_of (Option.some.inj h))⟩
noncomputable abbrev HM:Hook:=kHook KM aM aM_is
theorem leftM:LeftO PySem.Challenge.rw_channelnet_s01_answers.prog qq lo (fun s=>xlAt qq [] s && recOk [] s) (Hook.obs HM) (Hook.val HM) 5932:=fun w=>by
  obtain ⟨o,h⟩:=zH w
  exact zw (Xt:=fun s=>xlAt qq [] s && recOk [] s) h (c1 w o) (c2 w o) (c3 w o) (c4 w o) (c5 w o) (c6 w o) (c7 w o) (c8 w o) (c9 w o) (c10 w o) rfl (c11 w o)
def dP (s:Stmt):Pos:=match s with
  | .FunctionDef _ _ _ _ _ _ _ _ _ p=>p
  | _=>⟨0,0,0,0⟩
noncomputable def dM:DefRec:=⟨"answers",dA (hTop 100),dB (hTop 100),dS (hTop 100),dP (hTop 100)⟩
theorem well:PySem.Challenge.rw_channelnet_s01_answers.wellSaid=true:=by kernel_rfl
theorem wB (call:WalkOS qq lo (XL qq []) (Hook.says HM) PySem.Challenge.rw_channelnet_s01_answers dM [] fun f vs=>PySem.call f vs):PySem.Challenge.rw_channelnet_s01_answers.Holds:=by
  refine holds_os (q:=qq) (loose:=lo) (Xt:=fun s=>xlAt qq [] s && recOk [] s) (XP:=XL qq []) (Yf:=Hook.obs HM) (Ya:=Hook.val HM) (YP:=Hook.says HM) (N:=5932) leftM (Hook.of HM) (Hook.keeps HM) (fun s e=>xl_of s (Bool.and_eq_true_iff.mp e).1) XL.keeps (by kernel_rfl) (by kernel_rfl) (by kernel_rfl) (fun s e=>recFacts_of (Bool.and_eq_true_iff.mp e).2) os_shapes well (by kernel_rfl) ⟨by kernel_rfl,by kernel_rfl,by kernel_rfl,by kernel_rfl,by kernel_rfl,by kernel_rfl⟩ ⟨[.list [.int 15]],by decide +kernel,by decide +kernel⟩ call
end CH
namespace L2
open PySem PySem.Spec PyProof.Rows
abbrev Key:=Sum Int Str
def px:Key→Value→Bool
  | .inl k,v=>Value.isInt k v
  | .inr x,v=>Value.isStrOf x v
def keyH (w:World):Key→Int
  | .inl k=>hashInt k
  | .inr x=>hashStr w x
theorem bF:∀ {k:Key} {v:Value},px k v=true→(∃ i t,k=Sum.inl i∧v=Value.int i t)∨(∃ x t,k=Sum.inr x∧v=Value.str x t)
  | .inl i,v,h=>by
    obtain ⟨t,e⟩:=Value.isInt_shape (k:=i) (v:=v) h
    exact .inl ⟨i,t,rfl,e⟩
  | .inr x,v,h=>by
    obtain ⟨t,e⟩:=Value.isStrOf_shape (x:=x) (v:=v) h
    exact .inr ⟨x,t,rfl,e⟩
theorem wu (i:Int) (t:Tok):px (.inl i) (.int i t)=true:=by simp [px,Value.isInt]
theorem wt (x:Str) (t:Tok):px (.inr x) (.str x t)=true:=by simp [px,Value.isStrOf]
theorem key_ll (a b:Int):decide ((Sum.inl a:Key)=Sum.inl b)=(a == b):=by
  by_cases e:a=b
  · subst e; simp
  · have h:¬ (Sum.inl a:Key)=Sum.inl b:=fun q=>e (Sum.inl.inj q)
    rw [decide_eq_false h]
    exact (beq_eq_false_iff_ne.mpr e).symm
theorem key_rr (a b:Str):decide ((Sum.inr a:Key)=Sum.inr b)=decide (a=b):=by
  by_cases e:a=b
  · subst e; simp
  · have h:¬ (Sum.inr a:Key)=Sum.inr b:=fun q=>e (Sum.inr.inj q)
    rw [decide_eq_false h,decide_eq_false e]
theorem key_lr (a:Int) (b:Str):decide ((Sum.inl a:Key)=Sum.inr b)=false:=decide_eq_false (fun q=>nomatch q)
theorem key_rl (a:Str) (b:Int):decide ((Sum.inr a:Key)=Sum.inl b)=false:=decide_eq_false (fun q=>nomatch q)
def cu (prog:Program) (w:World):PySem.KeyKind prog w Key where
  is:=px
  hash:=keyH w
  inj:=fun v a b ha hb=>by
    rcases bF ha with ⟨i,t,rfl,rfl⟩ | ⟨x,t,rfl,rfl⟩
    · rcases bF hb with ⟨j,u,rfl,e⟩ | ⟨y,u,rfl,e⟩
      · injection e with e1 _; rw [e1]
      · exact nomatch e
    · rcases bF hb with ⟨j,u,rfl,e⟩ | ⟨y,u,rfl,e⟩
      · exact nomatch e
      · injection e with e1 _; rw [e1]
  byValue:=fun k v h=>by
    rcases bF h with ⟨i,t,rfl,rfl⟩ | ⟨x,t,rfl,rfl⟩ <;> rfl
  pyHash:=fun hv h=>by
    rcases bF hv with ⟨i,t,rfl,rfl⟩ | ⟨x,t,rfl,rfl⟩
    · exact wpAny_pyHash_int h
    · exact wpAny_pyHash_str h
  eqBool:=fun hu hv h=>by
    rcases bF hu with ⟨i,t,rfl,rfl⟩ | ⟨x,t,rfl,rfl⟩
    · rcases bF hv with ⟨j,u,rfl,rfl⟩ | ⟨y,u,rfl,rfl⟩
      · rw [key_ll] at h; exact wpAny_eqBool_int h
      · rw [key_lr] at h; exact SeqAt.EqAt.int_str i t y u _ _ _ _ h
    · rcases bF hv with ⟨j,u,rfl,rfl⟩ | ⟨y,u,rfl,rfl⟩
      · rw [key_rl] at h; exact SeqAt.EqAt.str_int x t j u _ _ _ _ h
      · rw [key_rr] at h; exact wpAny_eqBool_str h
  «strs»:=fun k x t v h=>by
    rcases bF h with ⟨i,u,rfl,e⟩ | ⟨y,u,rfl,e⟩
    · exact nomatch e
    · injection e with e1 _
      subst e1
      cases v <;> rfl
theorem r8 (prog:Program) (w:World) (i:Int) (t:Tok):(cu prog w).is (.inl i) (.int i t)=true:=wu i t
theorem r6 (prog:Program) (w:World) (x:Str) (t:Tok):(cu prog w).is (.inr x) (.str x t)=true:=wt x t
end L2
namespace L2
open PySem PySem.Spec PyProof.Rows
inductive V where
  | non | bl (b:Bool) | int (i:Int) | str (x:Str) | byt (b:Array UInt8) | flt (b:UInt64) | ref (a:Addr) | ty (n:String)
  deriving DecidableEq
def RelV:V→Value→Prop
  | .non,u=>u=Value.none
  | .bl b,u=>u=Value.bool b
  | .int i,u=>∃ t,u=Value.int i t
  | .str x,u=>∃ t,u=Value.str x t
  | .byt b,u=>∃ t,u=Value.bytes b t
  | .flt b,u=>∃ t,u=Value.float b t
  | .ref a,u=>u=Value.ref a
  | .ty n,u=>u=Value.type n
abbrev Vals:List V→List Value→Prop:=Paired RelV
theorem Vals.length {xs:List V} {us:List Value} (r:Vals xs us):xs.length=us.length:=Paired.length r
theorem Vals.get:∀ {xs:List V} {us:List Value} {i:Nat} {x:V},Vals xs us→xs[i]?=some x→∃ u,us[i]?=some u∧RelV x u
  | _,_,_,_,.nil,e=>by simp at e
  | _,_,0,_,.cons r _,e=>by simp at e; subst e; exact ⟨_,rfl,r⟩
  | _,_,i + 1,x,.cons _ t,e=>by
    obtain ⟨u,h1,h2⟩:=Vals.get (i:=i) (x:=x) t (by simpa using e)
    exact ⟨u,by simpa using h1,h2⟩
theorem Vals.set {x:V} {u:Value} (r:RelV x u):∀ {xs:List V} {us:List Value} (i:Nat),Vals xs us→Vals (xs.set i x) (us.set i u)
  | _,_,_,.nil=>.nil
  | _,_,0,.cons _ t=>.cons r t
  | _,_,i + 1,.cons q t=>.cons q (Vals.set r i t)
theorem Vals.append:∀ {xs ys:List V} {us ws:List Value},Vals xs us→Vals ys ws→Vals (xs++ys) (us++ws)
  | _,_,_,_,.nil,s=>s
  | _,_,_,_,.cons r t,s=>.cons r (Vals.append t s)
theorem Vals.take:∀ {xs:List V} {us:List Value} (n:Nat),Vals xs us→Vals (xs.take n) (us.take n)
  | _,_,0,_=>.nil
  | _,_,_ + 1,.nil=>.nil
  | _,_,n + 1,.cons r t=>.cons r (Vals.take n t)
theorem Vals.drop:∀ {xs:List V} {us:List Value} (n:Nat),Vals xs us→Vals (xs.drop n) (us.drop n)
  | _,_,0,r=>r
  | _,_,_ + 1,.nil=>.nil
  | _,_,n + 1,.cons _ t=>Vals.drop n t
def RelO:Option V→Option Value→Prop
  | some v,some u=>RelV v u
  | none,none=>True
  | _,_=>False
def KV {κ:Type}:List (κ × V)→List (κ × Value)→Prop:=Paired fun (p:κ × V) (q:κ × Value)=>p.1=q.1∧RelV p.2 q.2
def kV:Key→V
  | .inl i=>.int i
  | .inr x=>.str x
inductive HO where
    | lst (xs:List V)
    | tup (xs:List V)
    | dK (kvs:List (Key × V)) | dT (kvs:List (List Key × V))
    | set (S:Int→Bool) (n:Nat)
    | ins (C dx:Addr) (fs:List (Str × V))
    | own (x:Addr)
    | xd (fs:List (Str × V))
    | met (f x:Addr)
    | rng (lo hi:Int)
    | frz (o:Obj) (u:HO)
    | tbl (ps:Array Value)
    | ext (φ:Heap→Prop)
abbrev Hp:=Addr→Option HO
def upd (H:Hp) (a:Addr) (o:HO):Hp:=fun b=>if b=a then some o else H b
theorem ac {H:Hp} {a:Addr} {o:HO}:upd H a o a=some o:=by unfold upd; rw [if_pos rfl]
theorem ai {H:Hp} {a b:Addr} {o:HO} (h:b≠a):upd H a o b=H b:=by unfold upd; rw [if_neg h]
theorem bL {H:Hp} {a b:Addr} {o u:HO} (h:H a=some o) (h':H b=some u) (d:o≠u):a≠b:=by
  intro e; subst e; rw [h] at h'; exact d (Option.some.inj h')
theorem aq {H:Hp} {a b:Addr} {o:HO} (h:H a=some o) (h':H b=none):a≠b:=by
  intro e; subst e; rw [h] at h'; cases h'
section
variable (P:Program) (w:World)
def bN (H:Hp) (h:Heap) (a:Addr):HO→Prop
  | .lst xs=>xs.length≤sizeLine∧∃ (its:List Value) (n:Nat),Vals xs its∧h.get? a=some { cls:=.type "list",data:=.seq its.toArray n }
  | .tup xs=>xs.length≤sizeLine∧∃ its:List Value,Vals xs its∧IsTup h a its.toArray
  | .dK kvs=>kvs.length≤sizeLine∧(a == sysModules)=false∧∃ vs,KV kvs vs∧h.DictOf (cu P w) a vs
  | .dT kvs=>kvs.length≤sizeLine∧(a == sysModules)=false∧∃ xs:List (List Key × Addr × Value),
      Paired (fun (p:List Key × V) (q:List Key × Addr × Value)=>p.1=q.1∧H q.2.1=some (.tup (p.1.map kV))∧RelV p.2 q.2.2) kvs xs ∧
      ∃ o es ep,h.get? a=some o∧o.ExactDict∧o.data=.dict es ep∧es.toList=xs.map (entryOfKey (tupleKind (cu P w)))∧(xs.map (·.1)).Nodup
  | .set S n=>h.SetOf (intKind P w) a S n
  | .ins C dx fs=>H dx=some (.own a)∧fs.length≤1000∧dx≠a∧h.get? a=some (PySem.W.instObj C dx) ∧
      ∃ mA,h.Ns1 dx mA∧(∀ f,RelO (fs.lookup f) (mA f))∧PySem.Within mA (fs.map (·.1))
  | .own _=>∃ o,h.get? a=some o
  | .xd fs=>∃ mA,h.Ns1 a mA∧∀ f,RelO (fs.lookup f) (mA f)
  | .rng lo hi=>∃ t u v,h.get? a=some { cls:=.type "range",data:=.fields #[.int lo t,.int hi u,.int 1 v] }
  | .frz o u=>h.get? a=some o∧bN H h a u
  | .tbl ps=>h.get? a=some { cls:=.none,data:=.fields ps }
  | .met f x=>h.get? a=some (PySem.W.methodObj (.ref f) (.ref x))
  | .ext φ=>φ h∧(∃ o,h.get? a=some o)∧∀ h1 h2:Heap,φ h1→(∀ o,h1.get? a=some o→h2.get? a=some o)→φ h2
def HOk (H:Hp) (h:Heap):Prop:=∀ a o,H a=some o→bN P w H h a o
end
section
variable {P:Program} {w:World} {H H':Hp} {h h':Heap} {a:Addr} {o:HO}
theorem bN.lt (x:bN P w H h a o):a < h.objs.size:=by
  cases o with
  | lst xs=>obtain ⟨_,_,_,_,e⟩:=x; exact Heap.lt_size e
  | tup xs=>obtain ⟨_,_,_,p⟩:=x; exact p.lt
  | dK kvs=>obtain ⟨_,_,_,_,o,_,_,e,_⟩:=x; exact Heap.lt_size e
  | dT kvs=>obtain ⟨_,_,_,_,o,_,_,e,_⟩:=x; exact Heap.lt_size e
  | set S n=>obtain ⟨o,_,_,_,e,_⟩:=x; exact Heap.lt_size e
  | ins C dx fs=>obtain ⟨_,_,_,e,_⟩:=x; exact Heap.lt_size e
  | own y=>obtain ⟨_,e⟩:=x; exact Heap.lt_size e
  | xd fs=>obtain ⟨_,⟨_,_,_,e,_⟩,_⟩:=x; exact Heap.lt_size e
  | rng lo hi=>obtain ⟨_,_,_,e⟩:=x; exact Heap.lt_size e
  | frz ob u=>obtain ⟨e,_⟩:=x; exact Heap.lt_size e
  | tbl ps=>exact Heap.lt_size (show h.get? a=some _ from x)
  | met f y=>exact Heap.lt_size (show h.get? a=some _ from x)
  | ext φ=>obtain ⟨_,⟨_,e⟩,_⟩:=x; exact Heap.lt_size e
theorem Paired.mapP {α β:Type} {F G:α→β→Prop}:∀ {l₁:List α} {l₂:List β},Paired F l₁ l₂→(∀ a b,F a b→G a b)→Paired G l₁ l₂
  | _,_,.nil,_=>.nil
  | _,_,.cons r t,f=>.cons (f _ _ r) (Paired.mapP t f)
theorem bN.stay (x:bN P w H h a o) (k:∀ b u,(b=a∨H b=some (.own a))→h.get? b=some u→h'.get? b=some u)
    (ho:∀ b,H b=some (.own a)→H' b=some (.own a)) (ht:∀ b xs,H b=some (.tup xs)→H' b=some (.tup xs)):bN P w H' h' a o:=by
  induction o with
  | lst xs=>obtain ⟨z,its,n,r,e⟩:=x; exact ⟨z,its,n,r,k _ _ (.inl rfl) e⟩
  | tup xs=>obtain ⟨z,its,r,ob,e,c⟩:=x; exact ⟨z,its,r,ob,k _ _ (.inl rfl) e,c⟩
  | dK kvs=>obtain ⟨z,y,vs,r,ob,es,ep,e,c⟩:=x; exact ⟨z,y,vs,r,ob,es,ep,k _ _ (.inl rfl) e,c⟩
  | dT kvs =>
    obtain ⟨z,y,xs,r,ob,es,ep,e,c⟩:=x
    exact ⟨z,y,xs,Paired.mapP r fun p q z=>⟨z.1,ht _ _ z.2.1,z.2.2⟩,ob,es,ep,k _ _ (.inl rfl) e,c⟩
  | set S n=>obtain ⟨ob,es,ep,t,e,c⟩:=x; exact ⟨ob,es,ep,t,k _ _ (.inl rfl) e,c⟩
  | ins C dx fs =>
    obtain ⟨d,z,ne,e,mA,⟨od,es,ep,e2,c⟩,r⟩:=x
    exact ⟨ho _ d,z,ne,k _ _ (.inl rfl) e,mA,⟨od,es,ep,k _ _ (.inr d) e2,c⟩,r⟩
  | own y=>obtain ⟨ob,e⟩:=x; exact ⟨ob,k _ _ (.inl rfl) e⟩
  | xd fs=>obtain ⟨mA,⟨od,es,ep,e,c⟩,r⟩:=x; exact ⟨mA,⟨od,es,ep,k _ _ (.inl rfl) e,c⟩,r⟩
  | rng lo hi=>obtain ⟨t,u,v,e⟩:=x; exact ⟨t,u,v,k _ _ (.inl rfl) e⟩
  | frz ob u ih=>obtain ⟨e,q⟩:=x; exact ⟨k _ _ (.inl rfl) e,ih q⟩
  | tbl ps =>
    have e:h.get? a=some { cls:=.none,data:=.fields ps }:=x
    show h'.get? a=some { cls:=.none,data:=.fields ps }
    exact k a _ (.inl rfl) e
  | met f y =>
    have e:h.get? a=some (PySem.W.methodObj (.ref f) (.ref y)):=x
    show h'.get? a=some (PySem.W.methodObj (.ref f) (.ref y))
    exact k a _ (.inl rfl) e
  | ext φ=>obtain ⟨p,⟨o,e⟩,st⟩:=x; exact ⟨st _ _ p fun o q=>k _ _ (.inl rfl) q,⟨o,k _ _ (.inl rfl) e⟩,st⟩
theorem HOk.lt (x:HOk P w H h) (e:H a=some o):a < h.objs.size:=(x a o e).lt
theorem HOk.fresh (x:HOk P w H h) (e:h.objs.size≤a):H a=none:=by
  cases q:H a with
  | none=>rfl
  | some u=>exact absurd (Nat.lt_of_lt_of_le (x.lt q) e) (Nat.lt_irrefl _)
theorem HOk.kept (x:HOk P w H h) (k:∀ b u,h.get? b=some u→h'.get? b=some u):HOk P w H h':=fun a o e =>
  (x a o e).stay (fun b u _ q=>k b u q) (fun _ q=>q) fun _ _ q=>q
theorem HOk.laid (x:HOk P w H h) (k:∀ b u,h.get? b=some u→h'.get? b=some u) (hp:h.objs.size≤a) (new:bN P w (upd H a o) h' a o):HOk P w (upd H a o) h':=fun b u e=>by
  have hn:=x.fresh hp
  by_cases hb:b=a
  · subst hb; rw [ac] at e; cases e; exact new
  · rw [ai hb] at e
    exact (x b u e).stay (fun c v _ q=>k c v q) (fun c q=>by rw [ai (aq q hn)]; exact q) fun c xs q=>by rw [ai (aq q hn)]; exact q
end
def Rd (H:Hp) (a:Addr) (u:HO):Prop:=H a=some u∨∃ o,H a=some (.frz o u)
theorem Rd.ok {P:Program} {w:World} {H:Hp} {h:Heap} {a:Addr} {u:HO} (r:Rd H a u) (x:HOk P w H h):bN P w H h a u:=by
  rcases r with r | ⟨o,r⟩
  · exact x a u r
  · obtain ⟨_,q⟩:=x a _ r
    exact q
def Mut:Option HO→Prop
  | some (.lst _)=>True
  | some (.dK _)=>True
  | some (.dT _)=>True
  | some (.set _ _)=>True
  | some (.ins _ _ _)=>True
  | some (.ext _)=>True
  | _=>False
section
variable {P:Program} {w:World} {H:Hp} {h h':Heap} {x e:Addr} {o':HO}
theorem HOk.write (ok:HOk P w H h) (mu:Mut (H x)) (he:e=x∨H e=some (.own x)) (k:∀ b u,b≠e→h.get? b=some u→h'.get? b=some u) (heo:∃ u,h'.get? e=some u)
    (new:bN P w (upd H x o') h' x o'):HOk P w (upd H x o') h':=fun b u q=>by
  have nown:∀ c y,H c=some (.own y)→c≠x:=fun c y r z=>by subst z; rw [r] at mu; exact mu
  have ntup:∀ c xs,H c=some (.tup xs)→c≠x:=fun c xs r z=>by subst z; rw [r] at mu; exact mu
  by_cases hb:b=x
  · subst hb; rw [ac] at q; cases q; exact new
  · rw [ai hb] at q
    by_cases hbe:b=e
    · have q':H b=some (.own x):=by
        rcases he with z | z
        · exact absurd (hbe.trans z) hb
        · rw [hbe]; exact z
      rw [q] at q'; cases q'
      obtain ⟨v,hv⟩:=heo
      exact ⟨v,by rw [hbe]; exact hv⟩
    · refine (ok b u q).stay (fun c v hc r=>k c v ?_ r) (fun c r=>by rw [ai (nown c b r)]; exact r) fun c xs r=>by rw [ai (ntup c xs r)]; exact r
      rcases hc with rfl | hc
      · exact hbe
      · rintro rfl
        rcases he with z | z
        · exact nown c b hc z
        · rw [hc] at z; cases z; exact hb rfl
end
structure Un (fs ex:List Addr) (H H':Hp) (h h':Heap):Prop where
  keep:∀ b o,h.get? b=some o→H b=none→b∉fs→b∉ex→h'.get? b=some o
  slot:∀ b o,h.get? b=some o→H b=none→b∈fs→b∉ex→∃ sl,h'.get? b=some { o with slots:=sl }
  free:∀ b o,h.get? b=some o→H b=none→b∉ex→H' b=none
  there:∀ b o,h.get? b=some o→b∉ex→∃ o',h'.get? b=some o'
  tups:∀ b xs,H b=some (.tup xs)→H' b=some (.tup xs)
  frzs:∀ b o u,H b=some (.frz o u)→H' b=some (.frz o u)
  tbls:∀ b ps,H b=some (.tbl ps)→∃ more,H' b=some (.tbl (ps++more))
section
variable {fs fs' ex ex':List Addr} {H H1 H2:Hp} {h h1 h2 h':Heap} {a x e:Addr} {o:HO}
theorem Un.any (u:Un fs ex H H1 h h1) {b:Addr} {ob:Obj} (q:h.get? b=some ob) (n:H b=none) (hx:b∉ex):∃ sl,h1.get? b=some { ob with slots:=sl }:=by
  by_cases hb:b∈fs
  · exact u.slot b ob q n hb hx
  · exact ⟨ob.slots,u.keep b ob q n hb hx⟩
theorem Un.kept (k:∀ b u,h.get? b=some u→h'.get? b=some u):Un fs ex H H h h' :=
  ⟨fun b ob q _ _ _=>k b ob q,fun b ob q _ _ _=>⟨ob.slots,k b ob q⟩,fun _ _ _ n _=>n,fun b ob q _=>⟨ob,k b ob q⟩,fun _ _ q=>q,fun _ _ _ q=>q,fun _ ps q=>⟨#[],by rw [q]; simp⟩⟩
theorem Un.refl:Un fs ex H H h h:=Un.kept fun _ _ q=>q
theorem Un.laid (k:∀ b u,h.get? b=some u→h'.get? b=some u) (hp:h.objs.size≤a) (hn:H a=none):Un fs ex H (upd H a o) h h' where
  keep:=fun b u q _ _ _=>k b u q
  slot:=fun b u q _ _ _=>⟨u.slots,k b u q⟩
  free:=fun b u q n _=>by rw [ai (Nat.ne_of_lt (Nat.lt_of_lt_of_le (Heap.lt_size q) hp))]; exact n
  there:=fun b u q _=>⟨u,k b u q⟩
  tups:=fun b xs q=>by rw [ai (aq q hn)]; exact q
  frzs:=fun b u xs q=>by rw [ai (aq q hn)]; exact q
  tbls:=fun b ps q=>⟨#[],by rw [ai (aq q hn),q]; simp⟩
theorem Un.write (mu:Mut (H x)) (he:e=x∨H e=some (.own x)) (k:∀ b u,b≠e→h.get? b=some u→h'.get? b=some u) (heo:∃ u,h'.get? e=some u):Un fs ex H (upd H x o) h h':=by
  have hx:∀ b,H b=none→b≠x:=fun b n z=>by subst z; rw [n] at mu; exact mu
  have hb:∀ b,H b=none→b≠e:=fun b n z=>by
    subst z
    rcases he with r | r
    · exact hx b n r
    · rw [n] at r; cases r
  have hm:∀ b u,H b=some u→¬ Mut (some u)→b≠x:=fun b u q nm z=>by subst z; rw [q] at mu; exact nm mu
  refine ⟨fun b u q n _ _=>k b u (hb b n) q,fun b u q n _ _=>⟨u.slots,k b u (hb b n) q⟩,fun b u q n _=>by rw [ai (hx b n)]; exact n,fun b u q _=>?_,
    fun b xs q=>by rw [ai (hm b _ q fun z=>z)]; exact q,fun b u xs q=>by rw [ai (hm b _ q fun z=>z)]; exact q,fun b ps q=>⟨#[],by rw [ai (hm b _ q fun z=>z),q]; simp⟩⟩
  by_cases hbe:b=e
  · subst hbe; exact heo
  · exact ⟨u,k b u hbe q⟩
end
def trk (h:Heap) (H:Hp):List Addr:=(List.range h.objs.size).filter fun a=>(H a).isSome
def hidT (h:Heap) (H:Hp):Heap:=PySem.W.hideAll h (trk h H)
theorem wA (h:Heap) (H:Hp):(hidT h H).objs.size=h.objs.size:=PySem.W.hideAll_size _ _
theorem yr {h:Heap} {H:Hp} {b:Addr} {o:Obj} (e:h.get? b=some o) (n:H b=none):(hidT h H).get? b=some o :=
  PySem.W.hideAll_get _ e fun hm=>by
    have q:(H b).isSome=true:=(List.mem_filter.mp hm).2
    rw [n] at q; simp at q
theorem zl {h:Heap} {H:Hp} {b:Addr} {o:Obj} (e:(hidT h H).get? b=some o):h.get? b=some o∧H b=none:=by
  have e':h.get? b=some o:=PySem.W.of_hideAll (trk h H) e
  refine ⟨e',?_⟩
  cases q:H b with
  | none=>rfl
  | some x =>
    have hm:b∈trk h H:=List.mem_filter.mpr ⟨List.mem_range.mpr (Heap.lt_size e'),by simp [q]⟩
    have z:(hidT h H).get? b=none:=PySem.W.hideAll_none (trk h H) hm
    rw [z] at e; cases e
end L2
namespace L2
open PySem PySem.Spec PyProof.Rows
structure Mod (K:PySem.W.Frag) (mg:Str→Option Value) (base:Heap):Prop where
  kin:K.In base
  glob:base.Ns mainGlobals mg
  blt:∃ mb,base.Ns builtinsNs mb∧∀ x:Str,x ≠ "__name__" → mb x=bootBuiltins x
  nolimit:base.NoLimit
structure Cx where
  prog:Program
  w:World
  K:PySem.W.Frag
  mg:Str→Option Value
  base:Heap
  A:Around
  N:List Str
  s_0:Shared
  H_0:Hp
  env:Env
  outer:List Env
  stack:List Env
  ex:List Addr
  fn:Str→Bool
  calm:Bool
  pn:List (Addr × Obj)
  xe:Value→Shared→Prop
def frs (l:List Env):List Addr:=l.filterMap (·.frame)
abbrev Cx.fs (X:Cx):List Addr:=frs X.outer
def Vis (sc:Scope) (x:Str):Prop:=sc.names.lookup x=some .local∨sc.names.lookup x=some .cell∨sc.names.lookup x=some .free
def Loc (sc:Scope) (x:Str):Prop:=sc.names.lookup x=some .local∨sc.names.lookup x=some .cell
def Look (env:Env) (h:Heap) (m:Str→Option Value) (x:Str) (u:Value):Prop :=
  (env.kindOf x=some .local∧m x=some u)∨((env.kindOf x=some .cell∨env.kindOf x=some .free)∧∃ c,env.cells.lookup x=some c∧h.IsCell c (some u))
structure Cx.Ok (X:Cx):Prop where
  mod:Mod X.K X.mg X.base
  kind:X.env.scope.kind=.function
  glob:X.env.globals=mainGlobals
  blt:X.env.builtins=builtinsNs
  above:X.s_0.heap.objs.size≤X.env.locals
  inj:∀ x y c,X.env.cells.lookup x=some c→X.env.cells.lookup y=some c→x=y
  has:∀ x,(X.env.kindOf x=some .cell∨X.env.kindOf x=some .free)→∃ c,X.env.cells.lookup x=some c
  cab:∀ x c,X.fn x=true→X.env.cells.lookup x=some c→X.s_0.heap.objs.size≤c
  hd:X.calm=true→X.A.handled=none
  frames:X.A.frames=some X.stack
  stk:X.stack=X.outer∨(X.stack=X.env :: X.outer∧X.env.frame=some X.env.locals)
  exf:∀ b∈X.ex,b≠X.env.locals∧∀ x c,X.env.cells.lookup x=some c→c≠b
  bs:∀ b o,X.base.get? b=some o→X.s_0.heap.get? b=some o∧X.H_0 b=none
  bsz:X.base.objs.size≤X.s_0.heap.objs.size
  noex:∀ b o,X.base.get? b=some o→b∉X.ex
  exfs:∀ b∈X.ex,b∉X.fs
  funs:X.s_0.heap.FunFrames X.base X.outer
  frf:∀ b∈X.fs,X.H_0 b=none
structure Inv (X:Cx) (pins:List (Addr × Obj)) (σ:List (Option V)) (H:Hp) (s:Shared):Prop where
  ok:X.Ok
  os:s.os=X.s_0.os
  bare:AllBare s.gens
  base:Un X.fs X.ex X.H_0 H X.s_0.heap s.heap
  loc:∃ m,s.heap.Ns X.env.locals m∧∀ (i:Nat) (x:Str) (v:V),X.N[i]?=some x→σ[i]?=some (some v)→Vis X.env.scope x→∃ u,RelV v u∧Look X.env s.heap m x u
  cell:∀ x c,X.env.cells.lookup x=some c→∃ v,s.heap.IsCell c v
  free:H X.env.locals=none
  freeC:∀ x c,X.env.cells.lookup x=some c→H c=none
  pin:∀ p∈X.pn++pins,s.heap.get? p.1=some p.2∧H p.1=none∧p.1≠X.env.locals∧p.1∉X.fs∧∀ v,p.2.data≠.cell v
  hok:HOk X.prog X.w H s.heap
  len:σ.length=X.N.length
section
variable {X:Cx} {pins:List (Addr × Obj)} {σ:List (Option V)} {H H':Hp} {s:Shared} {h':Heap}
theorem Cx.Ok.nofr (ok:X.Ok) {b:Addr} {o:Obj} (e:X.base.get? b=some o):b∉X.fs:=fun hb=>by
  have:=(ok.funs.mem hb).1
  rw [e] at this; cases this
theorem Inv.bs (I:Inv X pins σ H s):∀ b o,X.base.get? b=some o→s.heap.get? b=some o∧H b=none:=fun b o e =>
  ⟨I.base.keep b o (I.ok.bs b o e).1 (I.ok.bs b o e).2 (I.ok.nofr e) (I.ok.noex b o e),I.base.free b o (I.ok.bs b o e).1 (I.ok.bs b o e).2 (I.ok.noex b o e)⟩
theorem Inv.bk (I:Inv X pins σ H s):∀ b o,X.base.get? b=some o→s.heap.get? b=some o:=fun b o e=>(I.bs b o e).1
theorem Inv.mod (I:Inv X pins σ H s):Mod X.K X.mg X.base:=I.ok.mod
theorem Inv.kIn (I:Inv X pins σ H s):X.K.In s.heap:=I.ok.mod.kin.keeps I.bk
theorem Inv.lt (I:Inv X pins σ H s):X.env.locals < s.heap.objs.size:=let ⟨_,hn,_⟩:=I.loc; hn.lt
theorem Inv.sz (I:Inv X pins σ H s):X.s_0.heap.objs.size≤s.heap.objs.size:=Nat.le_trans I.ok.above (Nat.le_of_lt I.lt)
theorem Inv.nofs (I:Inv X pins σ H s) {a:Addr} (h:s.heap.objs.size≤a):a∉X.fs:=fun hb=>by
  obtain ⟨_,o,ho,_⟩:=I.ok.funs.mem hb
  exact absurd (Nat.lt_of_lt_of_le (Heap.lt_size ho) (Nat.le_trans I.sz h)) (Nat.lt_irrefl _)
theorem Inv.cne (I:Inv X pins σ H s):∀ x c,X.env.cells.lookup x=some c→c≠X.env.locals:=fun x c e z=>by
  obtain ⟨v,o,ho,hd⟩:=I.cell x c e
  obtain ⟨m,⟨o',es,ep,ho',hd',_⟩,_⟩:=I.loc
  rw [z,ho'] at ho; cases ho; rw [hd'] at hd; cases hd
theorem Inv.funs (I:Inv X pins σ H s):s.heap.FunFrames X.base X.outer:=by
  have all:∀ (l:List Env),(∀ b∈frs l,b∈X.fs)→X.s_0.heap.FunFrames X.base l→s.heap.FunFrames X.base l:=by
    intro l
    induction l with
    | nil=>intro _ _; trivial
    | cons env r ih =>
      intro hs hl
      obtain ⟨hk,⟨L,o,hf,hn,ho,hd⟩,hr⟩:=hl
      have hL:L∈X.fs:=hs L (by unfold frs; rw [List.filterMap_cons,hf]; exact List.mem_cons_self)
      obtain ⟨sl,e⟩:=I.base.slot L o ho (I.ok.frf L hL) hL fun z=>I.ok.exfs L z hL
      exact ⟨hk,⟨L,_,hf,hn,e,hd⟩,ih (fun b hb=>hs b (by unfold frs; rw [List.filterMap_cons,hf]; exact List.mem_cons_of_mem _ hb)) hr⟩
  exact all X.outer (fun _ hb=>hb) I.ok.funs
theorem Inv.stack (I:Inv X pins σ H s):s.heap.FunFrames X.base X.stack:=by
  rcases I.ok.stk with e | ⟨e,hf⟩
  · rw [e]; exact I.funs
  · rw [e]
    obtain ⟨m,hn,_⟩:=I.loc
    refine .cons (by rw [I.ok.kind]; decide) hf hn ?_ I.funs
    exact Heap.get?_none_of_le (Nat.le_trans I.ok.bsz I.ok.above)
theorem Inv.stkSub (I:Inv X pins σ H s):∀ b∈frs X.stack,b∈X.env.locals :: X.fs:=fun b hb=>by
  rcases I.ok.stk with e | ⟨e,hf⟩
  · rw [e] at hb; exact List.mem_cons_of_mem _ hb
  · rw [e] at hb
    unfold frs at hb
    rw [List.filterMap_cons,hf] at hb
    exact hb
theorem Inv.stkFree (I:Inv X pins σ H s):∀ b∈frs X.stack,H b=none:=fun b hb=>by
  rcases List.mem_cons.mp (I.stkSub b hb) with e | hb
  · rw [e]; exact I.free
  · obtain ⟨_,o,ho,_⟩:=I.ok.funs.mem hb
    exact I.base.free b o ho (I.ok.frf b hb) fun z=>I.ok.exfs b z hb
theorem Inv.step {g':Array GenState} {t':Nat} {d':Drawn} {ch:List Addr} (I:Inv X pins σ H s)
    (hch:∀ b∈ch,(b∈X.ex∨X.s_0.heap.objs.size≤b)∧b≠X.env.locals∧(∀ x c,X.env.cells.lookup x=some c→c≠b)∧∀ p∈X.pn++pins,p.1≠b)
    (keep:∀ b o,b≠X.env.locals→b∉X.fs→b∉ch→s.heap.get? b=some o→H b=none→h'.get? b=some o)
    (slot:∀ b o,b≠X.env.locals→b∈X.fs→b∉ch→s.heap.get? b=some o→H b=none→∃ sl,h'.get? b=some { o with slots:=sl }) (free:∀ b o,b∉ch→s.heap.get? b=some o→H b=none→H' b=none)
    (there:∀ b o,b∉ch→s.heap.get? b=some o→∃ o',h'.get? b=some o')
    (tups:∀ b xs,H b=some (.tup xs)→H' b=some (.tup xs)) (frzs:∀ b o u,H b=some (.frz o u)→H' b=some (.frz o u)) (tbls:∀ b ps,H b=some (.tbl ps)→∃ more,H' b=some (.tbl (ps++more)))
    (ns:∀ m,s.heap.Ns X.env.locals m→h'.Ns X.env.locals m) (hok:HOk X.prog X.w H' h') (hg:AllBare g') :
    Inv X pins σ H' { s with heap:=h',gens:=g',drawn:=d',toks:=t' }:=by
  have neL:∀ b o,X.s_0.heap.get? b=some o→b≠X.env.locals:=fun b o e=>Nat.ne_of_lt (Nat.lt_of_lt_of_le (Heap.lt_size e) I.ok.above)
  have neC:∀ b o,X.s_0.heap.get? b=some o→b∉X.ex→b∉ch:=fun b o e hx hb=>by
    rcases (hch b hb).1 with z | z
    · exact hx z
    · exact absurd (Nat.lt_of_lt_of_le (Heap.lt_size e) z) (Nat.lt_irrefl _)
  have cellK:∀ x c,X.env.cells.lookup x=some c→∀ v,s.heap.IsCell c v→h'.IsCell c v:=fun x c e v ⟨o,ho,hd⟩=>by
    have nch:c∉ch:=fun z=>(hch c z).2.2.1 x c e rfl
    by_cases hc:c∈X.fs
    · obtain ⟨sl,q⟩:=slot c o (I.cne x c e) hc nch ho (I.freeC x c e)
      exact ⟨_,q,hd⟩
    · exact ⟨o,keep c o (I.cne x c e) hc nch ho (I.freeC x c e),hd⟩
  refine ⟨I.ok,I.os,hg,⟨fun b o e n hb hx=>?_,fun b o e n hb hx=>?_,fun b o e n hx=>?_,fun b o e hx=>?_,fun b xs e=>tups b xs (I.base.tups b xs e),fun b o xs e=>frzs b o xs (I.base.frzs b o xs e),fun b ps e=>?_⟩,?_,fun x c e=>?_,?_,fun x c e=>?_,fun p hp=>?_,hok,I.len⟩
  · exact keep b o (neL b o e) hb (neC b o e hx) (I.base.keep b o e n hb hx) (I.base.free b o e n hx)
  · obtain ⟨sl,e1⟩:=I.base.slot b o e n hb hx
    obtain ⟨sl',e2⟩:=slot b _ (neL b o e) hb (neC b o e hx) e1 (I.base.free b o e n hx)
    exact ⟨sl',e2⟩
  · obtain ⟨o',e1⟩:=I.base.there b o e hx
    exact free b o' (neC b o e hx) e1 (I.base.free b o e n hx)
  · obtain ⟨o',e1⟩:=I.base.there b o e hx
    exact there b o' (neC b o e hx) e1
  · obtain ⟨m1,e1⟩:=I.base.tbls b ps e
    obtain ⟨m2,e2⟩:=tbls b _ e1
    exact ⟨m1++m2,by rw [e2,Array.append_assoc]⟩
  · obtain ⟨m,hn,hl⟩:=I.loc
    refine ⟨m,ns m hn,fun i x v e1 e2 e3=>?_⟩
    obtain ⟨u,r,l⟩:=hl i x v e1 e2 e3
    refine ⟨u,r,?_⟩
    rcases l with l | ⟨k,c,e,z⟩
    · exact .inl l
    · exact .inr ⟨k,c,e,cellK x c e _ z⟩
  · obtain ⟨v,z⟩:=I.cell x c e
    exact ⟨v,cellK x c e v z⟩
  · obtain ⟨m,⟨o,_,_,ho,_⟩,_⟩:=I.loc
    exact free _ o (fun z=>(hch _ z).2.1 rfl) ho I.free
  · obtain ⟨v,o,ho,hd⟩:=I.cell x c e
    exact free c o (fun z=>(hch c z).2.2.1 x c e rfl) ho (I.freeC x c e)
  · obtain ⟨e,n,ne,nf,d⟩:=I.pin p hp
    have nch:p.1∉ch:=fun z=>(hch p.1 z).2.2.2 p hp rfl
    exact ⟨keep p.1 p.2 ne nf nch e n,free p.1 p.2 nch e n,ne,nf,d⟩
theorem Inv.un {t':Nat} (I:Inv X pins σ H s) (u:Un X.fs [] H H' s.heap h') (hok:HOk X.prog X.w H' h'):Inv X pins σ H' { s with heap:=h',toks:=t' }:=by
  obtain ⟨m,⟨o,es,ep,ho,r⟩,_⟩:=id I.loc
  obtain ⟨sl,hL⟩:=u.any ho I.free (by simp)
  exact I.step (g':=s.gens) (d':=s.drawn) (ch:=[]) (fun _ z=>nomatch z) (fun b o _ hb _ e n=>u.keep b o e n hb (by simp)) (fun b o _ hb _ e n=>u.slot b o e n hb (by simp)) (fun b o _ e n=>u.free b o e n (by simp)) (fun b o _ e=>u.there b o e (by simp)) u.tups u.frzs u.tbls (fun m' hm=>by
    obtain ⟨o',es',ep',ho',r'⟩:=hm
    rw [ho] at ho'; cases ho'
    exact ⟨_,es',ep',hL,r'⟩) hok I.bare
theorem Inv.call {g':Array GenState} {t':Nat} {d':Drawn} {ch:List Addr} (I:Inv X pins σ H s) (u:Un (frs X.stack) ch H H' s.heap h') (hok:HOk X.prog X.w H' h') (hg:AllBare g')
    (hch:∀ b∈ch,(b∈X.ex∨X.s_0.heap.objs.size≤b)∧b≠X.env.locals∧(∀ x c,X.env.cells.lookup x=some c→c≠b)∧∀ p∈X.pn++pins,p.1≠b) :
    Inv X pins σ H' { s with heap:=h',gens:=g',drawn:=d',toks:=t' }:=by
  obtain ⟨m,⟨o,es,ep,ho,r⟩,_⟩:=id I.loc
  obtain ⟨sl,hL⟩:=u.any ho I.free fun z=>(hch _ z).2.1 rfl
  exact I.step (ch:=ch) hch (fun b o hL hb hc e n=>u.keep b o e n (fun z=>(List.mem_cons.mp (I.stkSub b z)).elim hL hb) hc) (fun b o _ _ hc e n=>u.any e n hc) (fun b o hc e n=>u.free b o e n hc) (fun b o hc e=>u.there b o e hc) u.tups u.frzs u.tbls (fun m' hm=>by
    obtain ⟨o',es',ep',ho',r'⟩:=hm
    rw [ho] at ho'; cases ho'
    exact ⟨_,es',ep',hL,r'⟩) hok hg
theorem Inv.turned {t':Nat} {it:Addr} (I:Inv X pins σ H s) (k:∀ b o,b≠it→s.heap.get? b=some o→h'.get? b=some o) (hn:H it=none) (hL:it≠X.env.locals)
    (h1:it∈X.ex∨X.s_0.heap.objs.size≤it) (h2:∀ x c,X.env.cells.lookup x=some c→c≠it) (h3:∀ p∈X.pn++pins,p.1≠it):Inv X pins σ H { s with heap:=h',toks:=t' }:=by
  have nit:∀ b u,H b=some u→b≠it:=fun b u e z=>by rw [z,hn] at e; cases e
  refine I.step (g':=s.gens) (d':=s.drawn) (ch:=[it]) (fun b hb=>?_) (fun b o _ _ hc e _=>k b o (fun z=>hc (by simp [z])) e) (fun b o _ _ hc e _=>⟨o.slots,k b o (fun z=>hc (by simp [z])) e⟩) (fun _ _ _ _ n=>n)
    (fun b o hc e=>⟨o,k b o (fun z=>hc (by simp [z])) e⟩) (fun _ _ e=>e) (fun _ _ _ e=>e) (fun b ps e=>⟨#[],by rw [e]; simp⟩) (fun m hm=>?_) (fun b u e=>?_) I.bare
  · have e:b=it:=by simpa using hb
    subst e
    exact ⟨h1,hL,h2,h3⟩
  · obtain ⟨o,es,ep,ho,r⟩:=hm
    exact ⟨o,es,ep,k _ o (Ne.symm hL) ho,r⟩
  · refine (I.hok b u e).stay (fun c v hc q=>k c v ?_ q) (fun _ q=>q) fun _ _ q=>q
    rcases hc with z | z
    · rw [z]; exact nit b u e
    · exact nit c _ z
theorem Inv.tok (I:Inv X pins σ H s) (t:Nat):Inv X pins σ H { s with toks:=t }:=I.un (h':=s.heap) (t':=t) Un.refl I.hok
theorem Inv.kept {t':Nat} (I:Inv X pins σ H s) (k:∀ b u,s.heap.get? b=some u→h'.get? b=some u):Inv X pins σ H { s with heap:=h',toks:=t' }:=I.un (Un.kept k) (I.hok.kept k)
theorem Inv.laid {a:Addr} {o:HO} {t':Nat} (I:Inv X pins σ H s) (k:∀ b u,s.heap.get? b=some u→h'.get? b=some u) (hp:s.heap.objs.size≤a) (new:bN X.prog X.w (upd H a o) h' a o) :
    Inv X pins σ (upd H a o) { s with heap:=h',toks:=t' }:=I.un (Un.laid k hp (I.hok.fresh hp)) (I.hok.laid k hp new)
theorem Inv.write {x e:Addr} {o:HO} {t':Nat} (I:Inv X pins σ H s) (mu:Mut (H x)) (he:e=x∨H e=some (.own x)) (k:∀ b u,b≠e→s.heap.get? b=some u→h'.get? b=some u) (heo:∃ u,h'.get? e=some u)
    (new:bN X.prog X.w (upd H x o) h' x o):Inv X pins σ (upd H x o) { s with heap:=h',toks:=t' }:=I.un (Un.write mu he k heo) (I.hok.write mu he k heo new)
theorem Inv.weak {σ':List (Option V)} (I:Inv X pins σ H s) (hl:σ'.length=σ.length) (w:∀ (i:Nat) v,σ'[i]?=some (some v)→σ[i]?=some (some v)):Inv X pins σ' H s :=
  ⟨I.ok,I.os,I.bare,I.base,let ⟨m,hn,hl'⟩:=I.loc; ⟨m,hn,fun i x v e1 e2 e3=>hl' i x v e1 (w i v e2) e3⟩,I.cell,I.free,I.freeC,I.pin,I.hok,hl.trans I.len⟩
theorem Inv.pins_of {pins':List (Addr × Obj)} (I:Inv X pins σ H s) (h:∀ p∈pins',s.heap.get? p.1=some p.2∧H p.1=none∧p.1≠X.env.locals∧p.1∉X.fs∧∀ v,p.2.data≠.cell v):Inv X pins' σ H s :=
  ⟨I.ok,I.os,I.bare,I.base,I.loc,I.cell,I.free,I.freeC,fun p hp=>(List.mem_append.mp hp).elim (fun z=>I.pin p (List.mem_append_left _ z)) (h p),I.hok,I.len⟩
theorem nI {N:List Str} (hN:N.Nodup) {i j:Nat} {x:Str} (a:N[i]?=some x) (b:N[j]?=some x):i=j:=by
  obtain ⟨h1,e1⟩:=List.getElem?_eq_some_iff.mp a
  obtain ⟨h2,e2⟩:=List.getElem?_eq_some_iff.mp b
  exact (List.getElem_inj hN).mp (e1.trans e2.symm)
theorem o9 {M:Model} {A:Around} {E:Value→Shared→Prop} {i:Nat} {x:Str} {v:V} {u:Value} {Q:Unit→Shared→Prop} (I:Inv X pins σ H s) (hN:X.N.Nodup) (hi:X.N[i]?=some x) (hx:Loc X.env.scope x) (r:RelV v u)
    (h:∀ s',Inv X pins (σ.set i (some v)) H s'→(∃ a,Heap.SameBut a s.heap s'.heap∧(a=X.env.locals∨X.env.cells.lookup x=some a))→Q () s') (hf:X.fn x=true∨X.env.scope.names.lookup x=some .local:=by first | exact .inl rfl | exact .inr rfl | assumption):wpAny M A (storeName X.env x u) Q E s:=by
  obtain ⟨m,hn,hl⟩:=id I.loc
  have hcls:(X.env.scope.kind == .class || (X.env.scope.kind == .module && X.env.locals != X.env.globals))=false:=by rw [I.ok.kind]; rfl
  have hiσ:i < σ.length:=by rw [I.len]; exact (List.getElem?_eq_some_iff.mp hi).1
  have cne:=I.cne
  have tracked:∀ {a:Addr} {h':Heap},(∃ o,s.heap.get? a=some o∧H a=none)→Heap.SameBut a s.heap h'→HOk X.prog X.w H h':=fun {a h'} ha hs b ob e=>by
    obtain ⟨_,_,hfree⟩:=ha
    refine (I.hok b ob e).stay (fun c w' hc q=>(hs.2 c ?_).trans q) (fun _ q=>q) fun _ _ q=>q
    rintro rfl
    rcases hc with rfl | hc
    · rw [hfree] at e; cases e
    · rw [hfree] at hc; cases hc
  rcases hx with hk | hk
  · refine wpAny_storeName_local hk hn (fun h' hn' hs=>?_) hcls
    obtain ⟨oL,_,_,hoL,_⟩:=id hn
    refine h _ ⟨I.ok,I.os,I.bare,⟨fun b o e n hb hx=>?_,fun b o e n hb hx=>?_,I.base.free,fun b o e hx=>?_,I.base.tups,I.base.frzs,I.base.tbls⟩,⟨_,hn',fun j y v' e1 e2 e3=>?_⟩,fun y c e=>?_,I.free,I.freeC,fun p hp=>?_,tracked ⟨oL,hoL,I.free⟩ hs,by simpa using I.len⟩ ⟨_,hs,.inl rfl⟩
    · exact (hs.2 b (Nat.ne_of_lt (Nat.lt_of_lt_of_le (Heap.lt_size e) I.ok.above))).trans (I.base.keep b o e n hb hx)
    · obtain ⟨sl,e1⟩:=I.base.slot b o e n hb hx
      exact ⟨sl,(hs.2 b (Nat.ne_of_lt (Nat.lt_of_lt_of_le (Heap.lt_size e) I.ok.above))).trans e1⟩
    · obtain ⟨o',e1⟩:=I.base.there b o e hx
      exact ⟨o',(hs.2 b (Nat.ne_of_lt (Nat.lt_of_lt_of_le (Heap.lt_size e) I.ok.above))).trans e1⟩
    · by_cases hj:j=i
      · subst hj
        rw [hi] at e1; cases e1
        rw [List.getElem?_set_self hiσ] at e2
        cases e2
        exact ⟨u,r,.inl ⟨hk,by simp⟩⟩
      · rw [List.getElem?_set_ne (Ne.symm hj)] at e2
        obtain ⟨u',r',q⟩:=hl j y v' e1 e2 e3
        refine ⟨u',r',?_⟩
        rcases q with ⟨k,e⟩ | ⟨k,c,e,z⟩
        · refine .inl ⟨k,?_⟩
          have:y≠x:=fun e=>hj (nI hN e1 (e ▸ hi))
          simp [this,e]
        · exact .inr ⟨k,c,e,z.sameBut hs (cne y c e)⟩
    · obtain ⟨w',z⟩:=I.cell y c e
      exact ⟨w',z.sameBut hs (cne y c e)⟩
    · obtain ⟨e,n,ne,nf,d⟩:=I.pin p hp
      exact ⟨(hs.2 p.1 ne).trans e,n,ne,nf,d⟩
  · have hfn:X.fn x=true:=by
      rcases hf with z | z
      · exact z
      · rw [z] at hk; cases hk
    obtain ⟨c,hc⟩:=I.ok.has x (.inl hk)
    obtain ⟨w',z⟩:=I.cell x c hc
    refine wpAny_storeName_cell I.ok.kind hk hc z (fun h' hc' hs=>?_)
    obtain ⟨oc,hoc,hocd⟩:=id z
    refine h { s with heap:=h' } ⟨I.ok,I.os,I.bare,⟨fun b o e n hb hx=>?_,fun b o e n hb hx=>?_,I.base.free,fun b o e hx=>?_,I.base.tups,I.base.frzs,I.base.tbls⟩,⟨m,hn.sameBut hs (Ne.symm (cne x c hc)),fun j y v' e1 e2 e3=>?_⟩,fun y c' e=>?_,I.free,I.freeC,fun p hp=>?_,tracked ⟨oc,hoc,I.freeC x c hc⟩ hs,by simpa using I.len⟩ ⟨c,hs,.inr hc⟩
    · exact (hs.2 b (Nat.ne_of_lt (Nat.lt_of_lt_of_le (Heap.lt_size e) (I.ok.cab x c hfn hc)))).trans (I.base.keep b o e n hb hx)
    · obtain ⟨sl,e1⟩:=I.base.slot b o e n hb hx
      exact ⟨sl,(hs.2 b (Nat.ne_of_lt (Nat.lt_of_lt_of_le (Heap.lt_size e) (I.ok.cab x c hfn hc)))).trans e1⟩
    · obtain ⟨o',e1⟩:=I.base.there b o e hx
      exact ⟨o',(hs.2 b (Nat.ne_of_lt (Nat.lt_of_lt_of_le (Heap.lt_size e) (I.ok.cab x c hfn hc)))).trans e1⟩
    · by_cases hj:j=i
      · subst hj
        rw [hi] at e1; cases e1
        rw [List.getElem?_set_self hiσ] at e2
        cases e2
        exact ⟨u,r,.inr ⟨.inl hk,c,hc,hc'⟩⟩
      · rw [List.getElem?_set_ne (Ne.symm hj)] at e2
        obtain ⟨u',r',q⟩:=hl j y v' e1 e2 e3
        refine ⟨u',r',?_⟩
        rcases q with q | ⟨k,c',e,z'⟩
        · exact .inl q
        · refine .inr ⟨k,c',e,z'.sameBut hs ?_⟩
          rintro rfl
          exact hj (nI hN e1 (I.ok.inj _ _ _ e hc ▸ hi))
    · by_cases hcc:c'=c
      · subst hcc; exact ⟨_,hc'⟩
      · obtain ⟨w2,z2⟩:=I.cell y c' e
        exact ⟨w2,z2.sameBut hs hcc⟩
    · obtain ⟨e,n,ne,nf,d⟩:=I.pin p hp
      refine ⟨(hs.2 p.1 ?_).trans e,n,ne,nf,d⟩
      intro q
      rw [q,hoc] at e
      have q':oc=p.2:=Option.some.inj e
      exact d w' (by rw [←q']; exact hocd)
theorem rd {M:Model} {A:Around} {E:Value→Shared→Prop} {i:Nat} {x:Str} {v:V} {u:Value} {Q:Unit→Shared→Prop} (I:Inv X pins σ H s) (hN:X.N.Nodup) (hi:X.N[i]?=some x) (hx:Loc X.env.scope x) (r:RelV v u)
    (h:∀ s',Inv X pins (σ.set i (some v)) H s'→Q () s') (hf:X.fn x=true∨X.env.scope.names.lookup x=some .local:=by first | exact .inl rfl | exact .inr rfl | assumption):wpAny M A (storeName X.env x u) Q E s :=
  o9 I hN hi hx r (fun s' I' _=>h s' I') hf
theorem Inv.call' {s':Shared} {ch:List Addr} (I:Inv X pins σ H s) (ho:s'.os=s.os) (u:Un (frs X.stack) ch H H' s.heap s'.heap) (hok:HOk X.prog X.w H' s'.heap) (hg:AllBare s'.gens)
    (hch:∀ b∈ch,(b∈X.ex∨X.s_0.heap.objs.size≤b)∧b≠X.env.locals∧(∀ x c,X.env.cells.lookup x=some c→c≠b)∧∀ p∈X.pn++pins,p.1≠b):Inv X pins σ H' s':=by
  obtain ⟨h',g',d',t',o'⟩:=s'
  have e:o'=s.os:=ho
  subst e
  exact I.call (g':=g') (t':=t') (d':=d') u hok hg hch
end
abbrev XK:=Value→Option Addr→Hp→Prop
abbrev St:=List (Option V)
abbrev VK:=V→Hp→Prop
abbrev TE:=St→Hp→VK→Prop
abbrev TT:=St→Hp→(Bool→Hp→Prop)→Prop
abbrev TA:=St→Hp→(List V→Hp→Prop)→Prop
structure Ends where
  nx:St→Hp→Prop
  rt:VK
  bk:St→Hp→Prop:=fun _ _=>False
  ct:St→Hp→Prop:=fun _ _=>False
abbrev TS:=Ends→St→Hp→Prop
def EP (X:Cx) (pins:List (Addr × Obj)) (σ:St) (Q:VK) (u:Value) (s':Shared):Prop:=∃ v H',Inv X pins σ H' s'∧RelV v u∧Q v H'
def TP (X:Cx) (pins:List (Addr × Obj)) (σ:St) (Q:Bool→Hp→Prop) (b:Bool) (s':Shared):Prop:=∃ H',Inv X pins σ H' s'∧Q b H'
def AP (X:Cx) (pins:List (Addr × Obj)) (σ:St) (Q:List V→Hp→Prop) (us:List Value) (s':Shared):Prop:=∃ vs H',Inv X pins σ H' s'∧Vals vs us∧Q vs H'
def SP (X:Cx) (pins:List (Addr × Obj)) (D:Ends) (f:Flow) (s':Shared):Prop :=
  match f with
  | .next=>∃ σ' H',Inv X pins σ' H' s'∧D.nx σ' H'
  | .brk=>∃ σ' H',Inv X pins σ' H' s'∧D.bk σ' H'
  | .cont=>∃ σ' H',Inv X pins σ' H' s'∧D.ct σ' H'
  | .ret u=>∃ v σ' H',Inv X pins σ' H' s'∧RelV v u∧D.rt v H'
def PE (X:Cx) (e:Expr) (t:TE):Prop :=
  ∀ (pins:List (Addr × Obj)) (s:Shared) (σ:St) (H:Hp) (Q:VK),Inv X pins σ H s→t σ H Q→wpAny (model X.prog X.w) X.A (eval e X.env) (EP X pins σ Q) X.xe s
def PT (X:Cx) (e:Expr) (t:TT):Prop :=
  ∀ (pins:List (Addr × Obj)) (s:Shared) (σ:St) (H:Hp) (Q:Bool→Hp→Prop),Inv X pins σ H s→t σ H Q→wpAny (model X.prog X.w) X.A (isTrue e X.env (eval e X.env)) (TP X pins σ Q) X.xe s
def PW (X:Cx) (e:Expr) (t:TT):Prop :=
  ∀ (whole:Sem Value) (pins:List (Addr × Obj)) (s:Shared) (σ:St) (H:Hp) (Q:Bool→Hp→Prop),Inv X pins σ H s→t σ H Q→wpAny (model X.prog X.w) X.A (isTrue e X.env whole) (TP X pins σ Q) X.xe s
theorem PW.pt {X:Cx} {e:Expr} {t:TT} (h:PW X e t):PT X e t:=h _
def PA (X:Cx) (es:List Expr) (t:TA):Prop :=
  ∀ (pos:Pos) (pins:List (Addr × Obj)) (s:Shared) (σ:St) (H:Hp) (Q:List V→Hp→Prop),Inv X pins σ H s→t σ H Q→wpAny (model X.prog X.w) X.A (spliced (backTo pos (starEach es X.env))) (AP X pins σ Q) X.xe s
def PS (X:Cx) (st:Stmt) (t:TS):Prop :=
  ∀ (pins:List (Addr × Obj)) (s:Shared) (σ:St) (H:Hp) (D:Ends),Inv X pins σ H s→t D σ H→wpAny (model X.prog X.w) X.A (exec st X.env) (SP X pins D) X.xe s
def PSs (X:Cx) (st:List Stmt) (t:TS):Prop :=
  ∀ (pins:List (Addr × Obj)) (s:Shared) (σ:St) (H:Hp) (D:Ends),Inv X pins σ H s→t D σ H→wpAny (model X.prog X.w) X.A (execs st X.env) (SP X pins D) X.xe s
theorem thn {α:Type} {t:Sem α} {Q Q':α→Shared→Prop} {M:Model} {A:Around} {E:Value→Shared→Prop} {s:Shared} (h:wpAny M A t Q E s) (hQ:∀ a s,Q a s→Q' a s):wpAny M A t Q' E s:=wpAny_mono h hQ fun _ _ x=>x
end L2
namespace L2
open PySem PySem.Spec PyProof.Rows
section
variable {X:Cx}
def tVar (i:Nat):TE:=fun σ H Q=>∃ v,σ[i]?=some (some v)∧Q v H
def tC (v:V):TE:=fun _ H Q=>Q v H
theorem pe_var {i:Nat} {x:Str} {pos:Pos} (hN:X.N[i]?=some x) (hv:Vis X.env.scope x) (hd:(x == ("__debug__" : Str))=false:=by decide) (hcd:(x == ("__classdict__" : Str))=false:=by decide):PE X (.Name x pos) (tVar i):=by
  intro pins s σ H Q I h
  obtain ⟨v,e,h⟩:=h
  obtain ⟨m,hn,hl⟩:=I.loc
  obtain ⟨u,r,l⟩:=hl i x v hN e hv
  have fin:EP X pins σ Q u s:=⟨v,H,I,r,h⟩
  rcases l with ⟨hk,hm⟩ | ⟨hk,c,hc,hcell⟩
  · exact wpAny_Name (wpAny_loadName_local I.ok.kind hk hn hm fin) hd
  · rcases hk with hk | hk
    · exact wpAny_Name (wpAny_loadName_cell I.ok.kind hk hc hcell fin) hd
    · exact wpAny_Name (wpAny_loadName_free I.ok.kind hk hc hcell fin hcd) hd
theorem af {i j pos}:PE X (.Constant (.int i) j pos) (tC (.int i)):=fun _ _ _ H _ I h=>wpAny_Constant_int ⟨.int i,H,I.tok _,⟨_,rfl⟩,h⟩
theorem nq {b j pos}:PE X (.Constant (.bool b) j pos) (tC (.bl b)):=fun _ _ _ H _ I h=>Constant_bool ⟨.bl b,H,I,rfl,h⟩
theorem f9 {j pos}:PE X (.Constant .none j pos) (tC .non):=fun _ _ _ H _ I h=>Constant_none ⟨.non,H,I,rfl,h⟩
theorem bX {x j pos}:PE X (.Constant (.str x) j pos) (tC (.str x)):=fun _ _ _ H _ I h=>Calls.Constant_str ⟨.str x,H,I.tok _,⟨_,rfl⟩,h⟩
def Gl (X:Cx) (x:Str):Prop:=X.env.kindOf x=some .globalImplicit
theorem mz {E:Value→Shared→Prop} {pins:List (Addr × Obj)} {s:Shared} {σ:St} {H:Hp} {x:Str} {u:Value} {pos:Pos} {Q:Value→Shared→Prop} (I:Inv X pins σ H s) (hg:Gl X x) (hm:X.mg x=some u) (h:Q u s)
    (hd:(x == ("__debug__" : Str))=false:=by decide):wpAny (model X.prog X.w) X.A (eval (.Name x pos) X.env) Q E s :=
  Calls.Name_function_global I.ok.kind hg (Calls.loadGlobal_global (by rw [I.ok.glob]; exact I.mod.glob.keeps I.bk) hm h) hd
theorem g6 {E:Value→Shared→Prop} {pins:List (Addr × Obj)} {s:Shared} {σ:St} {H:Hp} {x:Str} {u:Value} {pos:Pos} {Q:Value→Shared→Prop} (I:Inv X pins σ H s) (hg:Gl X x) (hm:X.mg x=none) (hv:bootBuiltins x=some u) (h:Q u s)
    (hn:x ≠ "__name__" := by decide) (hd:(x == ("__debug__" : Str))=false:=by decide):wpAny (model X.prog X.w) X.A (eval (.Name x pos) X.env) Q E s:=by
  obtain ⟨mb,h1,h2⟩:=I.mod.blt
  exact Calls.Name_function_global I.ok.kind hg (Calls.loadGlobal_builtin (by rw [I.ok.glob]; exact I.mod.glob.keeps I.bk) hm (by rw [I.ok.blt]; exact h1.keeps I.bk) ((h2 x hn).trans hv) h) hd
theorem qh {x:Str} {v:V} {u:Value} {pos:Pos} (hg:Gl X x) (hm:X.mg x=some u) (r:RelV v u) (hd:(x == ("__debug__" : Str))=false:=by decide):PE X (.Name x pos) (tC v) :=
  fun _ _ _ H _ I h=>mz I hg hm ⟨v,H,I,r,h⟩ hd
variable {a b:Expr} {ta tb:TE} {pos:Pos}
def PC (X:Cx) (op:CmpOp) (a b:Expr) (t:TE):Prop :=
  ∀ (pins:List (Addr × Obj)) (s:Shared) (σ:St) (H:Hp) (Q:VK),Inv X pins σ H s→t σ H Q →
    wpAny (model X.prog X.w) X.A (eval a X.env) (fun v s₁=>wpAny (model X.prog X.w) X.A (eval b X.env) (fun u s₂=>wpAny (model X.prog X.w) X.A (compareOp op v u) (EP X pins σ Q) X.xe s₂) X.xe s₁) X.xe s
def tB (t:TE):TT:=fun σ H Q=>t σ H fun x H1=>∃ c,x=.bl c∧Q c H1
theorem pt_cmp {op:CmpOp} {t:TE} (h:PC X op a b t) (h1:behindInMarks op b=false:=by first | exact nobehind _ (by decide) (by decide) | rfl):PT X (.Compare a [op] [b] pos) (tB t):=by
  intro pins s σ H Q I hw
  refine wpAny_isTrue_Compare1 (thn (h pins s σ H _ I hw) fun v s1 h1=>thn h1 fun u s2 h2=>thn h2 fun c s3 ⟨x,H1,I1,r1,q1⟩=>?_) h1
  obtain ⟨d,rfl,q⟩:=q1
  cases r1
  exact wpAny_truthy_bool ⟨H1,I1,q⟩
variable {tA tB':TT} {rest:List Expr}
def tAnd (t u:TT):TT:=fun σ H Q=>t σ H fun c H1=>if c=true then u σ H1 Q else Q false H1
def tOr (t u:TT):TT:=fun σ H Q=>t σ H fun c H1=>if c=true then Q true H1 else u σ H1 Q
def tNot (t:TT):TT:=fun σ H Q=>t σ H fun c H1=>Q (!c) H1
theorem uU (ha:PT X a tA):PW X (.BoolOp .And [a] pos) tA:=by
  intro wh pins s σ H Q I h
  refine isTrue_and (thn (ha pins s σ H Q I h) fun c s1 e=>?_)
  cases c with
  | true=>exact isTrue_and_nil e
  | false=>exact e
theorem dW (ha:PT X a tA):PW X (.BoolOp .Or [a] pos) tA:=by
  intro wh pins s σ H Q I h
  refine isTrue_or (thn (ha pins s σ H Q I h) fun c s1 e=>?_)
  cases c with
  | false=>exact isTrue_or_nil e
  | true=>exact e
theorem xJ (ha:PT X a tA) (hb:PW X (.BoolOp .And (b :: rest) pos) tB'):PW X (.BoolOp .And (a :: b :: rest) pos) (tAnd tA tB'):=by
  intro wh pins s σ H Q I h
  refine isTrue_and (thn (ha pins s σ H _ I h) fun c s1 ⟨H1,I1,q1⟩=>?_)
  cases c with
  | true=>exact hb wh pins s1 σ H1 Q I1 q1
  | false=>exact ⟨H1,I1,q1⟩
theorem ei (ha:PT X a tA) (hb:PW X (.BoolOp .Or (b :: rest) pos) tB'):PW X (.BoolOp .Or (a :: b :: rest) pos) (tOr tA tB'):=by
  intro wh pins s σ H Q I h
  refine isTrue_or (thn (ha pins s σ H _ I h) fun c s1 ⟨H1,I1,q1⟩=>?_)
  cases c with
  | true=>exact ⟨H1,I1,q1⟩
  | false=>exact hb wh pins s1 σ H1 Q I1 q1
theorem a8 (ha:PT X a tA):PT X (.UnaryOp .Not a pos) (tNot tA):=by
  intro pins s σ H Q I h
  exact isTrue_not (ha pins s σ H (fun c H1=>Q (!c) H1) I h)
def tAndV (ta tb:TE):TE:=fun σ H Q=>ta σ H fun x H1=>∃ c,x=.bl c∧if c=true then tb σ H1 Q else Q (.bl false) H1
def tOrV (ta tb:TE):TE:=fun σ H Q=>ta σ H fun x H1=>∃ c,x=.bl c∧if c=true then Q (.bl true) H1 else tb σ H1 Q
theorem qf {op} {t:TE} (h:PE X a t):PE X (.BoolOp op [a] pos) t:=fun pins s σ H Q I hw=>BoolOp_one (h pins s σ H Q I hw)
theorem nr (ha:PE X a ta) (hb:PE X (.BoolOp .And (b :: rest) pos) tb):PE X (.BoolOp .And (a :: b :: rest) pos) (tAndV ta tb):=by
  intro pins s σ H Q I h
  refine BoolOp_and (thn (ha pins s σ H _ I h) fun v s1 ⟨x,H1,I1,r1,q1⟩=>?_)
  obtain ⟨c,rfl,q1⟩:=q1
  cases r1
  refine wpAny_truthy_bool ?_
  cases c with
  | true=>exact hb pins s1 σ H1 Q I1 q1
  | false=>exact ⟨.bl false,H1,I1,rfl,q1⟩
theorem pe_or (ha:PE X a ta) (hb:PE X (.BoolOp .Or (b :: rest) pos) tb):PE X (.BoolOp .Or (a :: b :: rest) pos) (tOrV ta tb):=by
  intro pins s σ H Q I h
  refine BoolOp_or (thn (ha pins s σ H _ I h) fun v s1 ⟨x,H1,I1,r1,q1⟩=>?_)
  obtain ⟨c,rfl,q1⟩:=q1
  cases r1
  refine wpAny_truthy_bool ?_
  cases c with
  | false=>exact hb pins s1 σ H1 Q I1 q1
  | true=>exact ⟨.bl true,H1,I1,rfl,q1⟩
def tIf (t:TT) (ta tb:TE):TE:=fun σ H Q=>t σ H fun c H1=>if c=true then ta σ H1 Q else tb σ H1 Q
theorem rF {c:Expr} (hc:PT X c tA) (ha:PE X a ta) (hb:PE X b tb):PE X (.IfExp c a b pos) (tIf tA ta tb):=by
  intro pins s σ H Q I h
  refine wpAny_IfExp (thn (hc pins s σ H _ I h) fun d s1 ⟨H1,I1,q1⟩=>?_)
  cases d with
  | true=>exact ha pins s1 σ H1 Q I1 q1
  | false=>exact hb pins s1 σ H1 Q I1 q1
end
end L2
namespace L2
open PySem PySem.Spec PyProof.Rows
def SqL (K:PySem.W.Frag) (H:Hp) (a:Addr) (xs:List V):Prop :=
  Rd H a (.lst xs) ∨
    ∃ (o:Obj) (its:Array Value) (n:Nat),K.lookup a=some o∧o.cls=.type "list" ∧ o.dict=none∧o.data=.seq its n∧its.size≤sizeLine∧Vals xs its.toList
def SqT (K:PySem.W.Frag) (H:Hp) (a:Addr) (xs:List V):Prop :=
  Rd H a (.tup xs) ∨
    ∃ (o:Obj) (its:Array Value) (n:Nat),K.lookup a=some o∧o.cls=.type "tuple" ∧ o.data=.seq its n∧its.size≤sizeLine∧Vals xs its.toList
def absV:Value→Option V
  | .none=>some .non
  | .bool b=>some (.bl b)
  | .int i _=>some (.int i)
  | .str x _=>some (.str x)
  | .bytes b _=>some (.byt b)
  | .float b _=>some (.flt b)
  | .ref a=>some (.ref a)
  | .type n=>some (.ty n)
  | _=>none
theorem RelV.abs {x:V} {u:Value} (r:RelV x u):absV u=some x:=by
  cases x with
  | non=>cases r; rfl
  | bl _=>cases r; rfl
  | int _=>obtain ⟨t,rfl⟩:=r; rfl
  | str _=>obtain ⟨t,rfl⟩:=r; rfl
  | byt _=>obtain ⟨t,rfl⟩:=r; rfl
  | flt _=>obtain ⟨t,rfl⟩:=r; rfl
  | ref _=>cases r; rfl
  | ty _=>cases r; rfl
theorem RelV.inj {x y:V} {u:Value} (r:RelV x u) (q:RelV y u):x=y:=Option.some.inj (r.abs.symm.trans q.abs)
theorem Vals.inj:∀ {xs ys:List V} {us:List Value},Vals xs us→Vals ys us→xs=ys
  | _,_,_,.nil,.nil=>rfl
  | _,_,_,.cons r t,.cons r' t'=>by rw [r.inj r',Vals.inj t t']
section
variable {X:Cx} {pins:List (Addr × Obj)} {σ:St} {H:Hp} {s:Shared} {a:Addr} {xs ys:List V}
theorem SqL.of {K:PySem.W.Frag} (h:H a=some (.lst xs)):SqL K H a xs:=.inl (.inl h)
theorem SqT.of {K:PySem.W.Frag} (h:H a=some (.tup xs)):SqT K H a xs:=.inl (.inl h)
theorem Inv.list (I:Inv X pins σ H s) (h:SqL X.K H a xs):∃ its:List Value,Vals xs its∧PlainL s.heap a its.toArray∧xs.length≤sizeLine:=by
  rcases h with h | ⟨o,its,n,hk,hc,hd,hs,hz,r⟩
  · obtain ⟨z,its,n,r,e⟩:=h.ok I.hok
    exact ⟨its,r,⟨_,n,e,rfl,rfl,rfl⟩,z⟩
  · refine ⟨its.toList,r,⟨o,n,I.kIn a o hk,hc,hd,by simpa using hs⟩,?_⟩
    have e:=r.length
    simp only [Array.length_toList] at e
    omega
theorem Inv.tuple (I:Inv X pins σ H s) (h:SqT X.K H a xs):∃ its:List Value,Vals xs its∧IsTup s.heap a its.toArray∧xs.length≤sizeLine:=by
  rcases h with h | ⟨o,its,n,hk,hc,hs,hz,r⟩
  · obtain ⟨z,its,r,p⟩:=h.ok I.hok
    exact ⟨its,r,p,z⟩
  · refine ⟨its.toList,r,⟨o,I.kIn a o hk,hc,n,by simpa using hs⟩,?_⟩
    have e:=r.length
    simp only [Array.length_toList] at e
    omega
theorem Inv.list_inj (I:Inv X pins σ H s) (h:SqL X.K H a xs) (h':SqL X.K H a ys):xs=ys:=by
  obtain ⟨its,r,⟨o,n,e,_,_,d⟩,_⟩:=I.list h
  obtain ⟨its',r',⟨o',n',e',_,_,d'⟩,_⟩:=I.list h'
  rw [e] at e'; cases e'
  rw [d] at d'
  injection d' with d1 _
  have:its=its':=by simpa using congrArg Array.toList d1
  subst this
  exact r.inj r'
theorem Inv.tuple_inj (I:Inv X pins σ H s) (h:SqT X.K H a xs) (h':SqT X.K H a ys):xs=ys:=by
  obtain ⟨its,r,⟨o,e,_,n,d⟩,_⟩:=I.tuple h
  obtain ⟨its',r',⟨o',e',_,n',d'⟩,_⟩:=I.tuple h'
  rw [e] at e'; cases e'
  rw [d] at d'
  injection d' with d1 _
  have:its=its':=by simpa using congrArg Array.toList d1
  subst this
  exact r.inj r'
end
abbrev Cx.wish (X:Cx) (E:Value→Shared→Prop):Cx:={ X with xe:=E }
abbrev Cx.nox (X:Cx):Cx:=X.wish fun _ _=>False
theorem Cx.Ok.wish {X:Cx} (ok:X.Ok) (E:Value→Shared→Prop):(X.wish E).Ok :=
  ⟨ok.mod,ok.kind,ok.glob,ok.blt,ok.above,ok.inj,ok.has,ok.cab,ok.hd,ok.frames,ok.stk,ok.exf,ok.bs,ok.bsz,ok.noex,ok.exfs,ok.funs,ok.frf⟩
theorem Cx.Ok.unwish {X:Cx} {E:Value→Shared→Prop} (ok:(X.wish E).Ok):X.Ok :=
  ⟨ok.mod,ok.kind,ok.glob,ok.blt,ok.above,ok.inj,ok.has,ok.cab,ok.hd,ok.frames,ok.stk,ok.exf,ok.bs,ok.bsz,ok.noex,ok.exfs,ok.funs,ok.frf⟩
section
variable {X:Cx} {pins:List (Addr × Obj)} {σ:St} {H:Hp} {s:Shared} {E:Value→Shared→Prop}
theorem Inv.wish (I:Inv X pins σ H s) (E:Value→Shared→Prop):Inv (X.wish E) pins σ H s:=⟨I.ok.wish E,I.os,I.bare,I.base,I.loc,I.cell,I.free,I.freeC,I.pin,I.hok,I.len⟩
theorem Inv.unwish (I:Inv (X.wish E) pins σ H s):Inv X pins σ H s:=⟨I.ok.unwish,I.os,I.bare,I.base,I.loc,I.cell,I.free,I.freeC,I.pin,I.hok,I.len⟩
theorem SP.unwish {D:Ends} {f:Flow} {s':Shared} (h:SP (X.wish E) pins D f s'):SP X pins D f s':=by
  cases f with
  | next=>obtain ⟨σ',H',I,q⟩:=h; exact ⟨σ',H',I.unwish,q⟩
  | brk=>obtain ⟨σ',H',I,q⟩:=h; exact ⟨σ',H',I.unwish,q⟩
  | cont=>obtain ⟨σ',H',I,q⟩:=h; exact ⟨σ',H',I.unwish,q⟩
  | ret u=>obtain ⟨v,σ',H',I,r,q⟩:=h; exact ⟨v,σ',H',I.unwish,r,q⟩
theorem PSs.nox {st:List Stmt} {t:TS} (h:PSs X.nox st t):PSs X st t:=fun pins s σ H D I hw =>
  wpAny_mono (h pins s σ H D (I.wish _) hw) (fun _ _ q=>q.unwish) fun _ _ z=>False.elim z
end
section
variable {X:Cx} {st:Stmt} {rest:List Stmt} {t u:TS} {e:Expr} {te:TE} {pos:Pos}
def tNext:TS:=fun D σ H=>D.nx σ H
def tSeq (t u:TS):TS:=fun D σ H=>t { D with nx:=u D } σ H
theorem aH:PSs X [] tNext:=fun _ _ σ H _ I h=>wpAny_execs_nil ⟨σ,H,I,h⟩
theorem ae (h1:PS X st t) (h2:PSs X rest u):PSs X (st :: rest) (tSeq t u):=by
  intro pins s σ H D I h
  refine wpAny_execs_cons (thn (h1 pins s σ H { D with nx:=u D } I h) fun f s1 q=>?_)
  cases f with
  | next =>
    obtain ⟨σ',H',I',q⟩:=q
    exact h2 pins s1 σ' H' D I' q
  | ret v=>exact q
  | brk=>exact q
  | cont=>exact q
theorem ag (h1:PS X st t):PSs X [st] t:=by
  intro pins s σ H D I h
  refine wpAny_execs_cons (thn (h1 pins s σ H D I h) fun f s1 q=>?_)
  cases f with
  | next=>exact wpAny_execs_nil q
  | ret v=>exact q
  | brk=>exact q
  | cont=>exact q
theorem Inv.quiet {pins:List (Addr × Obj)} {σ:St} {H:Hp} {s:Shared} (I:Inv X pins σ H s):interactive X.env=false:=by simp [interactive,I.ok.kind]
def tDrop (te:TE):TS:=fun D σ H=>te σ H fun _ H1=>D.nx σ H1
theorem bV (he:PE X e te) (hs:swapsWith e none pos.line X.env=pure false:=by rfl):PS X (.Expr e pos) (tDrop te):=by
  intro pins s σ H D I h
  exact wpAny_Expr_any (thn (he pins s σ H _ I h) fun v s1 ⟨x,H1,I1,r1,q1⟩=>⟨σ,H1,I1,q1⟩) I.quiet hs
def tRet (te:TE):TS:=fun D σ H=>te σ H D.rt
theorem au (he:PE X e te):PS X (.Return (some e) pos) (tRet te):=by
  intro pins s σ H D I h
  exact wpAny_Return_some (thn (he pins s σ H _ I h) fun v s1 ⟨x,H1,I1,r1,q1⟩=>⟨x,σ,H1,I1,r1,q1⟩)
def tIfS (c:TT) (t u:TS):TS:=fun D σ H=>c σ H fun b H1=>if b=true then t D σ H1 else u D σ H1
theorem aV {c:Expr} {a b:List Stmt} {tc:TT} (hc:PT X c tc) (ha:PSs X a t) (hb:PSs X b u):PS X (.If c a b pos) (tIfS tc t u):=by
  intro pins s σ H D I h
  refine wpAny_If (thn (hc pins s σ H _ I h) fun d s1 ⟨H1,I1,q1⟩=>?_)
  cases d with
  | true=>exact ha pins s1 σ H1 D I1 q1
  | false=>exact hb pins s1 σ H1 D I1 q1
end
abbrev TG:=V→St→Hp→(St→Hp→Prop)→Prop
abbrev TGs:=List V→St→Hp→(St→Hp→Prop)→Prop
def PG (X:Cx) (target:Expr) (t:TG):Prop :=
  ∀ (pins:List (Addr × Obj)) (s:Shared) (σ:St) (H:Hp) (v:V) (u:Value) (Q:St→Hp→Prop),Inv X pins σ H s→RelV v u→t v σ H Q →
    wpAny (model X.prog X.w) X.A (assign target X.env u) (fun _ s'=>∃ σ' H',Inv X pins σ' H' s'∧Q σ' H') X.xe s
def PGs (X:Cx) (ts:List Expr) (t:TGs):Prop :=
  ∀ (pins:List (Addr × Obj)) (s:Shared) (σ:St) (H:Hp) (vs:List V) (us:List Value) (Q:St→Hp→Prop),Inv X pins σ H s→Vals vs us→t vs σ H Q →
    wpAny (model X.prog X.w) X.A (assignInOrder ((assignEach ts X.env).map (·.2)) us) (fun _ s'=>∃ σ' H',Inv X pins σ' H' s'∧Q σ' H') X.xe s
abbrev TSet:=V→V→V→Hp→(Hp→Prop)→Prop
def PSet (X:Cx) (t:TSet):Prop :=
  ∀ (pins:List (Addr × Obj)) (s:Shared) (σ:St) (H:Hp) (o i v:V) (ov iv u:Value) (Q:Hp→Prop),Inv X pins σ H s→RelV o ov→RelV i iv→RelV v u→t o i v H Q →
    wpAny (model X.prog X.w) X.A (setItem ov iv u) (fun _ s'=>∃ H',Inv X pins σ H' s'∧Q H') X.xe s
section
variable {X:Cx} {pos:Pos}
def su (i:Nat):TG:=fun v σ H Q=>Q (σ.set i (some v)) H
theorem aI {i:Nat} {x:Str} (hN:X.N.Nodup) (hi:X.N[i]?=some x) (hx:Loc X.env.scope x) (hf:X.fn x=true∨X.env.scope.names.lookup x=some .local:=by first | exact .inl rfl | exact .inr rfl | assumption):PG X (.Name x pos) (su i):=by
  intro pins s σ H v u Q I r h
  exact wpAny_assign_Name (rd I hN hi hx r (fun s' I'=>⟨_,H,I',h⟩) hf)
def gNil:TGs:=fun vs σ H Q=>vs=[]∧Q σ H
def gCons (t:TG) (u:TGs):TGs:=fun vs σ H Q=>∃ v r,vs=v :: r∧t v σ H fun σ' H'=>u r σ' H' Q
theorem d6:PGs X [] gNil:=by
  intro pins s σ H vs us Q I r h
  obtain ⟨e,h⟩:=h
  subst e
  cases r
  exact assignInOrder_nil ⟨σ,H,I,h⟩
theorem bd {e:Expr} {es:List Expr} {t:TG} {u:TGs} (h1:PG X e t) (h2:PGs X es u)
    (hs:(assignEach (e :: es) X.env).map (·.2)=assign e X.env :: (assignEach es X.env).map (·.2):=by rfl):PGs X (e :: es) (gCons t u):=by
  intro pins s σ H vs us Q I r h
  obtain ⟨v,vr,e1,h⟩:=h
  subst e1
  cases r with
  | cons r rr =>
    rw [hs]
    refine assignInOrder_cons (thn (h1 pins s σ H _ _ _ I r h) fun _ s1 ⟨σ1,H1,I1,q1⟩=>?_)
    exact h2 pins s1 σ1 H1 _ _ Q I1 rr q1
def gTup (K:PySem.W.Frag) (n:Nat) (t:TGs):TG:=fun v σ H Q=>∃ a xs,v=.ref a∧SqT K H a xs∧xs.length=n∧t xs σ H Q
theorem pg_tup {es:List Expr} {k:Nat} {t:TGs} {n:Nat} (hc:X.calm=true) (h:PGs X es t)
    (hn:(assignEach es X.env).length=n:=by rfl) (hst:(assignEach es X.env).findIdx? (·.1)=none:=by rfl):PG X (.Tuple es k pos) (gTup X.K n t):=by
  intro pins s σ H v u Q I r hw
  obtain ⟨a,xs,e1,hq,hl,hw⟩:=hw
  subst e1
  cases r
  obtain ⟨its,rv,ht,hz⟩:=I.tuple hq
  refine assign_Tuple_tuple (I.ok.hd hc) ht (by simp [hn,←hl,rv.length]) hst fun h' hx=>?_
  have I1:Inv X pins σ H { s with heap:=h' }:=I.kept (t':=s.toks) fun b o e=>hx b o (Nat.ne_of_lt (Heap.lt_size e)) e
  exact h pins _ σ H xs _ Q I1 (by simpa using rv) hw
def gSub (to ti:TE) (t:TSet):TG:=fun v σ H Q=>to σ H fun o H1=>ti σ H1 fun i H2=>t o i v H2 fun H3=>Q σ H3
theorem xP {o i:Expr} {to ti:TE} {t:TSet} (ho:PE X o to) (hi:PE X i ti) (hs:PSet X t)
    (ha:∀ v,assign (.Subscript o i pos) X.env v=(do
      let ov ← holding [v] (eval o X.env)
      let iv ← holding [v,ov] (eval i X.env)
      standAt pos
      holding [v,ov,iv] (setItem ov iv v)
      release [v,ov,iv] []):=by intro _; rfl):PG X (.Subscript o i pos) (gSub to ti t):=by
  intro pins s σ H v u Q I r h
  rw [ha]
  refine wpAny_bind (wpAny_holding (thn (ho pins s σ H _ I h) fun ov s1 ⟨x,H1,I1,r1,q1⟩=>?_))
  refine wpAny_bind (wpAny_holding (thn (hi pins s1 σ H1 _ I1 q1) fun iv s2 ⟨y,H2,I2,r2,q2⟩=>?_))
  refine wpAny_bind (wpAny_standAt (wpAny_bind (wpAny_holding (thn (hs pins s2 σ H2 x y v ov iv u _ I2 r1 r2 r q2) fun _ s3 ⟨H3,I3,q3⟩=>?_))))
  exact wpAny_release ⟨σ,H3,I3,q3⟩
def tAsg (te:TE) (g:TG):TS:=fun D σ H=>te σ H fun x H1=>g x σ H1 D.nx
theorem xL {tg e:Expr} {te:TE} {g:TG} (he:PE X e te) (hg:PG X tg g) (hs:swapsWithSole [tg] e pos.line X.env=pure false:=by rfl) (hw:swappedStores [tg] e X.env=pure none:=by rfl)
    (h1:(assignEach [tg] X.env).map (·.2)=[assign tg X.env]:=by rfl):PS X (.Assign [tg] e pos) (tAsg te g):=by
  intro pins s σ H D I h
  refine wpAny_Assign_stores (thn (he pins s σ H _ I h) fun v s1 ⟨x,H1,I1,r1,q1⟩=>?_) hs hw
  rw [h1]
  exact thn (hg pins s1 σ H1 x v _ I1 r1 q1) fun _ s2 q=>q
theorem aw {i:Nat} {x:Str} {e:Expr} {te:TE} {pos':Pos} (hN:X.N.Nodup) (hi:X.N[i]?=some x) (hx:Loc X.env.scope x) (he:PE X e te) (hs:swapsWith e (some (.Name x pos')) pos.line X.env=pure false:=by rfl) (hf:X.fn x=true∨X.env.scope.names.lookup x=some .local:=by first | exact .inl rfl | exact .inr rfl | assumption) :
    PS X (.Assign [.Name x pos'] e pos) (tAsg te (su i)):=by
  intro pins s σ H D I h
  refine wpAny_Assign_Name (thn (he pins s σ H _ I h) fun v s1 ⟨y,H1,I1,r1,q1⟩=>?_) hs
  exact rd I1 hN hi hx r1 (fun s2 I2=>⟨_,H1,I2,q1⟩) hf
end
section
variable {X:Cx} {pos:Pos}
def xk (c:TT) (tb:TS):TS:=fun D σ H=>∃ W:Nat→St→Hp→Prop,(∃ m,W m σ H)∧∀ m σ H,W m σ H →
  c σ H fun b H1=>if b=true then ∃ N:St→Hp→Prop,(∀ σ' H',N σ' H'→∃ m',m' < m∧W m' σ' H')∧tb { D with nx:=N,ct:=N,bk:=D.nx } σ H1 else D.nx σ H1
theorem kl {c:Expr} {body:List Stmt} {tc:TT} {tb:TS} (hp:PassesOwn (model X.prog X.w) X.A X.env X.xe) (hc:PT X c tc) (hb:PSs X body tb):PS X (.While c body [] pos) (xk tc tb):=by
  intro pins s σ H D I h
  obtain ⟨W,⟨m0,w0⟩,turn⟩:=h
  refine wpAny_While (codeAny_whileLoop (fun n s'=>∃ σ' H',Inv X pins σ' H' s'∧W n σ' H') ?_ m0 ⟨σ,H,I,w0⟩)
  rintro n s1 ⟨σ1,H1,I1,w1⟩
  refine wpAny_passesOwn hp (thn (hc pins s1 σ1 H1 _ I1 (turn n σ1 H1 w1)) fun b s2 ⟨H2,I2,q2⟩=>?_)
  cases b with
  | true =>
    obtain ⟨N,hN,q2⟩:=q2
    rw [if_pos rfl]
    refine wpAny_passesOwn hp (thn (hb pins s2 σ1 H2 _ I2 q2) fun f s3 q3=>?_)
    cases f with
    | next =>
      obtain ⟨σ3,H3,I3,n3⟩:=q3
      obtain ⟨m',hm,w3⟩:=hN σ3 H3 n3
      exact ⟨m',hm,σ3,H3,I3,w3⟩
    | cont =>
      obtain ⟨σ3,H3,I3,n3⟩:=q3
      obtain ⟨m',hm,w3⟩:=hN σ3 H3 n3
      exact ⟨m',hm,σ3,H3,I3,w3⟩
    | brk=>exact q3
    | ret v=>exact q3
  | false =>
    rw [if_neg Bool.false_ne_true]
    exact wpAny_execs_nil ⟨σ1,H2,I2,q2⟩
end
structure It where
  go:Nat→Hp→Prop
  yld:Nat→Hp→V→Hp→Prop
  stop:Nat→Hp→Prop
def FpOk (X:Cx) (pins:List (Addr × Obj)) (H:Hp) (b:Addr):Prop :=
  H b=none∧b≠X.env.locals∧b∉X.fs∧(b∈X.ex∨X.s_0.heap.objs.size≤b)∧(∀ x c,X.env.cells.lookup x=some c→c≠b)∧∀ p∈X.pn++pins,p.1≠b
theorem Inv.fpOk {X:Cx} {pins:List (Addr × Obj)} {σ:St} {H H':Hp} {s:Shared} {b:Addr} (I:Inv X pins σ H s) (hb:s.heap.objs.size≤b) (hn:H' b=none):FpOk X pins H' b:=by
  refine ⟨hn,Nat.ne_of_gt (Nat.lt_of_lt_of_le I.lt hb),I.nofs hb,.inr (Nat.le_trans I.sz hb),fun x c e z=>?_,fun p hp z=>?_⟩
  · obtain ⟨v,q⟩:=I.cell x c e
    exact absurd (Nat.lt_of_lt_of_le q.lt (by rw [z]; exact hb)) (Nat.lt_irrefl _)
  · exact absurd (Nat.lt_of_lt_of_le (Heap.lt_size (I.pin p hp).1) (by rw [z]; exact hb)) (Nat.lt_irrefl _)
structure Turn (P:Program) (w:World) (K:PySem.W.Frag) (tg:Expr) (J:It) (fp:List Addr) (it:Addr) (tn:Nat→Heap→Prop):Prop where
  mem:it∈fp
  obj:∀ i h,tn i h→∀ b∈fp,∃ o,h.get? b=some o∧∀ v,o.data≠.cell v
  keep:∀ i h h',tn i h→(∀ b∈fp,∀ o,h.get? b=some o→h'.get? b=some o)→tn i h'
  item:∀ (X:Cx),X.prog=P→X.w=w→X.K=K→X.calm=true→∀ (i:Nat) (pins:List (Addr × Obj)) (s:Shared) (σ:St) (H:Hp) (E:Value→Shared→Prop),Inv X pins σ H s→(∀ b∈fp,FpOk X pins H b)→tn i s.heap→J.go i H →
    wpAny (model P w) X.A (pyNext (.ref it)) (fun r s1=>∃ u,r=some u ∧
      wpAny (model P w) X.A (letOwnedTupleGo tg (.ref it) u) (fun _ s2=>∃ x H',Inv X pins σ H' s2∧RelV x u∧J.yld i H x H'∧tn (i + 1) s2.heap∧∀ b∈fp,H' b=none) E s1) E s
  done:∀ (X:Cx),X.prog=P→X.w=w→X.K=K→X.calm=true→∀ (i:Nat) (pins:List (Addr × Obj)) (s:Shared) (σ:St) (H:Hp) (E:Value→Shared→Prop),Inv X pins σ H s→(∀ b∈fp,FpOk X pins H b)→tn i s.heap→J.stop i H →
    wpAny (model P w) X.A (pyNext (.ref it)) (fun r s1=>r=none∧Inv X pins σ H s1) E s
  self:∀ (A:Around) (i:Nat) (s:Shared) (Q:Value→Shared→Prop) (E:Value→Shared→Prop),tn i s.heap→Q (.ref it) s→wpAny (model P w) A (pyIter (.ref it)) Q E s
abbrev TI:=St→Hp→(It→Hp→Prop)→Prop
def PIE (X:Cx) (pins:List (Addr × Obj)) (σ:St) (tg:Expr) (R:It→Hp→Prop) (itv:Value) (s2:Shared):Prop :=
  ∃ (it:Addr) (fp:List Addr) (tn:Nat→Heap→Prop) (J:It) (H':Hp),itv=.ref it∧Inv X pins σ H' s2∧Turn X.prog X.w X.K tg J fp it tn∧tn 0 s2.heap∧(∀ b∈fp,FpOk X pins H' b)∧R J H'
def PI (X:Cx) (tg iter:Expr) (wi:TI):Prop :=
  ∀ (pins:List (Addr × Obj)) (s:Shared) (σ:St) (H:Hp) (R:It→Hp→Prop),Inv X pins σ H s→wi σ H R →
    wpAny (model X.prog X.w) X.A (eval iter X.env) (fun v s1=>wpAny (model X.prog X.w) X.A (pyIter v) (PIE X pins σ tg R) X.xe s1) X.xe s
theorem sq {M:Model} {A:Around} {E:Value→Shared→Prop} {s:Shared} {tg:Expr} {it:Addr} {u:Value} {o:Obj} {n:String} {vs:Array Value} {Q:Unit→Shared→Prop} (ho:s.heap.get? it=some o) (hc:o.cls=.type n) (hd:o.data=.fields vs)
    (hn:["enumerate", "zip", "dict_itemiterator", "dict_reverseitemiterator", "odict_iterator", "itertools.zip_longest", "itertools.pairwise"].contains n=false) (hQ:Q () s):wpAny M A (letOwnedTupleGo tg (.ref it) u) Q E s:=by
  unfold letOwnedTupleGo
  cases tg <;> first
    | exact wpAny_pure hQ
    | (cases u <;> first
        | exact wpAny_pure hQ
        | (refine wpAny_bind (wpAny_load ho ?_)
           rw [hc,hd]
           show wpAny M A (if (["enumerate", "zip", "dict_itemiterator", "dict_reverseitemiterator", "odict_iterator", "itertools.zip_longest", "itertools.pairwise"].contains n && vs[0]? == some (rawInt _))=true then _ else _) Q E s
           rw [if_neg (by intro h; rw [hn,Bool.false_and] at h; cases h)]
           exact wpAny_pure hQ))
def Itl (K:PySem.W.Frag) (a:Addr):It :=
  ⟨fun i H=>∃ xs x,SqL K H a xs∧xs[i]?=some x,fun i H x H'=>H'=H∧∀ xs,SqL K H a xs→xs[i]?=some x,fun i H=>∃ xs,SqL K H a xs∧xs.length≤i⟩
def Itt (K:PySem.W.Frag) (a:Addr):It :=
  ⟨fun i H=>∃ xs x,SqT K H a xs∧xs[i]?=some x,fun i H x H'=>H'=H∧∀ xs,SqT K H a xs→xs[i]?=some x,fun i H=>∃ xs,SqT K H a xs∧xs.length≤i⟩
def Itr (lo:Int) (n:Nat):It:=⟨fun i _=>i < n,fun i H x H'=>H'=H∧x=.int (lo + i),fun i _=>n≤i⟩
theorem vQ {P:Program} {w:World} {K:PySem.W.Frag} {tg:Expr} (a it:Addr):Turn P w K tg (Itl K a) [it] it (fun i h=>h.IsListIter it a i) where
  mem:=by simp
  obj:=fun i h st b hb=>by
    have e:b=it:=by simpa using hb
    subst e
    obtain ⟨o,e,c,d⟩:=st
    exact ⟨o,e,fun v z=>by rw [d] at z; cases z⟩
  keep:=fun i h h' st k=>st.at fun o e=>k it (by simp) o e
  item:=by
    intro X hP hw hK hc i pins s σ H E I hf st hg
    subst hP hw hK
    obtain ⟨xs,x,hq,hx⟩:=hg
    obtain ⟨its,rv,p,hz⟩:=I.list hq
    obtain ⟨u,hu,ru⟩:=rv.get hx
    obtain ⟨f0,f1,f2,f3,f4,f5⟩:=hf it (by simp)
    refine wpAny_pyNext_list_item st p.isList (x:=u) (by simpa using hu) fun h' st' sb=>?_
    have I1:Inv X pins σ H { s with heap:=h' }:=I.turned (t':=s.toks) (fun b o hb e=>(sb.2 b hb).trans e) f0 f1 f3 f4 f5
    obtain ⟨o,e,c,d⟩:=id st'
    exact ⟨u,rfl,sq (s:={ s with heap:=h' }) e c d (by decide) ⟨x,H,I1,ru,⟨rfl,fun ys hy=>by rw [I.list_inj hy hq]; exact hx⟩,st',fun b hb=>(hf b hb).1⟩⟩
  done:=by
    intro X hP hw hK hc i pins s σ H E I hf st hg
    subst hP hw hK
    obtain ⟨xs,hq,hx⟩:=hg
    obtain ⟨its,rv,p,hz⟩:=I.list hq
    obtain ⟨f0,f1,f2,f3,f4,f5⟩:=hf it (by simp)
    have hl:=rv.length
    exact wpAny_pyNext_list_end (I.ok.hd hc) st p.isList (by simp; omega) fun h' eb=>⟨rfl,I.turned (t':=s.toks) (fun b o hb e=>eb b o hb e) f0 f1 f3 f4 f5⟩
  self:=fun _ _ _ _ _ st h=>wpAny_pyIter_listiter st h
theorem tF {P:Program} {w:World} {K:PySem.W.Frag} {tg:Expr} (a it:Addr):Turn P w K tg (Itt K a) [it] it (fun i h=>h.IsTupleIter it a i) where
  mem:=by simp
  obj:=fun i h st b hb=>by
    have e:b=it:=by simpa using hb
    subst e
    obtain ⟨o,e,c,d⟩:=st
    exact ⟨o,e,fun v z=>by rw [d] at z; cases z⟩
  keep:=fun i h h' st k=>st.at fun o e=>k it (by simp) o e
  item:=by
    intro X hP hw hK hc i pins s σ H E I hf st hg
    subst hP hw hK
    obtain ⟨xs,x,hq,hx⟩:=hg
    obtain ⟨its,rv,p,hz⟩:=I.tuple hq
    obtain ⟨u,hu,ru⟩:=rv.get hx
    obtain ⟨f0,f1,f2,f3,f4,f5⟩:=hf it (by simp)
    refine wpAny_pyNext_tuple_item st (show s.heap.IsTuple a its.toArray from p) (x:=u) (by simpa using hu) fun h' st' sb=>?_
    have I1:Inv X pins σ H { s with heap:=h' }:=I.turned (t':=s.toks) (fun b o hb e=>(sb.2 b hb).trans e) f0 f1 f3 f4 f5
    obtain ⟨o,e,c,d⟩:=id st'
    exact ⟨u,rfl,sq (s:={ s with heap:=h' }) e c d (by decide) ⟨x,H,I1,ru,⟨rfl,fun ys hy=>by rw [I.tuple_inj hy hq]; exact hx⟩,st',fun b hb=>(hf b hb).1⟩⟩
  done:=by
    intro X hP hw hK hc i pins s σ H E I hf st hg
    subst hP hw hK
    obtain ⟨xs,hq,hx⟩:=hg
    obtain ⟨its,rv,p,hz⟩:=I.tuple hq
    obtain ⟨f0,f1,f2,f3,f4,f5⟩:=hf it (by simp)
    have hl:=rv.length
    exact wpAny_pyNext_tuple_end (I.ok.hd hc) st (show s.heap.IsTuple a its.toArray from p) (by simp; omega) fun h' eb=>⟨rfl,I.turned (t':=s.toks) (fun b o hb e=>eb b o hb e) f0 f1 f3 f4 f5⟩
  self:=fun _ _ _ _ _ st h=>wpAny_pyIter_tupleiter st h
theorem tG {P:Program} {w:World} {K:PySem.W.Frag} {tg:Expr} (it:Addr) (lo:Int) (n:Nat):Turn P w K tg (Itr lo n) [it] it (fun i h=>IsRangeIter h it (lo + (i:Nat) * 1) ((n:Int) - (i:Nat)) 1) where
  mem:=by simp
  obj:=fun i h st b hb=>by
    have e:b=it:=by simpa using hb
    subst e
    exact ⟨_,st,fun v z=>by
      have z':Data.fields _=Data.cell v:=z
      cases z'⟩
  keep:=fun i h h' st k=>k it (by simp) _ st
  item:=by
    intro X hP hw hK hc i pins s σ H E I hf st hg
    subst hP hw hK
    obtain ⟨f0,f1,f2,f3,f4,f5⟩:=hf it (by simp)
    have W:=Walks.range (prog:=X.prog) (w:=X.w) (I.ok.hd hc) it lo 1 n
    refine W.item i s _ _ hg st fun v h' tk hv st' kk=>?_
    obtain ⟨t,rfl⟩:=hv
    have I1:Inv X pins σ H { s with heap:=h',toks:=tk }:=I.turned (fun b o hb e=>kk b o (by simpa using hb) e) f0 f1 f3 f4 f5
    refine ⟨_,rfl,sq (s:={ s with heap:=h',toks:=tk }) (n := "range_iterator") st' rfl rfl (by decide) ⟨.int (lo + i),H,I1,⟨t,?_⟩,⟨rfl,rfl⟩,st',fun b hb=>(hf b hb).1⟩⟩
    rw [Int.mul_one]
  done:=by
    intro X hP hw hK hc i pins s σ H E I hf st hg
    subst hP hw hK
    obtain ⟨f0,f1,f2,f3,f4,f5⟩:=hf it (by simp)
    exact wpAny_pyNext_range_end (I.ok.hd hc) st (by have:n≤i:=hg; omega) fun h' eb=>⟨rfl,I.turned (t':=s.toks) (fun b o hb e=>eb b o hb e) f0 f1 f3 f4 f5⟩
  self:=fun _ _ _ _ _ st h=>wpAny_pyIter_rangeiter st h
end L2
namespace L2
open PySem PySem.Spec PyProof.Rows
section
variable {X:Cx} {tg:Expr}
def iList (K:PySem.W.Frag) (tl:TE):TI:=fun σ H R=>tl σ H fun x H1=>∃ a,x=.ref a∧(∃ xs,SqL K H1 a xs)∧R (Itl K a) H1
def iTup (K:PySem.W.Frag) (tl:TE):TI:=fun σ H R=>tl σ H fun x H1=>∃ a,x=.ref a∧(∃ xs,SqT K H1 a xs)∧R (Itt K a) H1
theorem bW {l:Expr} {tl:TE} (hl:PE X l tl):PI X tg l (iList X.K tl):=by
  intro pins s σ H R I h
  refine thn (hl pins s σ H _ I h) fun v s1 ⟨x,H1,I1,r1,q1⟩=>?_
  obtain ⟨a,e,⟨xs,hq⟩,q⟩:=q1
  subst e
  cases r1
  obtain ⟨its,rv,p,hz⟩:=I1.list hq
  refine wpAny_pyIter_list p.isList ?_
  refine ⟨s1.heap.objs.size,[s1.heap.objs.size],_,_,H1,rfl,I1.kept (t':=s1.toks) fun b o e=>Heap.get?_push_of_some _ e,vQ a _,⟨_,Heap.get?_push_size _ rfl,rfl,rfl⟩,fun b hb=>?_,q⟩
  have e:b=s1.heap.objs.size:=by simpa using hb
  subst e
  exact I1.fpOk (Nat.le_refl _) (I1.hok.fresh (Nat.le_refl _))
theorem pi_tup {l:Expr} {tl:TE} (hl:PE X l tl):PI X tg l (iTup X.K tl):=by
  intro pins s σ H R I h
  refine thn (hl pins s σ H _ I h) fun v s1 ⟨x,H1,I1,r1,q1⟩=>?_
  obtain ⟨a,e,⟨xs,hq⟩,q⟩:=q1
  subst e
  cases r1
  obtain ⟨its,rv,p,hz⟩:=I1.tuple hq
  refine wpAny_pyIter_tuple (show s1.heap.IsTuple a its.toArray from p) ?_
  refine ⟨s1.heap.objs.size,[s1.heap.objs.size],_,_,H1,rfl,I1.kept (t':=s1.toks) fun b o e=>Heap.get?_push_of_some _ e,tF a _,⟨_,Heap.get?_push_size _ rfl,rfl,rfl⟩,fun b hb=>?_,q⟩
  have e:b=s1.heap.objs.size:=by simpa using hb
  subst e
  exact I1.fpOk (Nat.le_refl _) (I1.hok.fresh (Nat.le_refl _))
theorem xH {pins:List (Addr × Obj)} {σ:St} {H:Hp} {s:Shared} {R:It→Hp→Prop} {E:Value→Shared→Prop} {lo hi:Int} {t u v:Tok} {tk:Nat} (I:Inv X pins σ H s) (h1:-(2 ^ 62)≤lo) (h2:lo < 2 ^ 62) (h3:-(2 ^ 62)≤hi) (h4:hi < 2 ^ 62)
    (q:R (Itr lo (hi - lo).toNat) H):wpAny (model X.prog X.w) X.A (pyIter (.ref s.heap.objs.size)) (PIE X pins σ tg R) E { s with heap:=s.heap.push { cls:=.type "range",data:=.fields #[.int lo t,.int hi u,.int 1 v] },toks:=tk }:=by
  refine wpAny_pyIter_range (IsRange.new ..) (small_one h1 h2 h3 h4) ?_
  have I1:Inv X pins σ H { s with heap:=s.heap.push { cls:=.type "range",data:=.fields #[.int lo t,.int hi u,.int 1 v] },toks:=tk }:=I.kept fun b o e=>Heap.get?_push_of_some _ e
  refine ⟨(s.heap.push { cls:=.type "range",data:=.fields #[.int lo t,.int hi u,.int 1 v] }).objs.size,[(s.heap.push { cls:=.type "range",data:=.fields #[.int lo t,.int hi u,.int 1 v] }).objs.size],_,_,H,rfl,
    I1.kept (t':=tk) fun b o e=>Heap.get?_push_of_some _ e,tG _ lo (hi - lo).toNat,?_,fun b hb=>?_,q⟩
  · have e1:lo + ((0:Nat):Int) * 1=lo:=by simp
    have e2:(((hi - lo).toNat:Nat):Int) - ((0:Nat):Int)=Builtin.Range.rangeSize lo hi 1:=by rw [rangeSize_one]; split <;> omega
    show IsRangeIter _ _ (lo + ((0:Nat):Int) * 1) ((((hi - lo).toNat:Nat):Int) - ((0:Nat):Int)) 1
    rw [e1,e2]
    exact Heap.get?_push_size _ rfl
  · have e:b=(s.heap.push { cls:=.type "range",data:=.fields #[.int lo t,.int hi u,.int 1 v] }).objs.size:=by simpa using hb
    subst e
    exact I1.fpOk (Nat.le_refl _) (I1.hok.fresh (Nat.le_refl _))
def iRng1 (ta:TA):TI:=fun σ H R=>ta σ H fun vs H1=>∃ j:Int,vs=[.int j]∧-(2 ^ 62)≤j∧j < 2 ^ 62∧R (Itr 0 j.toNat) H1
theorem cK {a:Expr} {ta:TA} {p pos:Pos} (hg:Gl X "range") (hm:X.mg "range" = none) (ha:PA X [a] ta) (hs:starEach [a] X.env=[(false,eval a X.env)]:=by rfl):PI X tg (.Call (.Name "range" p) [a] [] pos) (iRng1 ta):=by
  intro pins s σ H R I h
  refine Call_ (g6 I hg hm boot_range (PyProof.Rows.callWith_type1 (thn (ha pos pins s σ H _ I h) fun us s1 ⟨vs,H1,I1,r1,q1⟩=>?_) hs rfl))
  obtain ⟨j,e,q1,q2,q⟩:=q1
  subst e
  cases r1 with
  | cons r rr =>
    cases rr
    obtain ⟨t,rfl⟩:=r
    exact call_range_1 (xH I1 (by omega) (by omega) q1 q2 (by simpa using q))
def tFor (wi:TI) (g:TG) (tb:TS):TS:=fun D σ H=>wi σ H fun J H1=>∃ W:Nat→Nat→St→Hp→Prop,(∃ m,W 0 m σ H1)∧∀ i m σ H,W i m σ H →
  (J.stop i H∧D.nx σ H)∨(J.go i H∧∃ N:St→Hp→Prop,(∀ σ' H',N σ' H'→∃ m',m' < m∧W (i + 1) m' σ' H')∧∀ x H',J.yld i H x H'→g x σ H' fun σ2 H2=>tb { D with nx:=N,ct:=N,bk:=D.nx } σ2 H2)
def nj (fp:List Addr) (h:Heap):List (Addr × Obj):=fp.filterMap fun b=>(h.get? b).map fun o=>(b,o)
theorem jS {fp:List Addr} {h:Heap} {b:Addr} {o:Obj} (hb:b∈fp) (e:h.get? b=some o):(b,o)∈nj fp h:=List.mem_filterMap.mpr ⟨b,hb,by rw [e]; rfl⟩
theorem wk {fp:List Addr} {h:Heap} {p:Addr × Obj} (hp:p∈nj fp h):p.1∈fp∧h.get? p.1=some p.2:=by
  obtain ⟨b,hb,e⟩:=List.mem_filterMap.mp hp
  cases q:h.get? b with
  | none=>rw [q] at e; cases e
  | some o =>
    rw [q] at e
    have e':(b,o)=p:=Option.some.inj e
    subst e'
    exact ⟨hb,q⟩
theorem Inv.pinned {pins:List (Addr × Obj)} {σ:St} {H:Hp} {s:Shared} {fp:List Addr} (I:Inv X pins σ H s) (hf:∀ b∈fp,FpOk X pins H b) (ho:∀ b∈fp,∃ o,s.heap.get? b=some o∧∀ v,o.data≠.cell v):Inv X (pins++nj fp s.heap) σ H s :=
  I.pins_of fun p hp=>(List.mem_append.mp hp).elim (fun z=>I.pin p (List.mem_append_right _ z)) fun z=>by
    obtain ⟨hb,e⟩:=wk z
    obtain ⟨f0,f1,f2,_⟩:=hf p.1 hb
    obtain ⟨o,e',d⟩:=ho p.1 hb
    rw [e] at e'; cases e'
    exact ⟨e,f0,f1,f2,d⟩
theorem Inv.unpinned {pins pl:List (Addr × Obj)} {σ:St} {H:Hp} {s:Shared} (I:Inv X (pins++pl) σ H s):Inv X pins σ H s:=I.pins_of fun p hp=>I.pin p (List.mem_append_right _ (List.mem_append_left _ hp))
theorem bT {iter:Expr} {body:List Stmt} {wi:TI} {g:TG} {tb:TS} {pos:Pos} (hp:PassesOwn (model X.prog X.w) X.A X.env X.xe) (hc:X.calm=true) (hi:PI X tg iter wi) (hg:PG X tg g) (hb:PSs X body tb)
    (hs:∀ x,foldedSetIterable iter X.env x=pure x:=by intro _; rfl):PS X (.For tg iter body [] pos) (tFor wi g tb):=by
  intro pins s σ H D I h
  refine wpAny_For (thn (hi pins s σ H _ I h) fun v s1 h1=>thn h1 fun itv s2 h2=>?_) hs
  obtain ⟨it,fp,tn,J,H2,e,I2,T,st2,f2,W,⟨m0,w0⟩,turn⟩:=h2
  subst e
  have stat:∀ {H':Hp},(∀ b∈fp,H' b=none)→∀ b∈fp,FpOk X pins H' b:=fun hn b hb=>⟨hn b hb,(f2 b hb).2⟩
  refine codeAny_forLoop_any (fun n s'=>∃ i σ' H',Inv X pins σ' H' s'∧tn i s'.heap∧(∀ b∈fp,H' b=none)∧W i n σ' H') ?_ m0 ⟨0,σ,H2,I2,st2,fun b hb=>(f2 b hb).1,w0⟩
  rintro n s3 ⟨i,σ3,H3,I3,st3,fr3,w3⟩
  rcases turn i n σ3 H3 w3 with ⟨stop,qn⟩ | ⟨go,N,hN,step⟩
  · refine wpAny_passesOwn hp (thn (T.done X rfl rfl rfl hc i pins s3 σ3 H3 X.xe I3 (stat fr3) st3 stop) fun r s4 ⟨hr,I4⟩=>?_)
    subst hr
    exact wpAny_execs_nil ⟨σ3,H3,I4,qn⟩
  · refine wpAny_passesOwn hp (thn (T.item X rfl rfl rfl hc i pins s3 σ3 H3 X.xe I3 (stat fr3) st3 go) fun r s4 ⟨u,hr,h4⟩=>?_)
    subst hr
    refine wpAny_passesOwn hp (thn h4 fun _ s5 ⟨x,H5,I5,r5,y5,st5,fr5⟩=>?_)
    have I5':=I5.pinned (stat fr5) (T.obj _ _ st5)
    refine wpAny_passesOwn hp (thn (hg _ s5 σ3 H5 x u _ I5' r5 (step x H5 y5)) fun _ s6 ⟨σ6,H6,I6,q6⟩=>?_)
    refine wpAny_passesOwn hp (thn (hb _ s6 σ6 H6 _ I6 q6) fun f s7 q7=>?_)
    have again:∀ {σ7:St} {H7:Hp},Inv X (pins++nj fp s5.heap) σ7 H7 s7→N σ7 H7→∃ m,m < n∧∃ i σ' H',Inv X pins σ' H' s7∧tn i s7.heap∧(∀ b∈fp,H' b=none)∧W i m σ' H':=fun {σ7 H7} I7 n7=>by
      obtain ⟨m',hm,w7⟩:=hN σ7 H7 n7
      refine ⟨m',hm,i + 1,σ7,H7,I7.unpinned,T.keep _ _ _ st5 fun b hb o e=>(I7.pin (b,o) (List.mem_append_right _ (List.mem_append_right _ (jS hb e)))).1,fun b hb=>?_,w7⟩
      obtain ⟨o,e,d⟩:=T.obj _ _ st5 b hb
      exact (I7.pin (b,o) (List.mem_append_right _ (List.mem_append_right _ (jS hb e)))).2.1
    cases f with
    | next=>obtain ⟨σ7,H7,I7,n7⟩:=q7; exact again I7 n7
    | cont=>obtain ⟨σ7,H7,I7,n7⟩:=q7; exact again I7 n7
    | brk=>obtain ⟨σ7,H7,I7,q7⟩:=q7; exact ⟨σ7,H7,I7.unpinned,q7⟩
    | ret v=>obtain ⟨x7,σ7,H7,I7,r7,q7⟩:=q7; exact ⟨x7,σ7,H7,I7.unpinned,r7,q7⟩
end
theorem fv {K:PySem.W.Frag} {a:Addr} {xs:List V} {g:TG} {tb:TS} {D:Ends} {σ:St} {H:Hp} (Pv:Nat→St→Hp→Prop) (h0:Pv 0 σ H) (hl:∀ i σ H,i≤xs.length→Pv i σ H→SqL K H a xs)
    (hs:∀ i x σ H,xs[i]?=some x→Pv i σ H→g x σ H fun σ2 H2=>tb { D with nx:=Pv (i + 1),ct:=Pv (i + 1),bk:=D.nx } σ2 H2) (hd:∀ σ H,Pv xs.length σ H→D.nx σ H) :
    ∃ W:Nat→Nat→St→Hp→Prop,(∃ m,W 0 m σ H)∧∀ i m σ H,W i m σ H →
      ((Itl K a).stop i H∧D.nx σ H)∨((Itl K a).go i H∧∃ N:St→Hp→Prop,(∀ σ' H',N σ' H'→∃ m',m' < m∧W (i + 1) m' σ' H')∧∀ x H',(Itl K a).yld i H x H'→g x σ H' fun σ2 H2=>tb { D with nx:=N,ct:=N,bk:=D.nx } σ2 H2):=by
  refine ⟨fun i m σ H=>m=xs.length - i∧i≤xs.length∧Pv i σ H,⟨xs.length,by simp,Nat.zero_le _,h0⟩,?_⟩
  rintro i m σ H ⟨rfl,hi,p⟩
  have q:=hl i σ H hi p
  by_cases hlt:i < xs.length
  · refine .inr ⟨⟨xs,xs[i],q,by simp [hlt]⟩,Pv (i + 1),fun σ' H' p'=>⟨xs.length - (i + 1),by omega,rfl,hlt,p'⟩,fun x H' y=>?_⟩
    obtain ⟨e,y⟩:=y
    subst e
    exact hs i x σ _ (y xs q) p
  · have e:i=xs.length:=by omega
    subst e
    exact .inl ⟨⟨xs,q,Nat.le_refl _⟩,hd σ H p⟩
theorem jf {lo:Int} {n:Nat} {g:TG} {tb:TS} {D:Ends} {σ:St} {H:Hp} (Pv:Nat→St→Hp→Prop) (h0:Pv 0 σ H)
    (hs:∀ i σ H,i < n→Pv i σ H→g (.int (lo + i)) σ H fun σ2 H2=>tb { D with nx:=Pv (i + 1),ct:=Pv (i + 1),bk:=D.nx } σ2 H2) (hd:∀ σ H,Pv n σ H→D.nx σ H) :
    ∃ W:Nat→Nat→St→Hp→Prop,(∃ m,W 0 m σ H)∧∀ i m σ H,W i m σ H →
      ((Itr lo n).stop i H∧D.nx σ H)∨((Itr lo n).go i H∧∃ N:St→Hp→Prop,(∀ σ' H',N σ' H'→∃ m',m' < m∧W (i + 1) m' σ' H')∧∀ x H',(Itr lo n).yld i H x H'→g x σ H' fun σ2 H2=>tb { D with nx:=N,ct:=N,bk:=D.nx } σ2 H2):=by
  refine ⟨fun i m σ H=>m=n - i∧i≤n∧Pv i σ H,⟨n,by simp,Nat.zero_le _,h0⟩,?_⟩
  rintro i m σ H ⟨rfl,hi,p⟩
  by_cases hlt:i < n
  · refine .inr ⟨hlt,Pv (i + 1),fun σ' H' p'=>⟨n - (i + 1),by omega,rfl,hlt,p'⟩,fun x H' y=>?_⟩
    obtain ⟨e,y⟩:=y
    subst e y
    exact hs i σ _ hlt p
  · have e:i=n:=by omega
    subst e
    exact .inl ⟨Nat.le_refl _,hd σ H p⟩
theorem j6 {c:TT} {tb:TS} {D:Ends} {σ:St} {H:Hp} (Pv:St→Hp→Prop) (μ:St→Hp→Nat) (h0:Pv σ H)
    (hs:∀ σ H,Pv σ H→c σ H fun b H1=>if b=true then tb { D with nx:=fun σ' H'=>Pv σ' H'∧μ σ' H' < μ σ H,ct:=fun σ' H'=>Pv σ' H'∧μ σ' H' < μ σ H,bk:=D.nx } σ H1 else D.nx σ H1)
    (mono:∀ σ H Q Q',(∀ b H1,Q b H1→Q' b H1)→c σ H Q→c σ H Q'):xk c tb D σ H:=by
  refine ⟨fun m σ H=>m=μ σ H∧Pv σ H,⟨_,rfl,h0⟩,?_⟩
  rintro m σ H ⟨rfl,p⟩
  refine mono σ H _ _ (fun b H1 q=>?_) (hs σ H p)
  cases b with
  | true=>exact ⟨_,fun σ' H' ⟨p',l⟩=>⟨_,l,rfl,p'⟩,q⟩
  | false=>exact q
end L2
namespace L2
open PySem PySem.Spec PyProof.Rows
abbrev R2:=V→V→Hp→VK→Prop
def OpR (X:Cx) (f:Value→Value→Sem Value) (r:R2):Prop :=
  ∀ (pins:List (Addr × Obj)) (s:Shared) (σ:St) (H:Hp) (x y:V) (v u:Value) (Q:VK),Inv X pins σ H s→RelV x v→RelV y u→r x y H Q →
    wpAny (model X.prog X.w) X.A (f v u) (EP X pins σ Q) X.xe s
def fR (X:Cx) (f:Value) (r:List V→Hp→VK→Prop):Prop :=
  ∀ (pins:List (Addr × Obj)) (s:Shared) (σ:St) (H:Hp) (xs:List V) (us:List Value) (Q:VK),Inv X pins σ H s→Vals xs us→r xs H Q →
    wpAny (model X.prog X.w) X.A (call f us) (EP X pins σ Q) X.xe s
def TruR (X:Cx) (r:V→Hp→(Bool→Hp→Prop)→Prop):Prop :=
  ∀ (pins:List (Addr × Obj)) (s:Shared) (σ:St) (H:Hp) (x:V) (v:Value) (Q:Bool→Hp→Prop),Inv X pins σ H s→RelV x v→r x H Q →
    wpAny (model X.prog X.w) X.A (truthy v) (TP X pins σ Q) X.xe s
def tOp (r:R2) (ta tb:TE):TE:=fun σ H Q=>ta σ H fun x H1=>tb σ H1 fun y H2=>r x y H2 Q
def rI (C:Int→Int→Prop) (g:Int→Int→V):R2:=fun x y H Q=>∃ i j,x=.int i∧y=.int j∧C i j∧Q (g i j) H
def rI0 (g:Int→Int→V):R2:=fun x y H Q=>∃ i j,x=.int i∧y=.int j∧Q (g i j) H
section
variable {X:Cx} {a b c:Expr} {ta tb tc:TE} {pos:Pos}
theorem binT (ha:PE X a ta) (hb:PE X b tb) {pins:List (Addr × Obj)} {s:Shared} {σ:St} {H:Hp} {R:V→V→Hp→Prop} (I:Inv X pins σ H s)
    (h:ta σ H fun x H1=>tb σ H1 fun y H2=>R x y H2) {Q:Value→Shared→Prop} {f:Value→Value→Sem Value}
    (hf:∀ v u s2 x y H2,Inv X pins σ H2 s2→RelV x v→RelV y u→R x y H2→wpAny (model X.prog X.w) X.A (f v u) Q X.xe s2) :
    wpAny (model X.prog X.w) X.A (eval a X.env) (fun v s₁=>wpAny (model X.prog X.w) X.A (eval b X.env) (fun u s₂=>wpAny (model X.prog X.w) X.A (f v u) Q X.xe s₂) X.xe s₁) X.xe s:=by
  refine thn (ha pins s σ H _ I h) fun v s1 ⟨x,H1,I1,r1,q1⟩=>?_
  refine thn (hb pins s1 σ H1 _ I1 q1) fun u s2 ⟨y,H2,I2,r2,q2⟩=>?_
  exact hf v u s2 x y H2 I2 r1 r2 q2
theorem aF {op:Operator} {r:R2} (ho:OpR X (binaryOp op) r) (ha:PE X a ta) (hb:PE X b tb):PE X (.BinOp a op b pos) (tOp r ta tb):=by
  intro pins s σ H Q I h
  exact wpAny_BinOp (binT ha hb I h fun v u s2 x y H2 I2 rx ry q=>ho pins s2 σ H2 x y v u Q I2 rx ry q)
theorem opI {f:Value→Value→Sem Value} {C:Int→Int→Prop} {g:Int→Int→Int}
    (rule:∀ (i j:Int) (t u:Tok) (s:Shared) (Q:Value→Shared→Prop) (E:Value→Shared→Prop),C i j→Q (.int (g i j) s.toks) { s with toks:=s.toks + 1 }→wpAny (model X.prog X.w) X.A (f (.int i t) (.int j u)) Q E s) :
    OpR X f (rI C fun i j=>.int (g i j)):=by
  intro pins s σ H x y v u Q I rx ry h
  obtain ⟨i,j,rfl,rfl,hc,q⟩:=h
  obtain ⟨t,rfl⟩:=rx
  obtain ⟨t',rfl⟩:=ry
  exact rule i j t t' s _ _ hc ⟨.int (g i j),H,I.tok _,⟨_,rfl⟩,q⟩
theorem opI0 {f:Value→Value→Sem Value} {g:Int→Int→Int}
    (rule:∀ (i j:Int) (t u:Tok) (s:Shared) (Q:Value→Shared→Prop) (E:Value→Shared→Prop),Q (.int (g i j) s.toks) { s with toks:=s.toks + 1 }→wpAny (model X.prog X.w) X.A (f (.int i t) (.int j u)) Q E s) :
    OpR X f (rI0 fun i j=>.int (g i j)):=by
  intro pins s σ H x y v u Q I rx ry h
  obtain ⟨i,j,rfl,rfl,q⟩:=h
  obtain ⟨t,rfl⟩:=rx
  obtain ⟨t',rfl⟩:=ry
  exact rule i j t t' s _ _ ⟨.int (g i j),H,I.tok _,⟨_,rfl⟩,q⟩
theorem opB0 {f:Value→Value→Sem Value} {g:Int→Int→Bool}
    (rule:∀ (i j:Int) (t u:Tok) (s:Shared) (Q:Value→Shared→Prop) (E:Value→Shared→Prop),Q (.bool (g i j)) s→wpAny (model X.prog X.w) X.A (f (.int i t) (.int j u)) Q E s) :
    OpR X f (rI0 fun i j=>.bl (g i j)):=by
  intro pins s σ H x y v u Q I rx ry h
  obtain ⟨i,j,rfl,rfl,q⟩:=h
  obtain ⟨t,rfl⟩:=rx
  obtain ⟨t',rfl⟩:=ry
  exact rule i j t t' s _ _ ⟨.bl (g i j),H,I,rfl,q⟩
def CMul (i j:Int):Prop:=(-(2 ^ 64) < i∧i < 2 ^ 64)∨(-(2 ^ 64) < j∧j < 2 ^ 64)
theorem CMul.ok {i j:Int} (h:CMul i j):IntMulOk i j:=by
  rcases h with ⟨h1,h2⟩ | ⟨h1,h2⟩
  · exact .of_left (intBits_le_64 h1 h2)
  · exact .of_right (intBits_le_64 h1 h2)
theorem bv:OpR X (binaryOp .Add) (rI0 fun i j=>.int (i + j)):=opI0 fun _ _ _ _ _ _ _ q=>add_int q
theorem dg:OpR X (binaryOp .Sub) (rI0 fun i j=>.int (i - j)):=opI0 fun _ _ _ _ _ _ _ q=>sub_int q
theorem ga:OpR X (binaryOp .Mult) (rI CMul fun i j=>.int (i * j)):=opI fun _ _ _ _ _ _ _ hc q=>mul_int q hc.ok
theorem op_mod:OpR X (binaryOp .Mod) (rI (fun _ j=>0 < j) fun i j=>.int (i % j)):=opI fun i j _ _ _ _ _ hc q=>by
  have h1:(0:Int) < j:=hc
  exact mod_int' (by omega) (by rw [Int.fmod_eq_emod_of_nonneg i (by omega)]; exact q)
end
def scal:V→V→Bool
  | .non,.non=>true | .non,.int _=>true | .int _,.non=>true | .non,.bl _=>true | .bl _,.non=>true | .non,.str _=>true | .str _,.non=>true
  | .int _,.int _=>true | .bl _,.bl _=>true | .str _,.str _=>true | .byt _,.byt _=>true
  | .int _,.str _=>true | .str _,.int _=>true | .bl _,.str _=>true | .str _,.bl _=>true
  | _,_=>false
def rEq:R2:=fun x y H Q=>scal x y=true∧Q (.bl (decide (x=y))) H
def rNe:R2:=fun x y H Q=>scal x y=true∧Q (.bl (!decide (x=y))) H
theorem vx {i j:Int}:decide (V.int i=V.int j)=(i == j):=by
  rw [Bool.eq_iff_iff]
  simp
theorem yA {i j:Bool}:decide (V.bl i=V.bl j)=(i == j):=by
  rw [Bool.eq_iff_iff]
  simp
theorem vw {i j:Str}:decide (V.str i=V.str j)=(i == j):=by
  rw [Bool.eq_iff_iff]
  simp
theorem vy {i j:Array UInt8}:decide (V.byt i=V.byt j)=(i.toList == j.toList):=by
  rw [Bool.eq_iff_iff]
  cases i
  cases j
  simp
section
variable {X:Cx} {a b c:Expr} {ta tb tc:TE} {pos:Pos}
theorem bc {pins:List (Addr × Obj)} {σ:St} {H:Hp} {s:Shared} {Q:VK} {k k':Bool} (I:Inv X pins σ H s) (q:Q (.bl k) H) (e:k=k'):EP X pins σ Q (.bool k') s:=by
  subst e
  exact ⟨.bl k,H,I,rfl,q⟩
theorem dG:OpR X (compareOp .Eq) rEq:=by
  intro pins s σ H x y v u Q I rx ry h
  obtain ⟨hs,q⟩:=h
  cases x with
  | non =>
    cases rx
    cases y with
    | non=>cases ry; exact PySem.EqNone.eq_none_none (bc I q (by simp))
    | bl j=>cases ry; exact PySem.EqNone.eq_none_bool (bc I q (by simp))
    | int j=>obtain ⟨t',rfl⟩:=ry; exact PySem.EqNone.eq_none_int (bc I q (by simp))
    | str j=>obtain ⟨t',rfl⟩:=ry; exact PySem.EqNone.eq_none_str (bc I q (by simp))
    | _=>exact absurd (show false=true from hs) Bool.false_ne_true
  | bl i =>
    cases rx
    cases y with
    | non=>cases ry; exact PySem.EqNone.eq_bool_none (bc I q (by simp))
    | bl j=>cases ry; exact eq_bool (bc I q yA)
    | str j=>obtain ⟨t',rfl⟩:=ry; exact PySem.EqMixed.eq_bool_str (bc I q (by simp))
    | _=>exact absurd (show false=true from hs) Bool.false_ne_true
  | int i =>
    obtain ⟨t,rfl⟩:=rx
    cases y with
    | non=>cases ry; exact PySem.EqNone.eq_int_none (bc I q (by simp))
    | int j=>obtain ⟨t',rfl⟩:=ry; exact eq_int (bc I q vx)
    | str j=>obtain ⟨t',rfl⟩:=ry; exact PySem.EqMixed.eq_int_str (bc I q (by simp))
    | _=>exact absurd (show false=true from hs) Bool.false_ne_true
  | str i =>
    obtain ⟨t,rfl⟩:=rx
    cases y with
    | non=>cases ry; exact PySem.EqNone.eq_str_none (bc I q (by simp))
    | bl j=>cases ry; exact PySem.EqMixed.eq_str_bool (bc I q (by simp))
    | int j=>obtain ⟨t',rfl⟩:=ry; exact PySem.EqMixed.eq_str_int (bc I q (by simp))
    | str j=>obtain ⟨t',rfl⟩:=ry; exact eq_str (bc I q vw)
    | _=>exact absurd (show false=true from hs) Bool.false_ne_true
  | byt i =>
    obtain ⟨t,rfl⟩:=rx
    cases y with
    | byt j=>obtain ⟨t',rfl⟩:=ry; exact PySem.W.eq_bytes (bc I q vy)
    | _=>exact absurd (show false=true from hs) Bool.false_ne_true
  | _=>cases y <;> exact absurd (show false=true from hs) Bool.false_ne_true
theorem kt:OpR X (compareOp .NotEq) rNe:=by
  intro pins s σ H x y v u Q I rx ry h
  obtain ⟨hs,q⟩:=h
  cases x with
  | non =>
    cases rx
    cases y with
    | non=>cases ry; exact PySem.EqNone.ne_none_none (bc I q (by simp))
    | bl j=>cases ry; exact PySem.EqNone.ne_none_bool (bc I q (by simp))
    | int j=>obtain ⟨t',rfl⟩:=ry; exact PySem.EqNone.ne_none_int (bc I q (by simp))
    | str j=>obtain ⟨t',rfl⟩:=ry; exact PySem.EqNone.ne_none_str (bc I q (by simp))
    | _=>exact absurd (show false=true from hs) Bool.false_ne_true
  | bl i =>
    cases rx
    cases y with
    | non=>cases ry; exact PySem.EqNone.ne_bool_none (bc I q (by simp))
    | bl j=>cases ry; exact ne_bool (bc I q (congrArg not yA))
    | str j=>obtain ⟨t',rfl⟩:=ry; exact PySem.EqMixed.ne_bool_str (bc I q (by simp))
    | _=>exact absurd (show false=true from hs) Bool.false_ne_true
  | int i =>
    obtain ⟨t,rfl⟩:=rx
    cases y with
    | non=>cases ry; exact PySem.EqNone.ne_int_none (bc I q (by simp))
    | int j=>obtain ⟨t',rfl⟩:=ry; exact ne_int (bc I q (congrArg not vx))
    | str j=>obtain ⟨t',rfl⟩:=ry; exact PySem.EqMixed.ne_int_str (bc I q (by simp))
    | _=>exact absurd (show false=true from hs) Bool.false_ne_true
  | str i =>
    obtain ⟨t,rfl⟩:=rx
    cases y with
    | non=>cases ry; exact PySem.EqNone.ne_str_none (bc I q (by simp))
    | bl j=>cases ry; exact PySem.EqMixed.ne_str_bool (bc I q (by simp))
    | int j=>obtain ⟨t',rfl⟩:=ry; exact PySem.EqMixed.ne_str_int (bc I q (by simp))
    | str j=>obtain ⟨t',rfl⟩:=ry; exact ne_str (bc I q (congrArg not vw))
    | _=>exact absurd (show false=true from hs) Bool.false_ne_true
  | byt i =>
    obtain ⟨t,rfl⟩:=rx
    cases y with
    | byt j=>obtain ⟨t',rfl⟩:=ry; exact PySem.W.ne_bytes (bc I q (congrArg not vy))
    | _=>exact absurd (show false=true from hs) Bool.false_ne_true
  | _=>cases y <;> exact absurd (show false=true from hs) Bool.false_ne_true
theorem rK:OpR X (compareOp .Lt) (rI0 fun i j=>.bl (decide (i < j))):=opB0 fun _ _ _ _ _ _ _ q=>lt_int q
theorem cP:OpR X (compareOp .LtE) (rI0 fun i j=>.bl (decide (i≤j))):=opB0 fun _ _ _ _ _ _ _ q=>le_int q
theorem ku:OpR X (compareOp .Gt) (rI0 fun i j=>.bl (decide (j < i))):=opB0 fun _ _ _ _ _ _ _ q=>gt_int q
theorem xU:OpR X (compareOp .Is) (fun x y H Q=>y=.non∧Q (.bl (decide (x=.non))) H):=by
  intro pins s σ H x y v u Q I rx ry h
  obtain ⟨rfl,q⟩:=h
  cases ry
  refine is_none_gen (bc I q ?_)
  cases x <;> first
    | (cases rx; rfl)
    | (obtain ⟨t,rfl⟩:=rx; rfl)
theorem u1:OpR X (compareOp .IsNot) (fun x y H Q=>y=.non∧Q (.bl (!decide (x=.non))) H):=by
  intro pins s σ H x y v u Q I rx ry h
  obtain ⟨rfl,q⟩:=h
  cases ry
  refine isnot_none_gen (bc I q ?_)
  cases x <;> first
    | (cases rx; rfl)
    | (obtain ⟨t,rfl⟩:=rx; rfl)
theorem aQ (b:Expr) {op:CmpOp} (h:op≠.In:=by decide) (h2:op≠.NotIn:=by decide):behindInMarks op b=false:=by
  have e1:(op == CmpOp.In)=false:=by cases op <;> first | rfl | exact absurd rfl h
  have e2:(op == CmpOp.NotIn)=false:=by cases op <;> first | rfl | exact absurd rfl h2
  cases b <;> simp [behindInMarks,e1,e2]
theorem d8 {op:CmpOp} {r:R2} (ho:OpR X (compareOp op) r) (ha:PE X a ta) (hb:PE X b tb) (hm:behindInMarks op b=false):PE X (.Compare a [op] [b] pos) (tOp r ta tb):=by
  intro pins s σ H Q I h
  exact wpAny_Compare1 (binT ha hb I h fun v u s2 x y H2 I2 rx ry q=>ho pins s2 σ H2 x y v u Q I2 rx ry q) hm
def xl (t:TE):TT:=fun σ H Q=>t σ H fun x H'=>∃ k,x=.bl k∧Q k H'
theorem aN {op:CmpOp} {r:R2} (ho:OpR X (compareOp op) r) (ha:PE X a ta) (hb:PE X b tb) (hm:behindInMarks op b=false):PT X (.Compare a [op] [b] pos) (xl (tOp r ta tb)):=by
  intro pins s σ H Q I h
  refine wpAny_isTrue_Compare1 (thn (ha pins s σ H _ I h) fun v s1 ⟨x,H1,I1,r1,q1⟩=>thn (hb pins s1 σ H1 _ I1 q1) fun u s2 ⟨y,H2,I2,r2,q2⟩ =>
    thn (ho pins s2 σ H2 x y v u _ I2 r1 r2 q2) fun c s3 ⟨z,H3,I3,r3,k,e,q3⟩=>?_) hm
  subst e
  cases r3
  exact wpAny_truthy_bool ⟨H3,I3,q3⟩
def tI (r r':R2) (ta tb tc:TE):TE:=fun σ H Q=>ta σ H fun x H1=>tb σ H1 fun y H2=>r x y H2 fun z H3=>∃ k,z=.bl k ∧
  (if k=true then tc σ H3 fun w' H4=>r' y w' H4 Q else Q (.bl false) H3)
theorem np {op op':CmpOp} {r r':R2} (ho:OpR X (compareOp op) r) (ho':OpR X (compareOp op') r') (ha:PE X a ta) (hb:PE X b tb) (hc:PE X c tc)
    (hm:lastMarks [op,op'] [b,c]=false:=by with_unfolding_all rfl):PE X (.Compare a [op,op'] [b,c] pos) (tI r r' ta tb tc):=by
  intro pins s σ H Q I h
  refine Compare_chain (thn (ha pins s σ H _ I h) fun v s1 ⟨x,H1,I1,r1,q1⟩=>chain_link (thn (hb pins s1 σ H1 _ I1 q1) fun u s2 ⟨y,H2,I2,r2,q2⟩ =>
    thn (ho pins s2 σ H2 x y v u _ I2 r1 r2 q2) fun d s3 ⟨z,H3,I3,r3,k,e,q3⟩=>?_)) hm
  subst e
  cases r3
  refine wpAny_truthy_bool ?_
  cases k with
  | false=>exact ite_ff ⟨.bl false,H3,I3,rfl,q3⟩
  | true=>exact ite_tt (chain_last (thn (hc pins s3 σ H3 _ I3 q3) fun w' s4 ⟨z',H4,I4,r4,q4⟩=>ho' pins s4 σ H4 y z' u w' Q I4 r2 r4 q4))
theorem fk {op op':CmpOp} {r r':R2} (ho:OpR X (compareOp op) r) (ho':OpR X (compareOp op') r') (ha:PE X a ta) (hb:PE X b tb) (hc:PE X c tc)
    (hm:lastMarks [op,op'] [b,c]=false:=by with_unfolding_all rfl):PT X (.Compare a [op,op'] [b,c] pos) (xl (tI r r' ta tb tc)):=by
  intro pins s σ H Q I h
  refine isTrue_chain (thn (ha pins s σ H _ I h) fun v s1 ⟨x,H1,I1,r1,q1⟩=>test_link (thn (hb pins s1 σ H1 _ I1 q1) fun u s2 ⟨y,H2,I2,r2,q2⟩ =>
    thn (ho pins s2 σ H2 x y v u _ I2 r1 r2 q2) fun d s3 ⟨z,H3,I3,r3,k,e,q3⟩=>?_)) hm
  subst e
  cases r3
  refine wpAny_truthy_bool ?_
  cases k with
  | false =>
    obtain ⟨k',e',q'⟩:=q3
    cases e'
    exact ite_ff ⟨H3,I3,q'⟩
  | true =>
    refine ite_tt (test_last (thn (hc pins s3 σ H3 _ I3 q3) fun w' s4 ⟨z',H4,I4,r4,q4⟩=>thn (ho' pins s4 σ H4 y z' u w' _ I4 r2 r4 q4) fun d' s5 ⟨z2,H5,I5,r5,k2,e2,q5⟩=>?_))
    subst e2
    cases r5
    exact wpAny_truthy_bool ⟨H5,I5,q5⟩
def TruV (K:PySem.W.Frag) (x:V) (H:Hp) (k:Bool):Prop :=
  match x with
  | .non=>k=false
  | .bl b=>k=b
  | .int i=>k=(i != 0)
  | .str y=>y.length≤sizeLine∧k=((y.length:Int) != 0)
  | .byt y=>y.size≤sizeLine∧k=((y.size:Int) != 0)
  | .ref p=>(∃ xs,SqL K H p xs∧k=!xs.isEmpty)∨(∃ xs,SqT K H p xs∧k=!xs.isEmpty)∨∃ kvs,H p=some (.dK kvs)∧k=!kvs.isEmpty
  | _=>False
theorem uo {κ:Type} {kvs:List (κ × V)} {vs:List (κ × Value)} (r:KV kvs vs):(!vs.isEmpty)=!kvs.isEmpty:=by
  cases r <;> rfl
theorem nX {xs:List V} {its:List Value} (r:Vals xs its):(!its.toArray.isEmpty)=!xs.isEmpty:=by
  cases r <;> simp
theorem jU:(sizeLine:Nat) < 2 ^ 63:=by rw [sizeLine_eq]; decide
theorem tru_ok:TruR X (fun x H Q=>∃ k,TruV X.K x H k∧Q k H):=by
  intro pins s σ H x v Q I rx h
  obtain ⟨k,e,q⟩:=h
  have hl:=jU
  have hs:sizeLine=16777216:=sizeLine_eq
  cases x with
  | non =>
    cases rx
    have e':k=false:=e
    subst e'
    exact truthy_none ⟨H,I,q⟩
  | bl b =>
    cases rx
    have e':k=b:=e
    subst e'
    exact wpAny_truthy_bool ⟨H,I,q⟩
  | int i =>
    obtain ⟨t,rfl⟩:=rx
    have e':k=(i != 0):=e
    subst e'
    exact PySem.P.truthy_int ⟨H,I,q⟩
  | str y =>
    obtain ⟨t,rfl⟩:=rx
    obtain ⟨hy,e'⟩:y.length≤sizeLine∧k=((y.length:Int) != 0):=e
    subst e'
    exact PySem.P.truthy_str (by omega) ⟨H,I.tok _,q⟩
  | byt y =>
    obtain ⟨t,rfl⟩:=rx
    obtain ⟨hy,e'⟩:y.size≤sizeLine∧k=((y.size:Int) != 0):=e
    subst e'
    exact PySem.W.truthy_bytes (by omega) ⟨H,I.tok _,q⟩
  | ref p =>
    cases rx
    have e':(∃ xs,SqL X.K H p xs∧k=!xs.isEmpty)∨(∃ xs,SqT X.K H p xs∧k=!xs.isEmpty)∨∃ kvs,H p=some (.dK kvs)∧k=!kvs.isEmpty:=e
    rcases e' with ⟨xs,hx,e'⟩ | ⟨xs,hx,e'⟩ | ⟨kvs,hx,e'⟩
    · subst e'
      obtain ⟨its,r,pl,hz⟩:=I.list hx
      have hlen:=r.length
      exact wpAny_truthy_list pl.isList (by simp only [List.size_toArray]; omega) ⟨H,I.tok _,by rw [nX r]; exact q⟩
    · subst e'
      obtain ⟨its,r,pl,hz⟩:=I.tuple hx
      have hlen:=r.length
      exact truthy_tuple pl (by simp only [List.size_toArray]; omega) ⟨H,I.tok _,by rw [nX r]; exact q⟩
    · subst e'
      obtain ⟨hz,hS,vs,r,m⟩:kvs.length≤sizeLine∧(p == sysModules)=false∧∃ vs,KV kvs vs∧s.heap.DictOf (cu X.prog X.w) p vs:=I.hok p _ hx
      have hlen:kvs.length=vs.length:=Paired.length r
      exact wpAny_truthy_dict hS m (by omega) ⟨H,I.tok _,by rw [uo r]; exact q⟩
  | _=>exact (show False from e).elim
theorem xK (ha:PE X a ta) (he:∀ whole,isTrue a X.env whole=(do let v ← whole; standAt a.pos; holding [v] (truthy v))) :
    PT X a (fun σ H Q=>ta σ H fun x H'=>∃ k,TruV X.K x H' k∧Q k H'):=by
  intro pins s σ H Q I h
  exact isTrue_plain (thn (ha pins s σ H _ I h) fun v s1 ⟨x,H1,I1,r1,q1⟩=>tru_ok pins s1 σ H1 x v Q I1 r1 q1) (he _)
theorem nu:OpR X (binaryOp .Add) (fun x y H Q=>∃ i j,x=.str i∧y=.str j∧i.length + j.length≤sizeLine∧Q (.str (i++j)) H):=by
  intro pins s σ H x y v u Q I rx ry h
  obtain ⟨i,j,rfl,rfl,hz,q⟩:=h
  obtain ⟨t,rfl⟩:=rx
  obtain ⟨t',rfl⟩:=ry
  exact add_str (fun t' tk=>⟨.str (i++j),H,I.tok _,⟨_,rfl⟩,q⟩) hz
theorem qX {x:V} {us:List Value} (r:Vals [x] us):∃ u,us=[u]∧RelV x u:=by
  cases r with
  | cons r1 r2=>cases r2; exact ⟨_,rfl,r1⟩
theorem vals2 {x y:V} {us:List Value} (r:Vals [x,y] us):∃ u w',us=[u,w']∧RelV x u∧RelV y w':=by
  cases r with
  | cons r1 r2 =>
    cases r2 with
    | cons r3 r4=>cases r4; exact ⟨_,_,rfl,r1,r3⟩
theorem pH (hc:X.calm=true):fR X (.builtin "min") (fun xs H Q=>∃ i j,xs=[.int i,.int j]∧Q (.int (if j < i then j else i)) H):=by
  intro pins s σ H xs us Q I r h
  obtain ⟨i,j,rfl,q⟩:=h
  obtain ⟨u,w',rfl,⟨t,rfl⟩,⟨t',rfl⟩⟩:=vals2 r
  refine min_two_ints (I.ok.hd hc) fun h' tk k=>⟨_,H,I.kept k,?_,q⟩
  by_cases hj:j < i
  · rw [if_pos hj,if_pos hj]; exact ⟨_,rfl⟩
  · rw [if_neg hj,if_neg hj]; exact ⟨_,rfl⟩
theorem dJ:fR X (.type "str") (fun xs H Q=>∃ i,xs=[.int i]∧i.natAbs.log2 < 1920∧Q (.str (toString i)) H):=by
  intro pins s σ H xs us Q I r h
  obtain ⟨i,rfl,hz,q⟩:=h
  obtain ⟨u,rfl,t,rfl⟩:=qX r
  exact PySem.P.str_of_int hz ⟨.str _,H,I.tok _,⟨_,rfl⟩,q⟩
theorem yC:fR X (.builtin "ord") (fun xs H Q=>∃ x,xs=[.str x]∧x.length=1∧Q (.int (x.cps.getD 0 0:Nat)) H):=by
  intro pins s σ H xs us Q I r h
  obtain ⟨x,rfl,hz,q⟩:=h
  obtain ⟨u,rfl,t,rfl⟩:=qX r
  exact ord_of_one hz ⟨.int _,H,I.tok _,⟨_,rfl⟩,q⟩
end
end L2
namespace L2
open PySem PySem.Spec PyProof.Rows
structure ObjM (h:Heap) (x dx C:Addr) (mA:Str→Option Value):Prop where
  obj:h.get? x=some (PySem.W.instObj C dx)
  ns:h.Ns1 dx mA
  ne:dx≠x
theorem wo {h:Heap} {dx:Addr} {mA:Str→Option Value} (n:h.Ns1 dx mA):∃ od,h.get? dx=some od∧∀ name,PySem.W.lookIn name od=some (mA name):=by
  obtain ⟨o,es,ep,ho,hd,hk,_,hm⟩:=n
  refine ⟨o,ho,fun name=>?_⟩
  have e:=hm name
  unfold nsFind findBy at e
  rw [←Array.find?_toList] at e
  unfold PySem.W.lookIn
  rw [hd]
  dsimp only
  split
  · rename_i y q
    rw [q] at e
    exact congrArg some e
  · rename_i q
    rw [q] at e
    have a:es.toList.any (·.refKey)=false:=by
      rw [List.any_eq_false]
      intro y hy
      obtain ⟨z,t,hkey⟩:=hk y (Array.mem_toList_iff.mp hy)
      simp [DictEntry.refKey,hkey]
    have a':¬ es.toList.any (·.refKey)=true:=by rw [a]; exact Bool.false_ne_true
    rw [if_neg a']
    exact congrArg some e
theorem ObjM.look {h:Heap} {x dx C:Addr} {mA:Str→Option Value} (I:ObjM h x dx C mA):∃ od,PySem.W.InstAt h x (PySem.W.instObj C dx) C (some od)∧∀ name,PySem.W.lookIn name od=some (mA name) :=
  let ⟨od,ho,hl⟩:=wo I.ns
  ⟨od,⟨I.obj,rfl,rfl,ho⟩,hl⟩
section
variable {prog:Program} {w:World} {A:Around} {E:Value→Shared→Prop} {s:Shared} {K:PySem.W.Frag} {x dx C f:Addr} {mA:Str→Option Value} {name:Str} {v:Value}
theorem zC {expr:Bool} {Q:Value→Shared→Prop} (X:K.In s.heap) (I:ObjM s.heap x dx C mA) (hg:PySem.W.plainGet K C name=true) (hh:PySem.W.hasDictIn K C=true)
    (ha:PySem.W.findIn K (.ref C) name=some none) (hv:mA name=some v) (hv':PySem.W.handedIn v=true) (h:Q v { s with toks:=s.toks + 1 }) :
    wpAny (model prog w) A (getAttr (.ref x) name expr) Q E s:=by
  obtain ⟨od,J,hl⟩:=I.look
  exact PySem.W.get_value X J (PySem.W.plainGet_of hg).1 (PySem.W.findObj_own hh ha rfl (by rw [hl,hv])) hv' h
theorem yt {pl:Sem Bool} {Q:Value × List Value→Shared→Prop} (X:K.In s.heap) (I:ObjM s.heap x dx C mA) (hg:PySem.W.plainGet K C name=true)
    (hf:PySem.W.findIn K (.ref C) name=some (some (.ref f))) (ht:PySem.W.isFn K (.ref f)=true) (hv:mA name=none) (h:Q (.ref f,[.ref x]) s) :
    wpAny (model prog w) A (getMethod (.ref x) name pl) Q E s:=by
  obtain ⟨od,J,hl⟩:=I.look
  exact PySem.W.method_fn X J (PySem.W.plainGet_of hg).1 (PySem.W.plainGet_of hg).2 hf (beq_iff_eq.mp ht) (by show (PySem.W.lookIn name od).map (·.isSome)=some false; rw [hl,hv]; rfl) h
theorem y9 {ns:List Str} {Q:Unit→Shared→Prop} (X:K.In s.heap) (I:ObjM s.heap x dx C mA)
    (hs:PySem.W.findIn K (.ref C) "__setattr__" = some (some (.builtin "object.__setattr__"))) (hp:PySem.W.plainOver K C=true) (ht:PySem.W.takerIn K C name=some none) (hh:PySem.W.hasDictIn K C=true)
    (hw:PySem.Within mA ns) (hsz:ns.length≤sizeLine)
    (h:∀ h',ObjM h' x dx C (fun y=>if y=name then some v else mA y)→Heap.SameBut dx s.heap h'→Q () { s with heap:=h',toks:=s.toks + 2 }) :
    wpAny (model prog w) A (setAttr (.ref x) name v) Q E s:=by
  obtain ⟨od,J,hl⟩:=I.look
  refine PySem.W.set_plain X J hs (PySem.W.osa_open (s:={ s with toks:=s.toks + 1 }) (r:=none) X J hp ht fun b=>?_)
  obtain ⟨cd,hc,hd'⟩:=PySem.W.any_some hh
  have hx:s.heap.get? x=some ⟨.ref C,some dx,.plain,#[]⟩:=I.obj
  refine wpAny_bind (wpAny_pure (wpAny_bind (wpAny_bind (wpAny_loadPart hx (wpAny_bind (PySem.W.Looks.here (s:={ s with toks:=s.toks + 1 }) (PySem.W.looks_clsIn X hc) ?_))))))
  rw [hd']
  refine wpAny_pure (a:=some dx) (wpAny_bind (wpAny_pure (wpAny_bind ?_)))
  refine wpAny_nsSet1 (s:={ s with toks:=s.toks + 1 }) I.ns fun h' hn2 hs2=>?_
  obtain ⟨oD,esD,epD,hoD,hdD,hcD⟩:=hn2.count (PySem.Within.cons name v hw)
  refine wpAny_bind (wpAny_lookBehind hoD (by rw [hdD]; exact pastItsLine_dict (Nat.le_trans hcD (by rw [List.length_cons]; omega))) ?_)
  exact wpAny_pure (h _ ⟨(hs2.2 _ (Ne.symm I.ne)).trans I.obj,hn2,I.ne⟩ hs2)
theorem yc {R:Result→Shared→Prop} {vs:List Value} {kw:List (Str × Value)} (X:K.In s.heap) (hm:PySem.W.makesIn K C=true)
    (hi:PySem.W.findIn K (.ref C) "__init__" = some (some (.ref f))) (hf:PySem.W.typeIn K (.ref f)=some (.type "function"))
    (h:codeAny (model prog w) (A.under (.builtin "type.__call__" ⟨.ref C :: vs,kw⟩)) (.call (.ref f) ⟨.ref (s.heap.objs.size + 1) :: vs,kw⟩) (PySem.W.InitBack (s.heap.objs.size + 1) R)
      { s with heap:=(s.heap.push PySem.W.emptyDict).push (PySem.W.instObj C s.heap.objs.size) }) :
    codeAny (model prog w) A (.call (.ref C) ⟨vs,kw⟩) R s:=by
  obtain ⟨hh,g,d,t,os⟩:=s
  exact PySem.W.make_core (PySem.W.makes_of X hm) (PySem.W.looks_findIn X hi) (fun self=>PySem.W.bind_fn X self hf) (.inl rfl) h
end
def putF (f:Str) (v:V):List (Str × V)→List (Str × V)
  | []=>[(f,v)]
  | (g,x) :: r=>if g=f then (g,v) :: r else (g,x) :: putF f v r
theorem lY (f g:Str) (v:V):∀ fs:List (Str × V),(putF f v fs).lookup g=if g=f then some v else fs.lookup g
  | []=>by
    show List.lookup g [(f,v)]=_
    by_cases h:g=f
    · have hb:(g == f)=true:=beq_iff_eq.mpr h
      simp only [List.lookup,hb,if_pos h]
    · have hb:(g == f)=false:=beq_eq_false_iff_ne.mpr h
      simp only [List.lookup,hb,if_neg h]
  | (k,x) :: r=>by
    have ih:=lY f g v r
    rw [show putF f v ((k,x) :: r)=(if k=f then (k,v) :: r else (k,x) :: putF f v r) from rfl]
    by_cases hk:k=f
    · rw [if_pos hk]
      by_cases h:g=k
      · have hb:(g == k)=true:=beq_iff_eq.mpr h
        simp only [List.lookup,hb,if_pos (h.trans hk)]
      · have hb:(g == k)=false:=beq_eq_false_iff_ne.mpr h
        simp only [List.lookup,hb,if_neg (fun e:g=f=>h (e.trans hk.symm))]
    · rw [if_neg hk]
      by_cases h:g=k
      · have hb:(g == k)=true:=beq_iff_eq.mpr h
        simp only [List.lookup,hb,if_neg (fun e:g=f=>hk (h.symm.trans e))]
      · have hb:(g == k)=false:=beq_eq_false_iff_ne.mpr h
        simp only [List.lookup,hb]
        exact ih
theorem lC (f:Str) (v:V):∀ fs:List (Str × V),f∈(putF f v fs).map (·.1)∧∀ g,g∈fs.map (·.1)→g∈(putF f v fs).map (·.1)
  | []=>⟨by simp [putF],fun g h=>by simp at h⟩
  | (k,x) :: r=>by
    obtain ⟨i1,i2⟩:=lC f v r
    rw [show putF f v ((k,x) :: r)=(if k=f then (k,v) :: r else (k,x) :: putF f v r) from rfl]
    by_cases hk:k=f
    · rw [if_pos hk]
      subst hk
      exact ⟨by simp,fun g h=>by simpa using h⟩
    · rw [if_neg hk]
      refine ⟨?_,fun g h=>?_⟩
      · rw [List.map_cons]
        exact List.mem_cons_of_mem _ i1
      · rw [List.map_cons] at h ⊢
        rcases List.mem_cons.mp h with e | e
        · exact List.mem_cons.mpr (.inl e)
        · exact List.mem_cons_of_mem _ (i2 g e)
theorem l4 (f:Str) (v:V):∀ fs:List (Str × V),(putF f v fs).length≤fs.length + 1
  | []=>by simp [putF]
  | (k,x) :: r=>by
    have ih:=l4 f v r
    rw [show putF f v ((k,x) :: r)=(if k=f then (k,v) :: r else (k,x) :: putF f v r) from rfl]
    by_cases hk:k=f
    · rw [if_pos hk,List.length_cons,List.length_cons]; omega
    · rw [if_neg hk,List.length_cons,List.length_cons]; omega
theorem RelO.some_of {v:V} {o:Option Value} (r:RelO (some v) o):∃ u,o=some u∧RelV v u:=by
  cases o with
  | none=>exact (show False from r).elim
  | some u=>exact ⟨u,rfl,r⟩
theorem RelO.none_of {o:Option Value} (r:RelO none o):o=none:=by
  cases o with
  | none=>rfl
  | some u=>exact (show False from r).elim
theorem wC {v:V} {u:Value} (r:RelV v u):PySem.W.handedIn u=true:=by
  cases v with
  | non=>cases (show u=Value.none from r); rfl
  | bl b=>cases (show u=Value.bool b from r); rfl
  | int i=>obtain ⟨t,e⟩:=(show ∃ t,u=Value.int i t from r); cases e; rfl
  | str x=>obtain ⟨t,e⟩:=(show ∃ t,u=Value.str x t from r); cases e; rfl
  | byt b=>obtain ⟨t,e⟩:=(show ∃ t,u=Value.bytes b t from r); cases e; rfl
  | flt b=>obtain ⟨t,e⟩:=(show ∃ t,u=Value.float b t from r); cases e; rfl
  | ref a=>cases (show u=Value.ref a from r); rfl
  | ty n=>cases (show u=Value.type n from r); rfl
section
variable {P:Program} {w:World} {H H':Hp} {h h':Heap} {a C dx:Addr} {fs fs':List (Str × V)}
theorem qv (hok:HOk P w H h) (e:H a=some (.ins C dx fs)):∃ mA,ObjM h a dx C mA∧(∀ f,RelO (fs.lookup f) (mA f))∧PySem.Within mA (fs.map (·.1))∧fs.length≤1000∧H dx=some (.own a):=by
  obtain ⟨d,z,ne,ob,mA,n,r,q⟩:=(show bN P w H h a (.ins C dx fs) from hok a _ e)
  exact ⟨mA,⟨ob,n,ne⟩,r,q,z,d⟩
end
structure Cls (K:PySem.W.Frag) (C:Addr):Prop where
  pg:PySem.W.plainGet K C Str.empty=true
  hd:PySem.W.hasDictIn K C=true
  po:PySem.W.plainOver K C=true
  sa:PySem.W.findIn K (.ref C) "__setattr__" = some (some (.builtin "object.__setattr__"))
theorem Cls.get {K:PySem.W.Frag} {C:Addr} (c:Cls K C) (f:Str):PySem.W.plainGet K C f=true:=c.pg
def b5 (K:PySem.W.Frag) (C:Addr) (f:Str):Prop:=PySem.W.findIn K (.ref C) f=some none
theorem b5.taker {K:PySem.W.Frag} {C:Addr} {f:Str} (n:b5 K C f):PySem.W.takerIn K C f=some none:=by
  unfold PySem.W.takerIn
  rw [show PySem.W.findIn K (.ref C) f=some none from n]
  rfl
structure Meth (K:PySem.W.Frag) (C:Addr) (m:Str) (f:Addr):Prop where
  at_:PySem.W.findIn K (.ref C) m=some (some (.ref f))
  fn:PySem.W.isFn K (.ref f)=true
  kp:PySem.W.keepIn K (.ref f)=true
section
variable {X:Cx} {pins:List (Addr × Obj)} {σ:St} {H:Hp} {s:Shared} {a C dx:Addr} {fs:List (Str × V)} {f:Str} {v:V} {A:Around} {E:Value→Shared→Prop}
theorem uv {b:Bool} {Q:Value→Shared→Prop} (I:Inv X pins σ H s) (e:H a=some (.ins C dx fs)) (c:Cls X.K C) (n:b5 X.K C f) (l:fs.lookup f=some v)
    (h:∀ u s',Inv X pins σ H s'→RelV v u→Q u s'):wpAny (model X.prog X.w) A (getAttr (.ref a) f b) Q E s:=by
  obtain ⟨mA,O,r,_,_,_⟩:=qv I.hok e
  obtain ⟨u,hu,ru⟩:=RelO.some_of (v:=v) (o:=mA f) (by rw [←l]; exact r f)
  exact zC I.kIn O (c.get f) c.hd n hu (wC ru) (h u _ (I.tok _) ru)
theorem uu {m:Str} {g:Addr} {pl:Sem Bool} {Q:Value × List Value→Shared→Prop} (I:Inv X pins σ H s) (e:H a=some (.ins C dx fs)) (c:Cls X.K C) (k:Meth X.K C m g) (l:fs.lookup m=none)
    (h:Q (.ref g,[.ref a]) s):wpAny (model X.prog X.w) A (getMethod (.ref a) m pl) Q E s:=by
  obtain ⟨mA,O,r,_,_,_⟩:=qv I.hok e
  have hn:mA m=none:=RelO.none_of (by rw [←l]; exact r m)
  exact yt I.kIn O (c.get m) k.at_ k.fn hn h
theorem tN {y:V} {u:Value} {Q:Unit→Shared→Prop} (I:Inv X pins σ H s) (e:H a=some (.ins C dx fs)) (c:Cls X.K C) (n:b5 X.K C f) (hl:fs.length < 1000) (ry:RelV y u)
    (h:∀ s',Inv X pins σ (upd H a (.ins C dx (putF f y fs))) s'→Q () s'):wpAny (model X.prog X.w) A (setAttr (.ref a) f u) Q E s:=by
  obtain ⟨mA,O,r,wi,_,ho⟩:=qv I.hok e
  have hz:(fs.map (·.1)).length≤sizeLine:=by rw [List.length_map,sizeLine_eq]; omega
  refine y9 I.kIn O c.sa c.po n.taker c.hd wi hz fun h' O' sb=>h _ ?_
  have hd:∃ o,h'.get? dx=some o:=let ⟨o,_,_,e',_⟩:=O'.ns; ⟨o,e'⟩
  refine I.write (x:=a) (e:=dx) (by rw [e]; exact True.intro) (.inr ho) (fun b q hb z=>(sb.2 b hb).trans z) hd ?_
  refine ⟨by rw [ai O.ne]; exact ho,?_,O.ne,O'.obj,_,O'.ns,fun g=>?_,fun g hg=>?_⟩
  · have:=l4 f y fs; omega
  · show RelO ((putF f y fs).lookup g) (if g=f then some u else mA g)
    rw [lY]
    by_cases q:g=f
    · rw [if_pos q,if_pos q]; exact ry
    · rw [if_neg q,if_neg q]; exact r g
  · by_cases q:g=f
    · rw [q]; exact (lC f y fs).1
    · refine (lC f y fs).2 g (wi g fun z=>hg ?_)
      show (if g=f then some u else mA g)=none
      rw [if_neg q]; exact z
theorem Inv.made (I:Inv X pins σ H s):Inv X pins σ (upd (upd H s.heap.objs.size (.own (s.heap.objs.size + 1))) (s.heap.objs.size + 1) (.ins C s.heap.objs.size []))
    { s with heap:=(s.heap.push PySem.W.emptyDict).push (PySem.W.instObj C s.heap.objs.size) }:=by
  have e1:(s.heap.push PySem.W.emptyDict).get? s.heap.objs.size=some PySem.W.emptyDict:=Heap.get?_push_size s.heap rfl
  have e2:((s.heap.push PySem.W.emptyDict).push (PySem.W.instObj C s.heap.objs.size)).get? (s.heap.objs.size + 1)=some (PySem.W.instObj C s.heap.objs.size):=by
    have:=Heap.get?_push_size (s.heap.push PySem.W.emptyDict) (o:=PySem.W.instObj C s.heap.objs.size) rfl
    rwa [Heap.size_push] at this
  have e3:(s.heap.push PySem.W.emptyDict).Ns s.heap.objs.size (fun _=>none):=⟨PySem.W.emptyDict,#[],_,e1,rfl,(fun e he=>absurd he (by simp)),fun _=>rfl⟩
  have I1:=I.laid (a:=s.heap.objs.size) (o:=.own (s.heap.objs.size + 1)) (h':=s.heap.push PySem.W.emptyDict) (t':=s.toks) (fun b u q=>Heap.get?_push_of_some _ q) (Nat.le_refl _) ⟨_,e1⟩
  refine I1.laid (a:=s.heap.objs.size + 1) (o:=.ins C s.heap.objs.size []) (t':=s.toks) (fun b u q=>Heap.get?_push_of_some _ q) (Nat.le_of_eq (Heap.size_push _ _)) ?_
  have ne:s.heap.objs.size≠s.heap.objs.size + 1:=Nat.ne_of_lt (Nat.lt_succ_self _)
  refine ⟨by rw [ai ne,ac],Nat.zero_le _,ne,e2,fun _=>none,(Heap.Ns1.of_empty e3).at fun o q=>Heap.get?_push_of_some _ q,fun _=>True.intro,fun y hy=>absurd rfl hy⟩
theorem zK {prog:Program} {w:World} {env:Env} {e:Expr} {f:Str} {pos:Pos} {s:Shared} {Q:Value→Shared→Prop} (hb:attributeBase e f env (eval e env)=eval e env)
    (h:wpAny (model prog w) A (eval e env) (fun o s₁=>wpAny (model prog w) A (getAttr o f true) Q E s₁) E s):wpAny (model prog w) A (eval (.Attribute e f pos) env) Q E s :=
  Attribute_any_ h (by rw [arm_eval_Attribute,hb])
end
def tFld (K:PySem.W.Frag) (ta:TE) (f:Str):TE:=fun σ H Q=>ta σ H fun x H1=>∃ a C dx fs v,x=.ref a∧H1 a=some (.ins C dx fs)∧Cls K C∧b5 K C f∧fs.lookup f=some v∧Q v H1
def sFld (K:PySem.W.Frag) (ta tv:TE) (f:Str):TS:=fun D σ H=>tv σ H fun y H1=>ta σ H1 fun x H2=>∃ a C dx fs,x=.ref a∧H2 a=some (.ins C dx fs)∧Cls K C∧b5 K C f∧fs.length < 1000 ∧
  D.nx σ (upd H2 a (.ins C dx (putF f y fs)))
section
variable {X:Cx} {o e value:Expr} {f:Str} {pos pos' tpos:Pos} {ta tv:TE}
theorem pe_fld (he:PE X e ta) (hb:attributeBase e f X.env (eval e X.env)=eval e X.env):PE X (.Attribute e f pos) (tFld X.K ta f):=by
  intro pins s σ H Q I h
  refine zK hb (thn (he pins s σ H _ I h) fun u s1 ⟨x,H1,I1,rx,a,C,dx,fs,v,ex,ea,c,n,l,q⟩=>?_)
  subst ex
  obtain rfl:u=Value.ref a:=rx
  exact uv I1 ea c n l fun u' s2 I2 ru=>⟨v,H1,I2,ru,q⟩
theorem bU (ha:PE X o ta) (hv:PE X value tv) (hs:swapsWith value (some (.Attribute o f pos')) pos.line X.env=pure false):PS X (.Assign [.Attribute o f pos'] value pos) (sFld X.K ta tv f):=by
  intro pins s σ H D I h
  refine plainObj_wpAny_Assign_Attribute (thn (hv pins s σ H _ I h) fun u s1 ⟨y,H1,I1,ry,q⟩=>thn (ha pins s1 σ H1 _ I1 q) fun ov s2 ⟨x,H2,I2,rx,a,C,dx,fs,ex,ea,c,n,l,q2⟩=>?_) hs
  subst ex
  obtain rfl:ov=Value.ref a:=rx
  exact tN I2 ea c n l ry fun s3 I3=>⟨σ,_,I3,q2⟩
end
section
variable {X:Cx} {pins:List (Addr × Obj)} {σ:St} {H:Hp} {s:Shared} {A:Around} {E:Value→Shared→Prop} {Q:Value→Shared→Prop} {c:Value} {b:Bool}
end
end L2
namespace L2
open PySem PySem.Spec PyProof.Rows
structure Room (k:Nat) (A:Around):Prop where
  hd:A.handled=none
  dp:A.depth + 3 * k + 5 < recursionLimit
  un:A.units + 16 * k + 200 < cLine
theorem Room.mono {j k:Nat} {A:Around} (r:Room k A) (h:j≤k):Room j A:=⟨r.hd,by have:=r.dp; omega,by have:=r.un; omega⟩
theorem Room.deeper {k:Nat} {A:Around} (r:Room (k + 1) A) (env:Env):Room k (A.deeper env) :=
  ⟨r.hd,by have:=r.dp; show A.depth + 1 + 3 * k + 5 < _; omega,by have:=r.un; show A.units + 3 + 16 * k + 200 < _; omega⟩
theorem uh {A:Around} {C:Addr} {us:List Value} {kw:List (Str × Value)}:(A.under (.builtin "type.__call__" ⟨.ref C :: us,kw⟩)).depth=A.depth + 1:=by
  first | rfl | simp [Around.under,Code.weight,Code.isCreation,Code.isGuard,Code.isCaller,Code.frames,Code.isFrame,guardIds]
theorem ug {A:Around} {C:Addr} {us:List Value} {kw:List (Str × Value)}:(A.under (.builtin "type.__call__" ⟨.ref C :: us,kw⟩)).units=A.units + 1:=by
  first | rfl | simp [Around.under,Code.cUnits,Code.frames,Code.isFrame]
theorem Room.make {k:Nat} {A:Around} (r:Room (k + 1) A) (C:Addr) (us:List Value) (kw:List (Str × Value)):Room k (A.under (.builtin "type.__call__" ⟨.ref C :: us,kw⟩)) :=
  ⟨r.hd,by have:=r.dp; rw [uh]; omega,by have:=r.un; rw [ug]; omega⟩
theorem Room.depth {k:Nat} {A:Around} (r:Room k A):A.depth < recursionLimit:=by have:=r.dp; omega
theorem Room.units {k:Nat} {A:Around} (r:Room k A):A.units + 64 < cLine:=by have:=r.un; omega
def tNil:TA:=fun _ H Q=>Q [] H
def kf (ta:TE) (tr:TA):TA:=fun σ H Q=>ta σ H fun x H1=>tr σ H1 fun xs H2=>Q (x :: xs) H2
section
variable {X:Cx} {e:Expr} {es:List Expr} {te:TE} {t:TA} {pos:Pos}
theorem ad:PA X [] tNil:=fun _ _ _ _ H Q I h=>Calls.spliced_nil ⟨[],H,I,.nil,h⟩
theorem aa (ha:PE X e te) (hr:PA X es t) (hs:starEach (e :: es) X.env=(false,eval e X.env) :: starEach es X.env:=by rfl):PA X (e :: es) (kf te t):=by
  intro pos pins s σ H Q I h
  rw [hs]
  show wpAny _ _ (spliced ((false,eval e X.env) :: backTo pos (starEach es X.env))) _ _ s
  refine Calls.spliced_cons (thn (ha pins s σ H _ I h) fun u s1 ⟨x,H1,I1,r1,q1⟩=>?_)
  exact thn (hr pos pins s1 σ H1 _ I1 q1) fun us s2 ⟨xs,H2,I2,r2,q2⟩=>⟨x :: xs,H2,I2,.cons r1 r2,q2⟩
def tTup (t:TA):TE:=fun σ H Q=>t σ H fun xs H1=>xs.length≤sizeLine∧∀ p,H1 p=none→Q (.ref p) (upd H1 p (.tup xs))
def tLst (t:TA):TE:=fun σ H Q=>t σ H fun xs H1=>xs.length≤sizeLine∧∀ p,H1 p=none→Q (.ref p) (upd H1 p (.lst xs))
theorem gU {x1} (h:PA X es t):PE X (.Tuple es x1 pos) (tTup t):=by
  intro pins s σ H Q I hq
  refine wpAny_Tuple_spliced (thn (h pos pins s σ H _ I hq) fun us s1 ⟨xs,H1,I1,r,z,q⟩=>⟨by rw [←r.length]; exact z,?_⟩)
  have hf:H1 s1.heap.objs.size=none:=I1.hok.fresh (Nat.le_refl _)
  refine ⟨.ref s1.heap.objs.size,upd H1 s1.heap.objs.size (.tup xs),I1.laid (t':=s1.toks) (fun b u e=>Heap.get?_push_of_some _ e) (Nat.le_refl _) ?_,rfl,q _ hf⟩
  exact ⟨z,us,r,⟨_,Heap.get?_push_size _ rfl,rfl,_,rfl⟩⟩
theorem aD (h:PA X es t):PE X (.List es pos) (tLst t):=by
  intro pins s σ H Q I hq
  refine wpAny_List_spliced (thn (h pos pins s σ H _ I hq) fun us s1 ⟨xs,H1,I1,r,z,q⟩=>⟨by rw [←r.length]; exact z,?_⟩)
  have hf:H1 s1.heap.objs.size=none:=I1.hok.fresh (Nat.le_refl _)
  refine ⟨.ref s1.heap.objs.size,upd H1 s1.heap.objs.size (.lst xs),I1.laid (t':=s1.toks) (fun b u e=>Heap.get?_push_of_some _ e) (Nat.le_refl _) ?_,rfl,q _ hf⟩
  exact ⟨z,us,0,r,Heap.get?_push_size _ rfl⟩
end
abbrev Sp:=List V→Hp→VK→XK→Prop
abbrev CXT:=List Env→Hp→Shared→XK→Value→Shared→Prop
structure Env0 (P:Program) (w:World) (K:PySem.W.Frag) (mg:Str→Option Value) (base:Heap) (A:Around) (outer:List Env) (s:Shared) (H:Hp):Prop where
  frames:A.frames=some outer
  mod:Mod K mg base
  bs:∀ b o,base.get? b=some o→s.heap.get? b=some o∧H b=none
  bsz:base.objs.size≤s.heap.objs.size
  funs:s.heap.FunFrames base outer
  frf:∀ b∈frs outer,H b=none
  hok:HOk P w H s.heap
  bare:AllBare s.gens
def CE (outer:List Env) (P:Program) (w:World) (H:Hp) (s:Shared) (Q:VK) (u:Value) (s':Shared):Prop :=
  ∃ v H',s'.os=s.os∧AllBare s'.gens∧Un (frs outer) [] H H' s.heap s'.heap∧HOk P w H' s'.heap∧RelV v u∧Q v H'
def CR (CX:CXT) (outer:List Env) (P:Program) (w:World) (H:Hp) (s:Shared) (Q:VK) (E:XK) (r:Result) (s':Shared):Prop :=
  match r with
  | .ok (.ret u)=>CE outer P w H s Q u s'
  | .ok _=>False
  | .error e=>CX outer H s E e s'
structure FnOk (P:Program) (w:World) (K:PySem.W.Frag) (mg:Str→Option Value) (base:Heap) (CX:CXT) (k:Nat) (f:Addr) (fd:FuncData) (ps:List Str) (sp:Sp):Prop where
  len:∀ vs H Q E,sp vs H Q E→vs.length=ps.length
  run:∀ (A:Around) (outer:List Env) (s:Shared) (H:Hp) (args:Args) (us:List Value) (vs:List V) (Q:VK) (E:XK),Room k A→Env0 P w K mg base A outer s H→BindsTo s fd args (ps.zip us)→Vals vs us→sp vs H Q E →
    codeAny (model P w) A (.call (.ref f) args) (CR CX outer P w H s Q E) s
theorem FnOk.mono {P:Program} {w:World} {K:PySem.W.Frag} {mg:Str→Option Value} {base:Heap} {CX:CXT} {j k:Nat} {f:Addr} {fd:FuncData} {ps:List Str} {sp:Sp} (F:FnOk P w K mg base CX j f fd ps sp) (h:j≤k) :
    FnOk P w K mg base CX k f fd ps sp:=⟨F.len,fun A outer s H args us vs Q E hr=>F.run A outer s H args us vs Q E (hr.mono h)⟩
theorem Env0.make {P:Program} {w:World} {K:PySem.W.Frag} {mg:Str→Option Value} {base:Heap} {A:Around} {outer:List Env} {s:Shared} {H:Hp} (e:Env0 P w K mg base A outer s H) (C:Addr) (us:List Value) (kw:List (Str × Value)) :
    Env0 P w K mg base (A.under (.builtin "type.__call__" ⟨.ref C :: us,kw⟩)) outer s H:=⟨by first | exact e.frames | (simpa [Around.under,Code.envs,Code.isFrame,pushEnvs] using e.frames),e.mod,e.bs,e.bsz,e.funs,e.frf,e.hok,e.bare⟩
section
variable {X:Cx} {pins:List (Addr × Obj)} {σ:St} {H:Hp} {s s':Shared}
theorem Inv.env0 (I:Inv X pins σ H s):Env0 X.prog X.w X.K X.mg X.base X.A X.stack s H :=
  ⟨I.ok.frames,I.ok.mod,I.bs,Nat.le_trans I.ok.bsz I.sz,I.stack,I.stkFree,I.hok,I.bare⟩
theorem Inv.after {Q:VK} {u:Value} (I:Inv X pins σ H s) (h:CE X.stack X.prog X.w H s Q u s'):EP X pins σ Q u s':=by
  obtain ⟨v,H',os,bare,un,hok,r,q⟩:=h
  obtain ⟨hh,g,d,t,os'⟩:=s'
  obtain rfl:os'=s.os:=os
  exact ⟨v,H',I.call (h':=hh) (g':=g) (d':=d) (t':=t) (ch:=[]) un hok bare (fun b z=>absurd z (by simp)),r,q⟩
end
def tCall (sp:Sp) (dvs:List V) (E:XK) (t:TA):TE:=fun σ H Q=>t σ H fun vs H1=>sp (vs++dvs) H1 Q E
def tMeth (C:Addr) (m:Str) (sp:Sp) (dvs:List V) (E:XK) (ta:TE) (t:TA):TE:=fun σ H Q=>ta σ H fun x H1=>∃ a dx fs,x=.ref a∧H1 a=some (.ins C dx fs)∧fs.lookup m=none ∧
  t σ H1 fun vs H2=>sp (x :: (vs++dvs)) H2 Q E
def tMake (C:Addr) (sp:Sp) (dvs:List V) (E:XK) (t:TA):TE:=fun σ H Q=>t σ H fun vs H1=>∀ x dx,H1 x=none→H1 dx=none→dx≠x →
  sp (.ref x :: (vs++dvs)) (upd (upd H1 dx (.own x)) x (.ins C dx [])) (fun v H2=>v=.non∧Q (.ref x) H2) E
def aJ (K:PySem.W.Frag) (fd:FuncData) (ps:List Str) (ds:List Value):Prop :=
  ∀ (s:Shared) (us:List Value),K.In s.heap→(us++ds).length=ps.length→BindsTo s fd ⟨us,[]⟩ (ps.zip (us++ds))
theorem aJ.all {K:PySem.W.Frag} {fd:FuncData} {ps:List Str} (h:∀ us:List Value,us.length=ps.length→bindArgs fd ⟨us,[]⟩=pure (ps.zip us)):aJ K fd ps []:=fun s us _ hl=>by
  rw [List.append_nil] at hl ⊢
  exact .of_eq (h us hl)
def j2 (CX:CXT) (X:Cx) (E:XK):Prop:=∀ (pins:List (Addr × Obj)) (σ:St) (H:Hp) (s:Shared) (e:Value) (s':Shared),Inv X pins σ H s→CX X.stack H s E e s'→X.xe e s'
section
variable {X:Cx} {CX:CXT} {k:Nat} {f C:Addr} {fd:FuncData} {ps:List Str} {sp:Sp} {dvs:List V} {ds:List Value} {E:XK} {x m:Str} {p pos apos:Pos} {e o:Expr} {es:List Expr} {ta:TE} {t:TA}
theorem tS {pins:List (Addr × Obj)} {σ:St} {H:Hp} {s:Shared} {Q:VK} {us:List Value} {vs:List V} (F:FnOk X.prog X.w X.K X.mg X.base CX k f fd ps sp) (hr:Room k X.A) (hb:aJ X.K fd ps ds) (hd:Vals dvs ds) (hx:j2 CX X E)
    (I:Inv X pins σ H s) (r:Vals vs us) (h:sp (vs++dvs) H Q E):wpAny (model X.prog X.w) X.A (call (.ref f) us) (EP X pins σ Q) X.xe s:=by
  have r2:Vals (vs++dvs) (us++ds):=r.append hd
  have hl:(us++ds).length=ps.length:=by rw [←r2.length]; exact F.len _ _ _ _ h
  refine wpAny_call (codeAny_mono (F.run X.A X.stack s H ⟨us,[]⟩ (us++ds) (vs++dvs) Q E hr I.env0 (hb s us I.kIn hl) r2 h) fun r s' hq=>?_)
  cases r with
  | error e=>exact hx pins σ H s e s' I hq
  | ok fl =>
    cases fl with
    | ret u=>exact I.after hq
    | next=>exact False.elim hq
    | brk=>exact False.elim hq
    | cont=>exact False.elim hq
theorem zg (F:FnOk X.prog X.w X.K X.mg X.base CX k f fd ps sp) (hr:Room k X.A) (hg:Gl X x) (hm:X.mg x=some (.ref f)) (hk:PySem.W.keepIn X.K (.ref f)=true) (hb:aJ X.K fd ps ds) (hd:Vals dvs ds) (hx:j2 CX X E)
    (ha:PA X (e :: es) t) (hdb:(x == ("__debug__" : Str))=false:=by decide) (he:starEach (e :: es) X.env=(false,eval e X.env) :: starEach es X.env:=by rfl) (hpl:(backTo pos (starEach es X.env)).any (·.1)=false:=by rfl) :
    PE X (.Call (.Name x p) (e :: es) [] pos) (tCall sp dvs E t):=by
  intro pins s σ H Q I h
  refine wpAny_Call_Name_kw (mz I hg hm ?_ hdb)
  refine PySem.W.callWith_K (h₀:=X.base) I.ok.mod.kin hk (thn (ha pos pins s σ H _ I h) fun us s1 ⟨vs,H1,I1,r,q⟩=>⟨I1.kIn,?_⟩) he hpl
  exact tS F hr hb hd hx I1 r q
theorem ze {pl:Sem Bool} (he:PE X o ta) (c:Cls X.K C) (hm:Meth X.K C m f) (F:FnOk X.prog X.w X.K X.mg X.base CX k f fd ps sp) (hr:Room k X.A) (hb:aJ X.K fd ps ds) (hd:Vals dvs ds) (hx:j2 CX X E) (ha:PA X (e :: es) t)
    (hst:starEach (e :: es) X.env=(false,eval e X.env) :: starEach es X.env:=by rfl) (hpl:(backTo pos (starEach es X.env)).any (·.1)=false:=by rfl)
    (ht:eval (.Call (.Attribute o m apos) (e :: es) [] pos) X.env=(do
      let ov ← eval o X.env
      standAt apos.atName
      let (f,first) ← holding [ov] (getMethod ov m pl)
      callWith pos f first (backTo pos (starEach (e :: es) X.env)) (backToKw pos (keywordEach [] X.env))):=by rfl) :
    PE X (.Call (.Attribute o m apos) (e :: es) [] pos) (tMeth C m sp dvs E ta t):=by
  intro pins s σ H Q I h
  refine PySem.W.methodCall_KW (pl:=pl) (thn (he pins s σ H _ I h) fun u s1 ⟨x,H1,I1,rx,a,dx,fs,ex,ea,l,q⟩=>?_) ht
  subst ex
  obtain rfl:u=Value.ref a:=rx
  refine uu I1 ea c hm l ?_
  refine PySem.W.callWith_K (first:=[.ref a]) (h₀:=X.base) I.ok.mod.kin hm.kp (thn (ha pos pins s1 σ H1 _ I1 q) fun us s2 ⟨vs,H2,I2,r,q2⟩=>⟨I2.kIn,?_⟩) hst hpl
  exact tS (us:=.ref a :: us) (vs:=.ref a :: vs) F hr hb hd hx I2 (.cons rfl r) q2
structure Mk (K:PySem.W.Frag) (C f:Addr):Prop where
  makes:PySem.W.makesIn K C=true
  init:PySem.W.findIn K (.ref C) "__init__" = some (some (.ref f))
  fn:PySem.W.isFn K (.ref f)=true
  kp:PySem.W.keepIn K (.ref C)=true
theorem rq {pins:List (Addr × Obj)} {σ:St} {H:Hp} {s:Shared} {Q:VK} {us:List Value} {vs:List V} (M:Mk X.K C f) (F:FnOk X.prog X.w X.K X.mg X.base CX k f fd ps sp) (hr:Room (k + 1) X.A) (hb:aJ X.K fd ps ds) (hd:Vals dvs ds)
    (hx:j2 CX X E) (I:Inv X pins σ H s) (r:Vals vs us)
    (h:∀ x dx,H x=none→H dx=none→dx≠x→sp (.ref x :: (vs++dvs)) (upd (upd H dx (.own x)) x (.ins C dx [])) (fun v H2=>v=.non∧Q (.ref x) H2) E) :
    wpAny (model X.prog X.w) X.A (call (.ref C) us) (EP X pins σ Q) X.xe s:=by
  have hq:=h (s.heap.objs.size + 1) s.heap.objs.size (I.hok.fresh (Nat.le_succ _)) (I.hok.fresh (Nat.le_refl _)) (Nat.ne_of_lt (Nat.lt_succ_self _))
  have I2:=Inv.made (C:=C) I
  have r2:Vals (V.ref (s.heap.objs.size + 1) :: (vs++dvs)) (Value.ref (s.heap.objs.size + 1) :: (us++ds)):=.cons rfl (r.append hd)
  have hl:(Value.ref (s.heap.objs.size + 1) :: us++ds).length=ps.length:=by
    have e:=r2.length
    rw [F.len _ _ _ _ hq] at e
    exact e.symm
  refine wpAny_call (yc (f:=f) I.kIn M.makes M.init (beq_iff_eq.mp M.fn) (codeAny_mono (F.run _ X.stack _ _ ⟨Value.ref (s.heap.objs.size + 1) :: us,[]⟩ (Value.ref (s.heap.objs.size + 1) :: (us++ds)) _ _ E (hr.make C us [])
    (I2.env0.make C us []) (hb _ (Value.ref (s.heap.objs.size + 1) :: us) I2.kIn hl) r2 hq) fun r s' hq'=>?_))
  cases r with
  | error e=>exact hx pins σ _ _ e s' I2 hq'
  | ok fl =>
    cases fl with
    | ret u =>
      obtain ⟨v,H',I3,rv,ev,q3⟩:=I2.after hq'
      subst ev
      exact ⟨rv,⟨V.ref (s.heap.objs.size + 1),H',I3,rfl,q3⟩⟩
    | next=>exact False.elim hq'
    | brk=>exact False.elim hq'
    | cont=>exact False.elim hq'
theorem qg (M:Mk X.K C f) (F:FnOk X.prog X.w X.K X.mg X.base CX k f fd ps sp) (hr:Room (k + 1) X.A) (hg:Gl X x) (hm:X.mg x=some (.ref C)) (hb:aJ X.K fd ps ds) (hd:Vals dvs ds) (hx:j2 CX X E)
    (ha:PA X (e :: es) t) (hdb:(x == ("__debug__" : Str))=false:=by decide) (he:starEach (e :: es) X.env=(false,eval e X.env) :: starEach es X.env:=by rfl) (hpl:(backTo pos (starEach es X.env)).any (·.1)=false:=by rfl) :
    PE X (.Call (.Name x p) (e :: es) [] pos) (tMake C sp dvs E t):=by
  intro pins s σ H Q I h
  refine wpAny_Call_Name_kw (mz I hg hm ?_ hdb)
  refine PySem.W.callWith_K (h₀:=X.base) I.ok.mod.kin M.kp (thn (ha pos pins s σ H _ I h) fun us s1 ⟨vs,H1,I1,r,q⟩=>⟨I1.kIn,?_⟩) he hpl
  exact rq M F hr hb hd hx I1 r q
theorem rE (M:Mk X.K C f) (F:FnOk X.prog X.w X.K X.mg X.base CX k f fd ps sp) (hr:Room (k + 1) X.A) (hg:Gl X x) (hm:X.mg x=some (.ref C)) (hb:aJ X.K fd ps ds) (hd:Vals dvs ds) (hx:j2 CX X E)
    (hdb:(x == ("__debug__" : Str))=false:=by decide):PE X (.Call (.Name x p) [] [] pos) (tMake C sp dvs E tNil):=by
  intro pins s σ H Q I h
  refine wpAny_Call_Name_kw (mz I hg hm ?_ hdb)
  exact PySem.W.callWith_K0 I.kIn M.kp (rq (us:=[]) M F hr hb hd hx I .nil h)
end
section
variable {X:Cx} {CX:CXT} {k:Nat} {f C:Addr} {fd:FuncData} {ps ks:List Str} {sp:Sp} {E:XK} {x m:Str} {p pos apos kpos:Pos} {e o:Expr} {es:List Expr} {kws:List Keyword} {te ta:TE} {t tk:TA} {nm:Option Str}
variable {g:List Value→List Value→List Value} {gV:List V→List V→List V}
end
structure az (N P:List Str) (sc:Scope):Prop where
  kind:sc.kind=.function
  co:sc.isCoroutine=false
  gen:sc.isGenerator=false
  nd:N.Nodup
  pre:N.take P.length=P
  par:∀ x∈P,sc.names.lookup x=some .local∨sc.names.lookup x=some .cell
  nofree:∀ y∈sc.names,y.2≠.free
theorem pQ {kindOf:Str→Option NameKind} {x:Str}:∀ {binds:List (Str × Value)} {m:Str→Option Value},(∀ v,(x,v)∉binds)→bindL kindOf binds m x=m x
  | [],_,_=>rfl
  | (n,v) :: r,m,h=>by
    unfold bindL
    rw [pQ fun w hw=>h w (List.mem_cons_of_mem _ hw)]
    split
    · have:x≠n:=by rintro rfl; exact h v List.mem_cons_self
      simp [this]
    · rfl
theorem pS {kindOf:Str→Option NameKind} {x:Str}:∀ {binds:List (Str × Value)} {m:Str→Option Value},(∀ v,(x,v)∉binds)→bindC kindOf binds m x=m x
  | [],_,_=>rfl
  | (n,v) :: r,m,h=>by
    unfold bindC
    rw [pS fun w hw=>h w (List.mem_cons_of_mem _ hw)]
    split
    · rfl
    · have:x≠n:=by rintro rfl; exact h v List.mem_cons_self
      simp [this]
theorem pR {kindOf:Str→Option NameKind} {x:Str} {v:Value}:∀ {P:List Str} {vs:List Value} {i:Nat} {m:Str→Option Value},P.Nodup→P[i]?=some x→vs[i]?=some v→kindOf x=some .local →
    bindL kindOf (P.zip vs) m x=some v
  | [],_,_,_,_,h,_,_=>by simp at h
  | _ :: _,[],_,_,_,_,h,_=>by simp at h
  | p :: P,w :: vs,0,m,nd,h1,h2,hk=>by
    simp at h1 h2; subst h1; subst h2
    show bindL kindOf ((p,w) :: P.zip vs) m p=_
    unfold bindL
    rw [pQ fun v hv=>(List.nodup_cons.mp nd).1 (List.of_mem_zip hv).1,if_pos hk]
    simp
  | p :: P,w :: vs,i + 1,m,nd,h1,h2,hk=>by
    show bindL kindOf ((p,w) :: P.zip vs) m x=_
    unfold bindL
    exact pR (i:=i) (List.nodup_cons.mp nd).2 (by simpa using h1) (by simpa using h2) hk
theorem pT {kindOf:Str→Option NameKind} {x:Str} {v:Value}:∀ {P:List Str} {vs:List Value} {i:Nat} {m:Str→Option Value},P.Nodup→P[i]?=some x→vs[i]?=some v→kindOf x≠some .local →
    bindC kindOf (P.zip vs) m x=some v
  | [],_,_,_,_,h,_,_=>by simp at h
  | _ :: _,[],_,_,_,_,h,_=>by simp at h
  | p :: P,w :: vs,0,m,nd,h1,h2,hk=>by
    simp at h1 h2; subst h1; subst h2
    show bindC kindOf ((p,w) :: P.zip vs) m p=_
    unfold bindC
    rw [pS fun v hv=>(List.nodup_cons.mp nd).1 (List.of_mem_zip hv).1,if_neg hk]
    simp
  | p :: P,w :: vs,i + 1,m,nd,h1,h2,hk=>by
    show bindC kindOf ((p,w) :: P.zip vs) m x=_
    unfold bindC
    exact pT (i:=i) (List.nodup_cons.mp nd).2 (by simpa using h1) (by simpa using h2) hk
def start (N:List Str) (vs:List V):St:=vs.map some++List.replicate (N.length - vs.length) none
def cxOf (CX:CXT) (P:Program) (w:World) (K:PySem.W.Frag) (mg:Str→Option Value) (base:Heap) (N:List Str) (qual:Str) (scope:Scope) (f:Addr) (cd:Value) (A:Around) (outer:List Env) (s:Shared) (H:Hp) (E:XK):Cx where
  prog:=P
  w:=w
  K:=K
  mg:=mg
  base:=base
  A:=A.deeper (envOfC qual scope s.heap.objs.size f cd)
  N:=N
  s_0:=s
  H_0:=H
  env:=envOfC qual scope s.heap.objs.size f cd
  outer:=outer
  stack:=envOfC qual scope s.heap.objs.size f cd :: outer
  ex:=[]
  calm:=true
  fn:=fun _=>true
  pn:=[]
  xe:=fun e s'=>wpAny (model P w) (A.deeper (envOfC qual scope s.heap.objs.size f cd)) (leaving (envOfC qual scope s.heap.objs.size f cd) e) (fun _ s''=>CX outer H s E e s'') (fun e' s''=>CX outer H s E e' s'') s'
theorem sI {sc:Scope} {n:Nat} {x:Str} (h:sc.names.lookup x=some .cell):∃ c,(cellsFrom n sc.names []).lookup x=some c:=by
  have q:=PySem.W.cellsFrom_some sc.names n [] (.inl h)
  exact Option.isSome_iff_exists.mp q
theorem wv {CX:CXT} {P:Program} {w:World} {K:PySem.W.Frag} {mg:Str→Option Value} {base:Heap} {N ps:List Str} {qual:Str} {scope:Scope} {f:Addr} {cd:Value} {A:Around} {outer:List Env} {s s1:Shared} {H:Hp} {E:XK} {us:List Value} {vs:List V}
    (S:az N ps scope) (hd:A.handled=none) (e0:Env0 P w K mg base A outer s H) (hl:vs.length=ps.length) (r:Vals vs us)
    (x:InCallC s s.heap.objs.size (bindL (envOfC qual scope s.heap.objs.size f cd).kindOf (ps.zip us) fun _=>none) (cellsFrom (s.heap.objs.size + 1) scope.names []) (bindC (envOfC qual scope s.heap.objs.size f cd).kindOf (ps.zip us) fun _=>none) s1) :
    Inv (cxOf CX P w K mg base N qual scope f cd A outer s H E) [] (start N vs) H s1:=by
  have hpl:ps.length≤N.length:=by have:=congrArg List.length S.pre; rw [List.length_take] at this; omega
  obtain ⟨h1,tk,rfl,hk⟩:=x.done
  have noA:∀ b:Addr,b∉(cxOf CX P w K mg base N qual scope f cd A outer s H E).ex:=fun b z=>absurd (show b∈([]:List Addr) from z) (by simp)
  refine ⟨⟨e0.mod,S.kind,rfl,rfl,Nat.le_refl _,fun y z c h1 h2=>?_,fun y hy=>?_,fun y c _ h=>?_,fun _=>hd,Around.frames_deeper e0.frames,.inr ⟨rfl,rfl⟩,fun b z=>absurd z (noA b),e0.bs,e0.bsz,fun b _ _=>noA b,fun b z=>absurd z (noA b),e0.funs,e0.frf⟩,
    rfl,e0.bare,Un.kept hk,⟨_,x.toInCall.ns,fun i y v h1 h2 h3=>?_⟩,fun y c h=>⟨_,x.cell y c h⟩,e0.hok.fresh (Nat.le_refl _),fun y c h=>?_,fun p hp=>absurd (show p∈([]:List (Addr × Obj)) from hp) (by simp),e0.hok.kept hk,?_⟩
  · exact name_of_addr x.apart (PySem.mem_of_lookup h1) (PySem.mem_of_lookup h2)
  · have hy:scope.names.lookup y=some .cell∨scope.names.lookup y=some .free:=hy
    rcases hy with hy | hy
    · exact sI hy
    · exact absurd rfl (S.nofree _ (PySem.mem_of_lookup hy))
  · exact Nat.le_of_lt (x.above y c (PySem.mem_of_lookup h))
  · have hi:i < vs.length:=by
      unfold start at h2
      by_cases hi:i < vs.length
      · exact hi
      · rw [List.getElem?_append_right (by simpa using hi)] at h2
        rw [List.getElem?_replicate] at h2
        split at h2 <;> cases h2
    have ha:vs[i]?=some v:=by
      unfold start at h2
      rw [List.getElem?_append_left (by simpa using hi),List.getElem?_map] at h2
      cases e:vs[i]? with
      | none=>rw [e] at h2; cases h2
      | some a=>rw [e] at h2; cases h2; rfl
    obtain ⟨u,hu,rv⟩:=r.get ha
    have hp:ps[i]?=some y:=by
      rw [←S.pre,List.getElem?_take_of_lt (by omega)]; exact h1
    have ndP:ps.Nodup:=by rw [←S.pre]; exact S.nd.sublist (List.take_sublist _ _)
    refine ⟨u,rv,?_⟩
    rcases S.par y (List.mem_of_getElem? hp) with k | k
    · exact .inl ⟨k,pR ndP hp hu k⟩
    · obtain ⟨c,e⟩:=sI (n:=s.heap.objs.size + 1) k
      refine .inr ⟨.inl k,c,e,?_⟩
      have q:=x.cell y c e
      rw [pT ndP hp hu (by show scope.names.lookup y≠_; rw [k]; decide)] at q
      exact q
  · exact e0.hok.fresh (Nat.le_of_lt (x.above y c (PySem.mem_of_lookup h)))
  · unfold start
    show _=N.length
    rw [List.length_append,List.length_map,List.length_replicate]
    omega
theorem fn_of {CX:CXT} {P:Program} {w:World} {K:PySem.W.Frag} {mg:Str→Option Value} {base:Heap} {k:Nat} {f:Addr} {name qual:Str} {params:Arguments} {body:List Stmt} {scope:Scope} {dV kV doc pm cdv ct oc:Value} {an od:Option Addr}
    {osl:Array (Option Value)} {N ps:List Str} {sp:Sp} (lk:K.lookup f=some ⟨oc,od,.func (PySem.W.fnOf name qual params body scope dV kV doc pm an cdv ct),osl⟩) (hcd:PySem.W.codeIn K cdv qual=true) (S:az N ps scope)
    (len:∀ vs H Q E,sp vs H Q E→vs.length=ps.length)
    (hbody:∀ (A:Around) (outer:List Env) (s:Shared) (H:Hp) (vs:List V) (Q:VK) (E:XK),Room k (A.deeper (envOfC qual scope s.heap.objs.size f cdv))→sp vs H Q E →
      ∃ t,PSs (cxOf CX P w K mg base N qual scope f cdv A outer s H E) body t∧t { nx:=fun _ H'=>Q .non H',rt:=Q } (start N vs) H) :
    FnOk P w K mg base CX (k + 1) f (PySem.W.fnOf name qual params body scope dV kV doc pm an cdv ct) ps sp:=by
  refine ⟨len,fun A outer s H args us vs Q E hr e0 hb r hsp=>?_⟩
  have hl:=len _ _ _ _ hsp
  have KX:K.In s.heap:=e0.mod.kin.keeps fun b o e=>(e0.bs b o e).1
  have lim:s.heap.NoLimit:=e0.mod.nolimit.keeps fun b o e=>(e0.bs b o e).1
  have hkind:∀ y∈ps.zip us,scope.names.lookup y.1=some .local∨(scope.names.lookup y.1=some .cell∧((cellsFrom (s.heap.objs.size + 1) scope.names []).lookup y.1).isSome=true):=fun ⟨n,v⟩ hy=>by
    rcases S.par n (List.of_mem_zip hy).1 with q | q
    · exact .inl q
    · exact .inr ⟨q,PySem.W.cellsFrom_some _ _ _ (.inl q)⟩
  refine codeAny_call_function hr.depth (KX _ _ lk) rfl S.co S.gen rfl (PySem.W.codeRec_of KX hcd) (hb _ _ _ _ ?_)
  refine wpAny_newFunctionEnv_cells S.kind hkind fun env he s1 x=>?_
  subst he
  refine ⟨lim.keeps x.toInCall.keep,codeAny_func ?_⟩
  obtain ⟨t,ht,hq⟩:=hbody A outer s H vs Q E (hr.deeper _) hsp
  have I:Inv (cxOf CX P w K mg base N qual scope f cdv A outer s H E) [] (start N vs) H s1:=wv S hr.hd e0 hl r x
  refine wpAny_mono (ht [] s1 (start N vs) H _ I hq) (fun fl s' hs=>?_) fun e s' hs=>hs
  have fin:∀ {σ':St} {H':Hp} {v:V} {u:Value},Inv (cxOf CX P w K mg base N qual scope f cdv A outer s H E) [] σ' H' s'→RelV v u→Q v H'→CE outer P w H s Q u s' :=
    fun {σ' H' v u} J rv q=>⟨v,H',J.os,J.bare,J.base,J.hok,rv,q⟩
  cases fl with
  | ret u =>
    obtain ⟨v,σ',H',J,rv,q⟩:=hs
    exact fin J rv q
  | next =>
    obtain ⟨σ',H',J,q⟩:=hs
    exact fin (v:=V.non) (u:=Value.none) J rfl q
  | brk =>
    obtain ⟨_,_,_,q⟩:=hs
    exact False.elim q
  | cont =>
    obtain ⟨_,_,_,q⟩:=hs
    exact False.elim q
end L2
namespace L2
open PySem PySem.Spec PyProof.Rows
section
variable {X:Cx} {x:Str} {p pos:Pos} {e:Expr} {es:List Expr} {t:TA} {id T:String} {r:List V→Hp→VK→Prop}
def tCB (r:List V→Hp→VK→Prop) (t:TA):TE:=fun σ H Q=>t σ H fun vs H1=>r vs H1 Q
theorem aE (hc:fR X (.builtin id) r) (hg:Gl X x) (hm:X.mg x=none) (hv:bootBuiltins x=some (.builtin id)) (ha:PA X (e :: es) t) (hn:x ≠ "__name__" := by decide) (hdb:(x == ("__debug__" : Str))=false:=by decide)
    (he:starEach (e :: es) X.env=(false,eval e X.env) :: starEach es X.env:=by rfl) (hpl:(backTo pos (starEach es X.env)).any (·.1)=false:=by rfl):PE X (.Call (.Name x p) (e :: es) [] pos) (tCB r t):=by
  intro pins s σ H Q I h
  refine wpAny_Call_Name_kw (g6 I hg hm hv ?_ hn hdb)
  exact PyProof.Rows.callWith_builtin1 (thn (ha pos pins s σ H _ I h) fun us s1 ⟨vs,H1,I1,r1,q1⟩=>hc pins s1 σ H1 vs us Q I1 r1 q1) he hpl
theorem cM (hc:fR X (.type T) r) (hg:Gl X x) (hm:X.mg x=none) (hv:bootBuiltins x=some (.type T)) (ha:PA X (e :: es) t) (hn:x ≠ "__name__" := by decide) (hdb:(x == ("__debug__" : Str))=false:=by decide)
    (he:starEach (e :: es) X.env=(false,eval e X.env) :: starEach es X.env:=by rfl) (hpl:(backTo pos (starEach es X.env)).any (·.1)=false:=by rfl):PE X (.Call (.Name x p) (e :: es) [] pos) (tCB r t):=by
  intro pins s σ H Q I h
  refine wpAny_Call_Name_kw (g6 I hg hm hv ?_ hn hdb)
  exact PyProof.Rows.callWith_type1 (thn (ha pos pins s σ H _ I h) fun us s1 ⟨vs,H1,I1,r1,q1⟩=>hc pins s1 σ H1 vs us Q I1 r1 q1) he hpl
end
end L2
namespace HT
open PySem PyProof.Rows
section
open PySem.SeqAt
open PySem.AutoSeq1 (wpAny_loadPart')
open PySem.MeetsSeq PySem.MeetsSeq2 PySem.MeetsSeq3
end
section
variable {prog:Program} {w:World} {A:Around} {E:Value→Shared→Prop} {s:Shared}
def sIx (n d:Nat):Option Int→Nat
  | none=>d
  | some v=>if v < 0 then (v + (n:Int)).toNat else min v.toNat n
end
end HT
namespace L2
open PySem PySem.Spec PyProof.Rows
abbrev TO:=St→Hp→(Option Int→Hp→Prop)→Prop
def PO (X:Cx) (e:Option Expr) (t:TO):Prop :=
  ∀ (pins:List (Addr × Obj)) (s:Shared) (σ:St) (H:Hp) (Q:Option Int→Hp→Prop),Inv X pins σ H s→t σ H Q →
    wpAny (model X.prog X.w) X.A (evalPart e X.env) (fun u s'=>∃ o H',Inv X pins σ H' s'∧IsPart u o∧Q o H') X.xe s
def tPart (t:TE):TO:=fun σ H Q=>t σ H fun x H1=>∃ i,x=.int i∧Q (some i) H1
section
variable {X:Cx} {e:Expr} {te:TE} {lo hi:Option Expr} {tl th:TO} {pos p2:Pos}
theorem mx (h:PE X e te):PO X (some e) (tPart te):=by
  intro pins s σ H Q I hw
  rw [evalPart_some]
  refine thn (h pins s σ H _ I hw) fun u s1 ⟨x,H1,I1,r1,q1⟩=>?_
  obtain ⟨i,rfl,q⟩:=q1
  obtain ⟨t,rfl⟩:=r1
  exact ⟨some i,H1,I1,.int i t,q⟩
def SlR (X:Cx) (r:V→Option Int→Option Int→Hp→VK→Prop):Prop :=
  ∀ (pins:List (Addr × Obj)) (s:Shared) (σ:St) (H:Hp) (x:V) (v vl vu:Value) (lo hi:Option Int) (sl:Addr) (Q:VK),Inv X pins σ H s→RelV x v→s.heap.IsSliceOf sl vl vu .none→IsPart vl lo→IsPart vu hi→r x lo hi H Q →
    ∃ T id,typeLookup (.type T) "__getitem__" = pure (some (.builtin id))∧s.TypeIs v T∧wpAny (model X.prog X.w) X.A (getItem v (.ref sl)) (EP X pins σ Q) X.xe s
def tSl (r:V→Option Int→Option Int→Hp→VK→Prop) (te:TE) (tl th:TO):TE:=fun σ H Q=>te σ H fun x H1=>tl σ H1 fun l H2=>th σ H2 fun u H3=>r x l u H3 Q
theorem rD {r:V→Option Int→Option Int→Hp→VK→Prop} (hr:SlR X r) (he:PE X e te) (hl:PO X lo tl) (hu:PO X hi th):PE X (.Subscript e (.Slice lo hi none p2) pos) (tSl r te tl th):=by
  intro pins s σ H Q I h
  refine Subscript_ (thn (he pins s σ H _ I h) fun v s1 ⟨x,H1,I1,r1,q1⟩=>?_)
  refine wpAny_Slice (thn (hl pins s1 σ H1 _ I1 q1) fun vl s2 ⟨l,H2,I2,pl,q2⟩=>thn (hu pins s2 σ H2 _ I2 q2) fun vu s3 ⟨u,H3,I3,pu,q3⟩=>?_)
  rw [evalPart_none]
  refine wpAny_pure ?_
  have I4:Inv X pins σ H3 { s3 with heap:=s3.heap.push { cls:=.type "slice",data:=.fields #[vl,vu,.none] } }:=I3.kept (t':=s3.toks) fun b ob q=>Heap.get?_push_of_some _ q
  obtain ⟨T,id,hT,ht,hg⟩:=hr pins { s3 with heap:=s3.heap.push { cls:=.type "slice",data:=.fields #[vl,vu,.none] } } σ H3 x v vl vu l u s3.heap.objs.size Q I4 r1 (Heap.IsSliceOf.new ..) pl pu q3
  show wpAny (model X.prog X.w) X.A (subscriptTail e (.Slice lo hi none p2) v (.ref s3.heap.objs.size)) (EP X pins σ Q) X.xe { s3 with heap:=s3.heap.push { cls:=.type "slice",data:=.fields #[vl,vu,.none] } }
  exact tail_any (ops:=[.ref s3.heap.objs.size,v]) ht hT hg (by with_unfolding_all rfl)
def cutV (xs:List V) (lo hi:Option Int):List V:=(xs.drop (HT.sIx xs.length 0 lo)).take (HT.sIx xs.length xs.length hi - HT.sIx xs.length 0 lo)
theorem sG (xs:List V) (lo hi:Option Int):(cutV xs lo hi).length≤xs.length:=by
  unfold cutV
  rw [List.length_take,List.length_drop]
  omega
end
end L2
namespace L2
open PySem PySem.Spec PyProof.Rows
def ixN (n:Nat) (i:Int):Option Nat:=if 0≤i then (if i < n then some i.toNat else none) else if -(n:Int)≤i then some (i + n).toNat else none
def atI {α:Type} (xs:List α) (i:Int):Option α:=(ixN xs.length i).bind fun j=>xs[j]?
theorem vj {n:Nat} {i:Int} {j:Nat} (h:ixN n i=some j):seqIndex? i n=some j∧j < n∧-(n:Int)≤i∧i < n:=by
  unfold ixN at h
  by_cases h0:0≤i
  · rw [if_pos h0] at h
    by_cases h1:i < n
    · rw [if_pos h1] at h
      have e:i.toNat=j:=Option.some.inj h
      exact ⟨by rw [seqIndex_of h0 h1,e],by omega,by omega,h1⟩
    · rw [if_neg h1] at h; cases h
  · rw [if_neg h0] at h
    by_cases h1:-(n:Int)≤i
    · rw [if_pos h1] at h
      have e:(i + n).toNat=j:=Option.some.inj h
      exact ⟨by rw [seqIndex_neg (by omega) h1,e],by omega,h1,by omega⟩
    · rw [if_neg h1] at h; cases h
theorem qO {α:Type} {xs:List α} {i:Int} {v:α} (h:atI xs i=some v):∃ j,seqIndex? i xs.length=some j∧xs[j]?=some v∧j < xs.length∧-(xs.length:Int)≤i∧i < xs.length:=by
  unfold atI at h
  cases e:ixN xs.length i with
  | none=>rw [e] at h; cases h
  | some j =>
    rw [e] at h
    obtain ⟨h1,h2,h3,h4⟩:=vj e
    exact ⟨j,h1,h,h2,h3,h4⟩
theorem aY {α:Type} {xs:List α} {j:Nat} {v:α} (h:xs[j]?=some v):atI xs (j:Int)=some v:=by
  have hj:j < xs.length:=(List.getElem?_eq_some_iff.mp h).1
  have e:ixN xs.length (j:Int)=some j:=by
    unfold ixN
    rw [if_pos (by omega),if_pos (by omega)]; simp
  unfold atI; rw [e]; exact h
def zM (b:Expr):Prop:=∀ o i,subscripted b false o i=operate [o,i] (getItem o i)
def IxR (X:Cx) (r:R2):Prop :=
  ∀ (value slice:Expr) (pins:List (Addr × Obj)) (s:Shared) (σ:St) (H:Hp) (x y:V) (v u:Value) (Q:VK),Inv X pins σ H s→RelV x v→RelV y u→r x y H Q →
    subscripted slice false v u=operate [v,u] (getItem v u)→wpAny (model X.prog X.w) X.A (subscriptTail value slice v u) (EP X pins σ Q) X.xe s
def MtR (X:Cx) (id:String) (r:V→List V→Hp→VK→Prop):Prop :=
  ∀ (pins:List (Addr × Obj)) (s:Shared) (σ:St) (H:Hp) (x:V) (xs:List V) (v:Value) (us:List Value) (Q:VK),Inv X pins σ H s→RelV x v→Vals xs us→r x xs H Q →
    wpAny (model X.prog X.w) X.A (call (.builtin id) (v :: us)) (EP X pins σ Q) X.xe s
section
variable {X:Cx} {a b:Expr} {ta tb:TE} {pos:Pos}
theorem ay {r:R2} (hr:IxR X r) (ha:PE X a ta) (hb:PE X b tb) (hs:zM b):PE X (.Subscript a b pos) (tOp r ta tb):=by
  intro pins s σ H Q I h
  exact Subscript_ (binT ha hb I h fun v u s2 x y H2 I2 rx ry q=>hr a b pins s2 σ H2 x y v u Q I2 rx ry q (hs _ _))
def rIxL (K:PySem.W.Frag):R2:=fun x y H Q=>∃ p xs i v,x=.ref p∧y=.int i∧SqL K H p xs∧atI xs i=some v∧Q v H
def rIxT (K:PySem.W.Frag):R2:=fun x y H Q=>∃ p xs i v,x=.ref p∧y=.int i∧SqT K H p xs∧atI xs i=some v∧Q v H
def rIxS:R2:=fun x y H Q=>∃ z i c,x=.str z∧y=.int i∧z.length≤sizeLine∧atI z.cps.toList i=some c∧Q (.str ⟨#[c]⟩) H
theorem zy:IxR X (rIxL X.K):=by
  intro value slice pins s σ H x y v u Q I rx ry h hs
  obtain ⟨p,xs,i,z,rfl,rfl,hq,he,q⟩:=h
  cases rx
  obtain ⟨t,rfl⟩:=ry
  obtain ⟨its,r,pl,hz⟩:=I.list hq
  obtain ⟨j,h1,h2,h3,h4,h5⟩:=qO he
  obtain ⟨w,ew,rw'⟩:=r.get h2
  have hl:=r.length
  have hn:=jU
  have fin:EP X pins σ Q w s:=⟨z,H,I,rw',q⟩
  by_cases h0:0≤i
  · have hj:i.toNat=j:=by
      rw [seqIndex_of h0 h5] at h1
      exact Option.some.inj h1
    exact item_listR pl.isList h0 (by omega) (by rw [hj]; simpa using ew) fin hs
  · have hj:(i + (its.toArray.size:Int)).toNat=j:=by
      rw [seqIndex_neg (by omega) h4] at h1
      rw [List.size_toArray,←hl]
      exact Option.some.inj h1
    exact subscriptTail_builtinR (x:=w) pl.isList.typeIs slot_list_getitem.lookup
      (wpAny_getItem_list_neg (Q:=fun r s'=>r=w∧EP X pins σ Q r s') pl.isList (by omega) (by rw [List.size_toArray] <;> omega) (by omega) (by rw [hj]; simpa using ew) ⟨rfl,fin⟩) hs
theorem ix_tup:IxR X (rIxT X.K):=by
  intro value slice pins s σ H x y v u Q I rx ry h hs
  obtain ⟨p,xs,i,z,rfl,rfl,hq,he,q⟩:=h
  cases rx
  obtain ⟨t,rfl⟩:=ry
  obtain ⟨its,r,pl,hz⟩:=I.tuple hq
  obtain ⟨j,h1,h2,h3,h4,h5⟩:=qO he
  obtain ⟨w,ew,rw'⟩:=r.get h2
  have hl:=r.length
  have hn:=jU
  have fin:EP X pins σ Q w s:=⟨z,H,I,rw',q⟩
  exact subscriptTail_builtinR (x:=w) pl.typeIs slot_tuple_getitem.lookup
    (getItem_tuple (j:=j) (Q:=fun r s'=>r=w∧EP X pins σ Q r s') pl (by omega) (by omega) (by rw [List.size_toArray,←hl]; exact h1) (by simpa using ew) ⟨rfl,fin⟩) hs
theorem um:IxR X rIxS:=by
  intro value slice pins s σ H x y v u Q I rx ry h hs
  obtain ⟨z,i,c,rfl,rfl,hz,he,q⟩:=h
  obtain ⟨t,rfl⟩:=rx
  obtain ⟨t',rfl⟩:=ry
  obtain ⟨j,h1,h2,h3,h4,h5⟩:=qO he
  have hl:z.cps.toList.length=z.length:=by simp [Str.length]
  rw [hl] at h1 h4 h5
  have hn:=jU
  exact tail_any (typeIs_str s z t) slot_str_getitem.lookup (getItem_str (c:=c) (by
    have e1:decide (i < -(2 ^ 63:Int))=false:=decide_eq_false (by omega)
    have e2:decide (i ≥ 2 ^ 63)=false:=decide_eq_false (by omega)
    rw [e1,e2,Bool.or_false]) (by rw [h1]; simpa using h2) ⟨.str ⟨#[c]⟩,H,I.tok _,⟨_,rfl⟩,q⟩) hs
theorem uf (its:List Value) (n j:Nat) (u:Value):Obj.mapSeq (·.setIfInBounds j u) { cls:=.type "list",data:=.seq its.toArray n }={ cls:=.type "list",data:=.seq (its.set j u).toArray n }:=by
  simp [Obj.mapSeq]
theorem Inv.lst {pins:List (Addr × Obj)} {σ:St} {H:Hp} {s:Shared} {p:Addr} {xs:List V} (I:Inv X pins σ H s) (h:H p=some (.lst xs)) :
    ∃ (its:List Value) (n:Nat),Vals xs its∧s.heap.get? p=some { cls:=.type "list",data:=.seq its.toArray n }∧xs.length≤sizeLine:=by
  obtain ⟨z,its,n,r,e⟩:=I.hok p _ h
  exact ⟨its,n,r,e,z⟩
theorem Inv.lstUpd {pins:List (Addr × Obj)} {σ:St} {H:Hp} {s:Shared} {p:Addr} {xs ys:List V} {its its':List Value} {n n':Nat} {f:Obj→Obj} (I:Inv X pins σ H s) (h:H p=some (.lst xs))
    (ho:s.heap.get? p=some { cls:=.type "list",data:=.seq its.toArray n }) (hf:f { cls:=.type "list",data:=.seq its.toArray n }={ cls:=.type "list",data:=.seq its'.toArray n' }) (r:Vals ys its') (hz:ys.length≤sizeLine) (t:Nat) :
    Inv X pins σ (upd H p (.lst ys)) { s with heap:=s.heap.update p f,toks:=t }:=by
  have e:(s.heap.update p f).get? p=some { cls:=.type "list",data:=.seq its'.toArray n' }:=by
    rw [Heap.get?_update_self f ho (by rw [hf] <;> rfl),hf]
  refine I.write (x:=p) (e:=p) (by rw [h]; trivial) (.inl rfl) (fun b u hb q=>(Heap.get?_update_other _ _ (Ne.symm hb)).trans q) ⟨_,e⟩ ?_
  exact ⟨hz,its',n',r,e⟩
def rSetL:V→V→V→Hp→(Hp→Prop)→Prop:=fun o i v H Q=>∃ p xs k j,o=.ref p∧i=.int k∧H p=some (.lst xs)∧ixN xs.length k=some j∧Q (upd H p (.lst (xs.set j v)))
theorem rh:PSet X rSetL:=by
  intro pins s σ H o i v ov iv u Q I ro ri rv h
  obtain ⟨p,xs,k,j,rfl,rfl,hp,hj,q⟩:=h
  cases ro
  obtain ⟨t,rfl⟩:=ri
  obtain ⟨its,n,r,ho,hz⟩:=I.lst hp
  obtain ⟨h1,h2,h3,h4⟩:=vj hj
  have hl:=r.length
  have hn:=jU
  have I':Inv X pins σ (upd H p (.lst (xs.set j v))) { s with heap:=s.heap.update p (Obj.mapSeq (·.setIfInBounds j u)) } :=
    I.lstUpd hp ho (uf its n j u) (r.set rv j) (by rw [List.length_set]; exact hz) s.toks
  by_cases h0:0≤k
  · have hk:k.toNat=j:=by
      rw [seqIndex_of h0 h4] at h1
      exact Option.some.inj h1
    exact PySem.W.ki_setAt ho h0 (by omega) (by rw [List.size_toArray,←hl]; exact h4) (by rw [hk]; exact ⟨_,I',q⟩)
  · have hk:(k + (its.toArray.size:Int)).toNat=j:=by
      rw [seqIndex_neg (by omega) h3] at h1
      rw [List.size_toArray,←hl]
      exact Option.some.inj h1
    exact PySem.W.ki_setBack ho (by omega) (by rw [List.size_toArray,←hl]; exact h3) (by omega) (by rw [hk]; exact ⟨_,I',q⟩)
theorem p5 (lo hi:Option Int) (n:Nat):(sliceBounds lo hi none n).1=((HT.sIx n 0 lo:Nat):Int)∧(sliceBounds lo hi none n).2.1=((HT.sIx n n hi:Nat):Int)∧(sliceBounds lo hi none n).2.2=1:=by
  refine ⟨?_,?_,rfl⟩
  · cases lo with
    | none=>simp [sliceBounds,HT.sIx]
    | some i =>
      simp only [sliceBounds,HT.sIx,Option.getD_none,show (1:Int) > 0 by decide,if_true]
      by_cases h:i < 0
      · simp only [h,if_true] <;> omega
      · simp only [h,if_false] <;> omega
  · cases hi with
    | none=>simp [sliceBounds,HT.sIx]
    | some i =>
      simp only [sliceBounds,HT.sIx,Option.getD_none,show (1:Int) > 0 by decide,if_true]
      by_cases h:i < 0
      · simp only [h,if_true] <;> omega
      · simp only [h,if_false] <;> omega
theorem oG (its:List Value) (lo hi:Option Int):slicePick its.toArray lo hi none=((its.drop (HT.sIx its.length 0 lo)).take (HT.sIx its.length its.length hi - HT.sIx its.length 0 lo)).toArray:=by
  obtain ⟨h1,h2,h3⟩:=p5 lo hi its.toArray.size
  unfold slicePick
  rw [h1,h2,h3]
  simp only [sliceRange_one,pick_run,List.size_toArray] <;> rfl
def rSlL (K:PySem.W.Frag):V→Option Int→Option Int→Hp→VK→Prop:=fun x lo hi H Q=>∃ a xs,x=.ref a∧SqL K H a xs∧∀ p,H p=none→Q (.ref p) (upd H p (.lst (cutV xs lo hi)))
theorem uR:SlR X (rSlL X.K):=by
  intro pins s σ H x v vl vu lo hi sl Q I rx hs pl pu h
  obtain ⟨a,xs,rfl,hx,q⟩:=h
  cases rx
  obtain ⟨its,r,ht,hz⟩:=I.list hx
  have hlen:=r.length
  refine ⟨"list",_,slot_list_getitem.lookup,ht.isList.typeIs,?_⟩
  refine wpAny_getItem_list_slice ht.isList hs pl pu .none (by simp) ?_ (by rw [List.size_toArray] <;> omega)
  rw [oG,←hlen]
  refine ⟨.ref s.heap.objs.size,_,I.laid (t':=s.toks) (o:=.lst (cutV xs lo hi)) (fun b ob q=>Heap.get?_push_of_some _ q) (Nat.le_refl _) ?_,rfl,q _ (I.hok.fresh (Nat.le_refl _))⟩
  exact ⟨Nat.le_trans (sG xs lo hi) hz,_,0,(r.drop (HT.sIx xs.length 0 lo)).take (HT.sIx xs.length xs.length hi - HT.sIx xs.length 0 lo),Heap.get?_push_size _ rfl⟩
def l7:V→Bool
  | .non=>true
  | .bl _=>true
  | .int _=>true
  | .str _=>true
  | _=>false
def eqV:V→V→Bool
  | .non,.non=>true
  | .bl a,.bl b=>a == b
  | .bl a,.int b=>(if a then 1 else 0) == b
  | .int a,.bl b=>a == (if b then 1 else 0)
  | .int a,.int b=>a == b
  | .str a,.str b=>a == b
  | _,_=>false
theorem eqAt_V {A:Around} {s:Shared} {y x:V} {u v:Value} (ry:RelV y u) (rx:RelV x v) (fy:l7 y=true) (fx:l7 x=true):SeqAt.EqAt A s u v (eqV y x):=by
  cases y with
  | non =>
    cases ry
    cases x with
    | non=>cases rx; exact SeqAt.EqAt.same _
    | bl b=>cases rx; exact SeqAt.EqAt.none_bool b
    | int b=>obtain ⟨t,rfl⟩:=rx; exact SeqAt.EqAt.none_int b t
    | str b=>obtain ⟨t,rfl⟩:=rx; exact SeqAt.EqAt.none_str b t
    | _=>exact absurd (show false=true from fx) Bool.false_ne_true
  | bl a =>
    cases ry
    cases x with
    | non=>cases rx; exact SeqAt.EqAt.bool_none a
    | bl b=>cases rx; exact SeqAt.EqAt.bool_bool a b
    | int b=>obtain ⟨t,rfl⟩:=rx; exact SeqAt.EqAt.bool_int a b t
    | str b=>obtain ⟨t,rfl⟩:=rx; exact SeqAt.EqAt.bool_str a b t
    | _=>exact absurd (show false=true from fx) Bool.false_ne_true
  | int a =>
    obtain ⟨t',rfl⟩:=ry
    cases x with
    | non=>cases rx; exact SeqAt.EqAt.int_none a t'
    | bl b=>cases rx; exact SeqAt.EqAt.int_bool a t' b
    | int b=>obtain ⟨t,rfl⟩:=rx; exact SeqAt.EqAt.int_int a t' b t
    | str b=>obtain ⟨t,rfl⟩:=rx; exact SeqAt.EqAt.int_str a t' b t
    | _=>exact absurd (show false=true from fx) Bool.false_ne_true
  | str a =>
    obtain ⟨t',rfl⟩:=ry
    cases x with
    | non=>cases rx; exact SeqAt.EqAt.str_none a t'
    | bl b=>cases rx; exact SeqAt.EqAt.str_bool a t' b
    | int b=>obtain ⟨t,rfl⟩:=rx; exact SeqAt.EqAt.str_int a t' b t
    | str b=>obtain ⟨t,rfl⟩:=rx; exact SeqAt.EqAt.str_str a t' b t
    | _=>exact absurd (show false=true from fx) Bool.false_ne_true
  | _=>exact absurd (show false=true from fy) Bool.false_ne_true
def eqU (x:V) (u:Value):Bool:=match u with
  | .none=>eqV .non x
  | .bool b=>eqV (.bl b) x
  | .int i _=>eqV (.int i) x
  | .str z _=>eqV (.str z) x
  | _=>false
theorem yw {x y:V} {u:Value} (r:RelV y u) (f:l7 y=true):eqU x u=eqV y x:=by
  cases y with
  | non=>cases r; rfl
  | bl b=>cases r; rfl
  | int i=>obtain ⟨t,rfl⟩:=r; rfl
  | str z=>obtain ⟨t,rfl⟩:=r; rfl
  | _=>exact absurd (show false=true from f) Bool.false_ne_true
theorem qQ {x:V}:∀ {xs:List V} {us:List Value},Vals xs us→xs.all l7=true→us.any (eqU x)=xs.any fun y=>eqV y x
  | _,_,.nil,_=>rfl
  | y :: xs,u :: us,.cons r t,f=>by
    rw [List.all_cons,Bool.and_eq_true] at f
    rw [List.any_cons,List.any_cons,yw r f.1,qQ t f.2]
theorem nN {A:Around} {s:Shared} {x:V} {v:Value} (rx:RelV x v) (fx:l7 x=true):∀ {xs:List V} {us:List Value},Vals xs us→xs.all l7=true→∀ u∈us,SeqAt.EqAt A s u v (eqU x u)
  | _,_,.nil,_=>fun u hu=>by cases hu
  | y :: xs,u :: us,.cons r t,f=>fun u' hu=>by
    rw [List.all_cons,Bool.and_eq_true] at f
    rcases List.mem_cons.mp hu with rfl | hu
    · rw [yw r f.1]; exact eqAt_V r rx f.1 fx
    · exact nN rx fx t f.2 u' hu
def inV (x:V) (xs:List V):Bool:=xs.any fun y=>eqV y x
def rIn (K:PySem.W.Frag) (neg:Bool):R2:=fun x y H Q=>∃ p xs,y=.ref p∧(SqL K H p xs∨SqT K H p xs)∧l7 x=true∧xs.all l7=true∧Q (.bl (if neg then !inV x xs else inV x xs)) H
theorem we:OpR X (compareOp .In) (rIn X.K false):=by
  intro pins s σ H x y v u Q I rx ry h
  obtain ⟨p,xs,rfl,hq,fx,fs,q⟩:=h
  cases ry
  rcases hq with hq | hq
  · obtain ⟨its,r,pl,hz⟩:=I.list hq
    refine SeqAt.in_listAt (eqU x) pl.isList (fun w hw=>nN rx fx r fs w (by simpa using hw)) ⟨.bl _,H,I,rfl,?_⟩
    rw [show its.toArray.any (eqU x)=its.any (eqU x) by simp,qQ r fs]
    exact q
  · obtain ⟨its,r,pl,hz⟩:=I.tuple hq
    refine SeqAt.in_tupleAt (eqU x) pl (fun w hw=>nN rx fx r fs w (by simpa using hw)) ⟨.bl _,H,I,rfl,?_⟩
    rw [show its.toArray.any (eqU x)=its.any (eqU x) by simp,qQ r fs]
    exact q
theorem qD:fR X (.builtin "len") (fun xs H Q=>∃ p ys,xs=[.ref p]∧(SqL X.K H p ys∨SqT X.K H p ys)∧Q (.int ys.length) H):=by
  intro pins s σ H xs us Q I r h
  obtain ⟨p,ys,rfl,hq,q⟩:=h
  obtain ⟨u,rfl,rx⟩:=qX r
  cases rx
  have hn:=jU
  rcases hq with hq | hq
  · obtain ⟨its,r',pl,hz⟩:=I.list hq
    have hlen:=r'.length
    exact Calls.call_len_list pl.isList (by simp only [List.size_toArray] <;> omega) ⟨.int ys.length,H,I.tok _,⟨s.toks + 1,by rw [List.size_toArray,hlen]⟩,q⟩
  · obtain ⟨its,r',pl,hz⟩:=I.tuple hq
    have hlen:=r'.length
    exact len_tuple pl (by simp only [List.size_toArray] <;> omega) ⟨.int ys.length,H,I.tok _,⟨s.toks + 1,by rw [List.size_toArray,hlen]⟩,q⟩
theorem kL:fR X (.builtin "len") (fun xs H Q=>∃ z,xs=[.str z]∧z.length≤sizeLine∧Q (.int z.length) H):=by
  intro pins s σ H xs us Q I r h
  obtain ⟨z,rfl,hz,q⟩:=h
  obtain ⟨u,rfl,t,rfl⟩:=qX r
  have hn:=jU
  exact len_str (by omega) ⟨.int z.length,H,I.tok _,⟨_,rfl⟩,q⟩
theorem kK:fR X (.type "list") (fun xs H Q=>∃ p ys,xs=[.ref p]∧(SqL X.K H p ys∨SqT X.K H p ys)∧∀ l,H l=none→Q (.ref l) (upd H l (.lst ys))):=by
  intro pins s σ H xs us Q I r h
  obtain ⟨p,ys,rfl,hq,q⟩:=h
  obtain ⟨u,rfl,rx⟩:=qX r
  cases rx
  have fin:∀ (its:List Value),Vals ys its→ys.length≤sizeLine→∀ (h':Heap) (c':Nat),(∀ b o',s.heap.get? b=some o'→h'.get? b=some o') →
      h'.get? s.heap.objs.size=some { cls:=.type "list",dict:=none,data:=.seq its.toArray c',slots:=#[] }→EP X pins σ Q (.ref s.heap.objs.size) { s with heap:=h' }:=fun its r' hz h' c' kp e =>
    ⟨.ref s.heap.objs.size,_,I.laid (t':=s.toks) kp (Nat.le_refl _) (show bN X.prog X.w _ h' _ (.lst ys) from ⟨hz,its,c',r',e⟩),rfl,q _ (I.hok.fresh (Nat.le_refl _))⟩
  rcases hq with hq | hq
  · obtain ⟨its,r',pl,hz⟩:=I.list hq
    have hlen:=r'.length
    obtain ⟨o,ho,hc,n,hd⟩:=pl.isList
    exact call_list_seq p (.inl rfl) ho hc hd (fun h' c' kp e=>fin its r' hz h' c' kp e) (by simp only [List.size_toArray] <;> omega)
  · obtain ⟨its,r',pl,hz⟩:=I.tuple hq
    have hlen:=r'.length
    obtain ⟨o,ho,hc,n,hd⟩:=pl
    exact call_list_seq p (.inr rfl) ho hc hd (fun h' c' kp e=>fin its r' hz h' c' kp e) (by simp only [List.size_toArray] <;> omega)
def tyV (K:PySem.W.Frag) (T:String) (x:V) (H:Hp):Prop:=match x with
  | .str _=>T = "str"
  | .int _=>T = "int"
  | .ref p=>(T = "list" ∧ ∃ xs,SqL K H p xs)∨(T = "tuple" ∧ ∃ o,K.lookup p=some o∧o.cls=.type "tuple" ∧ o.dict=none) ∨
      (T = "dict" ∧ ((∃ kvs,H p=some (.dK kvs))∨∃ kvs,H p=some (.dT kvs)))∨(T = "set" ∧ ∃ S n,H p=some (.set S n))
  | _=>False
theorem xf {pins:List (Addr × Obj)} {σ:St} {H:Hp} {s:Shared} {T:String} {x:V} {v:Value} (I:Inv X pins σ H s) (r:RelV x v) (ty:tyV X.K T x H) :
    s.TypeIs v T∧∀ a,v=.ref a→∃ ob,s.heap.get? a=some ob∧ob.dict=none:=by
  cases x with
  | str z =>
    obtain ⟨t,rfl⟩:=r
    cases (show T = "str" from ty)
    exact ⟨typeIs_str s z t,fun _ e=>nomatch e⟩
  | int i =>
    obtain ⟨t,rfl⟩:=r
    cases (show T = "int" from ty)
    exact ⟨typeIs_int s i t,fun _ e=>nomatch e⟩
  | ref p =>
    cases r
    rcases ty with ⟨rfl,xs,hq⟩ | ⟨rfl,o,hk,hc,hd⟩ | ⟨rfl,hk⟩ | ⟨rfl,S,n,hk⟩
    · obtain ⟨its,_,pl,_⟩:=I.list hq
      refine ⟨pl.isList.typeIs,fun a e=>?_⟩
      cases e
      obtain ⟨o,n,e,c,hd,_⟩:=pl
      exact ⟨o,e,hd⟩
    · refine ⟨⟨o,I.kIn p o hk,hc⟩,fun a e=>?_⟩
      cases e
      exact ⟨o,I.kIn _ o hk,hd⟩
    · have z:∃ o,s.heap.get? p=some o∧o.ExactDict:=by
        rcases hk with ⟨kvs,hk⟩ | ⟨kvs,hk⟩
        · obtain ⟨_,_,_,_,o,_,_,e,ex,_⟩:=I.hok p _ hk
          exact ⟨o,e,ex⟩
        · obtain ⟨_,_,_,_,o,_,_,e,ex,_⟩:=I.hok p _ hk
          exact ⟨o,e,ex⟩
      obtain ⟨o,e,ex⟩:=z
      refine ⟨⟨o,e,ex.1⟩,fun a e2=>?_⟩
      cases e2
      exact ⟨o,e,ex.2.1⟩
    · obtain ⟨o,_,_,_,e,ex,_⟩:=I.hok p _ hk
      refine ⟨⟨o,e,ex.1⟩,fun a e2=>?_⟩
      cases e2
      exact ⟨o,e,ex.2.1⟩
  | _=>exact False.elim ty
def tBM0 (K:PySem.W.Frag) (T:String) (r:V→List V→Hp→VK→Prop) (to:TE):TE:=fun σ H Q=>to σ H fun x H1=>tyV K T x H1∧r x [] H1 Q
def tBM (K:PySem.W.Frag) (T:String) (r:V→List V→Hp→VK→Prop) (to:TE) (t:TA):TE:=fun σ H Q=>to σ H fun x H1=>tyV K T x H1∧t σ H1 fun xs H2=>r x xs H2 Q
variable {o e:Expr} {es:List Expr} {to:TE} {t:TA} {name:Str} {apos cpos:Pos} {T id:String} {r:V→List V→Hp→VK→Prop}
theorem pe_bm0 (pa:PlainAttrs T) (slot:Slot T name id) (hty:typeOf (.builtin id)=pure (.type "method_descriptor")) (hm:MtR X id r) (ho:PE X o to)
    (hbase:attributeBase o name X.env (eval o X.env)=eval o X.env:=by rfl) (hline:(apos.endLine == cpos.line)=true:=by rfl):PE X (.Call (.Attribute o name apos) [] [] cpos) (tBM0 X.K T r to):=by
  intro pins s σ H Q I h
  refine wpAny_Call_method0_late hbase hline (thn (ho pins s σ H _ I h) fun v s1 ⟨x,H1,I1,r1,ty,q1⟩=>?_)
  obtain ⟨h1,h2⟩:=xf I1 r1 ty
  exact ⟨T,id,pa,slot,hty,h1,h2,Calls.callWith_builtin rfl (PySem.evalArgs_none (hm pins s1 σ H1 x [] v [] Q I1 r1 .nil q1))⟩
theorem fF (pa:PlainAttrs T) (slot:Slot T name id) (hty:typeOf (.builtin id)=pure (.type "method_descriptor")) (hm:MtR X id r) (ho:PE X o to) (ha:PA X (e :: es) t)
    (hbase:attributeBase o name X.env (eval o X.env)=eval o X.env:=by rfl)
    (hfew:((backTo cpos (starEach (e :: es) X.env)).all (fun x=>!x.1) && (backToKw cpos (keywordEach [] X.env)).all (fun x=>x.1.isSome)
      && decide ((e :: es).length + ([]:List Keyword).length + (if ([]:List Keyword).isEmpty then 0 else 1) < 30))=true:=by rfl)
    (hline:(apos.endLine == cpos.line)=true:=by rfl) (hs:starEach (e :: es) X.env=(false,eval e X.env) :: starEach es X.env:=by rfl) (hplain:(backTo cpos (starEach es X.env)).any (·.1)=false:=by rfl) :
    PE X (.Call (.Attribute o name apos) (e :: es) [] cpos) (tBM X.K T r to t):=by
  intro pins s σ H Q I h
  refine wpAny_Call_method_late hbase hfew hline rfl (thn (ho pins s σ H _ I h) fun v s1 ⟨x,H1,I1,r1,ty,q1⟩=>?_)
  obtain ⟨h1,h2⟩:=xf I1 r1 ty
  refine ⟨T,id,pa,slot,hty,h1,h2,?_⟩
  have hA:=ha cpos pins s1 σ H1 _ I1 q1
  rw [hs] at hA ⊢
  refine Calls.callWith_builtin (by show (false || (backTo cpos (starEach es X.env)).any (·.1))=false; rw [hplain] <;> rfl) (Calls.evalArgs_plain ?_)
  exact thn hA fun us s2 ⟨vs,H2,I2,r2,q2⟩=>hm pins s2 σ H2 x vs v us Q I2 r1 r2 q2
end
end L2
namespace L2
open PySem PySem.Spec PyProof.Rows
def MtM (X:Cx) (id:String) (r:V→List V→Hp→VK→Prop):Prop :=
  ∀ (pins:List (Addr × Obj)) (s:Shared) (σ:St) (H:Hp) (x:V) (xs:List V) (v:Value) (us:List Value) (Q:VK),Inv X pins σ H s→RelV x v→Vals xs us→r x xs H Q →
    wpAny (model X.prog X.w) X.A (call (.builtin id) (v :: us)) (EP X pins σ Q) X.xe s
theorem Vals.one:∀ {x:V} {us:List Value},Vals [x] us→∃ u,us=[u]∧RelV x u
  | _,_,.cons r .nil=>⟨_,rfl,r⟩
theorem Vals.zero:∀ {us:List Value},Vals [] us→us=[]
  | _,.nil=>rfl
theorem Vals.dropLast {xs:List V} {us:List Value} (h:Vals xs us):Vals xs.dropLast us.dropLast:=by
  induction h with
  | nil=>exact .nil
  | cons r t ih =>
    cases t with
    | nil=>exact .nil
    | cons q t'=>exact .cons r ih
theorem Vals.reverse {xs:List V} {us:List Value} (h:Vals xs us):Vals xs.reverse us.reverse:=by
  induction h with
  | nil=>exact .nil
  | cons r t ih=>rw [List.reverse_cons,List.reverse_cons]; exact Vals.append ih (.cons r .nil)
theorem Vals.rep {xs:List V} {us:List Value} (h:Vals xs us):∀ k:Nat,Vals (List.replicate k xs).flatten (List.replicate k us).flatten
  | 0=>.nil
  | k + 1=>by
    rw [List.replicate_succ,List.replicate_succ,List.flatten_cons,List.flatten_cons]
    exact Vals.append h (Vals.rep h k)
theorem uy {α:Type} (l:List α):l.eraseIdx (l.length - 1)=l.dropLast:=by
  induction l with
  | nil=>rfl
  | cons a r ih =>
    cases r with
    | nil=>rfl
    | cons b r =>
      have e:(a :: b :: r).length - 1=((b :: r).length - 1) + 1:=by
        have h1:(a :: b :: r).length=r.length + 2:=rfl
        have h2:(b :: r).length=r.length + 1:=rfl
        omega
      rw [e,List.eraseIdx_cons_succ,ih]
      all_goals rfl
theorem pB (its:List Value):∀ (k:Nat) (acc:List Value),
    List.foldl (fun x1 x2=>x1++x2) acc.toArray (List.replicate k its.toArray)=(acc++(List.replicate k its).flatten).toArray
  | 0,acc=>by simp
  | k + 1,acc=>by
    have e:acc.toArray++its.toArray=(acc++its).toArray:=by simp
    have e2:(acc++its)++(List.replicate k its).flatten=acc++(List.replicate (k + 1) its).flatten:=by
      rw [List.replicate_succ,List.flatten_cons,List.append_assoc]
    rw [←e2,←pB its k (acc++its),←e,List.replicate_succ,List.foldl_cons]
section
variable {X:Cx} {pins:List (Addr × Obj)} {σ:St} {H:Hp} {s:Shared} {l b:Addr} {xs ys zs:List V}
theorem Inv.lset {its its':List Value} {n:Nat} {f:Array Value→Array Value} {t':Nat} (I:Inv X pins σ H s) (hH:H l=some (.lst xs))
    (e:s.heap.get? l=some { cls:=.type "list",data:=.seq its.toArray n }) (hf:f its.toArray=its'.toArray) (hv:Vals ys its') (hz:ys.length≤sizeLine) :
    Inv X pins σ (upd H l (.lst ys)) { s with heap:=s.heap.update l (Obj.mapSeq f),toks:=t' }:=by
  have q:=PySem.IsL.update e f
  rw [hf] at q
  refine I.write (x:=l) (e:=l) (by rw [hH]; exact trivial) (.inl rfl) (fun b' u hb hu=>(Heap.get?_update_other s.heap (Obj.mapSeq f) (Ne.symm hb)).trans hu) ⟨_,q⟩ ?_
  exact ⟨hz,its',_,hv,q⟩
theorem Inv.lnew {its:List Value} {t':Nat} (I:Inv X pins σ H s) (hv:Vals ys its) (hz:ys.length≤sizeLine) :
    Inv X pins σ (upd H s.heap.objs.size (.lst ys)) { s with heap:=s.heap.push { cls:=.type "list",data:=.seq its.toArray },toks:=t' } :=
  I.laid (fun _ _ q=>Heap.get?_push_of_some _ q) (Nat.le_refl _) ⟨hz,its,0,hv,Heap.get?_push_size _ rfl⟩
theorem Inv.fresh (I:Inv X pins σ H s):H s.heap.objs.size=none:=I.hok.fresh (Nat.le_refl _)
theorem Inv.lstM (I:Inv X pins σ H s) (hH:H l=some (.lst xs)):xs.length≤sizeLine∧∃ (its:List Value) (n:Nat),Vals xs its∧xs.length=its.length∧s.heap.get? l=some { cls:=.type "list",data:=.seq its.toArray n }:=by
  obtain ⟨z,its,n,r,e⟩:=I.hok l _ hH
  exact ⟨z,its,n,r,r.length,e⟩
theorem rW {n:Nat} (h:n≤sizeLine):Builtin.List.listTooLong n=false:=by
  unfold Builtin.List.listTooLong
  exact decide_eq_false (by omega)
end
section
variable {X:Cx}
def zb:V→List V→Hp→VK→Prop:=fun x vs H Q=>∃ l xs y,x=.ref l∧vs=[y]∧H l=some (.lst xs)∧xs.length < sizeLine∧Q .non (upd H l (.lst (xs++[y])))
theorem cO:MtM X "list.append" zb:=by
  intro pins s σ H x vs v us Q I rx rv h
  obtain ⟨l,xs,y,rfl,rfl,hH,hz,q⟩:=h
  cases rx
  obtain ⟨u,rfl,ru⟩:=rv.one
  obtain ⟨z,its,n,r,hl,e⟩:=I.lstM hH
  refine call_meets F.slot_list_append ⟨_,e,rfl⟩ F.entry_list_append (F.args_list_append_2 _ _) (PySem.list_append l its.toArray n u (by rw [List.size_toArray]; omega)) ⟨e,?_⟩
  refine ⟨.non,_,I.lset (its':=its++[u]) hH e (by simp) (r.append (.cons ru .nil)) ?_,rfl,q⟩
  rw [List.length_append,List.length_singleton]
  omega
def za:V→List V→Hp→VK→Prop:=fun x vs H Q=>∃ l b xs zs,x=.ref l∧vs=[.ref b]∧H l=some (.lst xs)∧H b=some (.lst zs)∧xs.length + zs.length≤sizeLine∧Q .non (upd H l (.lst (xs++zs)))
theorem gA:MtM X "list.extend" za:=by
  intro pins s σ H x vs v us Q I rx rv h
  obtain ⟨l,b,xs,zs,rfl,rfl,hH,hB,hz,q⟩:=h
  cases rx
  obtain ⟨u,rfl,ru⟩:=rv.one
  cases ru
  obtain ⟨z,its,n,r,hl,e⟩:=I.lstM hH
  obtain ⟨z2,its2,n2,r2,hl2,e2⟩:=I.lstM hB
  have hsz:its.toArray.size + its2.toArray.size≤sizeLine:=by rw [List.size_toArray,List.size_toArray]; omega
  have hlong:¬ (!its.toArray.isEmpty && Builtin.List.listTooLong (its.toArray.size + its2.toArray.size))=true:=by
    rw [rW hsz,Bool.and_false]
    exact Bool.false_ne_true
  refine call_meets F.slot_list_extend ⟨_,e,rfl⟩ F.entry_list_extend (F.args_list_extend_2 _ _)
    (AutoSeq1.list_extend_list_list_0 l its.toArray n b its2.toArray n2 hlong (by rw [List.size_toArray]; omega) (by omega)) ⟨e,e2,?_⟩
  refine ⟨.non,_,I.lset (its':=its++its2) hH e (by simp) (r.append r2) ?_,rfl,q⟩
  rw [List.length_append]
  omega
def rPop:V→List V→Hp→VK→Prop:=fun x vs H Q=>∃ l xs y,x=.ref l∧vs=[]∧H l=some (.lst xs)∧xs[xs.length - 1]?=some y∧Q y (upd H l (.lst xs.dropLast))
theorem mt_pop:MtM X "list.pop" rPop:=by
  intro pins s σ H x vs v us Q I rx rv h
  obtain ⟨l,xs,y,rfl,rfl,hH,hy,q⟩:=h
  cases rx
  have hus:=rv.zero
  subst hus
  obtain ⟨z,its,n,r,hl,e⟩:=I.lstM hH
  obtain ⟨u,hu,ru⟩:=r.get hy
  have hy':its.toArray[its.toArray.size - 1]?=some u:=by
    show its.toArray[its.length - 1]?=some u
    rw [←Array.getElem?_toList,←hl]
    exact hu
  refine call_meets F.slot_list_pop ⟨_,e,rfl⟩ F.entry_list_pop (F.args_list_pop_1 _) (MeetsSeq.list_pop_last l its.toArray n u hy' (by rw [List.size_toArray]; omega)) ⟨e,?_⟩
  refine ⟨y,_,I.lset (its':=its.dropLast) hH e ?_ r.dropLast ?_,ru,q⟩
  · show its.toArray.eraseIdxIfInBounds (its.toArray.size - 1)=its.dropLast.toArray
    rw [List.size_toArray,List.eraseIdxIfInBounds_toArray,uy]
  · rw [List.length_dropLast]
    omega
def rCat:R2:=fun x y H Q=>∃ l b xs zs,x=.ref l∧y=.ref b∧H l=some (.lst xs)∧H b=some (.lst zs)∧xs.length + zs.length≤sizeLine∧∀ p,H p=none→Q (.ref p) (upd H p (.lst (xs++zs)))
theorem dH:OpR X (binaryOp .Add) rCat:=by
  intro pins s σ H x y v u Q I rx ry h
  obtain ⟨l,b,xs,zs,rfl,rfl,hH,hB,hz,q⟩:=h
  cases rx
  cases ry
  obtain ⟨z,its,n,r,hl,e⟩:=I.lstM hH
  obtain ⟨z2,its2,n2,r2,hl2,e2⟩:=I.lstM hB
  refine PySem.P.add_list e e2 ?_ (by rw [List.size_toArray,List.size_toArray]; omega)
  have ea:its.toArray++its2.toArray=(its++its2).toArray:=by simp
  rw [ea]
  exact ⟨.ref _,_,I.lnew (t':=s.toks) (r.append r2) (by rw [List.length_append]; omega),rfl,q _ I.fresh⟩
def rRep:R2:=fun x y H Q=>∃ l k xs,x=.ref l∧y=.int k∧H l=some (.lst xs)∧-(2 ^ 63)≤k∧k < 2 ^ 63∧xs.length * k.toNat≤sizeLine ∧
  ∀ p,H p=none→Q (.ref p) (upd H p (.lst (List.replicate k.toNat xs).flatten))
theorem zv {α:Type} (xs:List α) (k:Nat):(List.replicate k xs).flatten.length=k * xs.length:=by
  induction k with
  | zero=>simp
  | succ k ih=>rw [List.replicate_succ,List.flatten_cons,List.length_append,ih,Nat.succ_mul,Nat.add_comm]
theorem xT:OpR X (binaryOp .Mult) rRep:=by
  intro pins s σ H x y v u Q I rx ry h
  obtain ⟨l,k,xs,rfl,rfl,hH,h1,h2,hz,q⟩:=h
  cases rx
  obtain ⟨t,rfl⟩:=ry
  obtain ⟨z,its,n,r,hl,e⟩:=I.lstM hH
  have hlen:its.toArray.size * k.toNat≤sizeLine:=by rw [List.size_toArray,←hl]; exact hz
  have hcap:¬ its.toArray.size * k.toNat > (2 ^ 63 - 1) / 8:=by
    have:(sizeLine:Nat)≤(2 ^ 63 - 1) / 8:=by decide
    omega
  have hfit:¬ (!Builtin.List.listFitsIndex k)=true:=by
    rw [fitsIndex_both h1 h2]
    exact Bool.false_ne_true
  have hlong:¬ Builtin.List.listTooLong (its.toArray.size * k.toNat)=true:=by
    rw [rW hlen]
    exact Bool.false_ne_true
  have hnew:List.foldl (fun x1 x2=>x1++x2) #[] (List.replicate (if its.toArray.isEmpty=true then 0 else k.toNat) its.toArray)=(List.replicate k.toNat its).flatten.toArray:=by
    have f0:∀ m:Nat,List.foldl (fun x1 x2=>x1++x2) #[] (List.replicate m its.toArray)=(List.replicate m its).flatten.toArray:=fun m=>by
      have:=pB its m []
      rw [List.nil_append] at this
      exact this
    rw [f0]
    cases its with
    | nil=>simp
    | cons a r'=>rw [if_neg (by simp)]
  refine wpAny_binaryOp_repeat_ref (T := "list") (U := "int") (by decide) ⟨_,e,rfl⟩ (fun s'=>typeIs_int s' k t) noFill_list_mul F.fills_int_mul F.slot_int_rmul repeat_list F.slot_int_index.lookup
    (call_meets F.slot_int_rmul (typeIs_int s k t) F.entry_int_rmul (F.args_int_rmul_2 _ _) (int___rmul___int_list k t l its.toArray n)
      ⟨e,rfl,⟨_,e,rfl⟩,call_meets F.slot_list_mul ⟨_,e,rfl⟩ F.entry_list_mul (F.args_list_mul_2 _ _) (AutoListH.list___mul___list_int_3 l its.toArray n k t hfit hcap hlong) ⟨e,?_⟩⟩)
  rw [hnew]
  exact ⟨.ref _,_,I.lnew (t':=s.toks) (r.rep k.toNat) (by rw [zv,Nat.mul_comm]; exact hz),rfl,q _ I.fresh⟩
end
section
variable {prog:Program} {w:World} {A:Around} {E:Value→Shared→Prop} {s:Shared}
set_option maxRecDepth 100000 in
end
section
variable {X:Cx}
end
end L2
namespace L2
open PySem PySem.Spec PyProof.Rows
theorem Vals.ints:∀ {ns:List Int} {us:List Value},Vals (ns.map V.int) us→IntsAre us ns
  | [],us,h=>by
    rw [List.map_nil] at h
    cases h
    exact IntsAre.nil
  | n :: ns,us,h=>by
    rw [List.map_cons] at h
    cases h with
    | cons r t =>
      obtain ⟨k,rfl⟩:=r
      exact IntsAre.cons n k (Vals.ints t)
theorem Vals.bls:∀ {bs:List Bool} {us:List Value},Vals (bs.map V.bl) us→us=bs.map Value.bool
  | [],us,h=>by
    rw [List.map_nil] at h
    cases h
    rfl
  | b :: bs,us,h=>by
    rw [List.map_cons] at h
    cases h with
    | cons r t =>
      cases r
      rw [Vals.bls t,List.map_cons]
theorem Vals.ref1 {a:Addr} {us:List Value} (r:Vals [V.ref a] us):us=[Value.ref a]:=by
  cases r with
  | cons r t =>
    cases t
    cases r
    rfl
section
variable {prog:Program} {w:World} {A:Around} {E:Value→Shared→Prop} {s:Shared} {l:Addr} {its:List Value} {ns:List Int} {Q:Value→Shared→Prop}
theorem yR (hh:A.handled=none) (hl:s.heap.IsList l its.toArray) (hi:IntsAre its ns)
    (h:∀ h' tk t',(∀ b o,s.heap.get? b=some o→h'.get? b=some o)→Q (.int ns.sum t') { s with heap:=h',toks:=tk }):wpAny (model prog w) A (call (.builtin "sum") [.ref l]) Q E s:=by
  obtain ⟨xs,e⟩:=hi.allInts.items
  have hn:numsOf (intItems xs).toList=ns:=by rw [←e]; exact hi.numsOf
  rw [nums_intItems] at hn
  rw [e] at hl
  refine PySem.sum_intListG hh hl fun h' tk t' hk=>?_
  have:=h h' tk t' hk
  rw [preSum_eq,List.take_of_length_le (by simp),hn]; exact this
end
section
variable {X:Cx}
def rSum (K:PySem.W.Frag):List V→Hp→VK→Prop:=fun vs H Q=>∃ (a:Addr) (ns:List Int),vs=[V.ref a]∧SqL K H a (ns.map V.int)∧Q (.int ns.sum) H
theorem cr_sum (hc:X.calm=true):fR X (.builtin "sum") (rSum X.K):=by
  intro pins s σ H vs us Q I r h
  obtain ⟨a,ns,rfl,hs,q⟩:=h
  obtain ⟨its,rv,hl,_⟩:=I.list hs
  rw [Vals.ref1 r]
  exact yR (I.ok.hd hc) hl.isList rv.ints fun h' tk t' hk=>⟨.int _,H,I.kept hk,⟨_,rfl⟩,q⟩
end
section
variable {X:Cx}
end
section
variable {X:Cx}
end
theorem yj {prog:Program} {w:World} {A:Around} {E:Value→Shared→Prop} {s:Shared} {l:Addr} {items:Array Value} {Q:Value→Shared→Prop} (hl:s.heap.IsList l items)
    (h:∀ s₂:Shared,s₂={ s with heap:=s.heap.push { cls:=.type "list_iterator",data:=.fields #[.ref l,.int 0 0] } } →
      (s₂.heap.IsListIter s.heap.objs.size l 0∧s₂.heap.IsList l items)→l≠s.heap.objs.size→Q (.ref s.heap.objs.size) s₂):wpAny (model prog w) A (pyIter (.ref l)) Q E s:=by
  have hlt:l < s.heap.objs.size:=by obtain ⟨_,e,_⟩:=hl; exact Heap.lt_size e
  exact wpAny_pyIter_list hl (h _ rfl ⟨⟨_,Heap.get?_push_size _ rfl,rfl,rfl⟩,hl.push _⟩ (Nat.ne_of_lt hlt))
theorem rc {prog:Program} {w:World} {A:Around} {bs:List Bool} {its:List Value} (e:its=bs.map Value.bool) :
    TruthOf prog w A (fun i v=>its.toArray[i]?=some v) (fun i=>bs.getD i false):=fun i v s Q E hv hq=>by
  have hv':its[i]?=some v:=by simpa using hv
  rw [e,List.getElem?_map] at hv'
  obtain ⟨b,hb,rfl⟩:=Option.map_eq_some_iff.mp hv'
  have hg:bs.getD i false=b:=by rw [List.getD_eq_getElem?_getD,hb] <;> rfl
  have hq':Q (bs.getD i false) s:=hq
  rw [hg] at hq'
  exact wpAny_truthy_bool hq'
theorem pW:∀ bs:List Bool,(List.range bs.length).all (fun i=>bs.getD i false)=bs.all id
  | []=>rfl
  | b :: bs=>by
    rw [List.length_cons,List.range_succ_eq_map,List.all_cons,List.all_map,List.all_cons,←pW bs]
    all_goals rfl
section
variable {X:Cx}
def rAll (K:PySem.W.Frag):List V→Hp→VK→Prop:=fun vs H Q=>∃ (a:Addr) (bs:List Bool),vs=[V.ref a]∧SqL K H a (bs.map V.bl)∧Q (.bl (bs.all id)) H
theorem cr_all (hc:X.calm=true):fR X (.builtin "all") (rAll X.K):=by
  intro pins s σ H vs us Q I r h
  obtain ⟨a,bs,rfl,hs,q⟩:=h
  obtain ⟨its,rv,hl,_⟩:=I.list hs
  rw [Vals.ref1 r]
  have hb:=rv.bls
  refine call_all_walk (yj hl.isList fun s₂ e2 st hne=>?_)
  subst e2
  refine ⟨_,_,_,_,_,_,_,rfl,Walks.list (A:=X.A.in1) (I.ok.hd hc) _ a hne its.toArray,st,rc hb,fun h' tk hk=>?_⟩
  refine ⟨.bl _,H,I.kept fun b o eo=>hk b o (fun hmem=>?_) (Heap.get?_push_of_some _ eo),?_,q⟩
  · rcases List.mem_cons.mp hmem with e1 | hmem
    · exact absurd (e1 ▸ Heap.lt_size eo) (Nat.lt_irrefl _)
    · cases hmem
  · show Value.bool _=Value.bool _
    rw [←pW,hb,List.size_toArray,List.length_map]
end
section
variable {X:Cx} {pins:List (Addr × Obj)} {σ:St} {H:Hp} {s:Shared}
end
section
variable {X:Cx}
end
end L2
namespace L2
open PySem PySem.Spec PyProof.Rows
abbrev yJ (h:Heap) (c:Addr) (v:Option Value):Prop:=h.IsCell c v
def relS (scope sc:Scope):Scope :=
  { scope with names:=scope.names.map fun (n,k)=>if (k == .free && sc.kind == .function && sc.names.lookup n == some .cell) then (n,.cell) else (n,k) }
def bj (cells:List (Str × Addr)):List (Str × NameKind)→List (Str × Addr)→List (Str × Addr)
  | [],acc=>acc
  | (n,k) :: r,acc=>if k == .free then bj cells r ((n,(cells.lookup n).getD 0) :: acc) else bj cells r acc
theorem kI (env:Env) (f:Str × NameKind→List (Str × Addr)→Sem (ForInStep (List (Str × Addr))))
    (hf:∀ n k c,f (n,k) c=if k == .free then (do let a ← cellOf env n; pure (.yield ((n,a) :: c))) else pure (.yield c)) :
    ∀ (names:List (Str × NameKind)) (acc:List (Str × Addr)),(∀ y∈names,y.2=.free→∃ c,env.cells.lookup y.1=some c)→forIn names acc f=pure (bj env.cells names acc)
  | [],acc,_=>by rw [List.forIn_nil]; rfl
  | (n,k) :: r,acc,h=>by
    rw [List.forIn_cons,hf]
    have ih:=fun acc=>kI env f hf r acc fun y hy=>h y (List.mem_cons_of_mem _ hy)
    unfold bj
    by_cases hk:(k == NameKind.free)=true
    · rw [if_pos hk,if_pos hk]
      obtain ⟨c,hc⟩:=h (n,k) List.mem_cons_self (by simpa using hk)
      have e:cellOf env n=pure c:=by unfold cellOf; rw [hc]
      rw [e]
      have e2:(env.cells.lookup n).getD 0=c:=by rw [hc]; rfl
      rw [e2]
      exact ih _
    · rw [if_neg hk,if_neg hk]
      exact ih _
theorem uB {scope:Scope} {env:Env} (h:∀ y∈scope.names,y.2=.free→∃ c,env.cells.lookup y.1=some c):closureFor scope env=pure (bj env.cells scope.names []):=by
  simp only [closureFor]
  rw [kI env _ (fun n k c=>rfl) scope.names [] h]
  rfl
theorem jT {α:Type}:∀ {l:List (Str × α)} {n:Str} {c:α},(n,c)∈l→∃ c',l.lookup n=some c'
  | (k,v) :: r,n,c,h=>by
    rw [List.lookup_cons]
    cases hb:n == k with
    | true=>exact ⟨_,rfl⟩
    | false =>
      rcases List.mem_cons.mp h with e | h
      · cases e; simp at hb
      · exact jT h
theorem fM {cells:List (Str × Addr)}:∀ {names:List (Str × NameKind)} {acc:List (Str × Addr)} {n:Str} {c:Addr},(n,c)∈bj cells names acc→(n,c)∈acc∨((n,.free)∈names∧c=(cells.lookup n).getD 0)
  | [],_,_,_,h=>.inl h
  | (m,k) :: r,acc,n,c,h=>by
    unfold bj at h
    split at h
    · rename_i hk
      have hk:k=.free:=by simpa using hk
      rcases fM h with h | ⟨h1,h2⟩
      · rcases List.mem_cons.mp h with e | h
        · cases e; exact .inr ⟨hk ▸ List.mem_cons_self,rfl⟩
        · exact .inl h
      · exact .inr ⟨List.mem_cons_of_mem _ h1,h2⟩
    · rcases fM h with h | ⟨h1,h2⟩
      · exact .inl h
      · exact .inr ⟨List.mem_cons_of_mem _ h1,h2⟩
theorem iX {cells:List (Str × Addr)}:∀ {names:List (Str × NameKind)} {acc:List (Str × Addr)} {p:Str × Addr},p∈acc→p∈bj cells names acc
  | [],_,_,h=>h
  | (m,k) :: r,acc,p,h=>by
    unfold bj
    split
    · exact iX (List.mem_cons_of_mem _ h)
    · exact iX h
theorem iW {cells:List (Str × Addr)}:∀ {names:List (Str × NameKind)} {acc:List (Str × Addr)} {n:Str},(n,.free)∈names→(n,(cells.lookup n).getD 0)∈bj cells names acc
  | (m,k) :: r,acc,n,h=>by
    unfold bj
    rcases List.mem_cons.mp h with e | h
    · cases e
      exact iX List.mem_cons_self
    · split
      · exact iW h
      · exact iW h
theorem gC:∀ {names:List (Str × NameKind)} {h:Heap} {acc:List (Str × Addr)} {x:Str} {c:Addr},(x,c)∈cellsFrom h.objs.size names acc →
    (x,c)∈acc∨((x,.cell)∈names∧h.objs.size≤c∧yJ (pushCells h names) c none)
  | [],_,_,_,_,h=>.inl h
  | (n,k) :: r,h,acc,x,c,hm=>by
    unfold cellsFrom at hm
    unfold pushCells
    split at hm
    · rename_i hk
      rw [if_pos hk]
      have hk:k=.cell:=by simpa using hk
      rw [←Heap.size_push h { cls:=.type "cell",data:=.cell none }] at hm
      rcases gC hm with hm | ⟨h1,h2,h3⟩
      · rcases List.mem_cons.mp hm with e | hm
        · cases e
          exact .inr ⟨hk ▸ List.mem_cons_self,Nat.le_refl _,_,pushCells_keeps r _ _ _ (Heap.get?_push_size _ rfl),rfl⟩
        · exact .inl hm
      · rw [Heap.size_push] at h2
        exact .inr ⟨List.mem_cons_of_mem _ h1,Nat.le_of_succ_le h2,h3⟩
    · rename_i hk
      rw [if_neg hk]
      rcases gC hm with hm | ⟨h1,h2,h3⟩
      · exact .inl hm
      · exact .inr ⟨List.mem_cons_of_mem _ h1,h2,h3⟩
theorem jg:∀ {names:List (Str × NameKind)} {n:Nat} {acc:List (Str × Addr)} {p:Str × Addr},p∈acc→p∈cellsFrom n names acc
  | [],_,_,_,h=>h
  | (m,k) :: r,n,acc,p,h=>by
    unfold cellsFrom
    split
    · exact jg (List.mem_cons_of_mem _ h)
    · exact jg h
theorem lH:∀ {names:List (Str × NameKind)} {n:Nat} {acc:List (Str × Addr)} {x:Str},(x,.cell)∈names→∃ c,(x,c)∈cellsFrom n names acc
  | (m,k) :: r,n,acc,x,h=>by
    unfold cellsFrom
    rcases List.mem_cons.mp h with e | h
    · cases e
      exact ⟨n,jg List.mem_cons_self⟩
    · split
      · exact lH h
      · exact lH h
theorem lG:∀ {names:List (Str × NameKind)} {h:Heap} {acc:List (Str × Addr)} {x y:Str} {c:Addr},(∀ p∈acc,p.2 < h.objs.size)→(∀ x y c,(x,c)∈acc→(y,c)∈acc→x=y) →
    (x,c)∈cellsFrom h.objs.size names acc→(y,c)∈cellsFrom h.objs.size names acc→x=y
  | [],_,_,_,_,_,_,hi,h1,h2=>hi _ _ _ h1 h2
  | (n,k) :: r,h,acc,x,y,c,hl,hi,h1,h2=>by
    unfold cellsFrom at h1 h2
    split at h1
    · rename_i hk
      rw [if_pos hk] at h2
      rw [←Heap.size_push h { cls:=.type "cell",data:=.cell none }] at h1 h2
      refine lG (h:=h.push _) (fun p hp=>?_) (fun x y c a b=>?_) h1 h2
      · rw [Heap.size_push]
        rcases List.mem_cons.mp hp with rfl | hp
        · exact Nat.lt_succ_self _
        · exact Nat.lt_succ_of_lt (hl p hp)
      · rcases List.mem_cons.mp a with e | a <;> rcases List.mem_cons.mp b with e' | b
        · cases e; cases e'; rfl
        · cases e; exact absurd (hl _ b) (Nat.lt_irrefl _)
        · cases e'; exact absurd (hl _ a) (Nat.lt_irrefl _)
        · exact hi _ _ _ a b
    · rename_i hk
      rw [if_neg hk] at h2
      exact lG hl hi h1 h2
theorem rX {M:Model} {A:Around} {E:Value→Shared→Prop} {s:Shared} {scope:Scope} {globals:Addr} {closure:List (Str × Addr)} {qual:Str} {func:Option Addr} {code:Value} {around:Env} {builtins:Addr} {Q:Env→Shared→Prop}
    (h:Q (newEnv scope s.heap.objs.size globals (cellsFrom (s.heap.objs.size + 1) scope.names closure) qual func code (some around) builtins)
      { s with heap:=pushCells (s.heap.push { cls:=.type "dict",data:=.dict #[] }) scope.names }) :
    wpAny M A (newFunctionEnv scope globals closure [] qual func code (some around) builtins) Q E s:=by
  simp only [newFunctionEnv,Option.isSome_some,if_true]
  refine wpAny_bind (wpAny_alloc ?_)
  refine wpAny_bind (wpAny_layCells _ (fun n k c=>rfl) scope.names closure _ _ ?_)
  rw [show ({ s with heap:=s.heap.push { cls:=.type "dict",data:=.dict #[] } }:Shared).heap.objs.size=s.heap.objs.size + 1 from Heap.size_push ..]
  rw [List.forIn_nil]
  exact wpAny_bind (wpAny_pure (wpAny_pure h))
theorem iM {sc:Scope}:∀ {names:List (Str × NameKind)} {x:Str} {k:NameKind},
    (names.map fun (n,k)=>if (k == NameKind.free && sc.kind == .function && sc.names.lookup n == some .cell) then (n,NameKind.cell) else (n,k)).lookup x=some k →
    ∃ k',names.lookup x=some k'∧(k=k'∨(k'=.free∧k=.cell))
  | [],_,_,h=>by simp at h
  | (n,k₀) :: r,x,k,h=>by
    have ih:=@iM sc r x k
    have h':List.lookup x ((if (k₀ == NameKind.free && sc.kind == .function && sc.names.lookup n == some .cell)=true then (n,NameKind.cell) else (n,k₀)) :: (r.map _))=some k:=h
    cases hx:x == n with
    | true =>
      simp only [List.lookup_cons,hx]
      by_cases hc:(k₀ == NameKind.free && sc.kind == .function && sc.names.lookup n == some .cell)=true
      · rw [if_pos hc] at h'
        simp only [List.lookup_cons,hx] at h'
        cases h'
        simp only [Bool.and_eq_true,beq_iff_eq] at hc
        exact ⟨k₀,rfl,.inr ⟨hc.1.1,rfl⟩⟩
      · rw [if_neg hc] at h'
        simp only [List.lookup_cons,hx] at h'
        cases h'
        exact ⟨_,rfl,.inl rfl⟩
    | false =>
      simp only [List.lookup_cons,hx]
      by_cases hc:(k₀ == NameKind.free && sc.kind == .function && sc.names.lookup n == some .cell)=true
      · rw [if_pos hc] at h'
        simp only [List.lookup_cons,hx] at h'
        exact ih h'
      · rw [if_neg hc] at h'
        simp only [List.lookup_cons,hx] at h'
        exact ih h'
structure tf (N:List Str) (sc scope:Scope) (own:List (Str × Nat)):Prop where
  kind:scope.kind=.function
  uniq:∀ y∈scope.names,scope.names.lookup y.1=some y.2
  ix:∀ p∈own,N[p.2]?=some p.1
  free:∀ y∈scope.names,y.2=.free→sc.names.lookup y.1=some .cell∨sc.names.lookup y.1=some .free
  own:∀ y∈scope.names,y.2=.local∨y.2=.cell→y.1∈own.map (·.1)∨y.1∉N
def wipe (σ:St):List Nat→St
  | []=>σ
  | v :: vs=>(wipe σ vs).set v none
theorem ii (σ:St):∀ vs:List Nat,(wipe σ vs).length=σ.length
  | []=>rfl
  | v :: vs=>by unfold wipe; rw [List.length_set,ii σ vs]
theorem kY {σ:St} {i:Nat} {x:V}:∀ {vs:List Nat},(wipe σ vs)[i]?=some (some x)→σ[i]?=some (some x)∧i∉vs
  | [],h=>⟨h,by simp⟩
  | v :: vs,h=>by
    unfold wipe at h
    by_cases hi:v=i
    · subst hi
      by_cases hv:v < (wipe σ vs).length
      · rw [List.getElem?_set_self hv] at h; cases h
      · rw [List.getElem?_eq_none (by simpa using hv)] at h; cases h
    · rw [List.getElem?_set_ne hi] at h
      obtain ⟨h1,h2⟩:=kY h
      exact ⟨h1,by simp only [List.mem_cons,not_or]; exact ⟨fun e=>hi e.symm,h2⟩⟩
abbrev Cx.blk (X:Cx) (s:Shared) (H:Hp) (scope:Scope) (cenv:Env) (fp:List Addr):Cx:={ X with s_0:=s,H_0:=H,env:=cenv,outer:=X.stack,ex:=fp,fn:=fun x=>scope.names.lookup x == some .cell,pn:=[],xe:=fun _ _=>False }
section
variable {X:Cx} {pins:List (Addr × Obj)} {σ:St} {H:Hp} {s:Shared}
theorem sQ {scope:Scope} {own:List (Str × Nat)} {fp:List Addr} (I:Inv X pins σ H s) (ok:tf X.N X.env.scope scope own) (hN:X.N.Nodup) (hfp:∀ b∈fp,FpOk X pins H b∧b < s.heap.objs.size) :
    Inv (X.blk s H scope (compEnvC scope (cellsFrom (s.heap.objs.size + 1) scope.names (bj X.env.cells scope.names [])) s.heap.objs.size X.env) fp) [] (wipe σ (own.map (·.2))) H { s with heap:=pushCells (s.heap.push { cls:=.type "dict",data:=.dict #[] }) scope.names }:=by
  have hfree:∀ y∈scope.names,y.2=.free→∃ c,X.env.cells.lookup y.1=some c:=fun y hy e=>by
    rcases ok.free y hy e with k | k
    · exact I.ok.has _ (.inl k)
    · exact I.ok.has _ (.inr k)
  generalize hcenv:compEnvC scope (cellsFrom (s.heap.objs.size + 1) scope.names (bj X.env.cells scope.names [])) s.heap.objs.size X.env=cenv
  have kp:∀ b o,s.heap.get? b=some o→(pushCells (s.heap.push { cls:=.type "dict",data:=.dict #[] }) scope.names).get? b=some o:=fun b o e=>pushCells_keeps _ _ _ _ (Heap.get?_push_of_some _ e)
  have hL:cenv.locals=s.heap.objs.size:=by rw [←hcenv]; rfl
  have hcl:cenv.cells=cellsFrom (s.heap.objs.size + 1) scope.names (bj X.env.cells scope.names []):=by rw [←hcenv]; rfl
  have hsc:cenv.scope=relS scope X.env.scope:=by rw [←hcenv]; rfl
  rw [←Heap.size_push s.heap { cls:=.type "dict",data:=.dict #[] }] at hcl
  have cm:∀ {y c},(y,c)∈bj X.env.cells scope.names []→X.env.cells.lookup y=some c∧c < s.heap.objs.size:=fun {y c} hm=>by
    rcases fM hm with hm | ⟨h1,rfl⟩
    · cases hm
    · obtain ⟨c,hc⟩:=hfree _ h1 rfl
      rw [hc]
      obtain ⟨w,z⟩:=I.cell _ _ hc
      exact ⟨rfl,z.lt⟩
  have mem:∀ {y c},cenv.cells.lookup y=some c→(X.env.cells.lookup y=some c∧c < s.heap.objs.size)∨(s.heap.objs.size + 1≤c∧yJ (pushCells (s.heap.push { cls:=.type "dict",data:=.dict #[] }) scope.names) c none):=fun {y c} e=>by
    rw [hcl] at e
    rcases gC (PySem.mem_of_lookup e) with hm | ⟨_,h2,h3⟩
    · exact .inl (cm hm)
    · rw [Heap.size_push] at h2; exact .inr ⟨h2,h3⟩
  have look:∀ {y},scope.names.lookup y=some .free→∃ c,cenv.cells.lookup y=some c∧X.env.cells.lookup y=some c:=fun {y} hl=>by
    have hy:(y,NameKind.free)∈scope.names:=PySem.mem_of_lookup hl
    obtain ⟨c',e'⟩:=jT (jg (names:=scope.names) (n:=(s.heap.push { cls:=.type "dict",data:=.dict #[] }).objs.size) (iW (cells:=X.env.cells) (acc:=[]) hy))
    rw [←hcl] at e'
    refine ⟨c',e',?_⟩
    rw [hcl] at e'
    rcases gC (PySem.mem_of_lookup e') with hm | ⟨h1,_,_⟩
    · exact (cm hm).1
    · have:=ok.uniq _ h1
      rw [hl] at this; cases this
  have okB:(X.blk s H scope cenv fp).Ok:=by
    refine ⟨I.ok.mod,by show cenv.scope.kind=_; rw [hsc]; exact ok.kind,by show cenv.globals=_; rw [←hcenv]; exact I.ok.glob,by show cenv.builtins=_; rw [←hcenv]; exact I.ok.blt,by show s.heap.objs.size≤cenv.locals; rw [hL]; exact Nat.le_refl _,
      fun y z c e1 e2=>?_,fun y hy=>?_,fun y c z e=>?_,I.ok.hd,I.ok.frames,.inl rfl,fun b hb=>⟨?_,fun y c e z=>?_⟩,I.bs,Nat.le_trans I.ok.bsz I.sz,fun b o e hb=>?_,fun b hb z=>?_,I.stack,I.stkFree⟩
    · have e1:cenv.cells.lookup y=some c:=e1
      have e2:cenv.cells.lookup z=some c:=e2
      rw [hcl] at e1 e2
      refine lG (fun p hp=>?_) (fun y z c a b=>I.ok.inj y z c (cm a).1 (cm b).1) (PySem.mem_of_lookup e1) (PySem.mem_of_lookup e2)
      rw [Heap.size_push]
      exact Nat.lt_succ_of_lt (cm (y:=p.1) (c:=p.2) hp).2
    · show ∃ c,cenv.cells.lookup y=some c
      have key:∀ k,cenv.kindOf y=some k→(k=.cell∨k=.free)→∃ c,cenv.cells.lookup y=some c:=fun k hk hk'=>by
        unfold Env.kindOf at hk
        rw [hsc] at hk
        obtain ⟨k',e,r⟩:=iM hk
        have:k'=.cell∨k'=.free:=by
          rcases r with rfl | ⟨rfl,_⟩
          · exact hk'
          · exact .inr rfl
        rcases this with rfl | rfl
        · obtain ⟨c,hm⟩:=lH (n:=(s.heap.push { cls:=.type "dict",data:=.dict #[] }).objs.size) (acc:=bj X.env.cells scope.names []) (PySem.mem_of_lookup e)
          obtain ⟨c',e'⟩:=jT hm
          exact ⟨c',by rw [hcl]; exact e'⟩
        · obtain ⟨c,h1,_⟩:=look e
          exact ⟨c,h1⟩
      rcases hy with hy | hy
      · exact key _ hy (.inl rfl)
      · exact key _ hy (.inr rfl)
    · have z:(scope.names.lookup y == some NameKind.cell)=true:=z
      have z:scope.names.lookup y=some .cell:=by simpa using z
      have e:cenv.cells.lookup y=some c:=e
      rw [hcl] at e
      rcases gC (PySem.mem_of_lookup e) with hm | ⟨_,h2,_⟩
      · rcases fM hm with hm | ⟨h1,_⟩
        · cases hm
        · have q:=ok.uniq _ h1
          rw [z] at q; cases q
      · rw [Heap.size_push] at h2
        exact Nat.le_of_succ_le h2
    · show b≠cenv.locals
      rw [hL]; exact Nat.ne_of_lt (hfp b hb).2
    · have e:cenv.cells.lookup y=some c:=e
      rcases mem e with ⟨h1,_⟩ | ⟨h1,_⟩
      · exact (hfp b hb).1.2.2.2.2.1 y c h1 z
      · have h2:s.heap.objs.size + 1≤b:=by rw [←z]; exact h1
        exact absurd (Nat.lt_of_lt_of_le (hfp b hb).2 (Nat.le_of_succ_le h2)) (Nat.lt_irrefl _)
    · rcases (hfp b hb).1.2.2.2.1 with z | z
      · exact I.ok.noex b o e z
      · exact absurd (Nat.lt_of_lt_of_le (Heap.lt_size e) (Nat.le_trans I.ok.bsz z)) (Nat.lt_irrefl _)
    · rcases List.mem_cons.mp (I.stkSub b z) with z | z
      · exact (hfp b hb).1.2.1 z
      · exact (hfp b hb).1.2.2.1 z
  refine ⟨okB,rfl,I.bare,Un.kept kp,⟨fun _=>none,?_,fun i y av e1 e2 e3=>?_⟩,fun y c e=>?_,?_,fun y c e=>?_,fun p hp=>?_,I.hok.kept kp,by rw [ii]; exact I.len⟩
  · show Heap.Ns _ cenv.locals _
    rw [hL]
    exact Heap.Ns.keeps (Heap.Ns.new ..) fun b o e=>pushCells_keeps _ _ _ _ e
  · obtain ⟨e2,hne⟩:=kY e2
    have hfr:scope.names.lookup y=some .free∧(cenv.kindOf y=some .cell∨cenv.kindOf y=some .free):=by
      have key:∀ k,cenv.scope.names.lookup y=some k→k=.local∨k=.cell∨k=.free→scope.names.lookup y=some .free∧(cenv.kindOf y=some .cell∨cenv.kindOf y=some .free):=fun k hk hk'=>by
        have hk0:=hk
        rw [hsc] at hk
        obtain ⟨k',e,r⟩:=iM hk
        have no:¬ (k'=.local∨k'=.cell):=fun hh=>by
          rcases ok.own _ (PySem.mem_of_lookup e) hh with e' | e'
          · obtain ⟨p,hp,hpy⟩:=List.mem_map.mp e'
            have e3:=ok.ix p hp
            have:p.1=y:=hpy
            rw [this] at e3
            exact hne (List.mem_map.mpr ⟨p,hp,nI hN e3 e1⟩)
          · exact e' (List.mem_of_getElem? e1)
        rcases r with rfl | ⟨rfl,rfl⟩
        · rcases hk' with rfl | rfl | rfl
          · exact absurd (.inl rfl) no
          · exact absurd (.inr rfl) no
          · exact ⟨e,.inr hk0⟩
        · exact ⟨e,.inl hk0⟩
      have e3:Vis cenv.scope y:=e3
      rcases e3 with e3 | e3 | e3
      · exact key _ e3 (.inl rfl)
      · exact key _ e3 (.inr (.inl rfl))
      · exact key _ e3 (.inr (.inr rfl))
    obtain ⟨m,hn,hl⟩:=I.loc
    have hvis:Vis X.env.scope y:=(ok.free _ (PySem.mem_of_lookup hfr.1) rfl).elim (fun k=>.inr (.inl k)) (fun k=>.inr (.inr k))
    obtain ⟨w,r,q⟩:=hl i y av e1 e2 hvis
    refine ⟨w,r,.inr ⟨hfr.2,?_⟩⟩
    obtain ⟨c,h1,h2⟩:=look hfr.1
    rcases q with ⟨k,_⟩ | ⟨_,c',e',z⟩
    · have k:X.env.scope.names.lookup y=some .local:=k
      rcases ok.free _ (PySem.mem_of_lookup hfr.1) rfl with k' | k' <;> rw [show X.env.scope.names.lookup y=_ from k'] at k <;> cases k
    · rw [h2] at e'; cases e'
      exact ⟨c,h1,z.keeps kp⟩
  · have e:cenv.cells.lookup y=some c:=e
    rcases mem e with ⟨h1,_⟩ | ⟨_,z⟩
    · obtain ⟨w,z⟩:=I.cell y c h1
      exact ⟨w,z.keeps kp⟩
    · exact ⟨_,z⟩
  · show H cenv.locals=none
    rw [hL]; exact I.hok.fresh (Nat.le_refl _)
  · have e:cenv.cells.lookup y=some c:=e
    rcases mem e with ⟨h1,_⟩ | ⟨h1,_⟩
    · exact I.freeC y c h1
    · exact I.hok.fresh (Nat.le_of_succ_le h1)
  · exact absurd (show p∈([]:List (Addr × Obj))++[] from hp) (by simp)
theorem app_ok {E:Value→Shared→Prop} {D:Addr} {xs:List V} {y:V} {v:Value} {Q:Value→Shared→Prop} (I:Inv X pins σ H s) (hD:H D=some (.lst xs)) (hz:xs.length < sizeLine) (r:RelV y v)
    (h:∀ s',Inv X pins σ (upd H D (.lst (xs++[y]))) s'→Q .none s'):wpAny (model X.prog X.w) X.A (call (.builtin "list.append") [.ref D,v]) Q E s:=by
  obtain ⟨hz',its,n,ri,e⟩:=I.hok D _ hD
  have hl:=ri.length
  refine append_at (hsz:=by rw [List.size_toArray]; omega) e fun h' sb ho'=>?_
  refine h { s with heap:=h' } (I.write (t':=s.toks) (by rw [hD]; trivial) (.inl rfl) (fun b u hb q=>(sb.2 b hb).trans q) ⟨_,ho'⟩ ⟨by rw [List.length_append]; exact hz,its++[v],n + 1,ri.append (.cons r .nil),?_⟩)
  rw [ho']
  simp
def PTs (X:Cx) (ifs:List Expr) (t:TT):Prop :=
  ∀ (pins:List (Addr × Obj)) (s:Shared) (σ:St) (H:Hp) (Q:Bool→Hp→Prop),Inv X pins σ H s→t σ H Q →
    wpAny (model X.prog X.w) X.A (forIn ifs true fun c r=>if r=true then do let ok ← isTrue c X.env (eval c X.env); pure (ForInStep.yield ok) else pure (ForInStep.yield r)) (TP X pins σ Q) X.xe s
def tYes:TT:=fun _ H Q=>Q true H
theorem bJ:PTs X [] tYes:=fun _ _ _ H _ I h=>wpAny_tests_nil ⟨H,I,h⟩
theorem uV {c:Expr} {t:TT} (h:PT X c t):PTs X [c] t:=fun pins s σ H Q I hw=>wpAny_tests_one (h pins s σ H Q I hw)
end
theorem thnF {α:Type} {t:Sem α} {Q Q':α→Shared→Prop} {M:Model} {A:Around} {E:Value→Shared→Prop} {s:Shared} (h:wpAny M A t Q (fun _ _=>False) s) (hQ:∀ a s,Q a s→Q' a s):wpAny M A t Q' E s:=wpAny_mono h hQ fun _ _ z=>False.elim z
theorem qB {prog:Program} {w:World} {A:Around} {R:Result→Shared→Prop} {s:Shared} {elt target iter:Expr} {ifs:List Expr} {scope:Scope} {pos:Pos} {it acc:Value} {env:Env} (I:Nat→Shared→Prop)
    (turn:∀ n s,I n s→wpAny (model prog w) A (pyNext it) (fun r s₁=>match r with
      | none=>R (.ok .next) s₁
      | some v=>wpAny (model prog w) A (letOwnedTupleGo target it v) (fun _ s₁'=>wpAny (model prog w) A (assign target env v) (fun _ s₂ =>
          wpAny (model prog w) A (forIn ifs true fun c r=>if r=true then do let ok ← isTrue c env (eval c env); pure (ForInStep.yield ok) else pure (ForInStep.yield r)) (fun ok s₃ =>
            if ok=true then wpAny (model prog w) A (eval elt env) (fun x s₄ =>
              wpAny (model prog w) A (call (.builtin "list.append") [acc,x]) (fun _ s₅=>∃ m,m < n∧I m s₅) (notedBy (model prog w) A env fun e s'=>R (.error e) s') s₄) (notedBy (model prog w) A env fun e s'=>R (.error e) s') s₃
            else ∃ m,m < n∧I m s₃) (notedBy (model prog w) A env fun e s'=>R (.error e) s') s₂) (notedBy (model prog w) A env fun e s'=>R (.error e) s') s₁') (notedBy (model prog w) A env fun e s'=>R (.error e) s') s₁) (notedBy (model prog w) A env fun e s'=>R (.error e) s') s)
    (n:Nat) (h:I n s) :
    codeAny (model prog w) A (.compLoop (.ListComp elt [⟨target,iter,ifs,0⟩] scope pos) 0 it acc env) R s:=by
  refine codeAny_loop rfl I (fun n s hI=>?_) n h
  show wpAny _ A ((compTurn (.ListComp elt [⟨target,iter,ifs,0⟩] scope pos) 0 it acc env).onRaise (fun x=>do noteFrame x env; theTreesLotGoes x)) _ _ s
  refine wpAny_noted ?_
  rw [compTurn_list]
  refine wpAny_bind (wpAny_standAt (wpAny_bind (wpAny_mono (turn n s hI) (fun r s₁ h₁=>?_) fun _ _ h'=>h')))
  cases r with
  | none=>exact wpAny_pure h₁
  | some v =>
    refine wpAny_bind (wpAny_mono h₁ (fun _ s₁' h₁'=>?_) fun _ _ h'=>h')
    refine wpAny_bind (wpAny_mono h₁' (fun _ s₂ h₂=>wpAny_bind (wpAny_mono h₂ (fun ok s₃ h₃=>?_) fun _ _ h'=>h')) fun _ _ h'=>h')
    cases ok with
    | false=>exact wpAny_pure ⟨rfl,h₃⟩
    | true =>
      exact wpAny_bind (wpAny_bind (wpAny_mono h₃ (fun x s₄ h₄=>wpAny_bind (wpAny_mono h₄ (fun _ s₅ h₅=>wpAny_pure (wpAny_pure ⟨rfl,h₅⟩)) fun _ _ h'=>h')) fun _ _ h'=>h'))
section
variable {X:Cx}
def tLc (wi:TI) (g:TG) (tt:TT) (te:TE) (vs:List Nat):TE:=fun σ H Q=>wi σ H fun J H1=>∀ D,H1 D=none→∃ W:Nat→Nat→Hp→Prop,(∃ m,W 0 m (upd H1 D (.lst [])))∧∀ i m H,W i m H →
  (J.stop i H∧Q (.ref D) H)∨(J.go i H∧∃ Nx:Hp→Prop,(∀ H',Nx H'→∃ m',m' < m∧W (i + 1) m' H')∧∀ x H',J.yld i H x H'→g x (wipe σ vs) H' fun σ2 H2=>wipe σ2 vs=wipe σ vs∧tt σ2 H2 fun b H3 =>
    if b=true then te σ2 H3 fun y H4=>∃ acc,H4 D=some (.lst acc)∧acc.length < sizeLine∧Nx (upd H4 D (.lst (acc++[y]))) else Nx H3)
theorem vc {pins:List (Addr × Obj)} {s:Shared} {σ:St} {H:Hp} {Q:VK} {elt tg iter:Expr} {ifs:List Expr} {scope:Scope} {own:List (Str × Nat)} {pos pos':Pos} {wi:TI} {g:TG} {tt:TT} {te:TE} {use:Option (Value→Sem Unit)} {Qf:Value→Shared→Prop}
    (hc:X.calm=true) (hN:X.N.Nodup) (I:Inv X pins σ H s) (hi:PI X tg iter wi) (ok:tf X.N X.env.scope scope own)
    (hg:∀ (s:Shared) (H:Hp) (C:Addr) (cl:List (Str × Addr)) (fp:List Addr),PG (X.blk s H scope (compEnvC scope cl C X.env) fp) tg g) (ht:∀ (s:Shared) (H:Hp) (C:Addr) (cl:List (Str × Addr)) (fp:List Addr),PTs (X.blk s H scope (compEnvC scope cl C X.env) fp) ifs tt)
    (he:∀ (s:Shared) (H:Hp) (C:Addr) (cl:List (Str × Addr)) (fp:List Addr),PE (X.blk s H scope (compEnvC scope cl C X.env) fp) elt te) (hs:∀ x,foldedSetIterable iter X.env x=pure x)
    (h:tLc wi g tt te (own.map (·.2)) σ H Q)
    (hRR:∀ D C s' m H',Inv X pins σ H' s'→Q (.ref D) H'→s'.heap.Ns C m→FpOk X pins H' C→compPost (model X.prog X.w) X.A X.xe use Qf (.ref D) C (.ok .next) s') :
    wpAny (model X.prog X.w) X.A (comprehension (.ListComp elt [⟨tg,iter,ifs,0⟩] scope pos) scope X.env pos' (newList []) false (eval iter X.env) use) Qf X.xe s:=by
  have hfree:∀ y∈scope.names,y.2=.free→∃ c,X.env.cells.lookup y.1=some c:=fun y hy e=>by
    rcases ok.free y hy e with k | k
    · exact I.ok.has _ (.inl k)
    · exact I.ok.has _ (.inr k)
  refine wpAny_comprehension_free (use:=use) rfl hs (uB hfree) ok.kind (fun y hy e=>by rw [ok.uniq y hy,e])
    (thn (hi pins s σ H _ I h) fun xv s1 hx=>thn hx fun itv s2 h2=>?_)
  obtain ⟨it,fp,tn,J,H2,e,I2,T,st2,f2,q⟩:=h2
  subst e
  refine wpAny_newObj_type (rX ?_) (by show 0≤sizeLine; decide)
  generalize hD:s2.heap.objs.size=D
  have hDn:H2 D=none:=I2.hok.fresh (Nat.le_of_eq hD)
  obtain ⟨W,⟨m0,w0⟩,turn⟩:=q D hDn
  generalize hs3:({ s2 with heap:=s2.heap.push { cls:=.type "list",data:=.seq ([]:List Value).toArray } }:Shared)=s3
  have I3:Inv X pins σ (upd H2 D (.lst [])) s3:=by
    rw [←hs3]
    refine I2.laid (t':=s2.toks) (fun b o e=>Heap.get?_push_of_some _ e) (Nat.le_of_eq hD) ⟨Nat.zero_le _,[],0,.nil,?_⟩
    rw [←hD]
    exact Heap.get?_push_size _ rfl
  have h3:s3.heap=s2.heap.push { cls:=.type "list",data:=.seq ([]:List Value).toArray }:=by rw [←hs3]
  have sz:∀ b∈fp,b < s2.heap.objs.size:=fun b hb=>by
    obtain ⟨o,e,_⟩:=T.obj _ _ st2 b hb
    exact Heap.lt_size e
  have f3:∀ b∈fp,FpOk X pins (upd H2 D (.lst [])) b∧b < s3.heap.objs.size:=fun b hb=>by
    have hlt:=sz b hb
    refine ⟨⟨?_,(f2 b hb).2⟩,by rw [h3,Heap.size_push]; exact Nat.lt_succ_of_lt hlt⟩
    rw [ai (by rw [←hD]; exact Nat.ne_of_lt hlt)]
    exact (f2 b hb).1
  have st3:tn 0 s3.heap:=T.keep _ _ _ st2 fun b _ o e=>by rw [h3]; exact Heap.get?_push_of_some _ e
  have I4:=sQ I3 ok hN f3
  have pg:=hg s3 (upd H2 D (.lst [])) s3.heap.objs.size (cellsFrom (s3.heap.objs.size + 1) scope.names (bj X.env.cells scope.names [])) fp
  have pt:=ht s3 (upd H2 D (.lst [])) s3.heap.objs.size (cellsFrom (s3.heap.objs.size + 1) scope.names (bj X.env.cells scope.names [])) fp
  have pe:=he s3 (upd H2 D (.lst [])) s3.heap.objs.size (cellsFrom (s3.heap.objs.size + 1) scope.names (bj X.env.cells scope.names [])) fp
  show codeAny _ _ (.compStart (.ListComp elt [⟨tg,iter,ifs,0⟩] scope pos) 0 (.ref it) (.ref D) (compEnvC scope (cellsFrom (s3.heap.objs.size + 1) scope.names (bj X.env.cells scope.names [])) s3.heap.objs.size X.env)) (compPost (model X.prog X.w) X.A X.xe use Qf (.ref D) s3.heap.objs.size) { s3 with heap:=pushCells (s3.heap.push { cls:=.type "dict",data:=.dict #[] }) scope.names }
  have nfp:∀ b∈fp,(upd H2 D (.lst [])) b=none:=fun b hb=>(f3 b hb).1.1
  generalize hce:compEnvC scope (cellsFrom (s3.heap.objs.size + 1) scope.names (bj X.env.cells scope.names [])) s3.heap.objs.size X.env=ce at I4 pg pt pe ⊢
  have cL:ce.locals=s3.heap.objs.size:=by subst hce; rfl
  generalize hH3:upd H2 D (.lst [])=H3 at I3 I4 pg pt pe w0 nfp f3
  generalize hs4:({ s3 with heap:=pushCells (s3.heap.push { cls:=.type "dict",data:=.dict #[] }) scope.names }:Shared)=s4 at I4 ⊢
  have st4:tn 0 s4.heap:=T.keep _ _ _ st3 fun b _ o e=>by rw [←hs4]; exact pushCells_keeps _ _ _ _ (Heap.get?_push_of_some _ e)
  have stat:∀ {σ':St} {H':Hp} {s':Shared},Inv (X.blk s3 H3 scope ce fp) [] σ' H' s'→(∀ b∈fp,H' b=none)→∀ b∈fp,FpOk (X.blk s3 H3 scope ce fp) [] H' b:=fun {σ' H' s'} I' hn b hb =>
    ⟨hn b hb,(I'.ok.exf b hb).1,I'.ok.exfs b hb,.inl hb,fun x c e=>(I'.ok.exf b hb).2 x c e,fun p hp=>absurd (show p∈([]:List (Addr × Obj))++[] from hp) (by simp)⟩
  have loop:codeAny (model X.prog X.w) X.A (.compLoop (.ListComp elt [⟨tg,iter,ifs,0⟩] scope pos) 0 (.ref it) (.ref D) ce) (compPost (model X.prog X.w) X.A X.xe use Qf (.ref D) s3.heap.objs.size) s4:=by
    refine qB (fun n s'=>∃ i H',Inv (X.blk s3 H3 scope ce fp) [] (wipe σ (own.map (·.2))) H' s'∧tn i s'.heap∧(∀ b∈fp,H' b=none)∧W i n H') ?_ m0 ⟨0,H3,I4,st4,nfp,w0⟩
    rintro n s5 ⟨i,H5,I5,st5,n5,w5⟩
    rcases turn i n H5 w5 with ⟨stop,qq⟩ | ⟨go,Nx,hNx,step⟩
    · have td:=T.done (X.blk s3 H3 scope ce fp) rfl rfl rfl hc i [] s5 _ H5 (fun _ _=>False) I5 (stat I5 n5) st5 stop
      refine thnF td fun r s6 ⟨hr,I6⟩=>?_
      subst hr
      have I7:Inv X pins σ H5 s6:=I3.call' (ch:=fp) I6.os I6.base I6.hok I6.bare fun b hb=>⟨(f3 b hb).1.2.2.2.1,(f3 b hb).1.2.1,(f3 b hb).1.2.2.2.2.1,(f3 b hb).1.2.2.2.2.2⟩
      have nC:H5 s3.heap.objs.size=none:=by
        have z:H5 ce.locals=none:=I6.free
        rw [cL] at z
        exact z
      obtain ⟨m,hn,_⟩:=I6.loc
      have hn:s6.heap.Ns ce.locals m:=hn
      rw [cL] at hn
      exact hRR D s3.heap.objs.size s6 m H5 I7 qq hn (I3.fpOk (Nat.le_refl _) nC)
    · have ti:=T.item (X.blk s3 H3 scope ce fp) rfl rfl rfl hc i [] s5 _ H5 (fun _ _=>False) I5 (stat I5 n5) st5 go
      refine thnF ti fun r s6 ⟨u,hr,h6⟩=>?_
      subst hr
      refine thnF h6 fun _ s7 ⟨x,H7,I7,r7,y7,st7,n7⟩=>?_
      have I7':=I7.pinned (stat I7 n7) (T.obj _ _ st7)
      refine thnF (pg _ s7 _ H7 x u _ I7' r7 (step x H7 y7)) fun _ s8 ⟨σ8,H8,I8,hw8,q8⟩=>?_
      refine thnF (pt _ s8 σ8 H8 _ I8 q8) fun b s9 ⟨H9,I9,q9⟩=>?_
      have fin:∀ {s':Shared} {H':Hp},Inv (X.blk s3 H3 scope ce fp) ([]++nj fp s7.heap) σ8 H' s'→Nx H'→∃ m,m < n∧∃ i H',Inv (X.blk s3 H3 scope ce fp) [] (wipe σ (own.map (·.2))) H' s'∧tn i s'.heap∧(∀ b∈fp,H' b=none)∧W i m H':=fun {s' H'} I' nx=>by
        obtain ⟨m',hm,w'⟩:=hNx H' nx
        have pin':∀ b∈fp,∀ o,s7.heap.get? b=some o→s'.heap.get? b=some o∧H' b=none:=fun b hb o e =>
          let z:=I'.pin (b,o) (List.mem_append_right _ (List.mem_append_right _ (jS hb e)))
          ⟨z.1,z.2.1⟩
        have hl:(wipe σ (own.map (·.2))).length=σ8.length:=by rw [←hw8,ii]
        refine ⟨m',hm,i + 1,H',(I'.unpinned (pins:=[])).weak hl (fun j v e=>?_),T.keep _ _ _ st7 fun b hb o e=>(pin' b hb o e).1,fun b hb=>?_,w'⟩
        · rw [←hw8] at e
          exact (kY e).1
        · obtain ⟨o,e,_⟩:=T.obj _ _ st7 b hb
          exact (pin' b hb o e).2
      cases b with
      | false =>
        simp only [Bool.false_eq_true,if_false] at q9 ⊢
        exact fin I9 q9
      | true =>
        simp only [if_true] at q9 ⊢
        refine thnF (pe _ s9 σ8 H9 _ I9 q9) fun z s10 ⟨yv,H10,I10,r10,acc,hD10,hz10,nx⟩=>?_
        exact app_ok (X:=X.blk s3 H3 scope ce fp) I10 hD10 hz10 r10 fun s11 I11=>fin I11 nx
  exact codeAny_compStart_list loop (T.self X.A 0 _ _ _ st4 loop)
theorem gv {elt tg iter:Expr} {ifs:List Expr} {scope:Scope} {own:List (Str × Nat)} {pos:Pos} {wi:TI} {g:TG} {tt:TT} {te:TE} (hc:X.calm=true) (hN:X.N.Nodup) (hi:PI X tg iter wi) (ok:tf X.N X.env.scope scope own)
    (hg:∀ (s:Shared) (H:Hp) (C:Addr) (cl:List (Str × Addr)) (fp:List Addr),PG (X.blk s H scope (compEnvC scope cl C X.env) fp) tg g) (ht:∀ (s:Shared) (H:Hp) (C:Addr) (cl:List (Str × Addr)) (fp:List Addr),PTs (X.blk s H scope (compEnvC scope cl C X.env) fp) ifs tt)
    (he:∀ (s:Shared) (H:Hp) (C:Addr) (cl:List (Str × Addr)) (fp:List Addr),PE (X.blk s H scope (compEnvC scope cl C X.env) fp) elt te) (hs:∀ x,foldedSetIterable iter X.env x=pure x:=by intro _; rfl) :
    PE X (.ListComp elt [⟨tg,iter,ifs,0⟩] scope pos) (tLc wi g tt te (own.map (·.2))):=by
  intro pins s σ H Q I h
  rw [eval_ListComp]
  refine vc hc hN I hi ok hg ht he hs h fun D C s' m H' I' q hn f=>⟨m,hn,fun h'' sb=>?_⟩
  obtain ⟨f0,f1,f2,f3,f4,f5⟩:=f
  exact ⟨.ref D,H',I'.turned (t':=s'.toks) (fun b o hb e=>(sb.2 b hb).trans e) f0 f1 f3 f4 f5,rfl,q⟩
theorem iB {i:Nat} {y:Str} {py:Pos} {elt tg iter:Expr} {ifs:List Expr} {scope:Scope} {own:List (Str × Nat)} {pos spos:Pos} {wi:TI} {g:TG} {tt:TT} {te:TE} (hc:X.calm=true) (hN:X.N.Nodup) (hy:X.N[i]?=some y) (hyl:X.env.scope.names.lookup y=some .local)
    (hsw:swapsWith (.ListComp elt [⟨tg,iter,ifs,0⟩] scope pos) (some (.Name y py)) spos.line X.env=pure true) (hi:PI X tg iter wi) (ok:tf X.N X.env.scope scope own)
    (hg:∀ (s:Shared) (H:Hp) (C:Addr) (cl:List (Str × Addr)) (fp:List Addr),PG (X.blk s H scope (compEnvC scope cl C X.env) fp) tg g) (ht:∀ (s:Shared) (H:Hp) (C:Addr) (cl:List (Str × Addr)) (fp:List Addr),PTs (X.blk s H scope (compEnvC scope cl C X.env) fp) ifs tt)
    (he:∀ (s:Shared) (H:Hp) (C:Addr) (cl:List (Str × Addr)) (fp:List Addr),PE (X.blk s H scope (compEnvC scope cl C X.env) fp) elt te) (hs:∀ x,foldedSetIterable iter X.env x=pure x:=by intro _; rfl) :
    PS X (.Assign [.Name y py] (.ListComp elt [⟨tg,iter,ifs,0⟩] scope pos) spos) (tAsg (tLc wi g tt te (own.map (·.2))) (su i)):=by
  intro pins s σ H D I h
  rw [exec_Assign_Name_used _ _ _ _ hsw]
  refine wpAny_bind (wpAny_standAt (wpAny_bind ?_))
  show wpAny _ X.A (do let _ ← comprehension (.ListComp elt [⟨tg,iter,ifs,0⟩] scope pos) scope X.env (firstIterPos [⟨tg,iter,ifs,0⟩] pos) (newList []) false (eval iter X.env) (some (assign (.Name y py) X.env))) _ _ s
  have h:tLc wi g tt te (own.map (·.2)) σ H (fun x H1=>su i x σ H1 D.nx):=h
  refine wpAny_bind (thn (vc (Qf:=fun _ s'=>SP X pins D .next s') hc hN I hi ok hg ht he hs h fun L C s' m H' I' q hn f=>?_) fun _ s' hq=>wpAny_pure (wpAny_pure hq))
  show wpAny _ _ (assign (.Name y py) X.env (.ref L)) _ _ _
  refine wpAny_assign_Name (o9 (v:=V.ref L) I' hN hy (.inl hyl) rfl (fun s2 I2 ⟨a,sb,ha⟩=>?_) (.inr hyl))
  obtain ⟨f0,f1,f2,f3,f4,f5⟩:=f
  have haC:C≠a:=by
    rcases ha with z | z
    · rw [z]; exact f1
    · exact fun e=>f4 y a z e.symm
  refine ⟨m,hn.sameBut sb haC,fun h3 sb3=>?_⟩
  exact ⟨_,H',I2.turned (t':=s2.toks) (fun b o hb e=>(sb3.2 b hb).trans e) f0 f1 f3 f4 f5,q⟩
theorem kg {elt:Expr} {gs:List Comprehension} {scope:Scope} {pos py:Pos} {y:Str} {l:Nat} {env:Env} (hk:env.scope.kind=.function) (hy:env.scope.names.lookup y=some .local) (hl:(py.line == pos.line)=true)
    (ha:(scope.names.any fun (n,k)=>n == y && (k == .local || k == .cell))=false):swapsWith (.ListComp elt gs scope pos) (some (.Name y py)) l env=pure true:=by
  have ky:env.kindOf y=some .local:=hy
  have hb:env.blockKind=.function:=by unfold Env.blockKind; rw [hk]; rfl
  unfold swapsWith
  simp only [hb,ky,ha,Expr.pos,hl]
  rfl
end
theorem nT {lo:Int} {n:Nat} {g:TG} {tt:TT} {te:TE} {vs:List Nat} {σ:St} {H1:Hp} {D:Addr} {Qd:Hp→Prop} (Pv:Nat→Hp→Prop) (h0:Pv 0 (upd H1 D (.lst [])))
    (hs:∀ i H,i < n→Pv i H→g (.int (lo + i)) (wipe σ vs) H fun σ2 H2=>wipe σ2 vs=wipe σ vs∧tt σ2 H2 fun b H3 =>
      if b=true then te σ2 H3 fun y H4=>∃ acc,H4 D=some (.lst acc)∧acc.length < sizeLine∧Pv (i + 1) (upd H4 D (.lst (acc++[y]))) else Pv (i + 1) H3) (hd:∀ H,Pv n H→Qd H) :
    ∃ W:Nat→Nat→Hp→Prop,(∃ m,W 0 m (upd H1 D (.lst [])))∧∀ i m H,W i m H →
      ((Itr lo n).stop i H∧Qd H)∨((Itr lo n).go i H∧∃ Nx:Hp→Prop,(∀ H',Nx H'→∃ m',m' < m∧W (i + 1) m' H')∧∀ x H',(Itr lo n).yld i H x H'→g x (wipe σ vs) H' fun σ2 H2=>wipe σ2 vs=wipe σ vs∧tt σ2 H2 fun b H3 =>
        if b=true then te σ2 H3 fun y H4=>∃ acc,H4 D=some (.lst acc)∧acc.length < sizeLine∧Nx (upd H4 D (.lst (acc++[y]))) else Nx H3):=by
  refine ⟨fun i m H=>m=n - i∧i≤n∧Pv i H,⟨n,by simp,Nat.zero_le _,h0⟩,?_⟩
  rintro i m H ⟨rfl,hi,p⟩
  by_cases hlt:i < n
  · refine .inr ⟨hlt,Pv (i + 1),fun H' p'=>⟨n - (i + 1),by omega,rfl,hlt,p'⟩,fun x H' y=>?_⟩
    obtain ⟨e,y⟩:=y
    subst e y
    exact hs i _ hlt p
  · have e:i=n:=by omega
    subst e
    exact .inl ⟨Nat.le_refl _,hd H p⟩
theorem vb {K:PySem.W.Frag} {a:Addr} {xs:List V} {g:TG} {tt:TT} {te:TE} {vs:List Nat} {σ:St} {H1:Hp} {D:Addr} {Qd:Hp→Prop} (Pv:Nat→Hp→Prop) (h0:Pv 0 (upd H1 D (.lst []))) (hl:∀ i H,i≤xs.length→Pv i H→SqL K H a xs)
    (hs:∀ i x H,xs[i]?=some x→Pv i H→g x (wipe σ vs) H fun σ2 H2=>wipe σ2 vs=wipe σ vs∧tt σ2 H2 fun b H3 =>
      if b=true then te σ2 H3 fun y H4=>∃ acc,H4 D=some (.lst acc)∧acc.length < sizeLine∧Pv (i + 1) (upd H4 D (.lst (acc++[y]))) else Pv (i + 1) H3) (hd:∀ H,Pv xs.length H→Qd H) :
    ∃ W:Nat→Nat→Hp→Prop,(∃ m,W 0 m (upd H1 D (.lst [])))∧∀ i m H,W i m H →
      ((Itl K a).stop i H∧Qd H)∨((Itl K a).go i H∧∃ Nx:Hp→Prop,(∀ H',Nx H'→∃ m',m' < m∧W (i + 1) m' H')∧∀ x H',(Itl K a).yld i H x H'→g x (wipe σ vs) H' fun σ2 H2=>wipe σ2 vs=wipe σ vs∧tt σ2 H2 fun b H3 =>
        if b=true then te σ2 H3 fun y H4=>∃ acc,H4 D=some (.lst acc)∧acc.length < sizeLine∧Nx (upd H4 D (.lst (acc++[y]))) else Nx H3):=by
  refine ⟨fun i m H=>m=xs.length - i∧i≤xs.length∧Pv i H,⟨xs.length,by simp,Nat.zero_le _,h0⟩,?_⟩
  rintro i m H ⟨rfl,hi,p⟩
  have q:=hl i H hi p
  by_cases hlt:i < xs.length
  · refine .inr ⟨⟨xs,xs[i],q,by simp [hlt]⟩,Pv (i + 1),fun H' p'=>⟨xs.length - (i + 1),by omega,rfl,hlt,p'⟩,fun x H' y=>?_⟩
    obtain ⟨e,y⟩:=y
    subst e
    exact hs i x _ (y xs q) p
  · have e:i=xs.length:=by omega
    subst e
    exact .inl ⟨⟨xs,q,Nat.le_refl _⟩,hd H p⟩
theorem lc_tup {K:PySem.W.Frag} {a:Addr} {xs:List V} {g:TG} {tt:TT} {te:TE} {vs:List Nat} {σ:St} {H1:Hp} {D:Addr} {Qd:Hp→Prop} (Pv:Nat→Hp→Prop) (h0:Pv 0 (upd H1 D (.lst []))) (hl:∀ i H,i≤xs.length→Pv i H→SqT K H a xs)
    (hs:∀ i x H,xs[i]?=some x→Pv i H→g x (wipe σ vs) H fun σ2 H2=>wipe σ2 vs=wipe σ vs∧tt σ2 H2 fun b H3 =>
      if b=true then te σ2 H3 fun y H4=>∃ acc,H4 D=some (.lst acc)∧acc.length < sizeLine∧Pv (i + 1) (upd H4 D (.lst (acc++[y]))) else Pv (i + 1) H3) (hd:∀ H,Pv xs.length H→Qd H) :
    ∃ W:Nat→Nat→Hp→Prop,(∃ m,W 0 m (upd H1 D (.lst [])))∧∀ i m H,W i m H →
      ((Itt K a).stop i H∧Qd H)∨((Itt K a).go i H∧∃ Nx:Hp→Prop,(∀ H',Nx H'→∃ m',m' < m∧W (i + 1) m' H')∧∀ x H',(Itt K a).yld i H x H'→g x (wipe σ vs) H' fun σ2 H2=>wipe σ2 vs=wipe σ vs∧tt σ2 H2 fun b H3 =>
        if b=true then te σ2 H3 fun y H4=>∃ acc,H4 D=some (.lst acc)∧acc.length < sizeLine∧Nx (upd H4 D (.lst (acc++[y]))) else Nx H3):=by
  refine ⟨fun i m H=>m=xs.length - i∧i≤xs.length∧Pv i H,⟨xs.length,by simp,Nat.zero_le _,h0⟩,?_⟩
  rintro i m H ⟨rfl,hi,p⟩
  have q:=hl i H hi p
  by_cases hlt:i < xs.length
  · refine .inr ⟨⟨xs,xs[i],q,by simp [hlt]⟩,Pv (i + 1),fun H' p'=>⟨xs.length - (i + 1),by omega,rfl,hlt,p'⟩,fun x H' y=>?_⟩
    obtain ⟨e,y⟩:=y
    subst e
    exact hs i x _ (y xs q) p
  · have e:i=xs.length:=by omega
    subst e
    exact .inl ⟨⟨xs,q,Nat.le_refl _⟩,hd H p⟩
def blkC (N:List Str) (sc scope:Scope) (own:List (Str × Nat)):Bool :=
  (match scope.kind with | .function=>true | _=>false) && (scope.names.all fun y=>decide (scope.names.lookup y.1=some y.2)) && (own.all fun p=>decide (N[p.2]?=some p.1)) &&
    (scope.names.all fun y=>match y.2 with
      | .free=>(match sc.names.lookup y.1 with | some .cell=>true | some .free=>true | _=>false)
      | .local=>decide (y.1∈own.map (·.1)) || decide (y.1∉N)
      | .cell=>decide (y.1∈own.map (·.1)) || decide (y.1∉N)
      | _=>true)
theorem bh {N:List Str} {sc scope:Scope} {own:List (Str × Nat)} (h:blkC N sc scope own=true):tf N sc scope own:=by
  unfold blkC at h
  simp only [Bool.and_eq_true,List.all_eq_true,decide_eq_true_eq] at h
  obtain ⟨⟨⟨h1,h2⟩,h3⟩,h4⟩:=h
  refine ⟨?_,h2,h3,fun y hy e=>?_,fun y hy e=>?_⟩
  · split at h1
    · assumption
    · cases h1
  · have q:=h4 y hy
    simp only [e] at q
    split at q <;> first | exact .inl (by assumption) | exact .inr (by assumption) | cases q
  · have q:=h4 y hy
    rcases e with e | e <;> (simp only [e,Bool.or_eq_true,decide_eq_true_eq] at q; exact q)
end L2
namespace L2
open PySem PySem.Spec PyProof.Rows
section
variable {prog:Program} {w:World} {A:Around} {R:Result→Shared→Prop} {s:Shared} {elt t0 i0 t1 i1:Expr} {ifs0 ifs1:List Expr} {scope:Scope} {pos:Pos} {it acc:Value} {env:Env}
end
section
variable {X:Cx}
end
end L2
namespace L2
open PySem PySem.Spec PyProof.Rows
section
variable {κ:Type} [DecidableEq κ]
def valV (kvs:List (κ × V)) (k:κ):Option V:=(kvs.find? fun kv=>decide (kv.1=k)).map (·.2)
def putK (kvs:List (κ × V)) (k:κ) (v:V):List (κ × V) :=
  if (kvs.any fun kv=>decide (kv.1=k))=true then kvs.map (fun kv=>if kv.1=k then (kv.1,v) else kv) else kvs++[(k,v)]
theorem cw {p:κ × V} {r:List (κ × V)} {k:κ} (e:p.1=k):valV (p :: r) k=some p.2:=by simp [valV,List.find?_cons,e]
theorem cx {p:κ × V} {r:List (κ × V)} {k:κ} (e:¬ p.1=k):valV (p :: r) k=valV r k:=by simp [valV,List.find?_cons,e]
theorem j8 (k:κ):∀ kvs:List (κ × V),(kvs.any fun kv=>decide (kv.1=k))=(valV kvs k).isSome
  | []=>rfl
  | p :: r=>by
    rw [List.any_cons]
    by_cases e:p.1=k
    · simp only [cw e,decide_eq_true e,Bool.true_or,Option.isSome_some]
    · rw [cx e,decide_eq_false e,Bool.false_or]; exact j8 k r
theorem qY (k j:κ) (y:V):∀ kvs:List (κ × V),valV (kvs.map fun kv=>if kv.1=k then (kv.1,y) else kv) j=(valV kvs j).map fun x=>if j=k then y else x
  | []=>rfl
  | p :: r=>by
    have ih:=qY k j y r
    rw [List.map_cons]
    by_cases h:p.1=k
    · rw [if_pos h]
      by_cases e:p.1=j
      · rw [cw (p:=(p.1,y)) e,cw e,Option.map_some,if_pos (e.symm.trans h)]
      · rw [cx (p:=(p.1,y)) e,cx e,ih]
    · rw [if_neg h]
      by_cases e:p.1=j
      · rw [cw (p:=p) e,cw e,Option.map_some,if_neg (fun z=>h (e.trans z))]
      · rw [cx (p:=p) e,cx e,ih]
theorem o6 (k j:κ) (y:V):∀ kvs:List (κ × V),valV kvs k=none→valV (kvs++[(k,y)]) j=if j=k then some y else valV kvs j
  | [],_=>by
    by_cases e:k=j
    · rw [if_pos e.symm]; exact cw (p:=(k,y)) e
    · rw [if_neg (fun z=>e z.symm)]; exact cx (p:=(k,y)) e
  | p :: r,hn=>by
    rw [List.cons_append]
    have hk:¬ p.1=k:=fun z=>by rw [cw z] at hn; cases hn
    rw [cx hk] at hn
    have ih:=o6 k j y r hn
    by_cases e:p.1=j
    · rw [cw e,cw e,if_neg (fun z=>hk (e.trans z))]
    · rw [cx e,cx e,ih]
theorem xc (kvs:List (κ × V)) (k j:κ) (y:V):valV (putK kvs k y) j=if j=k then some y else valV kvs j:=by
  unfold putK
  by_cases a:(kvs.any fun kv=>decide (kv.1=k))=true
  · rw [if_pos a,qY]
    rw [j8] at a
    by_cases e:j=k
    · obtain ⟨x,hx⟩:=Option.isSome_iff_exists.mp a
      rw [if_pos e,e,hx,Option.map_some,if_pos rfl]
    · rw [if_neg e]
      cases valV kvs j with
      | none=>rfl
      | some x=>rw [Option.map_some,if_neg e]
  · rw [if_neg a]
    refine o6 k j y kvs ?_
    rw [j8] at a
    cases q:valV kvs k with
    | none=>rfl
    | some x=>rw [q] at a; exact (a rfl).elim
theorem iN (kvs:List (κ × V)) (k:κ) (v:V):(putK kvs k v).length≤kvs.length + 1:=by
  unfold putK
  split
  · rw [List.length_map]; omega
  · rw [List.length_append,List.length_cons,List.length_nil]; omega
theorem RelO.isSome_eq {o:Option V} {u:Option Value} (r:RelO o u):o.isSome=u.isSome:=by
  cases o with
  | none=>cases u with
    | none=>rfl
    | some _=>exact (show False from r).elim
  | some _=>cases u with
    | none=>exact (show False from r).elim
    | some _=>rfl
theorem KV.val {kvs:List (κ × V)} {vs:List (κ × Value)} (r:KV kvs vs) (k:κ):RelO (valV kvs k) (valueAt vs k):=by
  unfold KV at r
  induction r with
  | nil=>exact True.intro
  | @cons p q ps qs h t ih =>
    obtain ⟨h1,h2⟩:=h
    by_cases e:p.1=k
    · have e':q.1=k:=h1.symm.trans e
      have b:valueAt (q :: qs) k=some q.2:=by simp [valueAt,List.find?_cons,e']
      rw [cw e,b]; exact h2
    · have e':¬ q.1=k:=fun z=>e (h1.trans z)
      have b:valueAt (q :: qs) k=valueAt qs k:=by simp [valueAt,List.find?_cons,e']
      rw [cx e,b]; exact ih
theorem KV.any {kvs:List (κ × V)} {vs:List (κ × Value)} (r:KV kvs vs) (k:κ):(kvs.any fun kv=>decide (kv.1=k))=vs.any fun kv=>decide (kv.1=k):=by
  unfold KV at r
  induction r with
  | nil=>rfl
  | cons h t ih=>rw [List.any_cons,List.any_cons,ih,h.1]
theorem KV.repl {kvs:List (κ × V)} {vs:List (κ × Value)} (r:KV kvs vs) (k:κ) {y:V} {u:Value} (ry:RelV y u) :
    KV (kvs.map fun kv=>if kv.1=k then (kv.1,y) else kv) (vs.map fun kv=>if kv.1=k then (kv.1,u) else kv):=by
  unfold KV at r ⊢
  induction r with
  | nil=>exact .nil
  | @cons p q ps qs h t ih =>
    rw [List.map_cons,List.map_cons]
    refine .cons ?_ ih
    obtain ⟨h1,h2⟩:=h
    by_cases e:p.1=k
    · rw [if_pos e,if_pos (h1.symm.trans e)]; exact ⟨h1,ry⟩
    · rw [if_neg e,if_neg (fun z=>e (h1.trans z))]; exact ⟨h1,h2⟩
theorem KV.put {kvs:List (κ × V)} {vs:List (κ × Value)} (r:KV kvs vs) (k:κ) {y:V} {u:Value} (ry:RelV y u):KV (putK kvs k y) (stored vs k u):=by
  unfold putK stored
  rw [r.any k]
  by_cases e:(vs.any fun kv=>decide (kv.1=k))=true
  · rw [if_pos e,if_pos e]; exact r.repl k ry
  · rw [if_neg e,if_neg e]; exact Paired.snoc r ⟨rfl,ry⟩
theorem KV.length {kvs:List (κ × V)} {vs:List (κ × Value)} (r:KV kvs vs):kvs.length=vs.length:=Paired.length r
end
theorem ve {P:Program} {w:World} {k:Key} {u:Value} (r:RelV (kV k) u):(cu P w).is k u=true:=by
  cases k with
  | inl i=>obtain ⟨t,e⟩:=(show ∃ t,u=Value.int i t from r); subst e; exact r8 P w i t
  | inr x=>obtain ⟨t,e⟩:=(show ∃ t,u=Value.str x t from r); subst e; exact r6 P w x t
theorem pz {P:Program} {w:World}:∀ {ks:List Key} {us:List Value},Vals (ks.map kV) us→ItemsAre (cu P w) ks us
  | [],_,r=>by rw [List.map_nil] at r; cases r; exact .nil
  | k :: ks,_,r=>by
    rw [List.map_cons] at r
    cases r with
    | cons h t=>exact .cons (ve h) (pz t)
abbrev KT (H:Hp):List (List Key × V)→List (List Key × Addr × Value)→Prop:=Paired fun p q=>p.1=q.1∧H q.2.1=some (.tup (p.1.map kV))∧RelV p.2 q.2.2
theorem KT.val {H:Hp} {kvs:List (List Key × V)} {xs:List (List Key × Addr × Value)} (r:KT H kvs xs) (k:List Key):RelO (valV kvs k) ((atKey xs k).map (·.2)):=by
  induction r with
  | nil=>exact True.intro
  | @cons p q ps qs h t ih =>
    obtain ⟨h1,_,h2⟩:=h
    by_cases e:p.1=k
    · have e':q.1=k:=h1.symm.trans e
      have b:atKey (q :: qs) k=some q.2:=by simp [atKey,List.find?_cons,e']
      rw [cw e,b]; exact h2
    · have e':¬ q.1=k:=fun z=>e (h1.trans z)
      have b:atKey (q :: qs) k=atKey qs k:=by simp [atKey,List.find?_cons,e']
      rw [cx e,b]; exact ih
theorem KT.repl {H:Hp} {kvs:List (List Key × V)} {xs:List (List Key × Addr × Value)} (r:KT H kvs xs) (k:List Key) {y:V} {u:Value} (ry:RelV y u) :
    KT H (kvs.map fun kv=>if kv.1=k then (kv.1,y) else kv) (xs.map (putAt k u)):=by
  induction r with
  | nil=>exact .nil
  | @cons p q ps qs h t ih =>
    rw [List.map_cons,List.map_cons]
    refine .cons ?_ ih
    obtain ⟨h1,h2,h3⟩:=h
    unfold putAt
    by_cases e:p.1=k
    · rw [if_pos e,if_pos (h1.symm.trans e)]; exact ⟨h1,h2,ry⟩
    · rw [if_neg e,if_neg (fun z=>e (h1.trans z))]; exact ⟨h1,h2,h3⟩
theorem KT.put {H:Hp} {kvs:List (List Key × V)} {xs:List (List Key × Addr × Value)} (r:KT H kvs xs) (k:List Key) {b:Addr} {y:V} {u:Value} (hb:H b=some (.tup (k.map kV))) (ry:RelV y u) :
    KT H (putK kvs k y) (storedH xs k b u):=by
  have e:(kvs.any fun kv=>decide (kv.1=k))=(atKey xs k).isSome:=by
    rw [j8,(r.val k).isSome_eq,Option.isSome_map]
  unfold putK storedH
  rw [e]
  by_cases q:(atKey xs k).isSome=true
  · rw [if_pos q,if_pos q]; exact r.repl k ry
  · rw [if_neg q,if_neg q]; exact Paired.snoc r ⟨rfl,hb,ry⟩
theorem KT.keeps {H H':Hp} {kvs:List (List Key × V)} {xs:List (List Key × Addr × Value)} (r:KT H kvs xs) (ht:∀ b ys,H b=some (.tup ys)→H' b=some (.tup ys)):KT H' kvs xs :=
  Paired.mapP r fun _ _ z=>⟨z.1,ht _ _ z.2.1,z.2.2⟩
section
variable {P:Program} {w:World} {H:Hp} {h:Heap} {a:Addr}
theorem rd_of {u:HO} (ok:HOk P w H h) (e:Rd H a u):bN P w H h a u:=e.ok ok
theorem vv {kvs:List (Key × V)} (ok:HOk P w H h) (e:Rd H a (.dK kvs)):kvs.length≤sizeLine∧(a == sysModules)=false∧∃ vs,KV kvs vs∧h.DictOf (cu P w) a vs :=
  show bN P w H h a (.dK kvs) from rd_of ok e
theorem dk_of {kvs:List (Key × V)} (ok:HOk P w H h) (e:H a=some (.dK kvs)):kvs.length≤sizeLine∧(a == sysModules)=false∧∃ vs,KV kvs vs∧h.DictOf (cu P w) a vs:=vv ok (.inl e)
theorem qu {ks:List Key} (ok:HOk P w H h) (e:H a=some (.tup (ks.map kV))):(tupleKind (cu P w)).is h ks a:=by
  obtain ⟨_,its,r,o,h1,h2,n,h3⟩:=(show bN P w H h a (.tup (ks.map kV)) from ok a _ e)
  exact ⟨o,its.toArray,n,h1,h2,h3,by simpa using pz r⟩
theorem vt {kvs:List (List Key × V)} (ok:HOk P w H h) (e:Rd H a (.dT kvs)):kvs.length≤sizeLine∧(a == sysModules)=false ∧
    ∃ xs,KT H kvs xs∧h.DictOfH (tupleKind (cu P w)) a xs:=by
  obtain ⟨z,y,xs,r,o,es,ep,h1,h2,h3,h4,h5⟩:=(show bN P w H h a (.dT kvs) from rd_of ok e)
  refine ⟨z,y,xs,r,o,es,ep,h1,h2,h3,h4,fun x hx=>?_,h5⟩
  have all:∀ {l:List (List Key × V)} {m:List (List Key × Addr × Value)},KT H l m→∀ x∈m,(tupleKind (cu P w)).is h x.1 x.2.1:=by
    intro l m q
    induction q with
    | nil=>intro x hx; exact nomatch hx
    | @cons p q ps qs hq t ih =>
      intro x hx
      rcases List.mem_cons.mp hx with e | hx
      · subst e
        exact qu ok (by rw [←hq.1]; exact hq.2.1)
      · exact ih x hx
  exact all r x hx
theorem dt_of {kvs:List (List Key × V)} (ok:HOk P w H h) (e:H a=some (.dT kvs)):kvs.length≤sizeLine∧(a == sysModules)=false ∧
    ∃ xs,KT H kvs xs∧h.DictOfH (tupleKind (cu P w)) a xs:=vt ok (.inl e)
end
def DGet (H:Hp) (a:Addr) (y:V) (r:Option V):Prop :=
  (∃ kvs k,Rd H a (.dK kvs)∧y=kV k∧r=valV kvs k)∨∃ kvs k b,Rd H a (.dT kvs)∧y=.ref b∧H b=some (.tup (k.map kV))∧r=valV kvs k
def DPut (H:Hp) (a:Addr) (y v:V) (H':Hp):Prop :=
  (∃ kvs k,H a=some (.dK kvs)∧y=kV k∧kvs.length < sizeLine∧H'=upd H a (.dK (putK kvs k v))) ∨
  ∃ kvs k b,H a=some (.dT kvs)∧y=.ref b∧H b=some (.tup (k.map kV))∧kvs.length < sizeLine∧H'=upd H a (.dT (putK kvs k v))
theorem DGet.k {H:Hp} {a:Addr} {kvs:List (Key × V)} {k:Key} (e:H a=some (.dK kvs)):DGet H a (kV k) (valV kvs k):=.inl ⟨kvs,k,.inl e,rfl,rfl⟩
theorem DPut.k {H:Hp} {a:Addr} {kvs:List (Key × V)} {k:Key} {v:V} (e:H a=some (.dK kvs)) (hl:kvs.length < sizeLine):DPut H a (kV k) v (upd H a (.dK (putK kvs k v))):=.inl ⟨kvs,k,e,rfl,hl,rfl⟩
section
variable {X:Cx} {pins:List (Addr × Obj)} {σ:St} {H:Hp} {s:Shared} {a:Addr} {y v:V} {u r:Value} {o:Option V} {A:Around} {E:Value→Shared→Prop}
theorem Inv.big (I:Inv X pins σ H s):sysModules < s.heap.objs.size:=by
  have h:mainGlobals < s.heap.objs.size:=(I.mod.glob.keeps I.bk).lt
  exact Nat.lt_trans (by decide) h
theorem wG {Q:Value→Shared→Prop} (hu:A.units + 1 < cLine) (I:Inv X pins σ H s) (g:DGet H a y (some v)) (ry:RelV y u) (h:∀ w' s',Inv X pins σ H s'→RelV v w'→Q w' s') :
    wpAny (model X.prog X.w) A (getItem (.ref a) u) Q E s:=by
  rcases g with ⟨kvs,k,e,ey,l⟩ | ⟨kvs,k,b,e,ey,eb,l⟩
  · subst ey
    obtain ⟨z,hd,vs,rel,dd⟩:=vv I.hok e
    obtain ⟨w',hw,rw'⟩:=RelO.some_of (v:=v) (o:=valueAt vs k) (by rw [l]; exact rel.val k)
    exact wpAny_getItem_of (ve ry) dd.mapOf hw (h w' _ (I.tok _) rw')
  · subst ey
    cases (show u=Value.ref b from ry)
    obtain ⟨z,hd,xs,rel,dd⟩:=vt I.hok e
    obtain ⟨w',hw,rw'⟩:=RelO.some_of (v:=v) (o:=(atKey xs k).map (·.2)) (by rw [l]; exact rel.val k)
    obtain ⟨p,hp,hp2⟩:=Option.map_eq_some_iff.mp hw
    refine wpAny_getItem_heap (tupleKind_room_in1 hu) (qu I.hok eb) dd hp ?_
    rw [hp2]
    exact h w' _ (I.tok _) rw'
theorem d_in {Q:Value→Shared→Prop} (hu:A.units + 1 < cLine) (I:Inv X pins σ H s) (g:DGet H a y o) (ry:RelV y u) (h:∀ s',Inv X pins σ H s'→Q (.bool o.isSome) s') :
    wpAny (model X.prog X.w) A (compareOp .In u (.ref a)) Q E s:=by
  rcases g with ⟨kvs,k,e,ey,l⟩ | ⟨kvs,k,b,e,ey,eb,l⟩
  · subst ey
    obtain ⟨z,hd,vs,rel,dd⟩:=vv I.hok e
    refine wpAny_in_of (ve ry) hd dd.mapOf ?_
    rw [←(rel.val k).isSome_eq,←l]
    exact h _ (I.tok _)
  · subst ey
    cases (show u=Value.ref b from ry)
    obtain ⟨z,hd,xs,rel,dd⟩:=vt I.hok e
    refine wpAny_in_heap (tupleKind_room_in1 hu) (qu I.hok eb) hd dd ?_
    have q:=(rel.val k).isSome_eq
    rw [Option.isSome_map] at q
    rw [←q,←l]
    exact h _ (I.tok _)
theorem vz {h':Heap} {t':Nat} {ob:HO} (I:Inv X pins σ H s) (mu:Mut (H a)) (hs:Heap.SameBut a s.heap h') (he:∃ q,h'.get? a=some q) (new:bN X.prog X.w (upd H a ob) h' a ob) :
    Inv X pins σ (upd H a ob) { s with heap:=h',toks:=t' } :=
  I.write (x:=a) (e:=a) mu (.inl rfl) (fun b q hb z=>(hs.2 b hb).trans z) he new
theorem dk_new {P:Program} {w:World} {H':Hp} {h':Heap} {kvs:List (Key × V)} {vs:List (Key × Value)} (z:kvs.length≤sizeLine) (hd:(a == sysModules)=false) (rel:KV kvs vs) (dd:h'.DictOf (cu P w) a vs) :
    bN P w H' h' a (.dK kvs):=⟨z,hd,vs,rel,dd⟩
theorem wF {H':Hp} {Q:Unit→Shared→Prop} (hu:A.units + 1 < cLine) (I:Inv X pins σ H s) (g:DPut H a y v H') (ry:RelV y u) (rv:RelV v r) (h:∀ s',Inv X pins σ H' s'→Q () s') :
    wpAny (model X.prog X.w) A (setItem (.ref a) u r) Q E s:=by
  rcases g with ⟨kvs,k,e,ey,l,eH⟩ | ⟨kvs,k,b,e,ey,eb,l,eH⟩
  · subst ey eH
    obtain ⟨z,hd,vs,rel,dd⟩:=dk_of I.hok e
    have hz:vs.length≤sizeLine:=by rw [←rel.length]; exact z
    have hl:(putK kvs k v).length≤sizeLine:=by have:=iN kvs k v; omega
    refine wpAny_setItem_pairs (hsz:=hz) (ve ry) dd fun h' dd' hs=>h _ ?_
    have he:∃ q,h'.get? a=some q:=let ⟨q,_,_,hq,_⟩:=dd'; ⟨q,hq⟩
    exact vz I (by rw [e]; exact True.intro) hs he (dk_new hl hd (rel.put k rv) dd')
  · subst ey eH
    cases (show u=Value.ref b from ry)
    obtain ⟨z,hd,xs,rel,dd⟩:=dt_of I.hok e
    have hz:xs.length≤sizeLine:=by rw [←Paired.length rel]; exact z
    have hl:(putK kvs k v).length≤sizeLine:=by have:=iN kvs k v; omega
    refine wpAny_setItem_heap (hsz:=hz) (tupleKind_room_in1 hu) (qu I.hok eb) dd fun h' dd' hs=>h _ ?_
    obtain ⟨q,es,ep,hq,h2,h3,h4,_,h5⟩:=dd'
    refine vz I (by rw [e]; exact True.intro) hs ⟨q,hq⟩ ⟨hl,hd,_,(rel.put k eb rv).keeps fun c ys ec=>?_,q,es,ep,hq,h2,h3,h4,h5⟩
    rw [ai (bL ec e (fun z=>nomatch z))]
    exact ec
end
section
variable {X:Cx} {pins:List (Addr × Obj)} {σ:St} {H:Hp} {s:Shared} {a:Addr} {kvs:List (Key × V)} {k:Key} {u:Value} {A:Around} {E:Value→Shared→Prop}
end
def NoSl (i:Expr):Prop:=∀ ov iv,subscripted i false ov iv=operate [ov,iv] (getItem ov iv)
theorem yS {prog:Program} {w:World} {A:Around} {E:Value→Shared→Prop} {s:Shared} {env:Env} {value slice:Expr} {pos:Pos} {T id:String} {Q:Value→Shared→Prop}
    (hl:typeLookup (.type T) "__getitem__" = pure (some (.builtin id))) (hs:NoSl slice)
    (h:wpAny (model prog w) A (eval value env) (fun o s₁=>wpAny (model prog w) A (eval slice env) (fun i s₂=>s₂.TypeIs o T∧wpAny (model prog w) A (getItem o i) Q E s₂) E s₁) E s) :
    wpAny (model prog w) A (eval (.Subscript value slice pos) env) Q E s:=by
  refine Subscript_ (wpAny_mono h (fun o s₁ h₁=>wpAny_mono h₁ (fun i s₂ h₂=>?_) fun _ _ x=>x) fun _ _ x=>x)
  obtain ⟨hT,h₂⟩:=h₂
  unfold subscriptTail
  refine wpAny_bind ?_
  rw [getitemInPython_of_ne hT.not_modules]
  refine wpAny_bind (wpAny_specialOf hT hl ?_)
  have fin:wpAny (model prog w) A (subscripted slice false o i) (fun r s₃=>wpAny (model prog w) A (letTemporaryGo value o r >>= fun _=>pure r) Q E s₃) E s₂:=by
    rw [hs o i]
    exact wpAny_operating (wpAny_mono h₂ (fun r s₃ h₃=>wpAny_bind (wpAny_letTemporaryGo (wpAny_pure h₃))) fun _ _ x=>x)
  first
    | exact wpAny_pure (wpAny_bind fin)
    | exact wpAny_bind (wpAny_pure (wpAny_bind fin))
    | exact wpAny_bind fin
theorem sD {X:Cx} {pins:List (Addr × Obj)} {σ:St} {H:Hp} {s:Shared} {a:Addr} {y:V} {o:Option V} (I:Inv X pins σ H s) (g:DGet H a y o):s.TypeIs (.ref a) "dict" := by
  rcases g with ⟨kvs,k,e,_,_⟩ | ⟨kvs,k,b,e,_,_,_⟩
  · obtain ⟨_,_,vs,_,dd⟩:=vv I.hok e
    exact dd.typeIs
  · obtain ⟨_,_,xs,_,dd⟩:=vt I.hok e
    exact dd.typeIs
def tDGet (td ty:TE):TE:=fun σ H Q=>td σ H fun x H1=>ty σ H1 fun y H2=>∃ a v,x=.ref a∧DGet H2 a y (some v)∧Q v H2
def tDIn (ty td:TE):TE:=fun σ H Q=>ty σ H fun y H1=>td σ H1 fun x H2=>∃ a o,x=.ref a∧DGet H2 a y o∧Q (.bl o.isSome) H2
def sDPut (td ty tv:TE):TS:=fun D σ H=>tv σ H fun v H1=>td σ H1 fun x H2=>ty σ H2 fun y H3=>∃ a H4,x=.ref a∧DPut H3 a y v H4∧D.nx σ H4
section
variable {X:Cx} {o i e value:Expr} {pos pos' tpos:Pos} {td ty tv:TE}
theorem zf (hu:X.A.units + 1 < cLine) (ho:PE X o td) (hi:PE X i ty) (hs:NoSl i):PE X (.Subscript o i pos) (tDGet td ty):=by
  intro pins s σ H Q I h
  refine yS PySem.F.slot_dict_getitem.lookup hs (thn (ho pins s σ H _ I h) fun u s1 ⟨x,H1,I1,rx,q1⟩=>thn (hi pins s1 σ H1 _ I1 q1) fun iv s2 ⟨y,H2,I2,ry,a,v,ex,g,q2⟩=>?_)
  subst ex
  obtain rfl:u=Value.ref a:=rx
  exact ⟨sD I2 g,wG hu I2 g ry fun w' s3 I3 rw'=>⟨v,H2,I3,rw',q2⟩⟩
theorem pc_din (hu:X.A.units + 1 < cLine) (hi:PE X i ty) (ho:PE X o td):PC X .In i o (tDIn ty td):=by
  intro pins s σ H Q I h
  refine thn (hi pins s σ H _ I h) fun iv s1 ⟨y,H1,I1,ry,q1⟩=>thn (ho pins s1 σ H1 _ I1 q1) fun u s2 ⟨x,H2,I2,rx,a,ov,ex,g,q2⟩=>?_
  subst ex
  obtain rfl:u=Value.ref a:=rx
  exact d_in hu I2 g ry fun s3 I3=>⟨.bl ov.isSome,H2,I3,rfl,q2⟩
theorem zc (hu:X.A.units + 1 < cLine) (ho:PE X o td) (hi:PE X i ty) (hv:PE X value tv) (hs:swapsWith value (some (.Subscript o i pos')) pos.line X.env=pure false) :
    PS X (.Assign [.Subscript o i pos'] value pos) (sDPut td ty tv):=by
  intro pins s σ H D I h
  refine wpAny_Assign_Subscript (thn (hv pins s σ H _ I h) fun r s1 ⟨v,H1,I1,rv,q1⟩=>thn (ho pins s1 σ H1 _ I1 q1) fun u s2 ⟨x,H2,I2,rx,q2⟩=>thn (hi pins s2 σ H2 _ I2 q2) fun iv s3 ⟨y,H3,I3,ry,a,H4,ex,g,q3⟩=>?_) hs
  subst ex
  obtain rfl:u=Value.ref a:=rx
  exact wF hu I3 g ry rv fun s4 I4=>⟨σ,H4,I4,q3⟩
end
theorem yy {P:Program} {w:World} {H:Hp} (h:Heap) (hb:sysModules < h.objs.size):bN P w H (h.push { cls:=.type "dict",data:=.dict #[] }) h.objs.size (.dK []) :=
  ⟨Nat.zero_le _,beq_eq_false_iff_ne.mpr (Ne.symm (Nat.ne_of_lt hb)),[],.nil,Heap.DictOf.new h⟩
def tDNewK:TE:=fun _ H Q=>∀ p,H p=none→Q (.ref p) (upd H p (.dK []))
section
variable {X:Cx} {pos:Pos}
theorem xQ:PE X (.Dict [] [] pos) tDNewK:=fun pins s σ H Q I h =>
  wpAny_Dict_empty ⟨.ref s.heap.objs.size,_,I.laid (a:=s.heap.objs.size) (o:=.dK []) (t':=s.toks) (fun _ _ q=>Heap.get?_push_of_some _ q) (Nat.le_refl _) (yy s.heap I.big),rfl,h _ (I.hok.fresh (Nat.le_refl _))⟩
end
section
variable {X:Cx} {pins:List (Addr × Obj)} {σ:St} {H:Hp} {s:Shared} {a:Addr} {y d:V} {u r:Value} {o:Option V} {A:Around} {E:Value→Shared→Prop}
end
section
variable {X:Cx} {o e f:Expr} {apos cpos:Pos} {td ty tx:TE}
end
section
variable {X:Cx} {pins:List (Addr × Obj)} {σ:St} {H:Hp} {s:Shared} {a:Addr} {kvs:List (Key × V)} {A:Around} {E:Value→Shared→Prop}
end
section
variable {X:Cx} {pins:List (Addr × Obj)} {σ:St} {H:Hp} {s:Shared} {a:Addr} {y:V} {u:Value} {A:Around} {E:Value→Shared→Prop}
end
end L2
namespace L2
open PySem PySem.Spec PyProof.Rows
section
variable {prog:Program} {w:World} {A:Around} {E:Value→Shared→Prop}
end
section
variable {X:Cx}
end
end L2
namespace L2
open PySem PySem.Spec PyProof.Rows
theorem i3:bootBuiltins "reversed" = some (.type "reversed"):=by decide +kernel
section
variable {X:Cx} {pins:List (Addr × Obj)} {σ:St} {H:Hp} {s:Shared} {h':Heap}
theorem Inv.turnedL {t':Nat} {ch:List Addr} (I:Inv X pins σ H s) (k:∀ b o,b∉ch→s.heap.get? b=some o→h'.get? b=some o) (hf:∀ b∈ch,FpOk X pins H b):Inv X pins σ H { s with heap:=h',toks:=t' }:=by
  have nit:∀ b u,H b=some u→b∉ch:=fun b u e z=>by
    have q:=(hf b z).1
    rw [q] at e; cases e
  refine I.step (g':=s.gens) (d':=s.drawn) (ch:=ch) (fun b hb=>⟨(hf b hb).2.2.2.1,(hf b hb).2.1,(hf b hb).2.2.2.2.1,(hf b hb).2.2.2.2.2⟩) (fun b o _ _ hc e _=>k b o hc e) (fun b o _ _ hc e _=>⟨o.slots,k b o hc e⟩)
    (fun _ _ _ _ n=>n) (fun b o hc e=>⟨o,k b o hc e⟩) (fun _ _ e=>e) (fun _ _ _ e=>e) (fun b ps e=>⟨#[],by rw [e]; simp⟩) (fun m hm=>?_) (fun b u e=>?_) I.bare
  · obtain ⟨o,es,ep,ho,r⟩:=hm
    exact ⟨o,es,ep,k _ o (fun z=>(hf _ z).2.1 rfl) ho,r⟩
  · refine (I.hok b u e).stay (fun c v hc q=>k c v ?_ q) (fun _ q=>q) fun _ _ q=>q
    rcases hc with z | z
    · rw [z]; exact nit b u e
    · exact nit c _ z
theorem Inv.turnedNew {t':Nat} {ch:List Addr} {T:Addr} {ob:HO} (I:Inv X pins σ H s) (k:∀ b o,b∉ch→s.heap.get? b=some o→h'.get? b=some o) (hf:∀ b∈ch,FpOk X pins H b) (hT:s.heap.objs.size≤T)
    (new:bN X.prog X.w (upd H T ob) h' T ob):Inv X pins σ (upd H T ob) { s with heap:=h',toks:=t' }:=by
  have hn:H T=none:=I.hok.fresh hT
  have nit:∀ b u,H b=some u→b∉ch:=fun b u e z=>by
    have q:=(hf b z).1
    rw [q] at e; cases e
  refine I.step (g':=s.gens) (d':=s.drawn) (ch:=ch) (fun b hb=>⟨(hf b hb).2.2.2.1,(hf b hb).2.1,(hf b hb).2.2.2.2.1,(hf b hb).2.2.2.2.2⟩) (fun b o _ _ hc e _=>k b o hc e) (fun b o _ _ hc e _=>⟨o.slots,k b o hc e⟩)
    (fun b o _ e n=>?_) (fun b o hc e=>⟨o,k b o hc e⟩) (fun b xs e=>?_) (fun b o u e=>?_) (fun b ps e=>⟨#[],?_⟩) (fun m hm=>?_) (fun b u e=>?_) I.bare
  · rw [ai (Nat.ne_of_lt (Nat.lt_of_lt_of_le (Heap.lt_size e) hT))]; exact n
  · rw [ai (aq e hn)]; exact e
  · rw [ai (aq e hn)]; exact e
  · rw [ai (aq e hn),e]; simp
  · obtain ⟨o,es,ep,ho,r⟩:=hm
    exact ⟨o,es,ep,k _ o (fun z=>(hf _ z).2.1 rfl) ho,r⟩
  · by_cases hb:b=T
    · subst hb
      rw [ac] at e
      cases e
      exact new
    · rw [ai hb] at e
      refine (I.hok b u e).stay (fun c v hc q=>k c v ?_ q) (fun c q=>by rw [ai (aq q hn)]; exact q) fun c xs q=>by rw [ai (aq q hn)]; exact q
      rcases hc with z | z
      · rw [z]; exact nit b u e
      · exact nit c _ z
end
section
variable {X:Cx}
theorem tW {tg:Expr} {pins:List (Addr × Obj)} {σ:St} {H:Hp} {s:Shared} {R:It→Hp→Prop} {J:It} {tn:Nat→Heap→Prop} {tk:Nat} (I:Inv X pins σ H s) (o:Obj)
    (T:Turn X.prog X.w X.K tg J [s.heap.objs.size] s.heap.objs.size tn) (st:tn 0 (s.heap.push o)) (q:R J H):PIE X pins σ tg R (.ref s.heap.objs.size) { s with heap:=s.heap.push o,toks:=tk }:=by
  refine ⟨s.heap.objs.size,[s.heap.objs.size],tn,J,H,rfl,I.kept fun b ob e=>Heap.get?_push_of_some _ e,T,st,fun b hb=>?_,q⟩
  have e:b=s.heap.objs.size:=by simpa using hb
  subst e
  exact I.fpOk (Nat.le_refl _) (I.hok.fresh (Nat.le_refl _))
end
section
variable {X:Cx} {tg:Expr}
end
def Itv (K:PySem.W.Frag) (a:Addr) (n:Nat):It :=
  ⟨fun i H=>i < n∧∃ (xs:List V) (x:V),SqL K H a xs∧xs[n - 1 - i]?=some x,fun i H x H'=>H'=H∧∀ xs,SqL K H a xs→xs[n - 1 - i]?=some x,fun i _=>n≤i⟩
theorem xh {P:Program} {w:World} {K:PySem.W.Frag} {tg:Expr} (a it:Addr) (n:Nat):Turn P w K tg (Itv K a n) [it] it (fun i h=>i≤n∧h.IsRevIter it a ((n:Int) - 1 - (i:Nat))) where
  mem:=by simp
  obj:=fun i h st b hb=>by
    have e:b=it:=by simpa using hb
    subst e
    obtain ⟨_,o,e,c,d⟩:=st
    exact ⟨o,e,fun v z=>by rw [d] at z; cases z⟩
  keep:=fun i h h' st k=>⟨st.1,st.2.at fun o e=>k it (by simp) o e⟩
  item:=by
    intro X hP hw hK hc i pins s σ H E I hf st hg
    subst hP hw hK
    obtain ⟨hin,xs,x,hq,hx⟩:=hg
    obtain ⟨its,rv,p,hz⟩:=I.list hq
    obtain ⟨u,hu,ru⟩:=rv.get hx
    obtain ⟨f0,f1,f2,f3,f4,f5⟩:=hf it (by simp)
    obtain ⟨_,hit⟩:=st
    have e1:(n:Int) - 1 - ((i:Nat):Int)=((n - 1 - i:Nat):Int):=by omega
    rw [e1] at hit
    refine wpAny_pyNext_rev_item hit p.isList (x:=u) (by simpa using hu) fun h' st' sb=>?_
    have e2:((n - 1 - i:Nat):Int) - 1=(n:Int) - 1 - ((i + 1:Nat):Int):=by omega
    rw [e2] at st'
    have I1:Inv X pins σ H { s with heap:=h' }:=I.turned (t':=s.toks) (fun b o hb e=>(sb.2 b hb).trans e) f0 f1 f3 f4 f5
    obtain ⟨o,e,c,d⟩:=id st'
    exact ⟨u,rfl,sq (s:={ s with heap:=h' }) e c d (by decide) ⟨x,H,I1,ru,⟨rfl,fun ys hy=>by rw [I.list_inj hy hq]; exact hx⟩,⟨hin,st'⟩,fun b hb=>(hf b hb).1⟩⟩
  done:=by
    intro X hP hw hK hc i pins s σ H E I hf st hg
    subst hP hw hK
    obtain ⟨f0,f1,f2,f3,f4,f5⟩:=hf it (by simp)
    obtain ⟨hin,hit⟩:=st
    have hge:n≤i:=hg
    have e1:(n:Int) - 1 - ((i:Nat):Int)=-1:=by omega
    rw [e1] at hit
    exact wpAny_pyNext_rev_end (I.ok.hd hc) hit fun h' eb=>⟨rfl,I.turned (t':=s.toks) (fun b o hb e=>eb b o hb e) f0 f1 f3 f4 f5⟩
  self:=fun A i s Q E st h=>wpAny_pyIter_revIter st.2 h
def iRev (K:PySem.W.Frag) (ta:TA):TI:=fun σ H R=>ta σ H fun vs H1=>∃ (a:Addr) (xs:List V),vs=[.ref a]∧SqL K H1 a xs∧R (Itv K a xs.length) H1
section
variable {X:Cx} {tg:Expr}
theorem rC {e:Expr} {ta:TA} {p pos:Pos} (hg:Gl X "reversed") (hm:X.mg "reversed" = none) (ha:PA X [e] ta) (hs:starEach [e] X.env=[(false,eval e X.env)]:=by rfl):PI X tg (.Call (.Name "reversed" p) [e] [] pos) (iRev X.K ta):=by
  intro pins s σ H R I h
  refine Call_ (g6 I hg hm i3 (PyProof.Rows.callWith_type1 (thn (ha pos pins s σ H _ I h) fun us s1 ⟨vs,H1,I1,r1,q1⟩=>?_) hs rfl))
  obtain ⟨a,xs,e,hq,q⟩:=q1
  subst e
  cases r1 with
  | cons r rr =>
    cases rr
    cases r
    obtain ⟨its,rv,p',hz⟩:=I1.list hq
    have hl:=rv.length
    have e1:((its.toArray.size:Nat):Int) - 1=(xs.length:Int) - 1 - ((0:Nat):Int):=by simp only [List.size_toArray]; omega
    refine call_reversed_list p'.isList (wpAny_pyIter_revIter (l:=a) (i:=((its.toArray.size:Nat):Int) - 1) ⟨_,Heap.get?_push_size _ rfl,rfl,rfl⟩ ?_)
    refine tW (tk:=s1.toks) I1 _ (xh a _ xs.length) ⟨Nat.zero_le _,?_⟩ q
    rw [←e1]
    exact ⟨_,Heap.get?_push_size _ rfl,rfl,rfl⟩
end
def Its (x:Str):It:=⟨fun i _=>i < x.cps.size,fun i H v H'=>H'=H∧∃ c,x.cps[i]?=some c∧v=.str ⟨#[c]⟩,fun i _=>x.cps.size≤i⟩
theorem rb {P:Program} {w:World} {K:PySem.W.Frag} {tg:Expr} (it:Addr) (x:Str) (t:Tok) (ty:String) (hty:ty = "str_ascii_iterator" ∨ ty = "str_iterator") :
    Turn P w K tg (Its x) [it] it (fun i h=>h.IsStrIter it ty x t i) where
  mem:=by simp
  obj:=fun i h st b hb=>by
    have e:b=it:=by simpa using hb
    subst e
    obtain ⟨o,e,c,d⟩:=st
    exact ⟨o,e,fun v z=>by rw [d] at z; cases z⟩
  keep:=fun i h h' st k=>let ⟨o,ho,r⟩:=st; ⟨o,k it (by simp) o ho,r⟩
  item:=by
    intro X hP hw hK hc i pins s σ H E I hf st hg
    subst hP hw hK
    obtain ⟨f0,f1,f2,f3,f4,f5⟩:=hf it (by simp)
    have W:Walks X.prog X.w X.A it [it] [it] x.cps.size (SignAt x) (fun i h=>h.IsStrIter it ty x t i):=by
      rcases hty with e | e
      · rw [e]; exact Walks.strAscii (I.ok.hd hc) it x t
      · rw [e]; exact Walks.strWide (I.ok.hd hc) it x t
    have hno:["enumerate", "zip", "dict_itemiterator", "dict_reverseitemiterator", "odict_iterator", "itertools.zip_longest", "itertools.pairwise"].contains ty=false:=by
      rcases hty with e | e
      · rw [e]; decide
      · rw [e]; decide
    refine W.item i s _ _ hg st fun v h' tk hv st' kk=>?_
    obtain ⟨c,u,hcx,rfl⟩:=hv
    have I1:Inv X pins σ H { s with heap:=h',toks:=tk }:=I.turned (fun b o hb e=>kk b o (by simpa using hb) e) f0 f1 f3 f4 f5
    obtain ⟨oi,e,cc,dd⟩:=id st'
    exact ⟨_,rfl,sq (s:={ s with heap:=h',toks:=tk }) e cc dd hno ⟨.str ⟨#[c]⟩,H,I1,⟨u,rfl⟩,⟨rfl,c,hcx,rfl⟩,st',fun b hb=>(hf b hb).1⟩⟩
  done:=by
    intro X hP hw hK hc i pins s σ H E I hf st hg
    subst hP hw hK
    obtain ⟨f0,f1,f2,f3,f4,f5⟩:=hf it (by simp)
    have hx:x.cps[i]?=none:=Array.getElem?_eq_none hg
    rcases hty with e | e
    · rw [e] at st
      exact wpAny_pyNext_ascii_end (I.ok.hd hc) st hx fun h' eb=>⟨rfl,I.turned (t':=s.toks) (fun b o hb e=>eb b o hb e) f0 f1 f3 f4 f5⟩
    · rw [e] at st
      exact wpAny_pyNext_wide_end (I.ok.hd hc) st hx fun h' eb=>⟨rfl,I.turned (t':=s.toks) (fun b o hb e=>eb b o hb e) f0 f1 f3 f4 f5⟩
  self:=fun A i s Q E st h=>by
    rcases hty with e | e
    · rw [e] at st; exact wpAny_pyIter_striter_ascii st h
    · rw [e] at st; exact wpAny_pyIter_striter_wide st h
def iStr (te:TE):TI:=fun σ H R=>te σ H fun v H1=>∃ x,v=.str x∧R (Its x) H1
theorem pi_str {X:Cx} {tg e:Expr} {te:TE} (he:PE X e te):PI X tg e (iStr te):=by
  intro pins s σ H R I h
  refine thn (he pins s σ H _ I h) fun v s1 ⟨y,H1,I1,r1,x,ex,q⟩=>?_
  subst ex
  obtain ⟨t,rfl⟩:=r1
  cases ha:x.cps.all (· < 128)
  · exact wpAny_pyIter_wide ha (tW (tk:=s1.toks) I1 _ (rb _ x t "str_iterator" (.inr rfl)) ⟨_,Heap.get?_push_size _ rfl,rfl,rfl⟩ q)
  · exact wpAny_pyIter_ascii ha (tW (tk:=s1.toks) I1 _ (rb _ x t "str_ascii_iterator" (.inl rfl)) ⟨_,Heap.get?_push_size _ rfl,rfl,rfl⟩ q)
section
variable {prog:Program} {w:World} {A:Around} {E:Value→Shared→Prop} {s:Shared}
end
section
variable {X:Cx} {pins:List (Addr × Obj)} {σ:St} {H:Hp} {s:Shared} {d:Addr} {o:Obj}
end
section
variable {P:Program} {w:World} {K:PySem.W.Frag} {tg:Expr} {d:Addr} {o:Obj} {es:Array DictEntry} {ep:Nat}
end
section
variable {X:Cx} {tg e:Expr} {td:TE} {apos cpos:Pos}
end
def Ite (K:PySem.W.Frag) (a:Addr):It :=
  ⟨fun i H=>∃ (xs:List V) (x:V),SqL K H a xs∧xs[i]?=some x,fun i H v H'=>∃ T x,v=.ref T∧H T=none∧H'=upd H T (.tup [.int (i:Nat),x])∧∀ xs,SqL K H a xs→xs[i]?=some x,fun i H=>∃ xs:List V,SqL K H a xs∧xs.length≤i⟩
theorem vS {P:Program} {w:World} {K:PySem.W.Frag} {elts:List Expr} {kk:Nat} {tpos:Pos} (a e it:Addr) :
    Turn P w K (.Tuple elts kk tpos) (Ite K a) [e,it] e (fun i h=>(∃ old,IsEnum h e it ((i:Nat):Int) old)∧h.IsListIter it a i∧e≠it) where
  mem:=by simp
  obj:=fun i h st b hb=>by
    obtain ⟨⟨old,he⟩,⟨o,ho,hc,hd⟩,_⟩:=st
    have e':b=e∨b=it:=by simpa using hb
    rcases e' with z | z
    · rw [z]; exact ⟨_,he,fun v q=>nomatch q⟩
    · rw [z]; exact ⟨o,ho,fun v q=>by rw [hd] at q; cases q⟩
  keep:=fun i h h' st k=>let ⟨⟨old,he⟩,hi,hne⟩:=st; ⟨⟨old,k e (by simp) _ he⟩,hi.at fun o q=>k it (by simp) o q,hne⟩
  item:=by
    intro X hP hw hK hc i pins s σ H E I hf st hg
    subst hP hw hK
    obtain ⟨⟨old,he⟩,hit,hne⟩:=st
    obtain ⟨xs,x,hq,hx⟩:=hg
    obtain ⟨its,rv,p,hz⟩:=I.list hq
    obtain ⟨u,hu,ru⟩:=rv.get hx
    have hel:e < s.heap.objs.size:=Heap.lt_size he
    have hil:it < s.heap.objs.size:=by obtain ⟨_,q,_⟩:=hit; exact Heap.lt_size q
    refine wpAny_pyNext_enum_item he hit p.isList (x:=u) (by simpa using hu) hne fun h' ho hit' hT hsz hk=>?_
    refine ⟨_,rfl,wpAny_letOwnedTupleGo_enum (s:={ s with heap:=h',toks:=s.toks + 1 }) ho fun h'' he' sb=>?_⟩
    have hT2:h''.get? s.heap.objs.size=some { cls:=.type "tuple",data:=.seq #[.int i s.toks,u] }:=(sb.2 _ (Nat.ne_of_gt hel)).trans hT
    have new:bN X.prog X.w (upd H s.heap.objs.size (.tup [.int (i:Nat),x])) h'' s.heap.objs.size (.tup [.int (i:Nat),x]) :=
      ⟨by show 2≤sizeLine; decide,[.int i s.toks,u],.cons ⟨_,rfl⟩ (.cons ru .nil),⟨_,hT2,rfl,_,rfl⟩⟩
    have I1:Inv X pins σ (upd H s.heap.objs.size (.tup [.int (i:Nat),x])) { s with heap:=h'',toks:=s.toks + 1 } :=
      I.turnedNew (ch:=[e,it]) (fun b ob hb q=>(sb.2 b (fun z=>hb (by simp [z]))).trans (hk b ob (fun z=>hb (by simp [z])) (fun z=>hb (by simp [z])) q)) hf (Nat.le_refl _) new
    refine ⟨.ref s.heap.objs.size,_,I1,rfl,⟨_,x,rfl,I.hok.fresh (Nat.le_refl _),rfl,fun ys hy=>by rw [I.list_inj hy hq]; exact hx⟩,⟨⟨u,?_⟩,hit'.at fun o q=>(sb.2 it (Ne.symm hne)).trans q,hne⟩,fun b hb=>?_⟩
    · have e1:((i + 1:Nat):Int)=(i:Int) + 1:=by omega
      rw [e1]; exact he'
    · have hb':b < s.heap.objs.size:=by
        have e':b=e∨b=it:=by simpa using hb
        rcases e' with z | z
        · rw [z]; exact hel
        · rw [z]; exact hil
      rw [ai (Nat.ne_of_lt hb')]
      exact (hf b hb).1
  done:=by
    intro X hP hw hK hc i pins s σ H E I hf st hg
    subst hP hw hK
    obtain ⟨⟨old,he⟩,hit,hne⟩:=st
    obtain ⟨xs,hq,hx⟩:=hg
    obtain ⟨its,rv,p,hz⟩:=I.list hq
    obtain ⟨f0,f1,f2,f3,f4,f5⟩:=hf it (by simp)
    have hl:=rv.length
    exact wpAny_pyNext_enum_end (I.ok.hd hc) he hit p.isList (by simp; omega) fun h' eb=>⟨rfl,I.turned (t':=s.toks) (fun b o hb q=>eb b o hb q) f0 f1 f3 f4 f5⟩
  self:=fun A i s Q E st h=>let ⟨⟨_,he⟩,_⟩:=st; wpAny_pyIter_enum he h
def iEnum (K:PySem.W.Frag) (ta:TA):TI:=fun σ H R=>ta σ H fun vs H1=>∃ a xs,vs=[.ref a]∧SqL K H1 a xs∧R (Ite K a) H1
theorem jd {X:Cx} {e:Expr} {ta:TA} {p pos tpos:Pos} {elts:List Expr} {kk:Nat} (hg:Gl X "enumerate") (hm:X.mg "enumerate" = none) (ha:PA X [e] ta) (hs:starEach [e] X.env=[(false,eval e X.env)]:=by rfl) :
    PI X (.Tuple elts kk tpos) (.Call (.Name "enumerate" p) [e] [] pos) (iEnum X.K ta):=by
  intro pins s σ H R I h
  refine Call_ (g6 I hg hm boot_enumerate (PyProof.Rows.callWith_type1 (thn (ha pos pins s σ H _ I h) fun us s1 ⟨vs,H1,I1,r1,q1⟩=>?_) hs rfl))
  obtain ⟨a,xs,ex,hq,q⟩:=q1
  subst ex
  cases r1 with
  | cons r rr =>
    cases rr
    cases r
    obtain ⟨its,rv,p',hz⟩:=I1.list hq
    refine call_enumerate_list p'.isList fun h' he hit hsz hk=>wpAny_pyIter_enum he ?_
    have I2:Inv X pins σ H1 { s1 with heap:=h' }:=I1.kept (t':=s1.toks) hk
    refine ⟨s1.heap.objs.size + 1,[s1.heap.objs.size + 1,s1.heap.objs.size],_,_,H1,rfl,I2,vS a (s1.heap.objs.size + 1) s1.heap.objs.size,⟨⟨.none,he⟩,hit,Nat.succ_ne_self _⟩,fun b hb=>?_,q⟩
    have e':b=s1.heap.objs.size + 1∨b=s1.heap.objs.size:=by simpa using hb
    have hle:s1.heap.objs.size≤b:=by
      rcases e' with z | z
      · rw [z]; exact Nat.le_add_right _ _
      · rw [z]; exact Nat.le_refl _
    exact I1.fpOk hle (I1.hok.fresh hle)
theorem wL:bootBuiltins "zip" = some (.type "zip"):=by decide +kernel
def Itz (K:PySem.W.Frag) (a b:Addr):It :=
  ⟨fun i H=>∃ (xs ys:List V) (x y:V),SqL K H a xs∧SqL K H b ys∧xs[i]?=some x∧ys[i]?=some y,
    fun i H v H'=>∃ T x y,v=.ref T∧H T=none∧H'=upd H T (.tup [x,y])∧(∀ xs,SqL K H a xs→xs[i]?=some x)∧∀ ys,SqL K H b ys→ys[i]?=some y,
    fun i H=>∃ xs ys:List V,SqL K H a xs∧SqL K H b ys∧(xs.length≤i∨ys.length≤i)⟩
theorem xg {P:Program} {w:World} {K:PySem.W.Frag} {elts:List Expr} {kk:Nat} {tpos:Pos} {a b z TI TO i1 i2:Addr} (D:ZipApart z TI TO i1 i2 a b) :
    Turn P w K (.Tuple elts kk tpos) (Itz K a b) [z,TI,TO,i1,i2] z (fun i h=>IsZip h z TI TO .none∧IsPair h TI (.ref i1) (.ref i2)∧(∃ x y,IsPair h TO x y)∧h.IsListIter i1 a i∧h.IsListIter i2 b i) where
  mem:=by simp
  obj:=fun i h st c hc=>by
    obtain ⟨hz,hTI,⟨x,y,hTO⟩,⟨o1,e1,_,d1⟩,⟨o2,e2,_,d2⟩⟩:=st
    have e':c=z∨c=TI∨c=TO∨c=i1∨c=i2:=by simpa using hc
    rcases e' with q | q | q | q | q
    · rw [q]; exact ⟨_,hz,fun v q=>nomatch q⟩
    · rw [q]; exact ⟨_,hTI,fun v q=>nomatch q⟩
    · rw [q]; exact ⟨_,hTO,fun v q=>nomatch q⟩
    · rw [q]; exact ⟨o1,e1,fun v q=>by rw [d1] at q; cases q⟩
    · rw [q]; exact ⟨o2,e2,fun v q=>by rw [d2] at q; cases q⟩
  keep:=fun i h h' st k=>by
    obtain ⟨hz,hTI,⟨x,y,hTO⟩,h1,h2⟩:=st
    exact ⟨k z (by simp) _ hz,k TI (by simp) _ hTI,⟨x,y,k TO (by simp) _ hTO⟩,h1.at fun o q=>k i1 (by simp) o q,h2.at fun o q=>k i2 (by simp) o q⟩
  item:=by
    intro X hP hw hK hc i pins s σ H E I hf st hg
    subst hP hw hK
    obtain ⟨hz,hTI,⟨x0,y0,hTO⟩,h1,h2⟩:=st
    obtain ⟨xs,ys,x,y,hqx,hqy,hx,hy⟩:=hg
    obtain ⟨its,rv,p,_⟩:=I.list hqx
    obtain ⟨its2,rv2,p2,_⟩:=I.list hqy
    obtain ⟨u,hu,ru⟩:=rv.get hx
    obtain ⟨u2,hu2,ru2⟩:=rv2.get hy
    have hzl:z < s.heap.objs.size:=Heap.lt_size hz
    refine wpAny_pyNext_zip_item D hz hTI hTO h1 h2 p.isList p2.isList (x:=u) (y:=u2) (by simpa using hu) (by simpa using hu2) fun h' z' TO' h1' h2' hT hsz hk=>?_
    refine ⟨_,rfl,wpAny_letOwnedTupleGo_zip (s:={ s with heap:=h' }) z' fun h'' z'' sb=>?_⟩
    have hT2:h''.get? s.heap.objs.size=some { cls:=.type "tuple",data:=.seq #[u,u2] }:=(sb.2 _ (Nat.ne_of_gt hzl)).trans hT
    have new:bN X.prog X.w (upd H s.heap.objs.size (.tup [x,y])) h'' s.heap.objs.size (.tup [x,y]) :=
      ⟨by show 2≤sizeLine; decide,[u,u2],.cons ru (.cons ru2 .nil),⟨_,hT2,rfl,_,rfl⟩⟩
    have I1:Inv X pins σ (upd H s.heap.objs.size (.tup [x,y])) { s with heap:=h'' } :=
      I.turnedNew (t':=s.toks) (ch:=[z,TI,TO,i1,i2]) (fun c o hb q=>(sb.2 c (fun q'=>hb (by simp [q']))).trans (hk c o (fun q'=>hb (by simp [q'])) (fun q'=>hb (by simp [q'])) (fun q'=>hb (by simp [q'])) (fun q'=>hb (by simp [q'])) q)) hf (Nat.le_refl _) new
    refine ⟨.ref s.heap.objs.size,_,I1,rfl,⟨_,x,y,rfl,I.hok.fresh (Nat.le_refl _),rfl,fun l hl=>by rw [I.list_inj hl hqx]; exact hx,fun l hl=>by rw [I.list_inj hl hqy]; exact hy⟩,⟨z'',?_,⟨u,u2,?_⟩,?_,?_⟩,fun c hcm=>?_⟩
    · exact (sb.2 _ D.TIz).trans (hk _ _ D.TIz D.TITO D.TIi1 D.TIi2 hTI)
    · exact (sb.2 _ D.TOz).trans TO'
    · exact h1'.at fun o q=>(sb.2 _ D.i1z).trans q
    · exact h2'.at fun o q=>(sb.2 _ D.i2z).trans q
    · have hlt:c < s.heap.objs.size:=by
        have e':c=z∨c=TI∨c=TO∨c=i1∨c=i2:=by simpa using hcm
        rcases e' with q | q | q | q | q
        · rw [q]; exact hzl
        · rw [q]; exact Heap.lt_size hTI
        · rw [q]; exact Heap.lt_size hTO
        · rw [q]; obtain ⟨_,e1,_⟩:=h1; exact Heap.lt_size e1
        · rw [q]; obtain ⟨_,e2,_⟩:=h2; exact Heap.lt_size e2
      rw [ai (Nat.ne_of_lt hlt)]
      exact (hf c hcm).1
  done:=by
    intro X hP hw hK hc i pins s σ H E I hf st hg
    subst hP hw hK
    obtain ⟨hz,hTI,⟨x0,y0,hTO⟩,h1,h2⟩:=st
    obtain ⟨xs,ys,hqx,hqy,hend⟩:=hg
    obtain ⟨its,rv,p,_⟩:=I.list hqx
    obtain ⟨its2,rv2,p2,_⟩:=I.list hqy
    have l1:=rv.length
    have l2:=rv2.length
    have he:its.toArray[i]?=none∨its2.toArray[i]?=none:=by
      rcases hend with q | q
      · exact .inl (by simp; omega)
      · exact .inr (by simp; omega)
    exact wpAny_pyNext_zip_end (I.ok.hd hc) D hz hTI hTO h1 h2 p.isList p2.isList he fun h' hk=>⟨rfl,I.turnedL (t':=s.toks) (ch:=[z,TI,TO,i1,i2]) (fun c o hb q =>
      hk c o (fun q'=>hb (by simp [q'])) (fun q'=>hb (by simp [q'])) (fun q'=>hb (by simp [q'])) (fun q'=>hb (by simp [q'])) q) hf⟩
  self:=fun A i s Q E st h=>wpAny_pyIter_zip st.1 h
def iZip (K:PySem.W.Frag) (ta:TA):TI:=fun σ H R=>ta σ H fun vs H1=>∃ a b xs ys,vs=[.ref a,.ref b]∧SqL K H1 a xs∧SqL K H1 b ys∧R (Itz K a b) H1
theorem tV {X:Cx} {e e2:Expr} {ta:TA} {p pos tpos:Pos} {elts:List Expr} {kk:Nat} (hg:Gl X "zip") (hm:X.mg "zip" = none) (ha:PA X [e,e2] ta)
    (hs:starEach [e,e2] X.env=(false,eval e X.env) :: starEach [e2] X.env:=by rfl) (hpl:(backTo pos (starEach [e2] X.env)).any (·.1)=false:=by rfl) :
    PI X (.Tuple elts kk tpos) (.Call (.Name "zip" p) [e,e2] [] pos) (iZip X.K ta):=by
  intro pins s σ H R I h
  refine Call_ (g6 I hg hm wL (PyProof.Rows.callWith_type1 (thn (ha pos pins s σ H _ I h) fun us s1 ⟨vs,H1,I1,r1,q1⟩=>?_) hs hpl))
  obtain ⟨a,b,xs,ys,ex,hqx,hqy,q⟩:=q1
  subst ex
  cases r1 with
  | cons r rr =>
    cases rr with
    | cons r' rr =>
      cases rr
      cases r
      cases r'
      obtain ⟨its,rv,p1,_⟩:=I1.list hqx
      obtain ⟨its2,rv2,p2,_⟩:=I1.list hqy
      have la:a < s1.heap.objs.size:=p1.lt
      have lb:b < s1.heap.objs.size:=p2.lt
      refine call_zip_2 p1.isList p2.isList fun h' hz hTI hTO h1 h2 hsz hk=>wpAny_pyIter_zip hz ?_
      have I2:Inv X pins σ H1 { s1 with heap:=h' }:=I1.kept (t':=s1.toks) hk
      refine ⟨s1.heap.objs.size + 4,[s1.heap.objs.size + 4,s1.heap.objs.size + 2,s1.heap.objs.size + 3,s1.heap.objs.size,s1.heap.objs.size + 1],_,_,H1,rfl,I2,xg (PySem.W.ktu_apart s1.heap.objs.size a b la lb),⟨hz,hTI,⟨_,_,hTO⟩,h1,h2⟩,fun c hcm=>?_,q⟩
      have e':c=s1.heap.objs.size + 4∨c=s1.heap.objs.size + 2∨c=s1.heap.objs.size + 3∨c=s1.heap.objs.size∨c=s1.heap.objs.size + 1:=by simpa using hcm
      have hle:s1.heap.objs.size≤c:=by
        rcases e' with z | z | z | z | z
        · rw [z]; exact Nat.le_add_right _ _
        · rw [z]; exact Nat.le_add_right _ _
        · rw [z]; exact Nat.le_add_right _ _
        · rw [z]; exact Nat.le_refl _
        · rw [z]; exact Nat.le_add_right _ _
      exact I1.fpOk hle (I1.hok.fresh hle)
end L2
section
namespace Bits
open PySem PyProof.Rows
end Bits
end
section
namespace TL
open PySem PySem.Builtin PySem.Builtin.Str PySem.StrLaws
abbrev tl (x:Str):List Nat:=x.cps.toList
theorem len_tl (x:Str):x.length=(tl x).length:=by simp [tl,Str.length]
theorem vh (y:Str) (parts:List Str):Txt.join y parts=Str.join y parts:=glued_eq_join y parts
def numL (n:Nat):List Nat:=(Nat.toDigits 10 n).map Char.toNat
theorem tl_num (n:Nat):tl (Str.ofString (toString ((n:Nat):Int)))=numL n:=PySem.W.KIN.signs_num n
theorem xZ {n k:Nat} (hk:0 < k) (h:n < 10 ^ k):(numL n).length≤k:=by
  have z:=PyProof.Rows.toString_length_le (v:=(n:Int)) (by omega) hk (by
    have e:((10:Int) ^ k)=((10 ^ k:Nat):Int):=by
      first
        | exact (Int.natCast_pow 10 k).symm
        | simp
    rw [e]
    first | exact Int.ofNat_lt.mpr h | omega)
  rw [len_tl,tl_num] at z
  exact z
end TL
end
namespace L2
open PySem PySem.Spec PyProof.Rows
theorem gI:∀ {ys:List Str} {us:List Value},Vals (ys.map V.str) us→StrsAre us ys
  | [],_,.nil=>.nil
  | y :: ys,_,.cons r t=>by
    obtain ⟨k,rfl⟩:=r
    exact .cons y k (gI t)
section
variable {X:Cx} {pins:List (Addr × Obj)} {σ:St} {H:Hp} {s:Shared} {Q:VK}
end
section
variable {X:Cx}
theorem zp:MtR X "str.join" (fun x xs H Q=>∃ a p,∃ ys:List Str,x=.str a∧xs=[.ref p]∧(SqL X.K H p (ys.map V.str)∨SqT X.K H p (ys.map V.str)) ∧
    (ys.map (·.length)).sum + ys.length * a.length≤16777216∧Q (.str (Txt.join a ys)) H):=by
  intro pins s σ H x xs v us Q I rx rs h
  obtain ⟨a,p,ys,rfl,rfl,hp,hz,h⟩:=h
  obtain ⟨t,rfl⟩:=rx
  cases rs with
  | cons r1 rs =>
    cases rs
    cases r1
    rcases hp with hp | hp
    · obtain ⟨its,r,⟨o,n,ho,hc,_,hd⟩,_⟩:=I.list hp
      exact PyProof.Rows.join_list (items:=its.toArray) ⟨o,ho,hc,n,hd⟩ (by rw [List.toList_toArray]; exact gI r) hz fun t' k=>⟨.str _,H,I.tok k,⟨t',rfl⟩,h⟩
    · obtain ⟨its,r,ht,_⟩:=I.tuple hp
      exact PyProof.Rows.join_tuple (items:=its.toArray) ht (by rw [List.toList_toArray]; exact gI r) hz fun t' k=>⟨.str _,H,I.tok k,⟨t',rfl⟩,h⟩
theorem mt0 {id:String} {C:Str→Prop} {g:Str→V} (rule:∀ (a:Str) (t:Tok) (s:Shared) (Q:Value→Shared→Prop),C a→(∀ (u:Value) (k:Nat),RelV (g a) u→Q u { s with toks:=k }) →
    wpAny (model X.prog X.w) X.A (call (.builtin id) [.str a t]) Q X.xe s):MtR X id (fun x xs H Q=>∃ a,x=.str a∧xs=[]∧C a∧Q (g a) H):=by
  intro pins s σ H x xs v us Q I rx rs h
  obtain ⟨a,rfl,rfl,hc,h⟩:=h
  obtain ⟨t,rfl⟩:=rx
  cases rs
  exact rule a t s _ hc fun u k r=>⟨g a,H,I.tok k,r,h⟩
theorem ud:MtR X "str.isdigit" (fun x xs H Q=>∃ a,x=.str a∧xs=[]∧True∧Q (.bl (Txt.isdigit a)) H) :=
  mt0 (C:=fun _=>True) (g:=fun a=>.bl (Txt.isdigit a)) fun _ _ s _ _ h=>PySem.SC.isdigit (h _ s.toks rfl)
theorem ue:MtR X "str.isalpha" (fun x xs H Q=>∃ a,x=.str a∧xs=[]∧True∧Q (.bl (Txt.isalpha a)) H) :=
  mt0 (C:=fun _=>True) (g:=fun a=>.bl (Txt.isalpha a)) fun _ _ s _ _ h=>PySem.SC.isalpha (h _ s.toks rfl)
theorem kM:fR X (.type "int") (fun xs H Q=>∃ a n,xs=[.str a]∧PySem.intText? a=some n∧a.length≤640∧Q (.int n) H):=by
  intro pins s σ H xs us Q I rs h
  obtain ⟨a,n,rfl,hn,hl,h⟩:=h
  cases rs with
  | cons r1 rs =>
    cases rs
    obtain ⟨t,rfl⟩:=r1
    exact PySem.W.KIN.call_text hn hl ⟨.int n,H,I.tok _,⟨_,rfl⟩,h⟩
end
section
variable {X:Cx} {o e:Expr} {to te:TE}
def tM0 (r:V→List V→Hp→VK→Prop) (to:TE):TE:=fun σ H Q=>to σ H fun x H1=>(∃ a,x=.str a)∧r x [] H1 Q
def tM1 (r:V→List V→Hp→VK→Prop) (to te:TE):TE:=fun σ H Q=>to σ H fun x H1=>(∃ a,x=.str a)∧te σ H1 fun y H2=>r x [y] H2 Q
theorem pe_m0 {id:String} {name:Str} {apos pos:Pos} {r:V→List V→Hp→VK→Prop} (slot:Slot "str" name id) (ty:typeOf (.builtin id)=pure (.type "method_descriptor")) (rule:MtR X id r) (ho:PE X o to)
    (hbase:attributeBase o name X.env (eval o X.env)=eval o X.env:=by rfl) (hline:(apos.endLine == pos.line)=true:=by rfl):PE X (.Call (.Attribute o name apos) [] [] pos) (tM0 r to):=by
  intro pins s σ H Q I h
  refine PySem.Call_method0 hbase hline (thn (ho pins s σ H _ I h) fun v s1 ⟨x,H1,I1,r1,q1⟩=>?_)
  obtain ⟨⟨a,rfl⟩,q1⟩:=q1
  obtain ⟨t,rfl⟩:=_root_.id r1
  exact ⟨"str",_,F.plainAttrs_str,slot,ty,typeIs_str _ _ _,(fun _ e=>nomatch e),Calls.callWith_builtin rfl (PySem.evalArgs_none (rule pins s1 σ H1 _ [] _ [] Q I1 r1 .nil q1))⟩
theorem pe_m1 {id:String} {name:Str} {apos pos:Pos} {r:V→List V→Hp→VK→Prop} (slot:Slot "str" name id) (ty:typeOf (.builtin id)=pure (.type "method_descriptor")) (rule:MtR X id r) (ho:PE X o to) (he:PE X e te)
    (hs:starEach [e] X.env=[(false,eval e X.env)]:=by rfl) (hbase:attributeBase o name X.env (eval o X.env)=eval o X.env:=by rfl) (hline:(apos.endLine == pos.line)=true:=by rfl) :
    PE X (.Call (.Attribute o name apos) [e] [] pos) (tM1 r to te):=by
  intro pins s σ H Q I h
  refine PySem.Call_method1 hbase hs hline (thn (ho pins s σ H _ I h) fun v s1 ⟨x,H1,I1,r1,q1⟩=>?_)
  obtain ⟨⟨a,rfl⟩,q1⟩:=q1
  obtain ⟨t,rfl⟩:=_root_.id r1
  refine ⟨"str",_,F.plainAttrs_str,slot,ty,typeIs_str _ _ _,(fun _ e=>nomatch e),Calls.callWith_builtin rfl (Calls.evalArgs_plain (Calls.spliced_cons ?_))⟩
  exact thn (he pins s1 σ H1 _ I1 q1) fun u s2 ⟨y,H2,I2,r2,q2⟩=>Calls.spliced_nil (rule pins s2 σ H2 _ [y] _ [u] Q I2 r1 (.cons r2 .nil) q2)
theorem uZ {apos pos:Pos} (ho:PE X o to) (he:PE X e te) (hs:starEach [e] X.env=[(false,eval e X.env)]:=by rfl) (hbase:attributeBase o "join" X.env (eval o X.env)=eval o X.env:=by rfl) (hline:(apos.endLine == pos.line)=true:=by rfl) :
    PE X (.Call (.Attribute o "join" apos) [e] [] pos) (tM1 (fun x xs H Q=>∃ a p,∃ ys:List Str,x=.str a∧xs=[.ref p]∧(SqL X.K H p (ys.map V.str)∨SqT X.K H p (ys.map V.str)) ∧
      (ys.map (·.length)).sum + ys.length * a.length≤16777216∧Q (.str (Txt.join a ys)) H) to te) :=
  pe_m1 F.slot_str_join F.type_str_join zp ho he hs hbase hline
end
end L2
namespace L2
open PySem PySem.Spec PyProof.Rows
section
variable {X:Cx}
end
end L2
namespace Att
open PySem PySem.W PySem.Calls PyProof.Rows
section
variable {prog:Program} {w:World} {A:Around} {E:Value→Shared→Prop} {s:Shared} {K:Frag}
end
end Att
namespace L2
open PySem PySem.Spec PyProof.Rows
end L2
namespace L2
open PySem PySem.Spec PyProof.Rows
end L2
namespace L2
open PySem PySem.Spec PyProof.Rows
def qw (s:Stmt) (j:Nat):Stmt:=match s with
  | .ClassDef _ _ _ body _ _ _ _ _ _ _=>body.getD j (.Pass ⟨0,0,0,0⟩)
  | _=>.Pass ⟨0,0,0,0⟩
def hG (s:Stmt):Arguments:=match s with
  | .FunctionDef _ a _ _ _ _ _ _ _ _=>a
  | _=>{ posonlyargs:=[],args:=[],vararg:=none,kwonlyargs:=[],kw_defaults:=[],kwarg:=none,defaults:=[] }
def fK (s:Stmt):List Stmt:=match s with
  | .FunctionDef _ _ b _ _ _ _ _ _ _=>b
  | _=>[]
def aj (s:Stmt):Scope:=match s with
  | .FunctionDef _ _ _ _ _ _ sc _ _ _=>sc
  | _=>{ kind:=.function,names:=[],isGenerator:=false,isCoroutine:=false }
abbrev CX0:CXT:=fun _ _ _ _ _ _=>False
abbrev E0:XK:=fun _ _ _=>False
theorem lQ {X:Cx}:j2 CX0 X E0:=fun _ _ _ _ _ _ _ h=>h.elim
structure Fun (K:PySem.W.Frag) (x qual:Str) (st:Stmt) (f:Addr) (fd:FuncData):Prop where
  ex:∃ (oc:Value) (od:Option Addr) (kV doc pm:Value) (an:Option Addr) (cdv ct:Value) (osl:Array (Option Value)),
    fd=PySem.W.fnOf x qual (hG st) (fK st) (aj st) .none kV doc pm an cdv ct∧K.lookup f=some ⟨oc,od,.func fd,osl⟩∧PySem.W.codeIn K cdv qual=true
  kp:PySem.W.keepIn K (.ref f)=true
section
variable {P:Program} {w:World} {K:PySem.W.Frag} {mg:Str→Option Value} {base:Heap}
theorem Fun.ok {x qual:Str} {st:Stmt} {f:Addr} {fd:FuncData} {N ps:List Str} {k:Nat} {sp:Sp} (F:Fun K x qual st f fd) (S:az N ps (aj st)) (len:∀ vs H Q E,sp vs H Q E→vs.length=ps.length)
    (hbody:∀ (cdv:Value) (A:Around) (outer:List Env) (s:Shared) (H:Hp) (vs:List V) (Q:VK) (E:XK),Room k (A.deeper (envOfC qual (aj st) s.heap.objs.size f cdv))→sp vs H Q E →
      ∃ t,PSs (cxOf CX0 P w K mg base N qual (aj st) f cdv A outer s H E).nox (fK st) t∧t { nx:=fun _ H'=>Q .non H',rt:=Q } (start N vs) H):FnOk P w K mg base CX0 (k + 1) f fd ps sp:=by
  obtain ⟨oc,od,kV,doc,pm,an,cdv,ct,osl,rfl,lk,hcd⟩:=F.ex
  refine fn_of lk hcd S len fun A outer s H vs Q E hr hsp=>?_
  obtain ⟨t,h,q⟩:=hbody cdv A outer s H vs Q E hr hsp
  exact ⟨t,h.nox,q⟩
theorem Fun.binds {x qual:Str} {st:Stmt} {f:Addr} {fd:FuncData} {ps:List Str} (F:Fun K x qual st f fd)
    (h:∀ (kV doc pm:Value) (an:Option Addr) (cdv ct:Value) (us:List Value),us.length=ps.length→bindArgs (PySem.W.fnOf x qual (hG st) (fK st) (aj st) .none kV doc pm an cdv ct) ⟨us,[]⟩=pure (ps.zip us)):aJ K fd ps []:=by
  obtain ⟨oc,od,kV,doc,pm,an,cdv,ct,osl,rfl,lk,hcd⟩:=F.ex
  exact .all (h kV doc pm an cdv ct)
theorem yu {x qual:Str} {st:Stmt} {f:Addr} {oc:Value} {od an:Option Addr} {osl:Array (Option Value)} {kV doc pm cdv ct:Value} (l:K.lookup f=some ⟨oc,od,.func (PySem.W.fnOf x qual (hG st) (fK st) (aj st) .none kV doc pm an cdv ct),osl⟩)
    (c:PySem.W.codeIn K cdv qual=true) (k:PySem.W.keepIn K (.ref f)=true):Fun K x qual st f (PySem.W.fnOf x qual (hG st) (fK st) (aj st) .none kV doc pm an cdv ct):=⟨⟨oc,od,kV,doc,pm,an,cdv,ct,osl,rfl,l,c⟩,k⟩
end
theorem ym {A:Around} {k:Nat} (hr:Room k A):A.units + 1 < cLine:=Nat.lt_of_le_of_lt (Nat.add_le_add_left (by decide:1≤64) _) hr.units
section
variable {X:Cx}
theorem pv (i:Nat) {x:Str} {pos:Pos} (hN:X.N[i]?=some x:=by rfl) (hv:Vis X.env.scope x:=by first | exact Or.inl rfl | exact Or.inr (Or.inl rfl) | exact Or.inr (Or.inr rfl)) (hd:(x == ("__debug__" : Str))=false:=by decide)
    (hcd:(x == ("__classdict__" : Str))=false:=by decide):PE X (.Name x pos) (tVar i):=pe_var hN hv hd hcd
end
theorem iteF {A B:Prop} (h:B):if false=true then A else B:=by
  rw [if_neg Bool.false_ne_true]
  exact h
theorem iteT {A B:Prop} (h:A):if true=true then A else B:=by
  rw [if_pos rfl]
  exact h
theorem ite2 {c A B:Prop} [Decidable c] (h1:c→A) (h2:¬ c→B):if c then A else B:=by
  by_cases h:c
  · rw [if_pos h]
    exact h1 h
  · rw [if_neg h]
    exact h2 h
def Same (H H':Hp):Prop:=∀ b o,H b=some o→H' b=some o
theorem Same.refl (H:Hp):Same H H:=fun _ _ h=>h
theorem Same.trans {H H1 H2:Hp} (a:Same H H1) (b:Same H1 H2):Same H H2:=fun c o h=>b c o (a c o h)
theorem Same.free {H H':Hp} (e:Same H H') {l:Addr} (h:H' l=Option.none):H l=Option.none:=by
  cases q:H l with
  | none=>rfl
  | some o =>
    rw [e l o q] at h
    cases h
theorem Same.seq {K:PySem.W.Frag} {H H':Hp} {a:Addr} {xs:List V} (e:Same H H') (h:SqL K H a xs):SqL K H' a xs:=by
  rcases h with (h | ⟨o,h⟩) | h
  · exact .inl (.inl (e _ _ h))
  · exact .inl (.inr ⟨o,e _ _ h⟩)
  · exact .inr h
section
variable {κ:Type} [DecidableEq κ]
end
theorem at_of {xs:List V} {z:Int} {j:Nat} {v:V} (e:z=(j:Int)) (h:xs[j]?=some v):atI xs z=some v:=by
  rw [e]
  exact aY h
theorem Same.made {H H1:Hp} {x dx C:Addr} (nx:H x=Option.none) (nd:H dx=Option.none) (k:∀ b o,(upd (upd H dx (.own x)) x (.ins C dx [])) b=some o→b≠x→H1 b=some o):Same H H1:=fun b o e =>
  k b o (by rw [ai (aq e nx),ai (aq e nd)]; exact e) (aq e nx)
end L2
section
namespace L2
open PySem PySem.Spec PyProof.Rows
open PySem.W (WData Codec OpenSpec Well WellAll ReadsW ReadsAllW)
mutual
inductive Dw (K:PySem.W.Frag) (H:Hp):V→WData→Prop
  | non:Dw K H .non .none
  | bl (b:Bool):Dw K H (.bl b) (.bool b)
  | int (i:Int):Dw K H (.int i) (.int i)
  | str (x:Str):Dw K H (.str x) (.str x)
  | byt (b:Array UInt8):Dw K H (.byt b) (.bytes b.toList)
  | lst {a:Addr} {xs:List V} {ds:List WData}:SqL K H a xs→ie K H xs ds→Dw K H (.ref a) (.list ds)
  | tup {a:Addr} {xs:List V} {ds:List WData}:SqT K H a xs→ie K H xs ds→Dw K H (.ref a) (.tuple ds)
inductive ie (K:PySem.W.Frag) (H:Hp):List V→List WData→Prop
  | nil:ie K H [] []
  | cons {v:V} {vs:List V} {d:WData} {ds:List WData}:Dw K H v d→ie K H vs ds→ie K H (v :: vs) (d :: ds)
end
theorem vo {K:PySem.W.Frag} {H:Hp}:∀ ns:List Int,ie K H (ns.map V.int) (ns.map WData.int)
  | []=>.nil
  | n :: r=>.cons (.int n) (vo r)
theorem vm {K:PySem.W.Frag} {H:Hp}:∀ (ns:List Int) (xs:List V),ie K H xs (ns.map WData.int)→xs=ns.map V.int
  | [],xs,h=>by
    cases h
    rfl
  | n :: r,xs,h=>by
    cases h with
    | cons h1 h2 =>
      cases h1
      rw [vm r _ h2] <;> rfl
section
variable {P:Program} {w:World} {K:PySem.W.Frag} {H:Hp} {h:Heap} {R:PySem.W.WRecords} {cl:Str→Option Addr}
theorem sqL_at {a:Addr} {xs:List V} (hok:HOk P w H h) (KX:K.In h) (q:SqL K H a xs):∃ (its:List Value) (o:Obj) (n:Nat),Vals xs its∧h.get? a=some o∧o.cls=.type "list" ∧ o.data=.seq its.toArray n:=by
  rcases q with q | ⟨o,its,n,e,hc,_,hd,_,hv⟩
  · obtain ⟨_,its,n,hv,e⟩:=(show bN P w H h a (.lst xs) from q.ok hok)
    exact ⟨its,_,n,hv,e,rfl,rfl⟩
  · exact ⟨its.toList,o,n,hv,KX _ _ e,hc,by simp [hd]⟩
theorem sqT_at {a:Addr} {xs:List V} (hok:HOk P w H h) (KX:K.In h) (q:SqT K H a xs):∃ (its:List Value) (o:Obj) (n:Nat),Vals xs its∧h.get? a=some o∧o.cls=.type "tuple" ∧ o.data=.seq its.toArray n:=by
  rcases q with q | ⟨o,its,n,e,hc,hd,_,hv⟩
  · obtain ⟨_,its,hv,o,e,hc,n,hd⟩:=(show bN P w H h a (.tup xs) from q.ok hok)
    exact ⟨its,o,n,hv,e,hc,hd⟩
  · exact ⟨its.toList,o,n,hv,KX _ _ e,hc,by simp [hd]⟩
mutual
theorem Dw.reads (hok:HOk P w H h) (KX:K.In h):∀ (d:WData) (v:V) (u:Value),Dw K H v d→RelV v u→∃ as,ReadsW R cl h u d as
  | .none,_,_,x,r=>by
    cases x
    cases r
    exact ⟨_,ReadsW.none⟩
  | .bool b,_,_,x,r=>by
    cases x
    cases r
    exact ⟨_,ReadsW.bool b⟩
  | .int i,_,_,x,r=>by
    cases x
    obtain ⟨t,rfl⟩:=r
    exact ⟨_,ReadsW.int i t⟩
  | .str s,_,_,x,r=>by
    cases x
    obtain ⟨t,rfl⟩:=r
    exact ⟨_,ReadsW.str s t⟩
  | .bytes b,_,_,x,r=>by
    cases x
    obtain ⟨t,rfl⟩:=r
    exact ⟨_,ReadsW.bytes _ t⟩
  | .list ds,_,_,x,r=>by
    cases x with
    | lst hs ha =>
      cases r
      obtain ⟨its,o,n,rv,ho,hc,hd⟩:=sqL_at hok KX hs
      obtain ⟨as,hr⟩:=Dw.readsAll hok KX ds _ its ha rv
      exact ⟨_,ReadsW.list ho hc hd hr⟩
  | .tuple ds,_,_,x,r=>by
    cases x with
    | tup hs ha =>
      cases r
      obtain ⟨its,o,n,rv,ho,hc,hd⟩:=sqT_at hok KX hs
      obtain ⟨as,hr⟩:=Dw.readsAll hok KX ds _ its ha rv
      exact ⟨_,ReadsW.tuple ho hc hd hr⟩
  | .float _,_,_,x,_=>by cases x
  | .dict _,_,_,x,_=>by cases x
  | .bytearray _,_,_,x,_=>by cases x
  | .set _,_,_,x,_=>by cases x
  | .frozenset _,_,_,x,_=>by cases x
  | .obj _ _,_,_,x,_=>by cases x
theorem Dw.readsAll (hok:HOk P w H h) (KX:K.In h):∀ (ds:List WData) (vs:List V) (us:List Value),ie K H vs ds→Vals vs us→∃ as,ReadsAllW R cl h us ds as
  | [],_,_,x,r=>by
    cases x
    cases r
    exact ⟨_,ReadsAllW.nil⟩
  | d :: ds,_,_,x,r=>by
    cases x with
    | cons h1 h2 =>
      cases r with
      | cons r1 r2 =>
        obtain ⟨as,q1⟩:=Dw.reads hok KX d _ _ h1 r1
        obtain ⟨bs,q2⟩:=Dw.readsAll hok KX ds _ _ h2 r2
        exact ⟨_,ReadsAllW.cons q1 q2⟩
end
end
mutual
def plW:WData→Bool
  | .none=>true
  | .bool _=>true
  | .int _=>true
  | .str _=>true
  | .bytes _=>true
  | .list xs=>plWs xs
  | .tuple xs=>plWs xs
  | _=>false
def plWs:List WData→Bool
  | []=>true
  | x :: r=>plW x && plWs r
end
theorem rB {α:Type} {f:α→WData} (h:∀ a,plW (f a)=true):∀ l:List α,plWs (l.map f)=true
  | []=>rfl
  | x :: r=>by
    show (plW (f x) && plWs (r.map f))=true
    rw [h x,rB h r] <;> rfl
theorem iD:∀ (c:Codec) (a:c.denote),plW (c.enc a)=true
  | .unit,_=>rfl
  | .bool,_=>rfl
  | .int _ _,_=>rfl
  | .nat _ _,_=>rfl
  | .u8,_=>rfl
  | .bytes _ _,_=>rfl
  | .text _ _ _ _,_=>rfl
  | .list _ _ c,a=>rB (fun x=>iD c x) a
  | .pair c d,a=>by
    show (plW (c.enc a.1) && (plW (d.enc a.2) && true))=true
    rw [iD c a.1,iD d a.2] <;> rfl
  | .triple c d e,a=>by
    show (plW (c.enc a.1) && (plW (d.enc a.2.1) && (plW (e.enc a.2.2) && true)))=true
    rw [iD c a.1,iD d a.2.1,iD e a.2.2] <;> rfl
  | .option c,none=>rfl
  | .option c,some x=>iD c x
theorem ph:∀ (cs:List Codec) (a:Codec.denoteAll cs),plWs (Codec.encAll cs a)=true
  | [],_=>rfl
  | c :: cs,a=>by
    show (plW (c.enc a.1) && plWs (Codec.encAll cs a.2))=true
    rw [iD c a.1,ph cs a.2] <;> rfl
theorem jy:∀ {xs:List WData} {d:WData},d∈xs→d.weight≤WData.weightAll xs
  | [],d,h=>absurd h (by simp)
  | x :: r,d,h=>by
    show d.weight≤x.weight + 1 + WData.weightAll r
    rcases List.mem_cons.mp h with e | m
    · rw [e]
      omega
    · have z:=jy m
      omega
def toV:Value→V
  | .none=>.non
  | .bool b=>.bl b
  | .int i _=>.int i
  | .str x _=>.str x
  | .bytes b _=>.byt b
  | .ref a=>.ref a
  | _=>.non
def OkU (A:List Addr):Value→Prop
  | .none=>True
  | .bool _=>True
  | .int _ _=>True
  | .str _ _=>True
  | .bytes _ _=>True
  | .ref a=>a∈A
  | _=>False
theorem OkU.mono {A B:List Addr} (h:∀ a∈A,a∈B):∀ {u:Value},OkU A u→OkU B u:=fun {u} x=>by
  cases u with
  | ref a=>exact h a x
  | none=>trivial
  | bool b=>trivial
  | int i t=>trivial
  | str s t=>trivial
  | bytes b t=>trivial
  | _=>exact False.elim x
theorem xG {A:List Addr} {u:Value} (x:OkU A u):RelV (toV u) u:=by
  cases u with
  | ref a=>rfl
  | none=>rfl
  | bool b=>rfl
  | int i t=>exact ⟨t,rfl⟩
  | str s t=>exact ⟨t,rfl⟩
  | bytes b t=>exact ⟨t,rfl⟩
  | _=>exact False.elim x
theorem gm {A:List Addr}:∀ {vs:List Value},(∀ u∈vs,OkU A u)→Vals (vs.map toV) vs
  | [],_=>.nil
  | u :: r,h=>.cons (xG (h u (List.mem_cons_self ..))) (gm fun x hx=>h x (List.mem_cons_of_mem _ hx))
def ig (h:Heap) (A:List Addr) (a:Addr):Prop:=∃ vs:List Value,vs.length≤sizeLine∧(∀ u∈vs,OkU A u) ∧
  (h.get? a=some { cls:=.type "list",data:=.seq vs.toArray }∨h.get? a=some { cls:=.type "tuple",data:=.seq vs.toArray })
theorem ig.mono {h:Heap} {A B:List Addr} {a:Addr} (k:∀ a∈A,a∈B) (x:ig h A a):ig h B a:=by
  obtain ⟨vs,h1,h2,h3⟩:=x
  exact ⟨vs,h1,fun u hu=>(h2 u hu).mono k,h3⟩
theorem fA {P:Params} {h:Heap}:∀ {vs:List Value} {ds:List WData},WellAll P h vs ds→vs.length=ds.length
  | _,_,.nil=>rfl
  | _,_,.cons _ b=>by
    show _ + 1=_ + 1
    rw [fA b]
theorem oZ {P:Params} {h:Heap} {v:Value} {ds:List WData} (x:Well P h v (.list ds)):∃ (a:Addr) (vs:List Value),v=.ref a∧h.get? a=some { cls:=.type "list",data:=.seq vs.toArray }∧WellAll P h vs ds:=by
  cases x with
  | list ho hall=>exact ⟨_,_,rfl,ho,hall⟩
theorem mH {P:Params} {h:Heap} {v:Value} {ds:List WData} (x:Well P h v (.tuple ds)):∃ (a:Addr) (vs:List Value),v=.ref a∧h.get? a=some { cls:=.type "tuple",data:=.seq vs.toArray }∧WellAll P h vs ds:=by
  cases x with
  | tuple ho hall=>exact ⟨_,_,rfl,ho,hall⟩
theorem o0 {P:Params} {h:Heap} {us:List Value} {d:WData} {ds:List WData} (x:WellAll P h us (d :: ds)):∃ (v:Value) (vs:List Value),us=v :: vs∧Well P h v d∧WellAll P h vs ds:=by
  cases x with
  | cons a b=>exact ⟨_,_,rfl,a,b⟩
theorem line_of {n:Nat} (h:n≤1048576):n≤sizeLine:=Nat.le_trans h (by decide)
section
variable {P:Params} {h:Heap}
mutual
theorem yG:∀ (d:WData) (v:Value),Well P h v d→plW d=true→d.weight≤1048576→∃ A:List Addr,OkU A v∧∀ a∈A,ig h A a
  | .none,_,x,_,_=>by
    cases x
    exact ⟨[],trivial,fun a m=>absurd m (by simp)⟩
  | .bool b,_,x,_,_=>by
    cases x
    exact ⟨[],trivial,fun a m=>absurd m (by simp)⟩
  | .int i,_,x,_,_=>by
    cases x
    exact ⟨[],trivial,fun a m=>absurd m (by simp)⟩
  | .str s,_,x,_,_=>by
    cases x
    exact ⟨[],trivial,fun a m=>absurd m (by simp)⟩
  | .bytes b,_,x,_,_=>by
    cases x
    exact ⟨[],trivial,fun a m=>absurd m (by simp)⟩
  | .list ds,_,x,p,z=>by
    obtain ⟨a,vs,rfl,ho,hall⟩:=oZ x
    have z2:WData.weightAll ds≤1048576:=z
    obtain ⟨A,h1,h2⟩:=kU ds _ hall p fun d hd=>Nat.le_trans (jy hd) z2
    have k:∀ b∈A,b∈a :: A:=fun b hb=>List.mem_cons_of_mem _ hb
    refine ⟨a :: A,List.mem_cons_self ..,fun b hb=>?_⟩
    rcases List.mem_cons.mp hb with e | m
    · rw [e]
      exact ⟨vs,line_of (by rw [fA hall]; exact Nat.le_trans (PySem.W.length_le_weightAllW ds) z2),fun u hu=>(h1 u hu).mono k,.inl ho⟩
    · exact (h2 b m).mono k
  | .tuple ds,_,x,p,z=>by
    obtain ⟨a,vs,rfl,ho,hall⟩:=mH x
    have z2:WData.weightAll ds≤1048576:=z
    obtain ⟨A,h1,h2⟩:=kU ds _ hall p fun d hd=>Nat.le_trans (jy hd) z2
    have k:∀ b∈A,b∈a :: A:=fun b hb=>List.mem_cons_of_mem _ hb
    refine ⟨a :: A,List.mem_cons_self ..,fun b hb=>?_⟩
    rcases List.mem_cons.mp hb with e | m
    · rw [e]
      exact ⟨vs,line_of (by rw [fA hall]; exact Nat.le_trans (PySem.W.length_le_weightAllW ds) z2),fun u hu=>(h1 u hu).mono k,.inr ho⟩
    · exact (h2 b m).mono k
  | .float _,_,_,p,_=>Bool.noConfusion (show false=true from p)
  | .dict _,_,_,p,_=>Bool.noConfusion (show false=true from p)
  | .bytearray _,_,_,p,_=>Bool.noConfusion (show false=true from p)
  | .set _,_,_,p,_=>Bool.noConfusion (show false=true from p)
  | .frozenset _,_,_,p,_=>Bool.noConfusion (show false=true from p)
  | .obj _ _,_,_,p,_=>Bool.noConfusion (show false=true from p)
theorem kU:∀ (ds:List WData) (vs:List Value),WellAll P h vs ds→plWs ds=true→(∀ d∈ds,d.weight≤1048576)→∃ A:List Addr,(∀ u∈vs,OkU A u)∧∀ a∈A,ig h A a
  | [],_,x,_,_=>by
    cases x
    exact ⟨[],fun u m=>absurd m (by simp),fun a m=>absurd m (by simp)⟩
  | d :: ds,_,x,p,z=>by
    obtain ⟨v,vs,rfl,x1,x2⟩:=o0 x
    have q:plW d=true∧plWs ds=true:=Bool.and_eq_true_iff.mp p
    obtain ⟨A,a1,a2⟩:=yG d v x1 q.1 (z d (List.mem_cons_self ..))
    obtain ⟨B,b1,b2⟩:=kU ds vs x2 q.2 fun e he=>z e (List.mem_cons_of_mem _ he)
    have kA:∀ b∈A,b∈A++B:=fun b hb=>List.mem_append.mpr (.inl hb)
    have kB:∀ b∈B,b∈A++B:=fun b hb=>List.mem_append.mpr (.inr hb)
    refine ⟨A++B,fun u hu=>?_,fun b hb=>?_⟩
    · rcases List.mem_cons.mp hu with e | m
      · rw [e]
        exact a1.mono kA
      · exact (b1 u m).mono kB
    · rcases List.mem_append.mp hb with m | m
      · exact (a2 b m).mono kA
      · exact (b2 b m).mono kB
end
end
def hoOf (o:Obj):Option HO:=match o.data with
  | .seq vs _=>if (o.cls == Value.type "list")=true then some (.frz o (.lst (vs.toList.map toV))) else some (.frz o (.tup (vs.toList.map toV)))
  | _=>none
def argH (K:PySem.W.Frag) (h:Heap) (A:List Addr):Hp:=fun b=>if b∈A then (if (K.lookup b).isNone=true then (h.get? b).bind hoOf else none) else none
def oF (H:Hp):Prop:=∀ b,H b=none∨∃ o u,H b=some (.frz o u)
theorem so (vs:List Value):hoOf { cls:=.type "list",data:=.seq vs.toArray }=some (.frz { cls:=.type "list",data:=.seq vs.toArray } (.lst (vs.map toV))):=by
  show (if (Value.type "list" == Value.type "list")=true then some (HO.frz { cls:=.type "list",data:=.seq vs.toArray } (.lst (vs.toArray.toList.map toV))) else some (HO.frz { cls:=.type "list",data:=.seq vs.toArray } (.tup (vs.toArray.toList.map toV))))=_
  rw [if_pos (beq_self_eq_true _)]
theorem sk (vs:List Value):hoOf { cls:=.type "tuple",data:=.seq vs.toArray }=some (.frz { cls:=.type "tuple",data:=.seq vs.toArray } (.tup (vs.map toV))):=by
  show (if (Value.type "tuple" == Value.type "list")=true then some (HO.frz { cls:=.type "tuple",data:=.seq vs.toArray } (.lst (vs.toArray.toList.map toV))) else some (HO.frz { cls:=.type "tuple",data:=.seq vs.toArray } (.tup (vs.toArray.toList.map toV))))=_
  rw [if_neg (by decide)]
section
variable {P:Program} {w:World} {K:PySem.W.Frag} {h:Heap} {A:List Addr}
theorem mF {b:Addr} {o:Obj} (hb:b∈A) (hk:K.lookup b=none) (e:h.get? b=some o):argH K h A b=hoOf o:=by
  unfold argH
  rw [if_pos hb,hk,if_pos (show (none:Option Obj).isNone=true from rfl),e] <;> rfl
theorem zm {b:Addr} {u:HO} (q:argH K h A b=some u):b∈A∧K.lookup b=none:=by
  unfold argH at q
  by_cases hb:b∈A
  · rw [if_pos hb] at q
    cases hk:K.lookup b with
    | none=>exact ⟨hb,rfl⟩
    | some o =>
      rw [hk,if_neg (by simp)] at q
      cases q
  · rw [if_neg hb] at q
    cases q
theorem mE (ar:∀ a∈A,ig h A a) {b:Addr} {u:HO} (q:argH K h A b=some u):K.lookup b=none∧∃ vs:List Value,vs.length≤sizeLine∧(∀ u∈vs,OkU A u) ∧
    ((h.get? b=some { cls:=.type "list",data:=.seq vs.toArray }∧u=.frz { cls:=.type "list",data:=.seq vs.toArray } (.lst (vs.map toV))) ∨
     (h.get? b=some { cls:=.type "tuple",data:=.seq vs.toArray }∧u=.frz { cls:=.type "tuple",data:=.seq vs.toArray } (.tup (vs.map toV)))):=by
  obtain ⟨hb,hk⟩:=zm q
  obtain ⟨vs,h1,h2,h3⟩:=ar b hb
  refine ⟨hk,vs,h1,h2,?_⟩
  rcases h3 with e | e
  · rw [mF hb hk e,so] at q
    exact .inl ⟨e,(Option.some.inj q).symm⟩
  · rw [mF hb hk e,sk] at q
    exact .inr ⟨e,(Option.some.inj q).symm⟩
theorem wU (ar:∀ a∈A,ig h A a):oF (argH K h A):=fun b=>by
  cases q:argH K h A b with
  | none=>exact .inl rfl
  | some u =>
    obtain ⟨_,vs,_,_,⟨_,e⟩ | ⟨_,e⟩⟩:=mE ar q
    · exact .inr ⟨_,_,by rw [e]⟩
    · exact .inr ⟨_,_,by rw [e]⟩
theorem zL (ar:∀ a∈A,ig h A a):HOk P w (argH K h A) h:=fun b u q=>by
  obtain ⟨_,vs,h1,h2,⟨e,rfl⟩ | ⟨e,rfl⟩⟩:=mE ar q
  · exact ⟨e,by rw [List.length_map]; exact h1,vs,_,gm h2,e⟩
  · exact ⟨e,by rw [List.length_map]; exact h1,vs,gm h2,_,e,rfl,_,rfl⟩
theorem mw {c c':Value} {vs us:List Value} (e:(some { cls:=c,data:=.seq vs.toArray }:Option Obj)=some { cls:=c',data:=.seq us.toArray }):c=c'∧vs=us:=by
  have e1:=Option.some.inj e
  have e2:c=c':=congrArg Obj.cls e1
  have e3:Data.seq vs.toArray=Data.seq us.toArray:=congrArg Obj.data e1
  injection e3 with e4
  refine ⟨e2,?_⟩
  have e5:=congrArg Array.toList e4
  simpa using e5
theorem argL (KX:K.In h) (ar:∀ a∈A,ig h A a) {a:Addr} {vs:List Value} (ha:a∈A) (e:h.get? a=some { cls:=.type "list",data:=.seq vs.toArray }):(∀ u∈vs,OkU A u)∧SqL K (argH K h A) a (vs.map toV):=by
  obtain ⟨us,h1,h2,h3⟩:=ar a ha
  have hu:us=vs:=by
    rcases h3 with q | q
    · rw [e] at q
      exact (mw q).2.symm
    · rw [e] at q
      exact absurd (Value.type.inj (mw q).1) (by decide)
  subst hu
  refine ⟨h2,?_⟩
  cases hk:K.lookup a with
  | none=>exact .inl (.inr ⟨_,by rw [mF ha hk e,so]⟩)
  | some o =>
    have e2:=KX a o hk
    rw [e] at e2
    obtain rfl:=Option.some.inj e2
    exact .inr ⟨_,us.toArray,_,hk,rfl,rfl,rfl,by rw [List.size_toArray]; exact h1,by simpa using gm h2⟩
theorem argT (KX:K.In h) (ar:∀ a∈A,ig h A a) {a:Addr} {vs:List Value} (ha:a∈A) (e:h.get? a=some { cls:=.type "tuple",data:=.seq vs.toArray }):(∀ u∈vs,OkU A u)∧SqT K (argH K h A) a (vs.map toV):=by
  obtain ⟨us,h1,h2,h3⟩:=ar a ha
  have hu:us=vs:=by
    rcases h3 with q | q
    · rw [e] at q
      exact absurd (Value.type.inj (mw q).1) (by decide)
    · rw [e] at q
      exact (mw q).2.symm
  subst hu
  refine ⟨h2,?_⟩
  cases hk:K.lookup a with
  | none=>exact .inl (.inr ⟨_,by rw [mF ha hk e,sk]⟩)
  | some o =>
    have e2:=KX a o hk
    rw [e] at e2
    obtain rfl:=Option.some.inj e2
    exact .inr ⟨_,us.toArray,_,hk,rfl,rfl,by rw [List.size_toArray]; exact h1,by simpa using gm h2⟩
mutual
theorem dw_one {Pm:Params} (KX:K.In h) (ar:∀ a∈A,ig h A a):∀ (d:WData) (v:Value),Well Pm h v d→plW d=true→OkU A v→Dw K (argH K h A) (toV v) d
  | .none,_,x,_,_=>by
    cases x
    exact .non
  | .bool b,_,x,_,_=>by
    cases x
    exact .bl b
  | .int i,_,x,_,_=>by
    cases x
    exact .int i
  | .str s,_,x,_,_=>by
    cases x
    exact .str s
  | .bytes b,_,x,_,_=>by
    cases x
    have z:=Dw.byt (K:=K) (H:=argH K h A) b.toArray
    exact z
  | .list ds,_,x,p,hu=>by
    obtain ⟨a,vs,rfl,ho,hall⟩:=oZ x
    obtain ⟨h2,hs⟩:=argL KX ar hu ho
    exact .lst hs (qy KX ar ds _ hall p h2)
  | .tuple ds,_,x,p,hu=>by
    obtain ⟨a,vs,rfl,ho,hall⟩:=mH x
    obtain ⟨h2,hs⟩:=argT KX ar hu ho
    exact .tup hs (qy KX ar ds _ hall p h2)
  | .float _,_,_,p,_=>Bool.noConfusion (show false=true from p)
  | .dict _,_,_,p,_=>Bool.noConfusion (show false=true from p)
  | .bytearray _,_,_,p,_=>Bool.noConfusion (show false=true from p)
  | .set _,_,_,p,_=>Bool.noConfusion (show false=true from p)
  | .frozenset _,_,_,p,_=>Bool.noConfusion (show false=true from p)
  | .obj _ _,_,_,p,_=>Bool.noConfusion (show false=true from p)
theorem qy {Pm:Params} (KX:K.In h) (ar:∀ a∈A,ig h A a):∀ (ds:List WData) (vs:List Value),WellAll Pm h vs ds→plWs ds=true→(∀ u∈vs,OkU A u)→ie K (argH K h A) (vs.map toV) ds
  | [],_,x,_,_=>by
    cases x
    exact .nil
  | d :: ds,_,x,p,hu=>by
    obtain ⟨v,vs,rfl,x1,x2⟩:=o0 x
    have q:plW d=true∧plWs ds=true:=Bool.and_eq_true_iff.mp p
    exact .cons (dw_one KX ar d v x1 q.1 (hu _ (List.mem_cons_self ..))) (qy KX ar ds vs x2 q.2 fun u m=>hu u (List.mem_cons_of_mem _ m))
end
end
theorem vW {P:Program} {w:World} {K:PySem.W.Frag} {mg mb:Str→Option Value} {CX:CXT} {k:Nat} {fa:Addr} {fd:FuncData} {ps:List Str} {sp:Sp} {s₁:Shared} {vals:List Value} {ds:List WData} {R:PySem.W.WRecords} {cl:Str→Option Addr} {d0:WData}
    (KX:K.In s₁.heap) (hns:s₁.heap.Ns mainGlobals mg) (hb:s₁.heap.Ns builtinsNs mb) (hbb:∀ x:Str,x ≠ "__name__" → mb x=bootBuiltins x) (hlim:s₁.heap.NoLimit) (hg:s₁.gens=#[])
    (hwl:WellAll w.params s₁.heap vals ds) (hpl:plWs ds=true) (hwt:∀ d∈ds,d.weight≤1048576) (hr:Room k callerA)
    (F:∀ base:Heap,K.In base→base.Ns mainGlobals mg→FnOk P w K mg base CX k fa fd ps sp) (hbind:∀ (s:Shared) (us:List Value),us.length=ps.length→BindsTo s fd ⟨us,[]⟩ (ps.zip us)) (hlen:ds.length=ps.length)
    (hsp:∀ (H:Hp) (xs:List V),oF H→ie K H xs ds→sp xs H (fun v H'=>Dw K H' v d0) fun _ _ _=>False)
    (hCX:∀ H e s',CX [] H s₁ (fun _ _ _=>False) e s'→False) :
    codeAny (model P w) callerA (.call (.ref fa) ⟨vals,[]⟩) (fun r s'=>∃ u as,r=.ok (.ret u)∧ReadsW R cl s'.heap u d0 as∧OldK s₁.heap s'.heap∧s'.os=s₁.os∧AllBare s'.gens) s₁:=by
  obtain ⟨A,ho,ar⟩:=kU ds vals hwl hpl hwt
  have hO:oF (argH K s₁.heap A):=wU ar
  have hok:HOk P w (argH K s₁.heap A) s₁.heap:=zL ar
  have hS:=qy KX ar ds vals hwl hpl ho
  have hV:=gm ho
  have hK:∀ b u,argH K s₁.heap A b=some u→K.lookup b=none:=fun b u q=>(mE ar q).1
  have noA:∀ {b:Addr} {o:Obj} {es:Array DictEntry} {ep:Nat},s₁.heap.get? b=some o→o.data=.dict es ep→argH K s₁.heap A b=none:=fun {b o es ep} e d=>by
    cases q:argH K s₁.heap A b with
    | none=>rfl
    | some u =>
      obtain ⟨_,vs,_,_,⟨e2,_⟩ | ⟨e2,_⟩⟩:=mE ar q
      · rw [e2] at e
        cases e
        have d':Data.seq vs.toArray _=Data.dict es ep:=d
        cases d'
      · rw [e2] at e
        cases e
        have d':Data.seq vs.toArray _=Data.dict es ep:=d
        cases d'
  generalize argH K s₁.heap A=H at hO hok hS hK noA
  have base_of:∀ {b:Addr} {o:Obj},s₁.heap.get? b=some o→H b=none→(hidT s₁.heap H).get? b=some o:=fun e n=>yr e n
  have nsK:∀ {b:Addr} {m:Str→Option Value},s₁.heap.Ns b m→(hidT s₁.heap H).Ns b m:=fun {b m} ⟨o,es,ep,e,d,r⟩=>⟨o,es,ep,base_of e (noA e d),d,r⟩
  have nK:∀ b o,K.lookup b=some o→H b=none:=fun b o e=>by
    cases q:H b with
    | none=>rfl
    | some u =>
      rw [hK b u q] at e
      cases e
  have hKb:K.In (hidT s₁.heap H):=fun b o e=>base_of (KX b o e) (nK b o e)
  have hM:Mod K mg (hidT s₁.heap H):=⟨hKb,nsK hns,⟨mb,nsK hb,hbb⟩,let ⟨mc,h1,h2⟩:=hlim; ⟨mc,nsK h1,h2⟩⟩
  have e0:Env0 P w K mg (hidT s₁.heap H) callerA [] s₁ H:=⟨rfl,hM,fun b o e=>zl e,Nat.le_of_eq (wA _ _),trivial,fun b hb=>absurd (show b∈([]:List Addr) from hb) (by simp),hok,.of_eq hg⟩
  have hl:vals.length=ps.length:=by rw [fA hwl]; exact hlen
  refine codeAny_mono ((F _ hKb (nsK hns)).run callerA [] s₁ H ⟨vals,[]⟩ vals (vals.map toV) _ _ hr e0 (hbind s₁ vals hl) hV (hsp H _ hO hS)) fun r s' x=>?_
  cases r with
  | error e=>exact (hCX H e s' x).elim
  | ok fl =>
    cases fl with
    | next=>exact False.elim x
    | brk=>exact False.elim x
    | cont=>exact False.elim x
    | ret u =>
      obtain ⟨v,H',os,bare,un,hok',r',q⟩:=x
      have kept:∀ b o,s₁.heap.get? b=some o→s'.heap.get? b=some o:=fun b o e=>by
        cases q2:H b with
        | none=>exact un.keep b o e q2 (by intro z; exact absurd (show b∈([]:List Addr) from z) (by simp)) (by simp)
        | some u2 =>
          rcases hO b with z | ⟨ob,u3,z⟩
          · rw [q2] at z
            cases z
          · have z2:=un.frzs b ob _ z
            obtain ⟨e1,_⟩:=hok b _ z
            obtain ⟨e2,_⟩:=hok' b _ z2
            rw [e] at e1
            cases e1
            exact e2
      have KX':K.In s'.heap:=fun b o e=>kept b o (KX b o e)
      obtain ⟨as,hrd⟩:=Dw.reads (R:=R) (cl:=cl) hok' KX' d0 v u q r'
      exact ⟨u,as,rfl,hrd,OldK.of_keep kept,os,bare⟩
theorem nU {ds:List WData} (h:WData.layableAll ds=true):∀ d∈ds,d.weight≤1048576:=fun d hd =>
  (PySem.W.layableW_iff.mp (List.all_eq_true.mp h d hd)).2.2
theorem n9:∀ (cs:List Codec) (a:Codec.denoteAll cs),(Codec.encAll cs a).length=cs.length
  | [],_=>rfl
  | c :: cs,a=>by
    show (Codec.encAll cs a.2).length + 1=cs.length + 1
    rw [n9 cs a.2]
theorem vM {r:OpenSpec} {k:Nat} {q:Program} {loose:List Str} {XP:(Str→Option Value)→Heap→Prop} {YP:World→Heap→Prop} {d:DefRec} {K:Params→PySem.W.Frag} {CX:World→CXT} {ps:List Str} {sp:World→Sp}
    (hwell:r.wellSaid=true) (hdf:d.params.defaults=[]) (hlen:r.args.length=ps.length) (hr:Room k callerA)
    (hY:∀ (w:World) (h:Heap),YP w h→(K w.params).In h)
    (F:∀ (w:World) (mg:Str→Option Value) (fa:Addr) (h:Heap),YP w h→(K w.params).In h→h.Ns mainGlobals mg→mg d.name=some (.ref fa) →
      ∃ fd:FuncData,(∀ (s:Shared) (us:List Value),us.length=ps.length→BindsTo s fd ⟨us,[]⟩ (ps.zip us)) ∧
        ∀ base:Heap,(K w.params).In base→base.Ns mainGlobals mg→FnOk r.prog w (K w.params) mg base (CX w) k fa fd ps (sp w))
    (hsp:∀ (w:World) (H:Hp) (xs:List V) (a:Codec.denoteAll r.args),oF H→Codec.withinAll r.args a=true→Codec.app r.args r.asked a=true→ie (K w.params) H xs (Codec.encAll r.args a) →
      sp w xs H (fun v H'=>Dw (K w.params) H' v (r.ret.enc (Codec.app r.args r.f a))) fun _ _ _=>False)
    (hCX:∀ (w:World) (H:Hp) (s:Shared) (e:Value) (s':Shared),CX w [] H s (fun _ _ _=>False) e s'→False) :
    PySem.W.WalkOS q loose XP YP r d [] (fun f vs=>PySem.call f vs):=by
  intro w s_0 s₁ mg mb G Y fa o pm cd doc dV kV ho hd hcd hD hmg hg args vals as hpre hlay hrd hwl hlo
  obtain ⟨a,e1,e2⟩:=PySem.W.os_pre_some hpre
  obtain ⟨e3,hwi⟩:=Codec.encAll_of_decAll r.args args a e1
  subst e3
  have KX:=hY w _ Y
  obtain ⟨fd,hb,hF⟩:=F w mg fa _ Y KX G.T.g hmg
  refine PySem.W.enter_call (codeAny_mono (vW (R:=[]) (cl:=classAt s_0.heap) (d0:=r.ret.enc (Codec.app r.args r.f a)) KX G.T.g G.T.b G.T.builtins G.T.nolimit hg hwl (ph _ _) (nU hlay) hr hF hb (by rw [n9]; exact hlen)
    (fun H xs hO hS=>hsp w H xs a hO hwi e2 hS) fun H e s'=>hCX w H s₁ e s') fun r' s' hq=>?_)
  obtain ⟨u,as',rfl,h1,h2,h3,h4⟩:=hq
  exact ⟨.inl ⟨u,_,as',rfl,fun _=>rfl,h1,(OpenSpec.post_iff hwell hwi _ _).mpr rfl,fun z=>Bool.noConfusion (show false=true from z)⟩,h2,h3,h4⟩
theorem tz {r:OpenSpec} {k:Nat} {q:Program} {loose:List Str} {XP:(Str→Option Value)→Heap→Prop} {YP:World→Heap→Prop} {d:DefRec} {K:Params→PySem.W.Frag} {CX:CXT} {ps:List Str} {sp:PySem.W.Frag→Sp}
    (hwell:r.wellSaid=true) (hdf:d.params.defaults=[]) (hlen:r.args.length=ps.length) (hr:Room k callerA)
    (hY:∀ (w:World) (h:Heap),YP w h→(K w.params).In h)
    (F:∀ (w:World) (mg:Str→Option Value) (fa:Addr) (h:Heap),YP w h→(K w.params).In h→h.Ns mainGlobals mg→mg d.name=some (.ref fa) →
      ∃ fd:FuncData,(∀ (s:Shared) (us:List Value),us.length=ps.length→BindsTo s fd ⟨us,[]⟩ (ps.zip us)) ∧
        ∀ base:Heap,(K w.params).In base→base.Ns mainGlobals mg→FnOk r.prog w (K w.params) mg base CX k fa fd ps (sp (K w.params)))
    (hsp:∀ (K:PySem.W.Frag) (H:Hp) (xs:List V) (a:Codec.denoteAll r.args),oF H→Codec.withinAll r.args a=true→Codec.app r.args r.asked a=true→ie K H xs (Codec.encAll r.args a) →
      sp K xs H (fun v H'=>Dw K H' v (r.ret.enc (Codec.app r.args r.f a))) fun _ _ _=>False)
    (hCX:∀ (H:Hp) (s:Shared) (e:Value) (s':Shared),CX [] H s (fun _ _ _=>False) e s'→False) :
    PySem.W.WalkOS q loose XP YP r d [] (fun f vs=>PySem.call f vs) :=
  vM (K:=K) (CX:=fun _=>CX) (sp:=fun w=>sp (K w.params)) hwell hdf hlen hr hY F (fun w H xs a h1 h2 h3 h4=>hsp (K w.params) H xs a h1 h2 h3 h4) fun _ H s e s'=>hCX H s e s'
end L2
end
namespace CN
open Vbiraa (Q mk whole)
theorem gY {n d:Nat} (h:0 < d):mk n d={ n:=n / Nat.gcd n d,d:=d / Nat.gcd n d }:=by
  unfold mk
  rw [if_neg (by omega)]
theorem rZ {k n d:Nat} (hk:0 < k) (h:0 < d):mk (k * n) (k * d)=mk n d:=by
  rw [gY (Nat.mul_pos hk h),gY h,Nat.gcd_mul_left,Nat.mul_div_mul_left _ _ hk,Nat.mul_div_mul_left _ _ hk]
theorem gZ {a b c d:Nat} (hb:0 < b) (hd:0 < d) (e:a * d=c * b):mk a b=mk c d:=by
  rw [←rZ (n:=a) (d:=b) hd hb,←rZ (n:=c) (d:=d) hb hd,Nat.mul_comm d a,e,Nat.mul_comm c b,Nat.mul_comm d b]
theorem eD {n d:Nat} (h:0 < d):0 < (mk n d).d:=by
  rw [gY h]
  exact Nat.div_pos (Nat.le_of_dvd h (Nat.gcd_dvd_right n d)) (Nat.gcd_pos_of_pos_right n h)
theorem ci {n d:Nat} (h:0 < d):(mk n d).n * d=n * (mk n d).d:=by
  rw [gY h]
  show n / Nat.gcd n d * d=n * (d / Nat.gcd n d)
  have h1:=Nat.div_mul_cancel (Nat.gcd_dvd_left n d)
  have h2:=Nat.div_mul_cancel (Nat.gcd_dvd_right n d)
  calc n / Nat.gcd n d * d=n / Nat.gcd n d * (d / Nat.gcd n d * Nat.gcd n d):=by rw [h2]
    _=(n / Nat.gcd n d * Nat.gcd n d) * (d / Nat.gcd n d):=by rw [Nat.mul_comm (d / _) _,←Nat.mul_assoc]
    _=_:=by rw [h1]
theorem mk_cop {n d:Nat} (h:0 < d):Nat.Coprime (mk n d).n (mk n d).d:=by
  rw [gY h]
  exact Nat.coprime_div_gcd_div_gcd (Nat.gcd_pos_of_pos_right n h)
theorem u7 {n d:Nat} (h:0 < d) (c:Nat.Coprime n d):mk n d=⟨n,d⟩:=by
  rw [gY h,c.gcd_eq_one,Nat.div_one,Nat.div_one]
theorem j5 (n:Nat):whole n=mk n 1:=(u7 (by decide) (Nat.coprime_one_right n)).symm
theorem fI {d:Nat} (h:0 < d):mk 0 d=whole 0:=by
  rw [j5]
  exact gZ h (by decide) (by simp)
theorem ij {n d:Nat} (h:0 < d):whole n=mk (n * d) d:=by
  rw [j5]
  exact gZ (by decide) h (by simp)
theorem uM {a b c d:Nat} (hb:0 < b) (hd:0 < d):Vbiraa.add (mk a b) (mk c d)=mk (a * d + c * b) (b * d):=by
  have e1:=ci (n:=a) hb
  have e2:=ci (n:=c) hd
  have p1:=eD (n:=a) hb
  have p2:=eD (n:=c) hd
  unfold Vbiraa.add
  refine gZ (Nat.mul_pos p1 p2) (Nat.mul_pos hb hd) ?_
  generalize (mk a b).n=n1 at *
  generalize (mk a b).d=d1 at *
  generalize (mk c d).n=n2 at *
  generalize (mk c d).d=d2 at *
  grind
theorem mul_mk {a b c d:Nat} (hb:0 < b) (hd:0 < d):Vbiraa.mul (mk a b) (mk c d)=mk (a * c) (b * d):=by
  have e1:=ci (n:=a) hb
  have e2:=ci (n:=c) hd
  have p1:=eD (n:=a) hb
  have p2:=eD (n:=c) hd
  unfold Vbiraa.mul
  refine gZ (Nat.mul_pos p1 p2) (Nat.mul_pos hb hd) ?_
  generalize (mk a b).n=n1 at *
  generalize (mk a b).d=d1 at *
  generalize (mk c d).n=n2 at *
  generalize (mk c d).d=d2 at *
  grind
theorem yB {a b c d n1 d1 n2 d2:Nat} (hb:0 < b) (hd:0 < d) (p1:0 < d1) (p2:0 < d2) (e1:n1 * b=a * d1) (e2:n2 * d=c * d2):n1 * d2≤n2 * d1↔a * d≤c * b:=by
  have l:(n1 * d2) * (b * d)=(a * d) * (d1 * d2):=by grind
  have r:(n2 * d1) * (b * d)=(c * b) * (d1 * d2):=by grind
  constructor
  · intro h
    have:=Nat.mul_le_mul_right (b * d) h
    rw [l,r] at this
    exact Nat.le_of_mul_le_mul_right this (Nat.mul_pos p1 p2)
  · intro h
    have:=Nat.mul_le_mul_right (d1 * d2) h
    rw [←l,←r] at this
    exact Nat.le_of_mul_le_mul_right this (Nat.mul_pos hb hd)
theorem le_mk {a b c d:Nat} (hb:0 < b) (hd:0 < d):Vbiraa.le (mk a b) (mk c d)=decide (a * d≤c * b):=by
  unfold Vbiraa.le
  exact decide_eq_decide.mpr (yB hb hd (eD hb) (eD hd) (ci hb) (ci hd))
theorem zu {a b c d:Nat} (hb:0 < b) (hd:0 < d):Vbiraa.less (mk a b) (mk c d)=mk (a * d - c * b) (b * d):=by
  have e1:=ci (n:=a) hb
  have e2:=ci (n:=c) hd
  have p1:=eD (n:=a) hb
  have p2:=eD (n:=c) hd
  unfold Vbiraa.less
  refine gZ (Nat.mul_pos p1 p2) (Nat.mul_pos hb hd) ?_
  generalize (mk a b).n=n1 at *
  generalize (mk a b).d=d1 at *
  generalize (mk c d).n=n2 at *
  generalize (mk c d).d=d2 at *
  rw [Nat.sub_mul,Nat.sub_mul]
  have l:(n1 * d2) * (b * d)=(a * d) * (d1 * d2):=by grind
  have r:(n2 * d1) * (b * d)=(c * b) * (d1 * d2):=by grind
  rw [l,r]
theorem lz {a b:Nat} (hb:0 < b):(mk a b).n=0↔a=0:=by
  have e:=ci (n:=a) hb
  have p:=eD (n:=a) hb
  constructor
  · intro h
    rw [h,Nat.zero_mul] at e
    rcases Nat.mul_eq_zero.mp e.symm with h | h
    · exact h
    · omega
  · intro h
    rw [h,Nat.zero_mul] at e
    subst h
    rcases Nat.mul_eq_zero.mp e with h | h
    · exact h
    · omega
theorem u0 {a b c d:Nat} (hb:0 < b) (hd:0 < d) (hc:0 < c):Vbiraa.over (mk a b) (mk c d)=mk (a * d) (b * c):=by
  have e1:=ci (n:=a) hb
  have e2:=ci (n:=c) hd
  have p1:=eD (n:=a) hb
  have p2:=eD (n:=c) hd
  have z:¬ (mk c d).n=0:=fun h=>by
    have:=(lz hd).mp h
    omega
  unfold Vbiraa.over
  rw [if_neg z]
  refine gZ (Nat.mul_pos p1 (by omega)) (Nat.mul_pos hb hc) ?_
  generalize (mk a b).n=n1 at *
  generalize (mk a b).d=d1 at *
  generalize (mk c d).n=n2 at *
  generalize (mk c d).d=d2 at *
  grind
section
variable {x y D:Nat}
theorem addD (h:0 < D):Vbiraa.add (mk x D) (mk y D)=mk (x + y) D:=by
  rw [uM h h]
  exact gZ (Nat.mul_pos h h) h (by grind)
theorem leD (h:0 < D):Vbiraa.le (mk x D) (mk y D)=decide (x≤y):=by
  rw [le_mk h h]
  exact decide_eq_decide.mpr ⟨fun q=>Nat.le_of_mul_le_mul_right q h,fun q=>Nat.mul_le_mul_right D q⟩
theorem leastD (h:0 < D):Vbiraa.least (mk x D) (mk y D)=mk (min x y) D:=by
  unfold Vbiraa.least
  rw [leD h]
  by_cases e:x≤y
  · rw [if_pos (by simpa using e),Nat.min_eq_left e]
  · rw [if_neg (by simpa using e),Nat.min_eq_right (by omega)]
theorem yi (h:0 < D):Vbiraa.less (mk x D) (mk y D)=mk (x - y) D:=by
  rw [zu h h]
  refine gZ (Nat.mul_pos h h) h ?_
  rw [←Nat.sub_mul,Nat.mul_assoc]
theorem mulD (h:0 < D) {p:Nat} (e:100∣x * p):Vbiraa.mul (mk x D) (mk p 100)=mk (x * p / 100) D:=by
  rw [mul_mk h (by decide)]
  obtain ⟨k,hk⟩:=e
  rw [hk,Nat.mul_div_cancel_left k (by decide)]
  exact gZ (Nat.mul_pos h (by decide)) h (by grind)
theorem uP (h:0 < D):∀ (l:List Nat) (a:Nat),(l.map fun x=>mk x D).foldl Vbiraa.add (mk a D)=mk (a + l.sum) D
  | [],a=>by simp
  | x :: l,a=>by
    rw [List.map_cons,List.foldl_cons,addD h,uP h l,List.sum_cons,Nat.add_assoc]
theorem sumQD (h:0 < D) (l:List Nat):Vbiraa.sumQ (l.map fun x=>mk x D)=mk l.sum D:=by
  unfold Vbiraa.sumQ
  rw [←fI h,uP h,Nat.zero_add]
end
end CN
namespace CN
open Vbiraa (Bytes isDigit isSmall partsOf wordsOf linesOf)
theorem cC (c:Nat):∀ l:Bytes,partsOf c l≠[]
  | []=>by simp [partsOf]
  | x :: l=>by
    unfold partsOf
    split
    · simp
    · split <;> simp
def pre (cur:Bytes):List Bytes→List Bytes
  | []=>[cur]
  | w :: r=>(cur++w) :: r
theorem km {P:List Bytes} (h:P≠[]):pre [] P=P:=by
  cases P with
  | nil=>exact absurd rfl h
  | cons w r=>rfl
theorem lS (c:Nat) (l:Bytes):partsOf c (c :: l)=[] :: partsOf c l:=by
  rw [partsOf,if_pos rfl]
theorem rA {c x:Nat} (h:x≠c) (cur l:Bytes):pre cur (partsOf c (x :: l))=pre (cur++[x]) (partsOf c l):=by
  rw [partsOf,if_neg h]
  cases e:partsOf c l with
  | nil=>exact absurd e (cC c l)
  | cons w r =>
    show (cur++(x :: w)) :: r=((cur++[x])++w) :: r
    rw [List.append_assoc]
    rfl
def bO (b:List Bytes × Bytes) (x:Nat):List Bytes × Bytes:=if x=32 then (if b.2=[] then b else (b.1++[b.2],[])) else (b.1,b.2++[x])
theorem j4:∀ (l:Bytes) (acc:List Bytes) (cur:Bytes),(l++[32]).foldl bO (acc,cur)=(acc++(pre cur (partsOf 32 l)).filter (fun w=>!w.isEmpty),[])
  | [],acc,cur=>by
    show bO (acc,cur) 32=(acc++[cur++[]].filter _,[])
    unfold bO
    rw [if_pos rfl,List.append_nil]
    by_cases h:cur=[]
    · subst h
      simp
    · rw [if_neg h,List.filter_cons,if_pos (by cases cur with | nil=>exact absurd rfl h | cons _ _=>rfl)]
      rfl
  | x :: l,acc,cur=>by
    rw [List.cons_append,List.foldl_cons]
    by_cases hx:x=32
    · subst hx
      rw [lS]
      show List.foldl bO (bO (acc,cur) 32) (l++[32])=(acc++((cur++[]) :: partsOf 32 l).filter _,[])
      rw [List.append_nil,List.filter_cons]
      unfold bO
      rw [if_pos rfl]
      by_cases h:cur=[]
      · subst h
        rw [if_pos rfl,if_neg (by simp)]
        have:=j4 l acc []
        unfold bO at this
        rw [this,km (cC 32 l)]
      · rw [if_neg h,if_pos (by cases cur with | nil=>exact absurd rfl h | cons _ _=>rfl)]
        have:=j4 l (acc++[cur]) []
        unfold bO at this
        rw [this,km (cC 32 l),List.append_assoc]
        rfl
    · rw [rA hx]
      have e:bO (acc,cur) x=(acc,cur++[x]):=by
        unfold bO
        rw [if_neg hx]
      rw [e]
      exact j4 l acc (cur++[x])
theorem wZ (l:Bytes):(l++[32]).foldl bO ([],[])=(wordsOf l,[]):=by
  rw [j4,km (cC 32 l),List.nil_append]
  rfl
def cQ (b:List Bytes × Bytes) (x:Nat):List Bytes × Bytes:=if x=10 then (b.1++[b.2],[]) else (b.1,b.2++[x])
theorem nQ:∀ (l:Bytes) (acc:List Bytes) (cur:Bytes),(l.foldl cQ (acc,cur)).1++[(l.foldl cQ (acc,cur)).2]=acc++pre cur (partsOf 10 l)
  | [],acc,cur=>by
    show acc++[cur]=acc++[cur++[]]
    rw [List.append_nil]
  | x :: l,acc,cur=>by
    rw [List.foldl_cons]
    by_cases hx:x=10
    · subst hx
      have e:cQ (acc,cur) 10=(acc++[cur],[]):=by
        unfold cQ
        rw [if_pos rfl]
      rw [e,nQ l,lS,km (cC 10 l)]
      show _=acc++((cur++[]) :: partsOf 10 l)
      rw [List.append_nil,List.append_assoc]
      rfl
    · have e:cQ (acc,cur) x=(acc,cur++[x]):=by
        unfold cQ
        rw [if_neg hx]
      rw [e,nQ l,rA hx]
def lEnd (b:List Bytes × Bytes):List Bytes:=if b.2=[] then b.1 else b.1++[b.2]
theorem yg (l:Bytes):lEnd (l.foldl cQ ([],[]))=linesOf l:=by
  have h:=nQ l [] []
  rw [List.nil_append,km (cC 10 l)] at h
  generalize l.foldl cQ ([],[])=b at h
  unfold linesOf lEnd
  rw [←h]
  show _=(if (b.1++[b.2]).getLast?=some [] then (b.1++[b.2]).dropLast else b.1++[b.2])
  rw [List.getLast?_append,List.dropLast_concat]
  by_cases e:b.2=[]
  · rw [if_pos e,if_pos (by rw [e]; rfl)]
  · rw [if_neg e,if_neg]
    intro q
    exact e (Option.some.inj q)
def isAl (c:Nat):Bool:=isSmall c || isDigit c
def sg (c:Nat):Nat:=if isAl c=true then c else 63
theorem rg {c:Nat} (h:isAl c=true):sg c=c:=if_pos h
theorem re {c:Nat} (h:¬ isAl c=true):sg c=63:=if_neg h
theorem sg_iff {x y:Nat} (h:isAl y=true):sg x=y↔x=y:=by
  by_cases hx:isAl x=true
  · rw [rg hx]
  · rw [re hx]
    constructor
    · intro e
      subst e
      exact absurd h (by decide)
    · intro e
      subst e
      exact absurd h hx
theorem mv:∀ {w v:Bytes},v.all isAl=true→(w.map sg=v↔w=v)
  | [],[],_=>by simp
  | [],_ :: _,_=>by simp
  | _ :: _,[],_=>by simp
  | x :: w,y :: v,h=>by
    rw [List.all_cons,Bool.and_eq_true] at h
    rw [List.map_cons,List.cons.injEq,List.cons.injEq,sg_iff h.1,mv h.2]
theorem mQ {w:Bytes} (h:w.all isAl=true):w.map sg=w:=(mv h).mpr rfl
theorem xz (c:Nat):isDigit (sg c)=isDigit c:=by
  by_cases h:isAl c=true
  · rw [rg h]
  · rw [re h]
    have e:isDigit c=false:=by
      unfold isAl at h
      simp only [Bool.or_eq_true,not_or] at h
      exact Bool.eq_false_iff.mpr h.2
    rw [e]
    decide
theorem xy (c:Nat):isSmall (sg c)=isSmall c:=by
  by_cases h:isAl c=true
  · rw [rg h]
  · rw [re h]
    have e:isSmall c=false:=by
      unfold isAl at h
      simp only [Bool.or_eq_true,not_or] at h
      exact Bool.eq_false_iff.mpr h.1
    rw [e]
    decide
theorem wX (w:Bytes):(w.map sg).all isDigit=w.all isDigit:=by
  rw [List.all_map]
  congr 1
  funext c
  exact xz c
theorem wW (w:Bytes):(w.map sg).all isSmall=w.all isSmall:=by
  rw [List.all_map]
  congr 1
  funext c
  exact xy c
theorem sV {w:Bytes} (h:w.all isDigit=true):w.all isAl=true:=by
  rw [List.all_eq_true] at h ⊢
  intro c hc
  unfold isAl
  rw [h c hc,Bool.or_true]
theorem ma {w:Bytes} (h:w.all isSmall=true):w.all isAl=true:=by
  rw [List.all_eq_true] at h ⊢
  intro c hc
  unfold isAl
  rw [h c hc,Bool.true_or]
theorem wm (lo hi:Nat) (w:Bytes):Vbiraa.numberIn lo hi (w.map sg)=Vbiraa.numberIn lo hi w:=by
  by_cases h:w.all isDigit=true
  · rw [mQ (sV h)]
  · have h':w.all isDigit=false:=Bool.eq_false_iff.mpr h
    unfold Vbiraa.numberIn
    rw [if_pos (.inr (.inl (by rw [wX]; exact h'))),if_pos (.inr (.inl h'))]
theorem zn (w:Bytes):Vbiraa.isName (w.map sg)=Vbiraa.isName w:=by
  by_cases h:w.all isSmall=true
  · rw [mQ (ma h)]
  · have h':w.all isSmall=false:=Bool.eq_false_iff.mpr h
    unfold Vbiraa.isName
    rw [wW,h']
    simp
theorem u6 {w:Bytes} (h:Vbiraa.isName w=true):w.all isAl=true:=by
  unfold Vbiraa.isName at h
  simp only [Bool.and_eq_true] at h
  exact ma h.2.2.1
theorem x8 {w:Bytes} (h:Vbiraa.isName w=true):w.length≤8:=by
  unfold Vbiraa.isName at h
  simp only [Bool.and_eq_true,decide_eq_true_eq] at h
  exact h.2.1
def mG (ns:Vbiraa.Net):Prop:=∀ r∈ns,r.name.all isAl=true
theorem zF {ns:Vbiraa.Net} (h:mG ns) (w:Bytes):Vbiraa.find ns (w.map sg)=Vbiraa.find ns w:=by
  unfold Vbiraa.find
  induction ns with
  | nil=>rfl
  | cons r ns ih =>
    rw [List.findIdx?_cons,List.findIdx?_cons,ih (fun q hq=>h q (List.mem_cons_of_mem _ hq))]
    have e:(r.name == w.map sg)=(r.name == w):=by
      rw [Bool.eq_iff_iff,beq_iff_eq,beq_iff_eq]
      have:=mv (w:=w) (h r (List.mem_cons_self ..))
      exact ⟨fun q=>((this.mp q.symm)).symm,fun q=>(this.mpr q.symm).symm⟩
    rw [e]
theorem fP {s:String} (h:(Vbiraa.text s).all isAl=true) (w:Bytes):(w.map sg=Vbiraa.text s)=(w=Vbiraa.text s):=propext (mv h)
set_option maxHeartbeats 1000000 in
theorem zt {ns:Vbiraa.Net} (hn:mG ns) (ws:List Bytes):Vbiraa.lineOf ns (ws.map fun w=>w.map sg)=Vbiraa.lineOf ns ws:=by
  match ws with
  | [k,n,f,p,a,d,b,o,c,s,e,m,g,v] =>
    show Vbiraa.lineOf ns [k.map sg,n.map sg,f.map sg,p.map sg,a.map sg,d.map sg,b.map sg,o.map sg,c.map sg,s.map sg,e.map sg,m.map sg,g.map sg,v.map sg]=_
    unfold Vbiraa.lineOf
    simp only [fP (s := "reach") (by decide),fP (s := "from") (by decide),fP (s := "delay") (by decide),fP (s := "loss") (by decide),fP (s := "soak") (by decide),fP (s := "cap") (by decide),fP (s := "gate") (by decide),fP (s := "source") (by decide),zn,zF hn,wm]
    by_cases h:Vbiraa.isName n=true
    · rw [mQ (u6 h)]
    · simp only [h,Bool.false_eq_true,false_and,and_false,if_false]
  | []=>rfl
  | [_]=>rfl
  | [_,_]=>rfl
  | [_,_,_]=>rfl
  | [_,_,_,_]=>rfl
  | [_,_,_,_,_]=>rfl
  | [_,_,_,_,_,_]=>rfl
  | [_,_,_,_,_,_,_]=>rfl
  | [_,_,_,_,_,_,_,_]=>rfl
  | [_,_,_,_,_,_,_,_,_]=>rfl
  | [_,_,_,_,_,_,_,_,_,_]=>rfl
  | [_,_,_,_,_,_,_,_,_,_,_]=>rfl
  | [_,_,_,_,_,_,_,_,_,_,_,_]=>rfl
  | [_,_,_,_,_,_,_,_,_,_,_,_,_]=>rfl
  | _ :: _ :: _ :: _ :: _ :: _ :: _ :: _ :: _ :: _ :: _ :: _ :: _ :: _ :: _ :: _=>rfl
end CN
namespace CN
open Vbiraa (Bytes partsOf wordsOf linesOf)
theorem gw (c:Nat):∀ (l:Bytes) (w:Bytes),w∈partsOf c l→w.length≤l.length
  | [],w,h=>by
    rw [partsOf,List.mem_singleton] at h
    rw [h]
    exact Nat.le_refl _
  | x :: l,w,h=>by
    rw [partsOf] at h
    split at h
    · rcases List.mem_cons.mp h with h | h
      · rw [h]
        exact Nat.zero_le _
      · have:=gw c l w h
        rw [List.length_cons]
        omega
    · have ih:=gw c l
      cases e:partsOf c l with
      | nil=>exact absurd e (cC c l)
      | cons v r =>
        rw [e] at h ih
        rcases List.mem_cons.mp h with h | h
        · rw [h,List.length_cons,List.length_cons]
          have:=ih v (List.mem_cons_self ..)
          omega
        · have:=ih w (List.mem_cons_of_mem _ h)
          rw [List.length_cons]
          omega
theorem vI {l w:Bytes} (h:w∈wordsOf l):w.length≤l.length:=by
  unfold wordsOf at h
  exact gw 32 l w (List.mem_filter.mp h).1
theorem wq {t l:Bytes} (h:l∈linesOf t):l.length≤t.length:=by
  unfold linesOf at h
  have h:l∈(if (partsOf 10 t).getLast?=some [] then (partsOf 10 t).dropLast else partsOf 10 t):=h
  split at h
  · exact gw 10 t l (List.dropLast_subset _ h)
  · exact gw 10 t l h
theorem lR (c:Nat):∀ l:Bytes,(partsOf c l).length≤l.length + 1
  | []=>by simp [partsOf]
  | x :: l=>by
    rw [partsOf]
    have:=lR c l
    split
    · rw [List.length_cons,List.length_cons]
      omega
    · cases e:partsOf c l with
      | nil=>exact absurd e (cC c l)
      | cons v r =>
        rw [e] at this
        show (List.length _ + 1)≤_
        rw [List.length_cons] at this ⊢
        omega
theorem sd (t:Bytes):(linesOf t).length≤t.length + 1:=by
  unfold linesOf
  have:=lR 10 t
  show (if (partsOf 10 t).getLast?=some [] then (partsOf 10 t).dropLast else partsOf 10 t).length≤_
  split
  · rw [List.length_dropLast]
    omega
  · exact this
end CN
namespace CN
open Vbiraa (Net Reach reachAt wayFrom way children delayOf)
def above (ns:Net) (i:Nat):Nat:=delayOf ns (way ns i).dropLast
def depth (ns:Net) (i:Nat):Nat:=(way ns i).length
def Par (ns:Net):Prop:=∀ i p,i < ns.length→(reachAt ns i).parent=some p→p < i
theorem bS (ns:Net) (f i:Nat):wayFrom ns (f + 1) i=match (reachAt ns i).parent with | none=>[i] | some p=>wayFrom ns f p++[i]:=rfl
theorem dq {ns:Net} (hp:Par ns):∀ (i:Nat),i < ns.length→∀ f,i < f→wayFrom ns f i=wayFrom ns (i + 1) i:=by
  intro i
  induction i using Nat.strongRecOn with
  | _ i ih =>
    intro hi f hf
    cases f with
    | zero=>omega
    | succ f =>
      rw [bS,bS]
      cases e:(reachAt ns i).parent with
      | none=>rfl
      | some p =>
        have hpi:=hp i p hi e
        show wayFrom ns f p++[i]=wayFrom ns i p++[i]
        rw [ih p hpi (by omega) f (by omega),ih p hpi (by omega) i hpi]
theorem dm {ns:Net} (hp:Par ns) {i:Nat} (hi:i < ns.length):way ns i=match (reachAt ns i).parent with | none=>[i] | some p=>way ns p++[i]:=by
  unfold way
  rw [bS]
  cases e:(reachAt ns i).parent with
  | none=>rfl
  | some p =>
    have hpi:=hp i p hi e
    show wayFrom ns ns.length p++[i]=wayFrom ns (ns.length + 1) p++[i]
    rw [dq hp p (by omega) ns.length (by omega),dq hp p (by omega) (ns.length + 1) (by omega)]
theorem bE {ns ms:Net} {i:Nat} (hi:i < ns.length):reachAt (ns++ms) i=reachAt ns i:=by
  unfold reachAt
  rw [List.getD_eq_getElem?_getD,List.getD_eq_getElem?_getD,List.getElem?_append_left hi]
theorem cB {ns:Net} {r:Reach}:reachAt (ns++[r]) ns.length=r:=by
  unfold reachAt
  rw [List.getD_eq_getElem?_getD,List.getElem?_append_right (Nat.le_refl _),Nat.sub_self]
  rfl
theorem fD {ns:Net} {i:Nat} {r:Reach} (h:ns[i]?=some r):reachAt ns i=r:=by
  unfold reachAt
  rw [List.getD_eq_getElem?_getD,h]
  rfl
theorem gT {ns:Net} {i:Nat} (h:i < ns.length):ns[i]?=some (reachAt ns i):=by
  unfold reachAt
  rw [List.getD_eq_getElem?_getD,List.getElem?_eq_getElem h]
  rfl
theorem j7 {ns ms:Net} (hp:Par ns):∀ (f i:Nat),i < ns.length→wayFrom (ns++ms) f i=wayFrom ns f i
  | 0,_,_=>rfl
  | f + 1,i,hi=>by
    rw [bS,bS,bE hi]
    cases e:(reachAt ns i).parent with
    | none=>rfl
    | some p =>
      have:=hp i p hi e
      show wayFrom (ns++ms) f p++[i]=wayFrom ns f p++[i]
      rw [j7 hp f p (by omega)]
theorem qU {ns ms:Net} (hp:Par ns) {i:Nat} (hi:i < ns.length):way (ns++ms) i=way ns i:=by
  unfold way
  rw [j7 hp _ i hi,dq hp i hi ((ns++ms).length + 1) (by rw [List.length_append]; omega),dq hp i hi (ns.length + 1) (by omega)]
theorem mI {ns:Net} (hp:Par ns):∀ (i:Nat),i < ns.length→∀ j∈way ns i,j < ns.length:=by
  intro i
  induction i using Nat.strongRecOn with
  | _ i ih =>
    intro hi j hj
    rw [dm hp hi] at hj
    cases e:(reachAt ns i).parent with
    | none =>
      rw [e] at hj
      rw [List.mem_singleton.mp hj]
      exact hi
    | some p =>
      rw [e] at hj
      have hpi:=hp i p hi e
      rcases List.mem_append.mp hj with h | h
      · exact ih p hpi (by omega) j h
      · rw [List.mem_singleton.mp h]
        exact hi
theorem cq (l:List Nat) (a:Nat):l.foldl (fun a b=>a + b) a=a + l.sum:=by
  induction l generalizing a with
  | nil=>simp
  | cons x l ih =>
    rw [List.foldl_cons,ih,List.sum_cons,Nat.add_assoc]
theorem lF (ns:Net) (l m:List Nat):delayOf ns (l++m)=delayOf ns l + delayOf ns m:=by
  unfold delayOf
  rw [List.map_append,cq,cq,cq,List.sum_append]
  omega
theorem lE (ns:Net) (i:Nat):delayOf ns [i]=(reachAt ns i).delay:=by
  unfold delayOf
  simp
theorem uA {ns ms:Net} {l:List Nat} (h:∀ j∈l,j < ns.length):delayOf (ns++ms) l=delayOf ns l:=by
  unfold delayOf
  congr 1
  exact List.map_congr_left fun j hj=>by rw [bE (h j hj)]
theorem j1 {ns:Net} (hp:Par ns) {i:Nat} (hi:i < ns.length):above ns i=match (reachAt ns i).parent with | none=>0 | some p=>above ns p + (reachAt ns p).delay:=by
  unfold above
  rw [dm hp hi]
  cases e:(reachAt ns i).parent with
  | none=>rfl
  | some p =>
    have hpi:=hp i p hi e
    show delayOf ns (way ns p++[i]).dropLast=_
    rw [List.dropLast_concat]
    show delayOf ns (way ns p)=delayOf ns (way ns p).dropLast + (reachAt ns p).delay
    have hw:way ns p=(way ns p).dropLast++[p]:=by
      rw [dm hp (show p < ns.length by omega)]
      cases (reachAt ns p).parent with
      | none=>rfl
      | some q =>
        show way ns q++[p]=(way ns q++[p]).dropLast++[p]
        rw [List.dropLast_concat]
    conv=>lhs; rw [hw]
    rw [lF,lE]
theorem eV {ns:Net} (hp:Par ns) {i:Nat} (hi:i < ns.length):way ns i=(way ns i).dropLast++[i]:=by
  rw [dm hp hi]
  cases (reachAt ns i).parent with
  | none=>rfl
  | some q =>
    show way ns q++[i]=(way ns q++[i]).dropLast++[i]
    rw [List.dropLast_concat]
theorem bi {ns:Net} (hp:Par ns) {i:Nat} (hi:i < ns.length):depth ns i=match (reachAt ns i).parent with | none=>1 | some p=>depth ns p + 1:=by
  unfold depth
  rw [dm hp hi]
  cases (reachAt ns i).parent with
  | none=>rfl
  | some p =>
    show (way ns p++[i]).length=_
    rw [List.length_append]
    rfl
theorem vK {ns:Net} (hp:Par ns) {i:Nat} (hi:i < ns.length):delayOf ns (way ns i)=above ns i + (reachAt ns i).delay:=by
  conv=>lhs; rw [eV hp hi]
  rw [lF,lE]
  rfl
theorem oE {ns ms:Net} (hp:Par ns) {i:Nat} (hi:i < ns.length):above (ns++ms) i=above ns i:=by
  unfold above
  rw [qU hp hi,uA]
  intro j hj
  exact mI hp i hi j (List.dropLast_subset _ hj)
theorem jV {ns ms:Net} (hp:Par ns) {i:Nat} (hi:i < ns.length):depth (ns++ms) i=depth ns i:=by
  unfold depth
  rw [qU hp hi]
theorem nt {ns:Net} {r:Reach} (hp:Par ns) (h:∀ p,r.parent=some p→p < ns.length):Par (ns++[r]):=by
  intro i p hi e
  rw [List.length_append] at hi
  by_cases c:i < ns.length
  · rw [bE c] at e
    exact hp i p c e
  · have:i=ns.length:=by
      have hi:i < ns.length + 1:=hi
      omega
    subst this
    rw [cB] at e
    exact h p e
theorem wY {ns:Net} {r:Reach} (hp:Par ns) (h:∀ p,r.parent=some p→p < ns.length):above (ns++[r]) ns.length=match r.parent with | none=>0 | some p=>above ns p + (reachAt ns p).delay:=by
  rw [j1 (nt hp h) (by simp),cB]
  cases e:r.parent with
  | none=>rfl
  | some p=>simp only [oE hp (h p e),bE (h p e)]
theorem pD {ns:Net} {r:Reach} (hp:Par ns) (h:∀ p,r.parent=some p→p < ns.length):depth (ns++[r]) ns.length=match r.parent with | none=>1 | some p=>depth ns p + 1:=by
  rw [bi (nt hp h) (by simp),cB]
  cases e:r.parent with
  | none=>rfl
  | some p=>simp only [jV hp (h p e)]
structure WF (ns:Net):Prop where
  par:Par ns
  names:mG ns
  deep:∀ i,i < ns.length→depth ns i≤8
  num:∀ i,i < ns.length→(reachAt ns i).delay≤10∧(reachAt ns i).loss≤99∧(reachAt ns i).soak≤1000∧1≤(reachAt ns i).cap∧(reachAt ns i).cap≤100000∧(reachAt ns i).gate≤100
  len:ns.length≤30
  gates:∀ p,Vbiraa.gatesAt ns p≤100
  nlen:∀ r∈ns,r.name.length≤8
theorem zG {ns:Net} {w:List Nat} {i:Nat} (h:Vbiraa.find ns w=some i):i < ns.length:=by
  unfold Vbiraa.find at h
  obtain ⟨h,_⟩:=List.findIdx?_eq_some_iff_getElem.mp h
  exact h
theorem tj:WF []:=⟨fun i p h=>absurd h (by simp),fun r h=>absurd h (by simp),fun i h=>absurd h (by simp),fun i h=>absurd h (by simp),by simp,fun p=>by show 0≤100; decide,fun r h=>absurd h (by simp)⟩
theorem oP (ns:Net) (r:Reach) (p:Option Nat):children (ns++[r]) p=children ns p++(if r.parent=p then [ns.length] else []):=by
  unfold children
  rw [List.length_append,List.length_singleton,List.range_succ,List.filter_append]
  congr 1
  · refine List.filter_congr fun i hi=>?_
    rw [bE (List.mem_range.mp hi)]
  · rw [List.filter_cons,cB]
    by_cases e:r.parent=p
    · rw [if_pos e,if_pos (by rw [beq_iff_eq]; exact e)]
      rfl
    · rw [if_neg e,if_neg (by rw [beq_iff_eq]; exact e)]
      rfl
theorem aO {ns:Net} {p:Option Nat} {i:Nat}:i∈children ns p↔i < ns.length∧(reachAt ns i).parent=p:=by
  unfold children
  rw [List.mem_filter,List.mem_range,beq_iff_eq]
theorem uw (ns:Net) (r:Reach) (p:Option Nat):Vbiraa.gatesAt (ns++[r]) p=Vbiraa.gatesAt ns p + (if r.parent=p then r.gate else 0):=by
  unfold Vbiraa.gatesAt
  rw [oP,cq,cq,List.map_append,List.sum_append,Nat.zero_add,Nat.zero_add]
  congr 1
  · congr 1
    exact List.map_congr_left fun i hi=>by rw [bE (aO.mp hi).1]
  · by_cases e:r.parent=p
    · rw [if_pos e,if_pos e]
      simp [cB]
    · rw [if_neg e,if_neg e]
      rfl
theorem yL {ns:Net} {r:Reach} (h:WF ns) (hp:∀ p,r.parent=some p→p < ns.length) (hn:r.name.all isAl=true) (hd:(match r.parent with | none=>1 | some p=>depth ns p + 1)≤8)
    (hnum:r.delay≤10∧r.loss≤99∧r.soak≤1000∧1≤r.cap∧r.cap≤100000∧r.gate≤100) (hl:ns.length < 30) (hg:Vbiraa.gatesAt ns r.parent + r.gate≤100) (hn8:r.name.length≤8):WF (ns++[r]):=by
  have cases_i:∀ i,i < (ns++[r]).length→i < ns.length∨i=ns.length:=fun i hi=>by
    rw [List.length_append] at hi
    have hi:i < ns.length + 1:=hi
    omega
  refine ⟨nt h.par hp,?_,fun i hi=>?_,fun i hi=>?_,?_,fun p=>?_,fun q hq=>?_⟩
  · intro q hq
    rcases List.mem_append.mp hq with hq | hq
    · exact h.names q hq
    · rw [List.mem_singleton.mp hq]
      exact hn
  · rcases cases_i i hi with c | c
    · rw [jV h.par c]
      exact h.deep i c
    · subst c
      rw [pD h.par hp]
      exact hd
  · rcases cases_i i hi with c | c
    · rw [bE c]
      exact h.num i c
    · subst c
      rw [cB]
      exact hnum
  · rw [List.length_append]
    exact hl
  · rw [uw]
    by_cases e:r.parent=p
    · rw [if_pos e,←e]
      exact hg
    · rw [if_neg e]
      exact h.gates p
  · rcases List.mem_append.mp hq with hq | hq
    · exact h.nlen q hq
    · rw [List.mem_singleton.mp hq]
      exact hn8
end CN
namespace CN
open Vbiraa (Net Reach reachAt way children)
def sumN (n:Nat) (g:Nat→Nat):Nat:=((List.range n).map g).sum
theorem ba (n:Nat) (g:Nat→Nat):sumN (n + 1) g=sumN n g + g n:=by
  unfold sumN
  rw [List.range_succ,List.map_append,List.sum_append]
  simp
theorem aZ {n:Nat} {g h:Nat→Nat} (e:∀ i,i < n→g i=h i):sumN n g=sumN n h:=by
  unfold sumN
  rw [List.map_congr_left fun i hi=>e i (List.mem_range.mp hi)]
theorem gn (n:Nat) (g h:Nat→Nat):sumN n (fun i=>g i + h i)=sumN n g + sumN n h:=by
  induction n with
  | zero=>rfl
  | succ n ih =>
    rw [ba,ba,ba,ih]
    omega
theorem dL (n:Nat):sumN n (fun _=>0)=0:=by
  induction n with
  | zero=>rfl
  | succ n ih=>rw [ba,ih]
theorem vU (n m:Nat) (F:Nat→Nat→Nat):sumN n (fun i=>sumN m (F i))=sumN m (fun j=>sumN n (fun i=>F i j)):=by
  induction n with
  | zero =>
    show 0=sumN m (fun _=>0)
    rw [dL]
  | succ n ih =>
    rw [ba,ih,←gn]
    exact aZ fun j _=>(ba n fun i=>F i j).symm
theorem mO {n k:Nat} (h:k < n) (g:Nat→Nat):sumN n (fun i=>if i=k then g i else 0)=g k:=by
  induction n with
  | zero=>omega
  | succ n ih =>
    rw [ba]
    by_cases e:n=k
    · subst e
      rw [if_pos rfl,aZ (h:=fun _=>0) fun i hi=>if_neg (by omega),dL,Nat.zero_add]
    · rw [if_neg e,ih (by omega),Nat.add_zero]
theorem jA (p:Nat→Bool) (g:Nat→Nat):∀ l:List Nat,((l.filter p).map g).sum=(l.map fun i=>if p i=true then g i else 0).sum
  | []=>rfl
  | x :: l=>by
    rw [List.filter_cons,List.map_cons,List.sum_cons]
    by_cases h:p x=true
    · rw [if_pos h,if_pos h,List.map_cons,List.sum_cons,jA p g l]
    · rw [if_neg h,if_neg h,jA p g l,Nat.zero_add]
theorem dr (ns:Net) (p:Option Nat) (g:Nat→Nat):((children ns p).map g).sum=sumN ns.length fun i=>if (reachAt ns i).parent=p then g i else 0:=by
  unfold children
  rw [jA]
  unfold sumN
  congr 1
  refine List.map_congr_left fun i _=>?_
  by_cases h:(reachAt ns i).parent=p
  · rw [if_pos h,if_pos (by rw [beq_iff_eq]; exact h)]
  · rw [if_neg h,if_neg (by rw [beq_iff_eq]; exact h)]
theorem tJ {ns:Net} (hp:Par ns) (g:Nat→Nat):sumN ns.length g=((children ns none).map g).sum + sumN ns.length fun q=>((children ns (some q)).map g).sum:=by
  rw [dr,aZ (g:=fun q=>((children ns (some q)).map g).sum) fun q _=>dr ns (some q) g,vU,←gn]
  refine aZ fun i hi=>?_
  cases e:(reachAt ns i).parent with
  | none =>
    rw [if_pos rfl,aZ (h:=fun _=>0) fun j _=>if_neg (by simp),dL,Nat.add_zero]
  | some q =>
    have hq:=hp i q hi e
    rw [if_neg (by simp),Nat.zero_add,aZ (h:=fun j=>if j=q then g i else 0) fun j _=>?_,mO (by omega) fun _=>g i]
    by_cases c:j=q
    · subst c
      rw [if_pos rfl,if_pos rfl]
    · rw [if_neg c,if_neg (fun z=>c (Option.some.inj z).symm)]
def bg (ns:Net) (g:Nat→Nat):Nat→Option Nat→Nat
  | 0,_=>0
  | f + 1,p=>((children ns p).map fun c=>g c + bg ns g f (some c)).sum
def ju (ns:Net):Option Nat→Nat→Bool
  | none,_=>true
  | some c,i=>decide (c∈(way ns i).dropLast)
def dQ (ns:Net):Option Nat→Nat
  | none=>0
  | some c=>depth ns c
theorem w8 {ns:Net} (hp:Par ns):∀ (i:Nat),i < ns.length→∀ j∈way ns i,j≤i:=by
  intro i
  induction i using Nat.strongRecOn with
  | _ i ih =>
    intro hi j hj
    rw [dm hp hi] at hj
    cases e:(reachAt ns i).parent with
    | none =>
      rw [e] at hj
      rw [List.mem_singleton.mp hj]
      exact Nat.le_refl _
    | some p =>
      rw [e] at hj
      have hpi:=hp i p hi e
      rcases List.mem_append.mp hj with h | h
      · have:=ih p hpi (by omega) j h
        omega
      · rw [List.mem_singleton.mp h]
        exact Nat.le_refl _
theorem qT {ns:Net} (hp:Par ns) {i:Nat} (hi:i < ns.length):i∈way ns i:=by
  rw [eV hp hi]
  simp
theorem gl {ns:Net} (hp:Par ns) {i:Nat} (hi:i < ns.length):(way ns i).dropLast=match (reachAt ns i).parent with | none=>[] | some p=>way ns p:=by
  rw [dm hp hi]
  cases (reachAt ns i).parent with
  | none=>rfl
  | some p=>exact List.dropLast_concat
theorem my {ns:Net} (hp:Par ns) {i c:Nat} (hi:i < ns.length):c∈way ns i↔c=i∨c∈(way ns i).dropLast:=by
  conv=>lhs; rw [eV hp hi]
  rw [List.mem_append,List.mem_singleton]
  exact Or.comm
theorem wg {ns:Net} (hp:Par ns) (p:Option Nat) (hpn:∀ c,p=some c→c < ns.length):∀ (i:Nat),i < ns.length→((children ns p).map fun c=>if c∈way ns i then 1 else 0).sum=if ju ns p i=true then 1 else 0:=by
  intro i
  induction i using Nat.strongRecOn with
  | _ i ih =>
    intro hi
    have key:((children ns p).map fun c=>if c∈way ns i then 1 else 0).sum=(if (reachAt ns i).parent=p then 1 else 0) + ((children ns p).map fun c=>if c∈(way ns i).dropLast then 1 else 0).sum:=by
      rw [dr,dr,aZ (h:=fun c=>(if c=i then (if (reachAt ns i).parent=p then 1 else 0) else 0) + (if (reachAt ns c).parent=p then (if c∈(way ns i).dropLast then 1 else 0) else 0)) fun c hc=>?_,gn,mO hi fun _=>if (reachAt ns i).parent=p then 1 else 0]
      have hn:i∉(way ns i).dropLast:=fun m=>by
        rw [gl hp hi] at m
        cases e:(reachAt ns i).parent with
        | none =>
          rw [e] at m
          cases m
        | some q =>
          rw [e] at m
          have hq:=hp i q hi e
          have:=w8 hp q (by omega) i m
          omega
      by_cases e:c=i
      · subst e
        rw [if_pos rfl,if_pos (qT hp hi),if_neg hn]
        by_cases e2:(reachAt ns c).parent=p
        · rw [if_pos e2,if_pos e2]
        · rw [if_neg e2,if_neg e2]
      · rw [if_neg e,Nat.zero_add]
        have:(c∈way ns i)=(c∈(way ns i).dropLast):=propext (by rw [my hp hi]; exact ⟨fun h=>h.resolve_left e,.inr⟩)
        simp only [this]
    rw [key]
    have hd:=gl hp hi
    cases e:(reachAt ns i).parent with
    | none =>
      rw [e] at hd
      rw [hd]
      have z:((children ns p).map fun c=>if c∈([]:List Nat) then 1 else 0).sum=0:=by
        rw [dr,aZ (h:=fun _=>0) fun c _=>by simp,dL]
      rw [z]
      cases p with
      | none=>simp [ju]
      | some c=>simp [ju,hd]
    | some q =>
      rw [e] at hd
      have hq:=hp i q hi e
      have hd:(way ns i).dropLast=way ns q:=hd
      rw [hd,ih q hq (by omega)]
      cases p with
      | none=>simp [ju]
      | some c =>
        have hc:=hpn c rfl
        show (if some q=some c then 1 else 0) + (if decide (c∈(way ns q).dropLast)=true then 1 else 0)=if decide (c∈(way ns i).dropLast)=true then 1 else 0
        rw [hd]
        have hm:=my hp (show q < ns.length by omega) (c:=c)
        have hn:q∉(way ns q).dropLast:=fun m=>by
          rw [gl hp (show q < ns.length by omega)] at m
          cases e2:(reachAt ns q).parent with
          | none =>
            rw [e2] at m
            cases m
          | some r =>
            rw [e2] at m
            have hr:=hp q r (by omega) e2
            have:=w8 hp r (by omega) q m
            omega
        by_cases c1:c=q
        · subst c1
          have h1:decide (c∈(way ns c).dropLast)=false:=decide_eq_false hn
          have h2:decide (c∈way ns c)=true:=decide_eq_true (hm.mpr (.inl rfl))
          simp [h1,h2]
        · have h3:decide (c∈way ns q)=decide (c∈(way ns q).dropLast):=decide_eq_decide.mpr ⟨fun h=>(hm.mp h).resolve_left c1,fun h=>hm.mpr (.inr h)⟩
          rw [h3,if_neg (fun z=>c1 (Option.some.inj z).symm),Nat.zero_add]
theorem iU {ns:Net} (hp:Par ns):∀ (i:Nat),i < ns.length→∀ c∈(way ns i).dropLast,depth ns c < depth ns i:=by
  intro i
  induction i using Nat.strongRecOn with
  | _ i ih =>
    intro hi c hc
    rw [gl hp hi] at hc
    cases e:(reachAt ns i).parent with
    | none =>
      rw [e] at hc
      cases hc
    | some q =>
      rw [e] at hc
      have hq:=hp i q hi e
      have hd:=bi hp hi
      rw [e] at hd
      have hd:depth ns i=depth ns q + 1:=hd
      rcases (my hp (show q < ns.length by omega)).mp hc with h | h
      · subst h
        omega
      · have:=ih q hq (by omega) c h
        omega
theorem k4 {ns:Net} (hw:WF ns) (g:Nat→Nat):∀ (f:Nat) (p:Option Nat),(∀ c,p=some c→c < ns.length)→8≤f + dQ ns p→bg ns g f p=sumN ns.length fun i=>if ju ns p i=true then g i else 0
  | 0,p,hpn,hf=>by
    show 0=_
    rw [aZ (h:=fun _=>0) fun i hi=>?_,dL]
    cases p with
    | none =>
      have:8≤0 + 0:=hf
      omega
    | some c =>
      rw [if_neg]
      intro h
      have:=iU hw.par i hi c (of_decide_eq_true h)
      have h2:=hw.deep i hi
      have hf:8≤0 + depth ns c:=hf
      omega
  | f + 1,p,hpn,hf=>by
    have hp:=hw.par
    have step:∀ c∈children ns p,g c + bg ns g f (some c)=sumN ns.length fun i=>if c∈way ns i then g i else 0:=fun c hc=>by
      obtain ⟨hcl,hcp⟩:=aO.mp hc
      rw [k4 hw g f (some c) (fun d e=>by cases e; exact hcl) ?_]
      · rw [aZ (g:=fun i=>if c∈way ns i then g i else 0) (h:=fun i=>(if i=c then g i else 0) + (if ju ns (some c) i=true then g i else 0)) fun i hi=>?_,gn,mO hcl]
        by_cases e:i=c
        · subst e
          have hn:¬ ju ns (some i) i=true:=fun h=>by
            have:=iU hp i hi i (of_decide_eq_true h)
            omega
          rw [if_pos (qT hp hi),if_pos rfl,if_neg hn,Nat.add_zero]
        · rw [if_neg e,Nat.zero_add]
          have:(c∈way ns i)=(ju ns (some c) i=true):=propext (by
            rw [my hp hi]
            unfold ju
            rw [decide_eq_true_eq]
            exact ⟨fun h=>h.resolve_left fun z=>e z.symm,.inr⟩)
          simp only [this]
      · have hd:=bi hp hcl
        rw [hcp] at hd
        show 8≤f + depth ns c
        cases p with
        | none =>
          have hd:depth ns c=1:=hd
          have hf:8≤f + 1 + 0:=hf
          omega
        | some q =>
          have hd:depth ns c=depth ns q + 1:=hd
          have hf:8≤f + 1 + depth ns q:=hf
          omega
    show ((children ns p).map fun c=>g c + bg ns g f (some c)).sum=_
    rw [List.map_congr_left step]
    have e1:∀ l:List Nat,(l.map fun c=>sumN ns.length fun i=>if c∈way ns i then g i else 0).sum=sumN ns.length fun i=>(l.map fun c=>if c∈way ns i then 1 else 0).sum * g i:=by
      intro l
      induction l with
      | nil =>
        show 0=sumN ns.length fun i=>0 * g i
        rw [aZ (h:=fun _=>0) fun i _=>Nat.zero_mul _,dL]
      | cons x l ih =>
        rw [List.map_cons,List.sum_cons,ih,←gn]
        refine aZ fun i _=>?_
        rw [List.map_cons,List.sum_cons,Nat.add_mul]
        congr 1
        split
        · rw [Nat.one_mul]
        · rw [Nat.zero_mul]
    rw [e1]
    refine aZ fun i hi=>?_
    rw [wg hp p hpn i hi]
    split
    · rw [Nat.one_mul]
    · rw [Nat.zero_mul]
theorem il {ns:Net} (hw:WF ns) (g:Nat→Nat) {f:Nat} (hf:8≤f):bg ns g f none=sumN ns.length g:=by
  rw [k4 hw g f none (fun c e=>by cases e) hf]
  exact aZ fun i _=>if_pos rfl
end CN
namespace CN
open Vbiraa (Net Reach House Q mk whole reachAt way children delayOf partAt through offered)
def DD:Nat:=100000000000000000000000000000000
theorem DD_eq:DD=100 ^ 16:=by decide
theorem bw:0 < DD:=by decide
theorem lL {m:Nat} (h:m≤16) (c:Nat):100 ^ m∣c * DD:=by
  rw [DD_eq]
  exact Nat.dvd_trans (Nat.pow_dvd_pow 100 h) (Nat.dvd_mul_left _ _)
def cA (r:Reach) (w p:Nat):Nat × Nat × Nat :=
  (w * p / 100,min (w * p / 100) (r.cap * DD),(min (w * p / 100) (r.cap * DD) - min (min (w * p / 100) (r.cap * DD)) (r.soak * DD)) * (100 - r.loss) / 100)
def win (rs:List (Nat × Nat × Nat)) (W:Nat):Option Nat→Nat
  | none=>W
  | some p=>(rs.getD p (0,0,0)).2.2
def rows (ns:Net) (pt:Nat→Nat) (W:Nat):Nat→List (Nat × Nat × Nat)
  | 0=>[]
  | k + 1=>rows ns pt W k++[cA (reachAt ns k) (win (rows ns pt W k) W (reachAt ns k).parent) (pt k)]
def row (ns:Net) (pt:Nat→Nat) (W:Nat) (i:Nat):Nat × Nat × Nat:=(rows ns pt W (i + 1)).getD i (0,0,0)
section
variable {ns:Net} {pt:Nat→Nat} {W:Nat}
theorem fj (k:Nat):(rows ns pt W k).length=k:=by
  induction k with
  | zero=>rfl
  | succ k ih =>
    show (rows ns pt W k++[_]).length=k + 1
    rw [List.length_append,ih]
    rfl
theorem gu {k i:Nat} (h:i < k):(rows ns pt W k)[i]?=some (row ns pt W i):=by
  induction k with
  | zero=>omega
  | succ k ih =>
    by_cases c:i=k
    · subst c
      unfold row
      rw [List.getD_eq_getElem?_getD]
      have:i < (rows ns pt W (i + 1)).length:=by
        rw [fj]
        omega
      rw [List.getElem?_eq_getElem this]
      rfl
    · show (rows ns pt W k++[_])[i]?=_
      rw [List.getElem?_append_left (by rw [fj]; omega)]
      exact ih (by omega)
def winQ (ns:Net) (pt:Nat→Nat) (W:Nat):Option Nat→Nat
  | none=>W
  | some p=>(row ns pt W p).2.2
theorem qS {k:Nat} {q:Option Nat} (h:∀ p,q=some p→p < k):win (rows ns pt W k) W q=winQ ns pt W q:=by
  cases q with
  | none=>rfl
  | some p =>
    show ((rows ns pt W k).getD p (0,0,0)).2.2=(row ns pt W p).2.2
    rw [List.getD_eq_getElem?_getD,gu (h p rfl)]
    rfl
theorem na (hp:Par ns) {i:Nat} (hi:i < ns.length):row ns pt W i=cA (reachAt ns i) (winQ ns pt W (reachAt ns i).parent) (pt i):=by
  have h:(rows ns pt W (i + 1))[i]?=some (cA (reachAt ns i) (win (rows ns pt W i) W (reachAt ns i).parent) (pt i)):=by
    show (rows ns pt W i++[_])[i]?=_
    rw [List.getElem?_append_right (by rw [fj]; exact Nat.le_refl _),fj,Nat.sub_self]
    rfl
  rw [gu (by omega)] at h
  rw [Option.some.inj h,qS fun p e=>hp i p hi e]
theorem iV {m w p:Nat} (h:100 ^ (m + 1)∣w):100∣w * p∧100 ^ m∣w * p / 100:=by
  obtain ⟨k,rfl⟩:=h
  have e:100 ^ (m + 1) * k * p=100 * (100 ^ m * (k * p)):=by
    rw [Nat.pow_succ]
    grind
  rw [e]
  refine ⟨Nat.dvd_mul_right _ _,?_⟩
  rw [Nat.mul_div_cancel_left _ (by decide)]
  exact Nat.dvd_mul_right _ _
theorem mr (a b:Nat):a - min a b=a - b:=by
  omega
theorem vq {d a b:Nat} (h1:d∣a) (h2:d∣b):d∣min a b:=by
  rcases Nat.le_total a b with h | h
  · rw [Nat.min_eq_left h]; exact h1
  · rw [Nat.min_eq_right h]; exact h2
theorem lm {r:Reach} {m w p:Nat} (hm:m + 1≤16) (h:100 ^ (m + 2)∣w):100∣w * p∧100 ^ (m + 1)∣(cA r w p).1∧100 ^ (m + 1)∣(cA r w p).2.1∧100∣((cA r w p).2.1 - r.soak * DD) * (100 - r.loss)∧100 ^ m∣(cA r w p).2.2:=by
  obtain ⟨h1,h2⟩:=iV (m:=m + 1) (p:=p) h
  have h3:100 ^ (m + 1)∣(cA r w p).2.1:=vq h2 (lL hm _)
  have h4:100 ^ (m + 1)∣(cA r w p).2.1 - r.soak * DD:=Nat.dvd_sub h3 (lL hm _)
  obtain ⟨h5,h6⟩:=iV (m:=m) (p:=100 - r.loss) h4
  refine ⟨h1,h2,h3,h5,?_⟩
  show 100 ^ m∣((cA r w p).2.1 - min (cA r w p).2.1 (r.soak * DD)) * (100 - r.loss) / 100
  rw [mr]
  exact h6
theorem qc (hw:WF ns) (hW:100 ^ 16∣W):∀ (i:Nat),i < ns.length→∀ m,m + 2 * depth ns i=16 →
    100 ^ (m + 2)∣winQ ns pt W (reachAt ns i).parent∧100 ^ m∣(row ns pt W i).2.2:=by
  intro i
  induction i using Nat.strongRecOn with
  | _ i ih =>
    intro hi m hm
    have hd:=bi hw.par hi
    have h1:100 ^ (m + 2)∣winQ ns pt W (reachAt ns i).parent:=by
      cases e:(reachAt ns i).parent with
      | none =>
        rw [e] at hd
        have hd:depth ns i=1:=hd
        show 100 ^ (m + 2)∣W
        rw [show m + 2=16 by omega]
        exact hW
      | some p =>
        rw [e] at hd
        have hd:depth ns i=depth ns p + 1:=hd
        have hp:=hw.par i p hi e
        exact (ih p hp (by omega) (m + 2) (by omega)).2
    refine ⟨h1,?_⟩
    rw [na hw.par hi]
    have hd1:1≤depth ns i:=by
      rw [hd]
      cases (reachAt ns i).parent <;> simp
    exact (lm (by omega) h1).2.2.2.2
theorem mN (r:Reach) (o:Nat):Vbiraa.taken r (mk o DD)=mk (min o (r.cap * DD)) DD:=by
  unfold Vbiraa.taken
  rw [ij (n:=r.cap) bw,leastD bw]
theorem jB (r:Reach) (o:Nat):Vbiraa.spilled r (mk o DD)=mk (o - min o (r.cap * DD)) DD:=by
  unfold Vbiraa.spilled
  rw [ij (n:=r.cap) bw,yi bw,mr]
theorem eX (r:Reach) (o:Nat) (h:100∣(min o (r.cap * DD) - r.soak * DD) * (100 - r.loss)):through r (mk o DD)=mk ((min o (r.cap * DD) - min (min o (r.cap * DD)) (r.soak * DD)) * (100 - r.loss) / 100) DD:=by
  unfold through
  rw [mN,ij (n:=r.soak) bw,yi bw,mulD bw h,mr]
theorem eh (hw:WF ns) (hW:100 ^ 16∣W) {i:Nat} (hi:i < ns.length) :
    Vbiraa.mul (mk (winQ ns pt W (reachAt ns i).parent) DD) (mk (pt i) 100)=mk (row ns pt W i).1 DD∧Vbiraa.taken (reachAt ns i) (mk (row ns pt W i).1 DD)=mk (row ns pt W i).2.1 DD ∧
    Vbiraa.spilled (reachAt ns i) (mk (row ns pt W i).1 DD)=mk ((row ns pt W i).1 - (row ns pt W i).2.1) DD∧through (reachAt ns i) (mk (row ns pt W i).1 DD)=mk (row ns pt W i).2.2 DD∧(row ns pt W i).1=winQ ns pt W (reachAt ns i).parent * pt i / 100∧100∣winQ ns pt W (reachAt ns i).parent * pt i:=by
  have hd1:1≤depth ns i:=by
    rw [bi hw.par hi]
    cases (reachAt ns i).parent <;> simp
  have hd8:=hw.deep i hi
  obtain ⟨h1,_⟩:=qc (pt:=pt) hw hW i hi (16 - 2 * depth ns i) (by omega)
  obtain ⟨a1,a2,a3,a4,a5⟩:=lm (r:=reachAt ns i) (p:=pt i) (by omega) h1
  have e:=na (pt:=pt) (W:=W) hw.par hi
  rw [e]
  refine ⟨mulD bw a1,mN _ _,jB _ _,eX _ _ a4,rfl,a1⟩
theorem xE (hw:WF ns) {i:Nat} (hi:i < ns.length):(row ns pt W i).2.1≤(row ns pt W i).1∧(row ns pt W i).2.2≤(row ns pt W i).2.1:=by
  rw [na hw.par hi]
  refine ⟨Nat.min_le_left _ _,?_⟩
  show (_ - _) * (100 - _) / 100≤_
  refine Nat.div_le_of_le_mul ?_
  rw [Nat.mul_comm 100]
  exact Nat.mul_le_mul (Nat.sub_le _ _) (Nat.sub_le _ _)
end
def outQ (h:House):List Nat→Nat→Q→Q
  | [],_,x=>x
  | i :: l,t,x=>outQ h l (t + (reachAt h.net i).delay) (through (reachAt h.net i) (Vbiraa.mul x (mk (partAt h i t) 100)))
theorem jW (ns:Net) (i:Nat) (l:List Nat):delayOf ns (i :: l)=(reachAt ns i).delay + delayOf ns l:=by
  rw [show i :: l=[i]++l from rfl,lF,lE]
theorem kD (h:House) (i:Nat):∀ (l:List Nat) (t:Nat) (x:Q),offered h (l++[i]) t x=offered h l t x++[(i,t + delayOf h.net l,Vbiraa.mul (outQ h l t x) (mk (partAt h i (t + delayOf h.net l)) 100))]
  | [],t,x=>by
    show [(i,t,_)]=[(i,t + 0,_)]
    rw [Nat.add_zero]
    rfl
  | j :: l,t,x=>by
    show (j,t,_) :: offered h (l++[i]) _ _=(j,t,_) :: (offered h l _ _++_)
    rw [kD h i l,jW,←Nat.add_assoc]
    rfl
theorem pi (h:House) (i:Nat):∀ (l:List Nat) (t:Nat) (x:Q),outQ h (l++[i]) t x=through (reachAt h.net i) (Vbiraa.mul (outQ h l t x) (mk (partAt h i (t + delayOf h.net l)) 100))
  | [],t,x=>by
    show through _ _=through _ _
    rw [show delayOf h.net []=0 from rfl,Nat.add_zero]
    rfl
  | j :: l,t,x=>by
    show outQ h (l++[i]) _ _=_
    rw [pi h i l,jW,←Nat.add_assoc]
    rfl
def ptAt (h:House) (t:Nat) (i:Nat):Nat:=partAt h i (t + above h.net i)
theorem yM {h:House} (hw:WF h.net) {t W:Nat} (hW:100 ^ 16∣W):∀ (i:Nat),i < h.net.length→outQ h (way h.net i) t (mk W DD)=mk (row h.net (ptAt h t) W i).2.2 DD∧outQ h (way h.net i).dropLast t (mk W DD)=mk (winQ h.net (ptAt h t) W (reachAt h.net i).parent) DD:=by
  intro i
  induction i using Nat.strongRecOn with
  | _ i ih =>
    intro hi
    have h2:outQ h (way h.net i).dropLast t (mk W DD)=mk (winQ h.net (ptAt h t) W (reachAt h.net i).parent) DD:=by
      rw [gl hw.par hi]
      cases e:(reachAt h.net i).parent with
      | none=>rfl
      | some p =>
        have hp:=hw.par i p hi e
        exact (ih p hp (by omega)).1
    refine ⟨?_,h2⟩
    rw [eV hw.par hi,pi,h2]
    obtain ⟨a1,_,_,a4,_⟩:=eh (pt:=ptAt h t) hw hW hi
    show through _ (Vbiraa.mul _ (mk (ptAt h t i) 100))=_
    rw [a1,a4]
theorem vJ {h:House} (hw:WF h.net) {t W:Nat} (hW:100 ^ 16∣W) {i:Nat} (hi:i < h.net.length):(offered h (way h.net i) t (mk W DD)).getLast?=some (i,t + above h.net i,mk (row h.net (ptAt h t) W i).1 DD):=by
  rw [eV hw.par hi,kD,List.getLast?_append]
  obtain ⟨a1,_⟩:=eh (pt:=ptAt h t) hw hW hi
  have h2:=(yM hw (t:=t) hW i hi).2
  show some (i,t + above h.net i,Vbiraa.mul (outQ h (way h.net i).dropLast t (mk W DD)) (mk (ptAt h t i) 100))=_
  rw [h2,a1]
def letD (h:House) (t:Nat):Nat:=Vbiraa.letAt h t * DD
theorem gB (h:House) (t:Nat):100 ^ 16∣letD h t:=lL (Nat.le_refl _) _
theorem u9 (h:House) (t:Nat):whole (Vbiraa.letAt h t)=mk (letD h t) DD:=ij bw
def rowT (h:House) (t i:Nat):Nat × Nat × Nat:=row h.net (ptAt h t) (letD h t) i
theorem jR {h:House} (hw:WF h.net) {i:Nat} (hi:i < h.net.length) (t:Nat):Vbiraa.offerAt h i t=if t < above h.net i then whole 0 else mk (rowT h (t - above h.net i) i).1 DD:=by
  unfold Vbiraa.offerAt
  show (if t < above h.net i then _ else _)=_
  by_cases c:t < above h.net i
  · rw [if_pos c,if_pos c]
  · rw [if_neg c,if_neg c]
    show (match (offered h (way h.net i) (t - above h.net i) (whole (Vbiraa.letAt h (t - above h.net i)))).getLast? with | some x=>x.2.2 | none=>whole 0)=_
    rw [u9,vJ hw (gB _ _) hi]
    rfl
theorem p0 (r:Reach):through r (whole 0)=whole 0:=by
  rw [←fI bw,eX r 0 (by simp)]
  simp
theorem sf {h:House} (hw:WF h.net) {i:Nat} (hi:i < h.net.length) (t:Nat):Vbiraa.leavesAt h i t=if t < above h.net i + (reachAt h.net i).delay then whole 0 else mk (rowT h (t - above h.net i - (reachAt h.net i).delay) i).2.2 DD:=by
  unfold Vbiraa.leavesAt
  show (if t < (reachAt h.net i).delay then _ else through (reachAt h.net i) (Vbiraa.offerAt h i (t - (reachAt h.net i).delay)))=_
  by_cases c:t < (reachAt h.net i).delay
  · rw [if_pos c,if_pos (by omega)]
  · rw [if_neg c,jR hw hi]
    by_cases c2:t - (reachAt h.net i).delay < above h.net i
    · rw [if_pos c2,if_pos (by omega),p0]
    · rw [if_neg c2,if_neg (by omega)]
      obtain ⟨_,_,_,a4,_⟩:=eh (pt:=ptAt h (t - (reachAt h.net i).delay - above h.net i)) hw (gB h (t - (reachAt h.net i).delay - above h.net i)) hi
      unfold rowT
      rw [a4,show t - (reachAt h.net i).delay - above h.net i=t - above h.net i - (reachAt h.net i).delay by omega]
end CN
namespace CN
open Vbiraa (Net Reach House Q mk whole reachAt way children delayOf partAt through Account accountFrom addA zeroA)
def bP (h:House) (p:Option Nat) (t:Nat):Nat:=((children h.net p).map fun i=>partAt h i t).sum
def kX (h:House):Prop:=∀ p t,bP h p t≤100
def acc (A L S O:Nat):Account:={ arrived:=mk A DD,lost:=mk L DD,spilled:=mk S DD,off:=mk O DD }
theorem sW (A L S O A' L' S' O':Nat):addA (acc A L S O) (acc A' L' S' O')=acc (A + A') (L + L') (S + S') (O + O'):=by
  unfold addA acc
  simp only [addD bw]
theorem gk:zeroA=acc 0 0 0 0:=by
  unfold zeroA acc
  rw [fI bw]
theorem n8 (l:List Nat) (a b c d:Nat→Nat):∀ (A L S O:Nat),(l.map fun i=>acc (a i) (b i) (c i) (d i)).foldl addA (acc A L S O)=acc (A + (l.map a).sum) (L + (l.map b).sum) (S + (l.map c).sum) (O + (l.map d).sum):=by
  induction l with
  | nil =>
    intro A L S O
    simp
  | cons x l ih =>
    intro A L S O
    rw [List.map_cons,List.foldl_cons,sW,ih]
    simp only [List.map_cons,List.sum_cons,Nat.add_assoc]
def abQ (ns:Net):Option Nat→Nat
  | none=>0
  | some q=>above ns q + (reachAt ns q).delay
section
variable (h:House) (t0 W:Nat)
def vR (i:Nat):Nat × Nat × Nat:=row h.net (ptAt h t0) W i
def vEnd (i:Nat):Nat:=if (children h.net (some i)).isEmpty=true then (vR h t0 W i).2.2 else 0
def cV (i:Nat):Nat:=(vR h t0 W i).2.1 - (vR h t0 W i).2.2
def bb (i:Nat):Nat:=(vR h t0 W i).1 - (vR h t0 W i).2.1
def vOff (i:Nat):Nat:=if (children h.net (some i)).isEmpty=true then 0 else (vR h t0 W i).2.2 * (100 - bP h (some i) (t0 + above h.net i + (reachAt h.net i).delay)) / 100
end
section
variable {h:House} {t0 W:Nat}
theorem oC (f:Nat) (p:Option Nat) (t:Nat) (x:Q):accountFrom h (f + 1) p t x =
    if (children h.net p).isEmpty=true∧p.isSome=true then { zeroA with arrived:=x } else
      ((children h.net p).map fun i=>addA { zeroA with spilled:=Vbiraa.spilled (reachAt h.net i) (Vbiraa.mul x (mk (partAt h i t) 100)),lost:=Vbiraa.less (Vbiraa.taken (reachAt h.net i) (Vbiraa.mul x (mk (partAt h i t) 100))) (through (reachAt h.net i) (Vbiraa.mul x (mk (partAt h i t) 100))) }
        (accountFrom h f (some i) (t + (reachAt h.net i).delay) (through (reachAt h.net i) (Vbiraa.mul x (mk (partAt h i t) 100))))).foldl addA { zeroA with off:=Vbiraa.mul x (mk (100 - bP h p t) 100) }:=by
  show (if _ then _ else List.foldl addA { zeroA with off:=Vbiraa.mul x (mk (100 - ((children h.net p).map fun i=>partAt h i t).foldl (fun a b=>a + b) 0) 100) } _)=_
  rw [cq,Nat.zero_add]
  rfl
theorem pE (hw:WF h.net) (hW:100 ^ 16∣W) {c:Nat} (hc:c < h.net.length) {A L S O:Nat} {f:Nat} {t:Nat} (ht:t=t0 + above h.net c)
    (e:accountFrom h f (some c) (t0 + above h.net c + (reachAt h.net c).delay) (mk (vR h t0 W c).2.2 DD)=acc A L S O) :
    addA { zeroA with spilled:=Vbiraa.spilled (reachAt h.net c) (Vbiraa.mul (mk (winQ h.net (ptAt h t0) W (reachAt h.net c).parent) DD) (mk (partAt h c t) 100)),lost:=Vbiraa.less (Vbiraa.taken (reachAt h.net c) (Vbiraa.mul (mk (winQ h.net (ptAt h t0) W (reachAt h.net c).parent) DD) (mk (partAt h c t) 100))) (through (reachAt h.net c) (Vbiraa.mul (mk (winQ h.net (ptAt h t0) W (reachAt h.net c).parent) DD) (mk (partAt h c t) 100))) }
        (accountFrom h f (some c) (t + (reachAt h.net c).delay) (through (reachAt h.net c) (Vbiraa.mul (mk (winQ h.net (ptAt h t0) W (reachAt h.net c).parent) DD) (mk (partAt h c t) 100)))) =
      acc A (cV h t0 W c + L) (bb h t0 W c + S) O:=by
  subst ht
  obtain ⟨a1,a2,a3,a4,_⟩:=eh (pt:=ptAt h t0) hw hW hc
  have a1:Vbiraa.mul (mk (winQ h.net (ptAt h t0) W (reachAt h.net c).parent) DD) (mk (partAt h c (t0 + above h.net c)) 100)=mk (vR h t0 W c).1 DD:=a1
  have a2:Vbiraa.taken (reachAt h.net c) (mk (vR h t0 W c).1 DD)=mk (vR h t0 W c).2.1 DD:=a2
  have a3:Vbiraa.spilled (reachAt h.net c) (mk (vR h t0 W c).1 DD)=mk (bb h t0 W c) DD:=a3
  have a4:through (reachAt h.net c) (mk (vR h t0 W c).1 DD)=mk (vR h t0 W c).2.2 DD:=a4
  rw [a1,a2,a3,a4,yi bw,e,gk]
  show addA (acc 0 (cV h t0 W c) (bb h t0 W c) 0) _=_
  rw [sW,Nat.zero_add,Nat.zero_add]
theorem fQ (hw:WF h.net) {c:Nat} {p:Option Nat} (hc:c∈children h.net p):above h.net c=abQ h.net p:=by
  obtain ⟨h1,h2⟩:=aO.mp hc
  rw [j1 hw.par h1,h2]
  cases p <;> rfl
theorem er (hw:WF h.net) {c:Nat} {p:Option Nat} (hc:c∈children h.net p):depth h.net c=dQ h.net p + 1:=by
  obtain ⟨h1,h2⟩:=aO.mp hc
  rw [bi hw.par h1,h2]
  cases p <;> rfl
theorem sh (x:Nat):({ zeroA with arrived:=mk x DD }:Account)=acc x 0 0 0:=by
  rw [gk]
  rfl
theorem x4 (hw:WF h.net) (hW:100 ^ 16∣W) (hP:kX h):∀ (f c:Nat),c < h.net.length→8≤f + depth h.net c →
    accountFrom h (f + 1) (some c) (t0 + above h.net c + (reachAt h.net c).delay) (mk (vR h t0 W c).2.2 DD) =
      acc (vEnd h t0 W c + bg h.net (vEnd h t0 W) f (some c)) (bg h.net (cV h t0 W) f (some c)) (bg h.net (bb h t0 W) f (some c)) (vOff h t0 W c + bg h.net (vOff h t0 W) f (some c)):=by
  intro f
  induction f with
  | zero =>
    intro c hc hf
    have hno:children h.net (some c)=[]:=by
      cases e:children h.net (some c) with
      | nil=>rfl
      | cons d r =>
        have hd:d∈children h.net (some c):=by
          rw [e]
          exact List.mem_cons_self ..
        have h1:=er hw hd
        have h2:=hw.deep d (aO.mp hd).1
        have h1:depth h.net d=depth h.net c + 1:=h1
        omega
    rw [oC,hno]
    rw [if_pos ⟨rfl,rfl⟩,sh]
    unfold vEnd vOff bg
    rw [hno]
    rfl
  | succ f ih =>
    intro c hc hf
    rw [oC]
    by_cases e:(children h.net (some c)).isEmpty=true
    · rw [if_pos ⟨e,rfl⟩,sh]
      have hno:children h.net (some c)=[]:=List.isEmpty_iff.mp e
      unfold vEnd vOff bg
      rw [hno]
      rfl
    · rw [if_neg (fun z=>e z.1)]
      have hd8:=hw.deep c hc
      have hcd:depth h.net c≤7:=by
        cases e2:children h.net (some c) with
        | nil =>
          rw [e2] at e
          exact absurd rfl e
        | cons d r =>
          have hd:d∈children h.net (some c):=by
            rw [e2]
            exact List.mem_cons_self ..
          have h1:depth h.net d=depth h.net c + 1:=er hw hd
          have h2:=hw.deep d (aO.mp hd).1
          omega
      have hdv:100 ^ 2∣(vR h t0 W c).2.2:=by
        have:=(qc (pt:=ptAt h t0) hw hW c hc (16 - 2 * depth h.net c) (by omega)).2
        exact Nat.dvd_trans (Nat.pow_dvd_pow 100 (by omega)) this
      have hmul:100∣(vR h t0 W c).2.2 * (100 - bP h (some c) (t0 + above h.net c + (reachAt h.net c).delay)):=(iV (m:=1) hdv).1
      rw [mulD bw hmul]
      have hch:((children h.net (some c)).map fun i=>addA { zeroA with spilled:=Vbiraa.spilled (reachAt h.net i) (Vbiraa.mul (mk (vR h t0 W c).2.2 DD) (mk (partAt h i (t0 + above h.net c + (reachAt h.net c).delay)) 100)),lost:=Vbiraa.less (Vbiraa.taken (reachAt h.net i) (Vbiraa.mul (mk (vR h t0 W c).2.2 DD) (mk (partAt h i (t0 + above h.net c + (reachAt h.net c).delay)) 100))) (through (reachAt h.net i) (Vbiraa.mul (mk (vR h t0 W c).2.2 DD) (mk (partAt h i (t0 + above h.net c + (reachAt h.net c).delay)) 100))) }
          (accountFrom h (f + 1) (some i) (t0 + above h.net c + (reachAt h.net c).delay + (reachAt h.net i).delay) (through (reachAt h.net i) (Vbiraa.mul (mk (vR h t0 W c).2.2 DD) (mk (partAt h i (t0 + above h.net c + (reachAt h.net c).delay)) 100))))) =
          (children h.net (some c)).map fun i=>acc (vEnd h t0 W i + bg h.net (vEnd h t0 W) f (some i)) (cV h t0 W i + bg h.net (cV h t0 W) f (some i)) (bb h t0 W i + bg h.net (bb h t0 W) f (some i)) (vOff h t0 W i + bg h.net (vOff h t0 W) f (some i)):=by
        refine List.map_congr_left fun i hi=>?_
        obtain ⟨i1,i2⟩:=aO.mp hi
        have hab:above h.net i=above h.net c + (reachAt h.net c).delay:=fQ hw hi
        have hde:depth h.net i=depth h.net c + 1:=er hw hi
        have:=pE (t:=t0 + above h.net c + (reachAt h.net c).delay) hw hW i1 (by rw [hab,Nat.add_assoc]) (ih i i1 (by omega))
        rw [i2] at this
        exact this
      rw [hch,gk]
      show List.foldl addA (acc 0 0 0 _) _=_
      rw [n8 (children h.net (some c)) (fun i=>vEnd h t0 W i + bg h.net (vEnd h t0 W) f (some i)) (fun i=>cV h t0 W i + bg h.net (cV h t0 W) f (some i)) (fun i=>bb h t0 W i + bg h.net (bb h t0 W) f (some i)) (fun i=>vOff h t0 W i + bg h.net (vOff h t0 W) f (some i))]
      have e1:vEnd h t0 W c=0:=if_neg e
      have e2:vOff h t0 W c=(vR h t0 W c).2.2 * (100 - bP h (some c) (t0 + above h.net c + (reachAt h.net c).delay)) / 100:=if_neg e
      rw [e1,e2]
      simp only [Nat.zero_add]
      rfl
theorem qR (hw:WF h.net) (hW:100 ^ 16∣W) (hP:kX h):accountFrom h 9 none t0 (mk W DD) =
    acc (sumN h.net.length (vEnd h t0 W)) (sumN h.net.length (cV h t0 W)) (sumN h.net.length (bb h t0 W)) (W * (100 - bP h none t0) / 100 + sumN h.net.length (vOff h t0 W)):=by
  rw [show (9:Nat)=8 + 1 from rfl,oC,if_neg (fun z=>Bool.false_ne_true z.2)]
  have hmul:100∣W * (100 - bP h none t0):=(iV (m:=15) hW).1
  rw [mulD bw hmul]
  have hch:((children h.net none).map fun i=>addA { zeroA with spilled:=Vbiraa.spilled (reachAt h.net i) (Vbiraa.mul (mk W DD) (mk (partAt h i t0) 100)),lost:=Vbiraa.less (Vbiraa.taken (reachAt h.net i) (Vbiraa.mul (mk W DD) (mk (partAt h i t0) 100))) (through (reachAt h.net i) (Vbiraa.mul (mk W DD) (mk (partAt h i t0) 100))) }
      (accountFrom h 8 (some i) (t0 + (reachAt h.net i).delay) (through (reachAt h.net i) (Vbiraa.mul (mk W DD) (mk (partAt h i t0) 100))))) =
      (children h.net none).map fun i=>acc (vEnd h t0 W i + bg h.net (vEnd h t0 W) 7 (some i)) (cV h t0 W i + bg h.net (cV h t0 W) 7 (some i)) (bb h t0 W i + bg h.net (bb h t0 W) 7 (some i)) (vOff h t0 W i + bg h.net (vOff h t0 W) 7 (some i)):=by
    refine List.map_congr_left fun i hi=>?_
    obtain ⟨i1,i2⟩:=aO.mp hi
    have hab:above h.net i=0:=fQ hw hi
    have hde:depth h.net i=0 + 1:=er hw hi
    have:=pE (t:=t0) hw hW i1 (by rw [hab]; rfl) (x4 hw hW hP 7 i i1 (by omega))
    rw [i2] at this
    exact this
  rw [hch,gk]
  show List.foldl addA (acc 0 0 0 _) _=_
  rw [n8 (children h.net none) (fun i=>vEnd h t0 W i + bg h.net (vEnd h t0 W) 7 (some i)) (fun i=>cV h t0 W i + bg h.net (cV h t0 W) 7 (some i)) (fun i=>bb h t0 W i + bg h.net (bb h t0 W) 7 (some i)) (fun i=>vOff h t0 W i + bg h.net (vOff h t0 W) 7 (some i)),
    ← il hw (vEnd h t0 W) (Nat.le_refl 8),←il hw (cV h t0 W) (Nat.le_refl 8),←il hw (bb h t0 W) (Nat.le_refl 8),←il hw (vOff h t0 W) (Nat.le_refl 8)]
  simp only [Nat.zero_add]
  rfl
theorem rG {w:Nat} (hw:100∣w) (l:List Nat) (p:Nat→Nat) (hp:(l.map p).sum≤100):w * (100 - (l.map p).sum) / 100 + (l.map fun c=>w * p c / 100).sum=w:=by
  obtain ⟨k,rfl⟩:=hw
  have e:∀ x:Nat,100 * k * x / 100=k * x:=fun x=>by
    rw [Nat.mul_assoc,Nat.mul_div_cancel_left _ (by decide)]
  have e2:∀ l:List Nat,(l.map fun c=>100 * k * p c / 100).sum=k * (l.map p).sum:=by
    intro l
    induction l with
    | nil=>rfl
    | cons x l ih=>rw [List.map_cons,List.sum_cons,ih,e,List.map_cons,List.sum_cons,Nat.mul_add]
  rw [e,e2,←Nat.mul_add,show 100 - (l.map p).sum + (l.map p).sum=100 by omega,Nat.mul_comm]
theorem rT (hw:WF h.net) (hW:100 ^ 16∣W) (hP:kX h) :
    (W * (100 - bP h none t0) / 100 + sumN h.net.length (vOff h t0 W)) + sumN h.net.length (fun i=>(vR h t0 W i).1)=W + sumN h.net.length (fun i=>if (children h.net (some i)).isEmpty=true then 0 else (vR h t0 W i).2.2):=by
  rw [tJ hw.par fun i=>(vR h t0 W i).1]
  have top:W * (100 - bP h none t0) / 100 + ((children h.net none).map fun i=>(vR h t0 W i).1).sum=W:=by
    have e:((children h.net none).map fun i=>(vR h t0 W i).1)=(children h.net none).map fun i=>W * partAt h i t0 / 100:=by
      refine List.map_congr_left fun i hi=>?_
      obtain ⟨i1,i2⟩:=aO.mp hi
      have hab:above h.net i=0:=fQ hw hi
      obtain ⟨_,_,_,_,a5,_⟩:=eh (pt:=ptAt h t0) hw hW i1
      show (row _ _ _ _).1=_
      rw [a5,i2]
      show W * partAt h i (t0 + above h.net i) / 100=_
      rw [hab,Nat.add_zero]
    rw [e]
    exact rG (Nat.dvd_trans (by decide) hW) _ _ (hP none t0)
  have inner:sumN h.net.length (vOff h t0 W) + sumN h.net.length (fun q=>((children h.net (some q)).map fun i=>(vR h t0 W i).1).sum)=sumN h.net.length (fun i=>if (children h.net (some i)).isEmpty=true then 0 else (vR h t0 W i).2.2):=by
    rw [←gn]
    refine aZ fun q hq=>?_
    unfold vOff
    by_cases e:(children h.net (some q)).isEmpty=true
    · rw [if_pos e,if_pos e,List.isEmpty_iff.mp e]
      rfl
    · rw [if_neg e,if_neg e]
      have e1:((children h.net (some q)).map fun i=>(vR h t0 W i).1)=(children h.net (some q)).map fun i=>(vR h t0 W q).2.2 * partAt h i (t0 + above h.net q + (reachAt h.net q).delay) / 100:=by
        refine List.map_congr_left fun i hi=>?_
        obtain ⟨i1,i2⟩:=aO.mp hi
        have hab:above h.net i=above h.net q + (reachAt h.net q).delay:=fQ hw hi
        obtain ⟨_,_,_,_,a5,_⟩:=eh (pt:=ptAt h t0) hw hW i1
        show (row _ _ _ _).1=_
        rw [a5,i2]
        show (vR h t0 W q).2.2 * partAt h i (t0 + above h.net i) / 100=_
        rw [hab,←Nat.add_assoc]
      rw [e1]
      have hq8:=hw.deep q hq
      have hcd:depth h.net q≤7:=by
        cases e2:children h.net (some q) with
        | nil =>
          rw [e2] at e
          exact absurd rfl e
        | cons d r =>
          have hd:d∈children h.net (some q):=by
            rw [e2]
            exact List.mem_cons_self ..
          have h1:depth h.net d=depth h.net q + 1:=er hw hd
          have h2:=hw.deep d (aO.mp hd).1
          omega
      have hdv:100∣(vR h t0 W q).2.2:=by
        have:=(qc (pt:=ptAt h t0) hw hW q hq (16 - 2 * depth h.net q) (by omega)).2
        exact Nat.dvd_trans (Nat.pow_dvd_pow 100 (show 1≤16 - 2 * depth h.net q by omega)) this
      exact rG hdv _ _ (hP (some q) _)
  omega
end
theorem oX (h:House) (a b c d:Nat→Nat) (e:∀ t,t < 60→Vbiraa.account h t=acc (a t) (b t) (c t) (d t)):Vbiraa.accounts h=acc (sumN 60 a) (sumN 60 b) (sumN 60 c) (sumN 60 d):=by
  unfold Vbiraa.accounts
  show ((List.range 60).map (Vbiraa.account h)).foldl addA zeroA=_
  rw [List.map_congr_left fun t ht=>e t (List.mem_range.mp ht),gk,n8]
  unfold sumN
  simp only [Nat.zero_add]
theorem oB {h:House} (hw:WF h.net) (hP:kX h) (t:Nat):Vbiraa.account h t =
    acc (sumN h.net.length (vEnd h t (letD h t))) (sumN h.net.length (cV h t (letD h t))) (sumN h.net.length (bb h t (letD h t))) (letD h t * (100 - bP h none t) / 100 + sumN h.net.length (vOff h t (letD h t))):=by
  unfold Vbiraa.account
  show accountFrom h 9 none t (whole (Vbiraa.letAt h t))=_
  rw [u9]
  exact qR hw (gB _ _) hP
end CN
namespace CN
open Vbiraa (Net Reach House Q mk whole reachAt way children delayOf partAt through)
theorem j9 (ns:Net) (i:Nat):∀ (l:List Nat) (t:Nat),Vbiraa.ticksOf ns (l++[i]) t=Vbiraa.ticksOf ns l t++[(i,t + delayOf ns l)]
  | [],t=>by
    show [(i,t)]=[(i,t + 0)]
    rfl
  | j :: l,t=>by
    show (j,t) :: Vbiraa.ticksOf ns (l++[i]) _=(j,t) :: (Vbiraa.ticksOf ns l _++_)
    rw [j9 ns i l,jW,←Nat.add_assoc]
theorem lM {ns:Net} (hp:Par ns) (t:Nat):∀ (i:Nat),i < ns.length→Vbiraa.ticksOf ns (way ns i) t=(way ns i).map fun j=>(j,t + above ns j):=by
  intro i
  induction i using Nat.strongRecOn with
  | _ i ih =>
    intro hi
    have h1:Vbiraa.ticksOf ns (way ns i).dropLast t=((way ns i).dropLast).map fun j=>(j,t + above ns j):=by
      rw [gl hp hi]
      cases e:(reachAt ns i).parent with
      | none=>rfl
      | some p =>
        have:=hp i p hi e
        exact ih p this (by omega)
    rw [eV hp hi,j9,h1,List.map_append]
    rfl
theorem xD {ns:Net} (hp:Par ns) (pt:Nat→Nat):∀ (i:Nat),i < ns.length→row ns pt 0 i=(0,0,0):=by
  intro i
  induction i using Nat.strongRecOn with
  | _ i ih =>
    intro hi
    rw [na hp hi]
    have:winQ ns pt 0 (reachAt ns i).parent=0:=by
      cases e:(reachAt ns i).parent with
      | none=>rfl
      | some p =>
        have:=hp i p hi e
        show (row ns pt 0 p).2.2=0
        rw [ih p this (by omega)]
    rw [this]
    unfold cA
    simp
theorem sY {ns:Net} (hw:WF ns):∀ (i:Nat),i < ns.length→above ns i + 10≤10 * depth ns i:=by
  intro i
  induction i using Nat.strongRecOn with
  | _ i ih =>
    intro hi
    rw [j1 hw.par hi,bi hw.par hi]
    cases e:(reachAt ns i).parent with
    | none=>simp
    | some p =>
      have h1:=hw.par i p hi e
      have h2:=ih p h1 (by omega)
      have h3:=(hw.num p (by omega)).1
      show above ns p + (reachAt ns p).delay + 10≤10 * (depth ns p + 1)
      omega
theorem tK (n k:Nat) (g:Nat→Nat):sumN (n + k) (fun t=>if t < k then 0 else g (t - k))=sumN n g:=by
  induction n with
  | zero =>
    rw [Nat.zero_add,aZ (h:=fun _=>0) fun t ht=>if_pos ht,dL]
    rfl
  | succ n ih =>
    rw [show n + 1 + k=n + k + 1 by omega,ba,ba,ih,if_neg (by omega),Nat.add_sub_cancel]
theorem xn {n m:Nat} (h:m≤n) {g:Nat→Nat} (hg:∀ t,m≤t→g t=0):sumN n g=sumN m g:=by
  induction n with
  | zero =>
    have:m=0:=by omega
    subst this
    rfl
  | succ n ih =>
    by_cases c:m=n + 1
    · rw [c]
    · rw [ba,ih (by omega),hg n (by omega),Nat.add_zero]
theorem vV {h:House} (hw:WF h.net) (hlen:h.lets.length≤60) {i:Nat} (hi:i < h.net.length) :
    Vbiraa.sumQ ((List.range (Vbiraa.TICKS + Vbiraa.DEEP * Vbiraa.DELAY)).map fun t=>Vbiraa.spilled (reachAt h.net i) (Vbiraa.offerAt h i t))=mk (sumN 60 fun t=>bb h t (letD h t) i) DD:=by
  have e:((List.range (Vbiraa.TICKS + Vbiraa.DEEP * Vbiraa.DELAY)).map fun t=>Vbiraa.spilled (reachAt h.net i) (Vbiraa.offerAt h i t)) =
      ((List.range 140).map fun t=>if t < above h.net i then 0 else bb h (t - above h.net i) (letD h (t - above h.net i)) i).map fun x=>mk x DD:=by
    rw [List.map_map]
    refine List.map_congr_left fun t _=>?_
    rw [jR hw hi]
    show _=mk (if t < above h.net i then 0 else bb h (t - above h.net i) (letD h (t - above h.net i)) i) DD
    by_cases c:t < above h.net i
    · rw [if_pos c,if_pos c,←fI bw,jB]
      simp
    · rw [if_neg c,if_neg c]
      obtain ⟨_,_,a3,_⟩:=eh (pt:=ptAt h (t - above h.net i)) hw (gB h (t - above h.net i)) hi
      exact a3
  rw [e,sumQD bw]
  have ha:=sY hw i hi
  have hd:=hw.deep i hi
  have e2:((List.range 140).map fun t=>if t < above h.net i then 0 else bb h (t - above h.net i) (letD h (t - above h.net i)) i).sum=sumN 60 fun t=>bb h t (letD h t) i:=by
    have e3:=tK (140 - above h.net i) (above h.net i) fun t=>bb h t (letD h t) i
    rw [show 140 - above h.net i + above h.net i=140 by omega] at e3
    unfold sumN at e3
    rw [e3]
    refine xn (by omega) fun t ht=>?_
    have hz:letD h t=0:=by
      unfold letD Vbiraa.letAt
      rw [List.getD_eq_getElem?_getD,List.getElem?_eq_none (by omega)]
      exact Nat.zero_mul _
    unfold bb vR
    rw [hz,xD hw.par _ i hi]
    rfl
  rw [e2]
end CN
namespace CN
open Vbiraa (Net Reach House Setting Q mk whole reachAt way children delayOf partAt)
structure HInv (h:House):Prop where
  wf:WF h.net
  lets:h.lets.length≤60
  letB:∀ x∈h.lets,x≤1000000
  setN:h.settings.length≤60
  sets:∀ s∈h.settings,s.reach < h.net.length∧s.tick < 60∧s.part≤100
  parts:kX h
theorem zh {l:List Nat} {g:Nat→Nat} {i:Nat} (h:i∈l):g i≤(l.map g).sum:=by
  induction l with
  | nil=>cases h
  | cons x l ih =>
    rw [List.map_cons,List.sum_cons]
    rcases List.mem_cons.mp h with h | h
    · subst h
      exact Nat.le_add_right _ _
    · exact Nat.le_trans (ih h) (Nat.le_add_left _ _)
theorem HInv.partB {h:House} (H:HInv h) {i:Nat} (hi:i < h.net.length) (t:Nat):partAt h i t≤100:=by
  have h1:partAt h i t≤bP h (reachAt h.net i).parent t:=zh (g:=fun i=>partAt h i t) (aO.mpr ⟨hi,rfl⟩)
  exact Nat.le_trans h1 (H.parts _ t)
theorem fm (h:House) (i t:Nat):partAt h i t=match (h.settings.filter fun s=>s.reach == i && decide (s.tick≤t)).foldl (fun (b:Option Setting) s=>match b with
  | none=>some s
  | some x=>if Vbiraa.later s x=true then some s else some x) none with
  | some s=>s.part
  | none=>(reachAt h.net i).gate:=rfl
theorem kr {h g:House} {i t u:Nat} (hn:reachAt h.net i=reachAt g.net i) (e:(h.settings.filter fun s=>s.reach == i && decide (s.tick≤t))=(g.settings.filter fun s=>s.reach == i && decide (s.tick≤u))):partAt h i t=partAt g i u:=by
  rw [fm,fm,e,hn]
theorem rJ {h:House} (hs:∀ s∈h.settings,s.tick < 60) {i t:Nat} (ht:59≤t):partAt h i t=partAt h i 59:=by
  refine kr rfl (List.filter_congr fun s hm=>?_)
  have:=hs s hm
  congr 1
  exact decide_eq_decide.mpr (by omega)
theorem qi {h:House} {s:Setting} {i t:Nat} (hi:s.reach≠i):partAt { h with settings:=h.settings++[s] } i t=partAt h i t:=by
  refine kr rfl ?_
  show (h.settings++[s]).filter _=_
  rw [List.filter_append,List.filter_cons,if_neg (by rw [Bool.and_eq_true,beq_iff_eq]; exact fun z=>hi z.1),List.filter_nil,List.append_nil]
theorem pc {h:House} (hs:∀ s∈h.settings,s.tick < 60) (p:Option Nat) {t:Nat} (ht:59≤t):bP h p t=bP h p 59:=by
  unfold bP
  rw [List.map_congr_left fun i _=>rJ hs ht]
def fitH (h:House) (p:Option Nat):Bool:=(List.range 60).all fun t=>decide (bP h p t≤100)
theorem sx {h:House} (hs:∀ s∈h.settings,s.tick < 60) (p:Option Nat):fitH h p=true↔∀ t,bP h p t≤100:=by
  unfold fitH
  rw [List.all_eq_true]
  constructor
  · intro a t
    by_cases c:t < 60
    · exact of_decide_eq_true (a t (List.mem_range.mpr c))
    · rw [pc hs p (show 59≤t by omega)]
      exact of_decide_eq_true (a 59 (List.mem_range.mpr (by decide)))
  · intro a t _
    exact decide_eq_true (a t)
theorem nY {h:House} (hs:∀ s∈h.settings,s.tick < 60) (p:Option Nat):Vbiraa.gatesOk h p=fitH h p:=by
  rw [Bool.eq_iff_iff,sx hs]
  unfold Vbiraa.gatesOk
  rw [List.all_eq_true]
  have e:∀ t,((children h.net p).map fun i=>partAt h i t).foldl (fun a b=>a + b) 0=bP h p t:=fun t=>by
    rw [cq,Nat.zero_add]
    rfl
  constructor
  · intro a t
    by_cases c:t < 60
    · have:=of_decide_eq_true (a t (List.mem_range.mpr (show t < 140 by omega)))
      rw [e] at this
      exact this
    · rw [pc hs p (show 59≤t by omega)]
      have:=of_decide_eq_true (a 59 (List.mem_range.mpr (show 59 < 140 by decide)))
      rw [e] at this
      exact this
  · intro a t _
    refine decide_eq_true ?_
    rw [e]
    exact a t
theorem ur:HInv Vbiraa.start:=⟨tj,by show 0≤60; decide,fun x h=>absurd h (by show x∉[]; simp),by show 0≤60; decide,fun s h=>absurd h (by show s∉[]; simp),fun p t=>by show 0≤100; decide⟩
theorem rH {h:House} (hs:h.settings=[]) (i t:Nat):partAt h i t=(reachAt h.net i).gate:=by
  rw [fm,hs]
  rfl
theorem yn {ns:Net} (hw:WF ns):HInv { net:=ns }:=by
  refine ⟨hw,by show 0≤60; decide,fun x h=>absurd h (by show x∉[]; simp),by show 0≤60; decide,fun s h=>absurd h (by show s∉[]; simp),fun p t=>?_⟩
  have:=hw.gates p
  unfold Vbiraa.gatesAt at this
  rw [cq,Nat.zero_add] at this
  unfold bP
  rw [List.map_congr_left fun i _=>rH (h:={ net:=ns }) rfl i t]
  exact this
theorem yo {h:House} (H:HInv h) {t:Nat} {vs:List Nat} (hv:∀ x∈vs,x≤1000000):HInv { h with lets:=Vbiraa.put h.lets t vs }:=by
  refine ⟨H.wf,?_,?_,H.setN,H.sets,fun p u=>?_⟩
  · show (Vbiraa.put h.lets t vs).length≤60
    unfold Vbiraa.put
    rw [List.length_map,List.length_range]
    exact Nat.le_refl _
  · intro x hx
    have hx:x∈Vbiraa.put h.lets t vs:=hx
    unfold Vbiraa.put at hx
    obtain ⟨k,_,rfl⟩:=List.mem_map.mp hx
    have gd:∀ (l:List Nat) (j:Nat),(∀ x∈l,x≤1000000)→l.getD j 0≤1000000:=fun l j hl=>by
      rw [List.getD_eq_getElem?_getD]
      cases e:l[j]? with
      | none=>exact Nat.zero_le _
      | some y=>exact hl y (List.mem_of_getElem? e)
    split
    · exact gd _ _ hv
    · exact gd _ _ H.letB
  · have e:bP { h with lets:=Vbiraa.put h.lets t vs } p u=bP h p u:=by
      unfold bP
      rfl
    rw [e]
    exact H.parts p u
theorem wz {h:House} (H:HInv h) {s:Setting} (h1:s.reach < h.net.length) (h2:s.tick < 60) (h3:s.part≤100) (h4:h.settings.length < 60) (hf:fitH { h with settings:=h.settings++[s] } (reachAt h.net s.reach).parent=true):HInv { h with settings:=h.settings++[s] }:=by
  have hs:∀ q∈h.settings++[s],q.reach < h.net.length∧q.tick < 60∧q.part≤100:=fun q hq=>by
    rcases List.mem_append.mp hq with hq | hq
    · exact H.sets q hq
    · rw [List.mem_singleton.mp hq]
      exact ⟨h1,h2,h3⟩
  refine ⟨H.wf,H.lets,H.letB,?_,hs,fun p t=>?_⟩
  · show (h.settings++[s]).length≤60
    rw [List.length_append]
    show h.settings.length + 1≤60
    omega
  · by_cases c:p=(reachAt h.net s.reach).parent
    · subst c
      exact (sx (fun q hq=>(hs q hq).2.1) _).mp hf t
    · have e:bP { h with settings:=h.settings++[s] } p t=bP h p t:=by
        unfold bP
        show ((children h.net p).map _).sum=_
        rw [List.map_congr_left fun i hi=>qi (h:=h) (s:=s) (t:=t) fun z=>c (by rw [z]; exact (aO.mp hi).2.symm)]
      rw [e]
      exact H.parts p t
end CN
namespace CN
open Vbiraa (Net Reach House Setting reachAt children way partAt)
def be (ns:Net) (i c:Nat):Net:=ns.set i { reachAt ns i with cap:=c }
def bG (h:House) (i c:Nat):House:={ h with net:=be h.net i c }
theorem fN (ns:Net) (i c:Nat):(be ns i c).length=ns.length:=by
  unfold be
  rw [List.length_set]
theorem iZ {ns:Net} {i c:Nat} (hi:i < ns.length) (j:Nat):reachAt (be ns i c) j=if j=i then { reachAt ns i with cap:=c } else reachAt ns j:=by
  unfold be
  by_cases e:j=i
  · subst e
    rw [if_pos rfl]
    show (List.set _ _ _).getD _ _=_
    rw [List.getD_eq_getElem?_getD,List.getElem?_set_self hi]
    rfl
  · rw [if_neg e]
    unfold reachAt
    rw [List.getD_eq_getElem?_getD,List.getElem?_set_ne (fun z=>e z.symm),←List.getD_eq_getElem?_getD]
theorem jX {ns:Net} {i c:Nat} (hi:i < ns.length) (j:Nat):(reachAt (be ns i c) j).parent=(reachAt ns j).parent:=by
  rw [iZ hi]
  split
  · rename_i e; subst e; rfl
  · rfl
theorem wI {ns:Net} {i c:Nat} (hi:i < ns.length) (j:Nat):(reachAt (be ns i c) j).delay=(reachAt ns j).delay:=by
  rw [iZ hi]
  split
  · rename_i e; subst e; rfl
  · rfl
theorem sJ {ns:Net} {i c:Nat} (hi:i < ns.length) (j:Nat):(reachAt (be ns i c) j).gate=(reachAt ns j).gate:=by
  rw [iZ hi]
  split
  · rename_i e; subst e; rfl
  · rfl
theorem kJ {ns:Net} {i c:Nat} (hi:i < ns.length) (p:Option Nat):children (be ns i c) p=children ns p:=by
  unfold children
  rw [fN]
  refine List.filter_congr fun j _=>?_
  rw [jX hi]
theorem iY {ns:Net} {i c:Nat} (hi:i < ns.length):∀ f j,Vbiraa.wayFrom (be ns i c) f j=Vbiraa.wayFrom ns f j
  | 0,j=>rfl
  | f + 1,j=>by
    rw [bS,bS,jX hi]
    cases (reachAt ns j).parent with
    | none=>rfl
    | some p=>show _++_=_++_; rw [iY hi f p]
theorem qC {ns:Net} {i c:Nat} (hi:i < ns.length) (j:Nat):way (be ns i c) j=way ns j:=by
  unfold way
  first
    | rw [iY hi,fN]
    | rw [iY hi]
theorem uC {h:House} {i c:Nat} (hi:i < h.net.length) (j t:Nat):partAt (bG h i c) j t=partAt h j t:=by
  have g:(reachAt (bG h i c).net j).gate=(reachAt h.net j).gate:=sJ hi j
  rw [fm,fm,g]
  rfl
theorem yp {h:House} (H:HInv h) {i c:Nat} (hi:i < h.net.length) (h1:1≤c) (h2:c≤100000):HInv (bG h i c):=by
  have hl:(bG h i c).net.length=h.net.length:=fN ..
  refine ⟨⟨?_,?_,?_,?_,?_,?_,?_⟩,H.lets,H.letB,H.setN,?_,?_⟩
  · intro j p hj e
    have e:(reachAt (be h.net i c) j).parent=some p:=e
    rw [jX hi] at e
    exact H.wf.par j p (by omega) e
  · have e:h.net.set i { reachAt h.net i with cap:=c }=be h.net i c:=rfl
    show mG (be h.net i c)
    intro r hr
    obtain ⟨j,hj,rfl⟩:=List.mem_iff_getElem.mp hr
    have hj':j < h.net.length:=by rw [fN] at hj; exact hj
    have e2:(be h.net i c)[j]=reachAt (be h.net i c) j:=by
      unfold reachAt
      rw [List.getD_eq_getElem?_getD,List.getElem?_eq_getElem hj]
      rfl
    rw [e2,iZ hi]
    have e3:∀ k,k < h.net.length→reachAt h.net k∈h.net:=fun k hk=>by
      unfold reachAt
      rw [List.getD_eq_getElem?_getD,List.getElem?_eq_getElem hk]
      exact List.getElem_mem hk
    split
    · have:=H.wf.names _ (e3 i hi)
      exact this
    · exact H.wf.names _ (e3 j hj')
  · intro j hj
    unfold depth
    show (way (be h.net i c) j).length≤8
    rw [qC hi]
    exact H.wf.deep j (by omega)
  · intro j hj
    have e:reachAt (bG h i c).net j=_:=iZ hi j
    rw [e]
    split
    · have:=H.wf.num i hi
      exact ⟨this.1,this.2.1,this.2.2.1,h1,h2,this.2.2.2.2.2⟩
    · exact H.wf.num j (by omega)
  · rw [hl]
    exact H.wf.len
  · intro p
    have:=H.wf.gates p
    show Vbiraa.gatesAt (be h.net i c) p≤100
    unfold Vbiraa.gatesAt at this ⊢
    rw [kJ hi,List.map_congr_left fun j _=>sJ hi j]
    exact this
  · intro r hr
    have hr:r∈be h.net i c:=hr
    obtain ⟨j,hj,rfl⟩:=List.mem_iff_getElem.mp hr
    have hj':j < h.net.length:=by rw [fN] at hj; exact hj
    have e2:(be h.net i c)[j]=reachAt (be h.net i c) j:=by
      unfold reachAt
      rw [List.getD_eq_getElem?_getD,List.getElem?_eq_getElem hj]
      rfl
    rw [e2,iZ hi]
    have e3:∀ k,k < h.net.length→reachAt h.net k∈h.net:=fun k hk=>by
      unfold reachAt
      rw [List.getD_eq_getElem?_getD,List.getElem?_eq_getElem hk]
      exact List.getElem_mem hk
    split
    · have:=H.wf.nlen _ (e3 i hi)
      exact this
    · exact H.wf.nlen _ (e3 j hj')
  · intro s hs
    rw [hl]
    exact H.sets s hs
  · intro p t
    have:=H.parts p t
    unfold bP at this ⊢
    show ((children (be h.net i c) p).map _).sum≤100
    rw [kJ hi,List.map_congr_left fun j _=>uC hi j t]
    exact this
theorem xm:∀ (l:List Nat) (n:Nat),l.length≤n→((List.range n).map fun t=>l.getD t 0).sum=l.foldl (fun a b=>a + b) 0:=by
  intro l n hn
  have key:∀ (l:List Nat) (n:Nat),l.length≤n→((List.range n).map fun t=>l.getD t 0).sum=l.sum:=by
    intro l
    induction l with
    | nil =>
      intro n _
      induction n with
      | zero=>rfl
      | succ n ih =>
        rw [List.range_succ,List.map_append,List.sum_append]
        have:=ih (Nat.zero_le _)
        rw [this]
        rfl
    | cons x l ih =>
      intro n hn
      match n,hn with
      | n + 1,hn =>
        rw [List.range_succ_eq_map,List.map_cons,List.map_map,List.sum_cons,List.sum_cons]
        have:=ih n (by rw [List.length_cons] at hn; omega)
        rw [←this]
        rfl
  rw [key l n hn,←Nat.zero_add l.sum,←cq]
end CN
namespace CN
open Vbiraa (Net Reach House Q mk whole reachAt way children offerFor wantFrom sumQ)
structure Low (q:Q):Prop where intro ::
  pos:0 < q.d
  cop:Nat.Coprime q.n q.d
theorem Low.eq {q:Q} (h:Low q):mk q.n q.d=q:=u7 h.pos h.cop
theorem uj {n d:Nat} (h:0 < d):Low (mk n d):=⟨eD h,mk_cop h⟩
theorem dZ (n:Nat):Low (whole n):=⟨Nat.one_pos,Nat.coprime_one_right n⟩
theorem zr {n d:Nat} (h:0 < d):(mk n d).n≤n:=by
  rw [gY h]
  exact Nat.div_le_self _ _
theorem kE {n d:Nat} (h:0 < d):(mk n d).d≤d:=by
  rw [gY h]
  exact Nat.div_le_self _ _
theorem ya {n d k:Nat} (h:0 < d) (e:n≤k * d):(mk n d).n≤k * (mk n d).d:=by
  have c:=ci (n:=n) h
  refine Nat.le_of_mul_le_mul_right ?_ h
  rw [c]
  calc n * (mk n d).d≤(k * d) * (mk n d).d:=Nat.mul_le_mul_right _ e
    _=_:=by rw [Nat.mul_assoc,Nat.mul_comm d,←Nat.mul_assoc]
def bf (r:Reach) (q:Q):Q:=mk (q.n * 100 + r.soak * (100 - r.loss) * q.d) (q.d * (100 - r.loss))
theorem eY {r:Reach} {q:Q} (hl:r.loss≤99) (h:Low q):0 < q.d * (100 - r.loss):=Nat.mul_pos h.pos (by omega)
theorem ka {r:Reach} {q:Q} (hl:r.loss≤99) (h:Low q):Low (bf r q):=uj (eY hl h)
theorem xj {r:Reach} {q:Q} (hl:r.loss≤99) (h:Low q):Vbiraa.add (Vbiraa.over q (mk (100 - r.loss) 100)) (whole r.soak)=bf r q:=by
  have hk:0 < 100 - r.loss:=by omega
  have e:=u0 (a:=q.n) (b:=q.d) (c:=100 - r.loss) (d:=100) h.pos (by decide) hk
  rw [h.eq] at e
  rw [e,j5,uM (eY hl h) (by decide)]
  unfold bf
  rw [Nat.mul_one,Nat.mul_one,Nat.mul_comm q.d,←Nat.mul_assoc]
theorem fH {r:Reach} {q:Q} (hl:r.loss≤99) (h:Low q) (hn:q.n≠0):offerFor r q=if (bf r q).n≤r.cap * (bf r q).d then some (bf r q) else none:=by
  unfold offerFor
  rw [if_neg hn,xj hl h]
  show (if decide ((bf r q).n * 1≤r.cap * (bf r q).d)=true then _ else _)=_
  rw [Nat.mul_one]
  simp only [decide_eq_true_eq]
theorem jt {r:Reach} {q:Q} (hn:q.n=0):offerFor r q=some (whole 0):=by
  unfold offerFor
  rw [if_pos hn]
theorem uO {r:Reach} {q:Q} (hl:r.loss≤99) (h:Low q) (hn:q.n≠0):(bf r q).n≠0:=fun z=>by
  have:=(lz (eY hl h)).mp z
  omega
def ndQ (r:Reach) (p:Nat) (q:Q):Option Q:=if p=0∨¬ (bf r q).n≤r.cap * (bf r q).d then none else some (mk ((bf r q).n * 100) ((bf r q).d * p))
def cN (ns:Net) (pt:Nat→Nat):List Nat→Q→Option Q
  | [],x=>some x
  | i :: l,x=>(ndQ (reachAt ns i) (pt i) x).bind (cN ns pt l)
theorem iJ (ns:Net) (pt:Nat→Nat):∀ (l m:List Nat) (x:Q),cN ns pt (l++m) x=(cN ns pt l x).bind (cN ns pt m)
  | [],m,x=>rfl
  | i :: l,m,x=>by
    show (ndQ _ _ x).bind (cN ns pt (l++m))=((ndQ _ _ x).bind (cN ns pt l)).bind _
    cases ndQ (reachAt ns i) (pt i) x with
    | none=>rfl
    | some y=>exact iJ ns pt l m y
theorem rY {r:Reach} {p:Nat} {q y:Q} (hl:r.loss≤99) (h:Low q) (hn:q.n≠0) (e:ndQ r p q=some y):Low y∧y.n≠0:=by
  unfold ndQ at e
  split at e
  · cases e
  · rename_i c
    have e:=Option.some.inj e
    subst e
    have hp:0 < (bf r q).d * p:=Nat.mul_pos (ka hl h).pos (by omega)
    refine ⟨uj hp,fun z=>?_⟩
    have:=(lz hp).mp z
    have:=uO hl h hn
    omega
theorem nJ {h:House} {i t:Nat} {l:List (Nat × Nat)} {q:Q} (hl:(reachAt h.net i).loss≤99) (hq:Low q) (hn:q.n≠0) :
    Vbiraa.needFrom h ((i,t) :: l) q=(ndQ (reachAt h.net i) (Vbiraa.partAt h i t) q).bind (Vbiraa.needFrom h l):=by
  show (offerFor (reachAt h.net i) q).bind _=_
  rw [fH hl hq hn]
  unfold ndQ
  by_cases c:(bf (reachAt h.net i) q).n≤(reachAt h.net i).cap * (bf (reachAt h.net i) q).d
  · rw [if_pos c]
    show (if (bf (reachAt h.net i) q).n=0 then _ else _)=_
    rw [if_neg (uO hl hq hn)]
    show (if Vbiraa.partAt h i t=0 then none else _)=_
    by_cases c2:Vbiraa.partAt h i t=0
    · rw [if_pos c2,if_pos (.inl c2)]
      rfl
    · rw [if_neg c2,if_neg (fun z=>z.elim c2 (fun z=>z c))]
      have lt:=ka hl hq
      have e:=u0 (a:=(bf (reachAt h.net i) q).n) (b:=(bf (reachAt h.net i) q).d) (c:=Vbiraa.partAt h i t) (d:=100) lt.pos (by decide) (by omega)
      rw [lt.eq] at e
      rw [e]
      rfl
  · rw [if_neg c,if_pos (.inr c)]
    rfl
theorem iI {h:House} (hw:WF h.net) (pt:Nat→Nat):∀ (l:List (Nat × Nat)) (q:Q),(∀ x∈l,x.1 < h.net.length∧Vbiraa.partAt h x.1 x.2=pt x.1)→Low q→q.n≠0→Vbiraa.needFrom h l q=cN h.net pt (l.map (·.1)) q
  | [],q,_,_,_=>rfl
  | (i,t) :: l,q,hx,hq,hn=>by
    obtain ⟨x1,x2⟩:=hx (i,t) (List.mem_cons_self ..)
    have hl:=(hw.num i x1).2.1
    rw [nJ hl hq hn]
    show _=(ndQ (reachAt h.net i) (pt i) q).bind (cN h.net pt (l.map (·.1)))
    have x2:Vbiraa.partAt h i t=pt i:=x2
    rw [x2]
    cases e:ndQ (reachAt h.net i) (pt i) q with
    | none=>rfl
    | some y =>
      obtain ⟨y1,y2⟩:=rY hl hq hn e
      exact iI hw pt l y (fun x hx'=>hx x (List.mem_cons_of_mem _ hx')) y1 y2
theorem pj {h:House}:∀ (l:List (Nat × Nat)) (q:Q),q.n=0→Vbiraa.needFrom h l q=some (if l=[] then q else whole 0)
  | [],q,_=>by rw [if_pos rfl]; rfl
  | (i,t) :: l,q,hn=>by
    show (offerFor (reachAt h.net i) q).bind _=_
    rw [jt hn]
    show Vbiraa.needFrom h l (whole 0)=_
    rw [pj l (whole 0) rfl,ite_self,if_neg (by simp)]
theorem x5 {h:House} (hw:WF h.net) {i:Nat} (hi:i < h.net.length) (t x:Nat):Vbiraa.need h i t (whole x)=if x=0 then some (whole 0) else cN h.net (ptAt h t) (way h.net i).reverse (whole x):=by
  unfold Vbiraa.need
  by_cases c:x=0
  · subst c
    rw [if_pos rfl,pj _ _ rfl]
    split <;> rfl
  · rw [if_neg c,lM hw.par t i hi,iI hw (ptAt h t) _ (whole x) ?_ (dZ x) c]
    · rw [←List.map_reverse,List.map_map]
      congr 1
      exact (List.map_congr_left (fun _ _=>rfl)).trans (List.map_id _)
    · intro y hy
      rw [List.mem_reverse,List.mem_map] at hy
      obtain ⟨j,hj,rfl⟩:=hy
      exact ⟨mI hw.par i hi j hj,rfl⟩
def cb (l:List Q):Nat:=(l.map (·.d)).prod
theorem tU (l:List Q) (q:Q):cb (l++[q])=cb l * q.d:=by
  unfold cb
  rw [List.map_append,List.prod_append]
  simp
theorem nh (q:Q) (l:List Q):cb (q :: l)=q.d * cb l:=rfl
theorem jc {l:List Q} (h:∀ q∈l,Low q):0 < cb l:=by
  induction l with
  | nil=>exact Nat.one_pos
  | cons x l ih =>
    rw [nh]
    exact Nat.mul_pos (h x (List.mem_cons_self ..)).pos (ih fun q hq=>h q (List.mem_cons_of_mem _ hq))
theorem tT {l:List Q} (h:∀ q∈l,Low q) (j:Nat):cb (l.take j)≤cb l:=by
  have e:cb (l.take j) * cb (l.drop j)=cb l:=by
    unfold cb
    rw [←List.prod_append,←List.map_append,List.take_append_drop]
  rw [←e]
  exact Nat.le_mul_of_pos_right _ (jc fun q hq=>h q (List.mem_of_mem_drop hq))
def totN (l:List Q):Nat × Nat:=l.foldl (fun b q=>(b.1 * q.d + q.n * b.2,b.2 * q.d)) (0,1)
theorem o7 (l:List Q) (q:Q):totN (l++[q])=((totN l).1 * q.d + q.n * (totN l).2,(totN l).2 * q.d):=by
  unfold totN
  rw [List.foldl_append]
  rfl
theorem qo {α:Type} {C:List α→Prop} (h0:C []) (h1:∀ l a,C l→C (l++[a])) (l:List α):C l:=by
  have key:∀ n (l:List α),l.length=n→C l:=by
    intro n
    induction n with
    | zero =>
      intro l hl
      rw [List.length_eq_zero_iff.mp hl]
      exact h0
    | succ n ih =>
      intro l hl
      have hne:l≠[]:=fun z=>by rw [z] at hl; cases hl
      rw [←List.dropLast_concat_getLast hne]
      exact h1 _ _ (ih _ (by rw [List.length_dropLast]; omega))
  exact key _ l rfl
theorem mM {M:Nat}:∀ (l:List Q),(∀ q∈l,Low q∧q.n≤M * q.d)→(totN l).2=cb l∧(totN l).1≤M * l.length * cb l∧sumQ l=mk (totN l).1 (totN l).2:=by
  intro l
  refine qo (C:=fun l=>(∀ q∈l,Low q∧q.n≤M * q.d)→(totN l).2=cb l∧(totN l).1≤M * l.length * cb l∧sumQ l=mk (totN l).1 (totN l).2) ?_ ?_ l
  · intro _
    exact ⟨rfl,Nat.zero_le _,(j5 0)⟩
  · intro l q ih h
    obtain ⟨h1,h2,h3⟩:=ih fun x hx=>h x (List.mem_append.mpr (.inl hx))
    obtain ⟨q1,q2⟩:=h q (by simp)
    have hp:0 < cb l:=jc fun x hx=>(h x (List.mem_append.mpr (.inl hx))).1
    rw [o7,tU]
    refine ⟨by rw [h1],?_,?_⟩
    · show (totN l).1 * q.d + q.n * (totN l).2≤M * (l++[q]).length * (cb l * q.d)
      rw [h1,List.length_append,List.length_singleton,Nat.mul_add,Nat.add_mul,Nat.mul_one]
      refine Nat.add_le_add ?_ ?_
      · rw [←Nat.mul_assoc]
        exact Nat.mul_le_mul_right _ h2
      · rw [Nat.mul_comm (cb l),←Nat.mul_assoc]
        exact Nat.mul_le_mul_right _ q2
    · have e:sumQ (l++[q])=Vbiraa.add (sumQ l) q:=by
        unfold sumQ
        rw [List.foldl_append]
        rfl
      rw [e,h3]
      have e2:=uM (a:=(totN l).1) (b:=(totN l).2) (c:=q.n) (d:=q.d) (by rw [h1]; exact hp) q1.pos
      rw [q1.eq] at e2
      exact e2
theorem p3 {M:Nat} {l:List Q} (h:∀ q∈l,Low q∧q.n≤M * q.d):Low (sumQ l)∧(sumQ l).d≤cb l∧(sumQ l).n≤M * l.length * (sumQ l).d:=by
  obtain ⟨h1,h2,h3⟩:=mM l h
  have hp:0 < (totN l).2:=by
    rw [h1]
    exact jc fun x hx=>(h x hx).1
  rw [h3]
  refine ⟨uj hp,Nat.le_trans (kE hp) (Nat.le_of_eq h1),ya hp ?_⟩
  rw [h1]
  exact h2
end CN
namespace CN
open Vbiraa (Net Reach House Q mk whole reachAt way children offerFor wantFrom sumQ)
section
variable (ns:Net) (ask:Nat→Q)
def dI (V:Nat→Q) (i:Nat):Q:=if (children ns (some i)).isEmpty=true then ask i else sumQ ((children ns (some i)).map V)
def cU:Nat→Nat→Q
  | 0,_=>whole 0
  | f + 1,i=>(offerFor (reachAt ns i) (dI ns ask (cU f) i)).getD (whole 0)
def post:Nat→Nat→List Nat
  | 0,_=>[]
  | f + 1,i=>(children ns (some i)).flatMap (post f)++[i]
def wV (i:Nat):Q:=cU ns ask 9 i
def lV (i:Nat):Q:=dI ns ask (wV ns ask) i
def badR (i:Nat):Bool:=(offerFor (reachAt ns i) (lV ns ask i)).isNone
def pst (i:Nat):List Nat:=post ns 9 i
def bB:List Nat:=(children ns none).flatMap (pst ns)
end
section
variable {ns:Net} {ask:Nat→Q}
theorem b0 (hw:WF ns) {i c:Nat} (hc:c∈children ns (some i)):c < ns.length∧depth ns c=depth ns i + 1∧i < c:=by
  obtain ⟨c1,c2⟩:=aO.mp hc
  have hd:=bi hw.par c1
  rw [c2] at hd
  exact ⟨c1,hd,hw.par c i c1 c2⟩
theorem lr (hw:WF ns) {c:Nat} (hc:c∈children ns none):c < ns.length∧depth ns c=1:=by
  obtain ⟨c1,c2⟩:=aO.mp hc
  have hd:=bi hw.par c1
  rw [c2] at hd
  exact ⟨c1,hd⟩
theorem l5 {V W:Nat→Q} {i:Nat} (h:∀ c∈children ns (some i),V c=W c):dI ns ask V i=dI ns ask W i:=by
  unfold dI
  rw [List.map_congr_left h]
theorem gH (hw:WF ns):∀ (f g i:Nat),i < ns.length→9≤f + depth ns i→9≤g + depth ns i→cU ns ask f i=cU ns ask g i
  | 0,g,i,hi,hf,_=>by
    have:=hw.deep i hi
    omega
  | f + 1,0,i,hi,_,hg=>by
    have:=hw.deep i hi
    omega
  | f + 1,g + 1,i,hi,hf,hg=>by
    show (offerFor _ (dI ns ask (cU ns ask f) i)).getD _=(offerFor _ (dI ns ask (cU ns ask g) i)).getD _
    rw [l5 fun c hc=>?_]
    obtain ⟨c1,c2,_⟩:=b0 hw hc
    exact gH hw f g c c1 (by omega) (by omega)
theorem iC (hw:WF ns):∀ (f g i:Nat),i < ns.length→9≤f + depth ns i→9≤g + depth ns i→post ns f i=post ns g i
  | 0,g,i,hi,hf,_=>by
    have:=hw.deep i hi
    omega
  | f + 1,0,i,hi,_,hg=>by
    have:=hw.deep i hi
    omega
  | f + 1,g + 1,i,hi,hf,hg=>by
    show (children ns (some i)).flatMap (post ns f)++[i]=(children ns (some i)).flatMap (post ns g)++[i]
    congr 1
    rw [List.flatMap_def,List.flatMap_def,List.map_congr_left fun c hc=>?_]
    obtain ⟨c1,c2,_⟩:=b0 hw hc
    exact iC hw f g c c1 (by omega) (by omega)
theorem kj (hw:WF ns) {i:Nat} (hi:i < ns.length):pst ns i=(children ns (some i)).flatMap (pst ns)++[i]:=by
  show (children ns (some i)).flatMap (post ns 8)++[i]=_
  congr 1
  rw [List.flatMap_def,List.flatMap_def,List.map_congr_left fun c hc=>?_]
  obtain ⟨c1,c2,_⟩:=b0 hw hc
  have:1≤depth ns i:=by
    rw [bi hw.par hi]
    cases (reachAt ns i).parent <;> simp
  exact iC hw 8 9 c c1 (by omega) (by omega)
theorem yN (hw:WF ns) {i:Nat} (hi:i < ns.length):wV ns ask i=(offerFor (reachAt ns i) (lV ns ask i)).getD (whole 0):=by
  have hd:1≤depth ns i:=by
    rw [bi hw.par hi]
    cases (reachAt ns i).parent <;> simp
  exact (gH hw 9 10 i hi (by omega) (by omega))
def jz (ns:Net) (ask:Nat→Q) (f:Nat) (a:Except Nat Q) (c:Nat):Except Nat Q:=a.bind fun x=>(wantFrom ns ask f c).map fun y=>Vbiraa.add x y
theorem sv (f:Nat) (e:Nat):∀ l:List Nat,l.foldl (jz ns ask f) (.error e)=.error e
  | []=>rfl
  | c :: l=>by
    rw [List.foldl_cons]
    exact sv f e l
def outE (b:Option Nat) (q:Q):Except Nat Q:=match b with
  | some j=>.error j
  | none=>.ok q
theorem qx {f:Nat} {P:Nat→List Nat} {V:Nat→Q}:∀ (l:List Nat) (a:Q),(∀ c∈l,wantFrom ns ask f c=outE ((P c).find? (badR ns ask)) (V c))→l.foldl (jz ns ask f) (.ok a)=outE ((l.flatMap P).find? (badR ns ask)) ((l.map V).foldl Vbiraa.add a)
  | [],a,_=>rfl
  | c :: l,a,h=>by
    rw [List.foldl_cons,List.flatMap_cons,List.find?_append]
    have hc:=h c (List.mem_cons_self ..)
    have e:jz ns ask f (.ok a) c=(wantFrom ns ask f c).map fun y=>Vbiraa.add a y:=rfl
    rw [e,hc]
    cases hb:(P c).find? (badR ns ask) with
    | some j=>exact sv f j l
    | none =>
      show List.foldl (jz ns ask f) (.ok (Vbiraa.add a (V c))) l=outE (Option.or none _) _
      rw [qx l _ fun d hd=>h d (List.mem_cons_of_mem _ hd)]
      rfl
theorem kZ (hw:WF ns):∀ (f i:Nat),i < ns.length→9≤f + depth ns i→wantFrom ns ask f i=outE ((post ns f i).find? (badR ns ask)) (cU ns ask f i)
  | 0,i,hi,hf=>by
    have:=hw.deep i hi
    omega
  | f + 1,i,hi,hf=>by
    have hch:∀ c∈children ns (some i),wantFrom ns ask f c=outE ((post ns f c).find? (badR ns ask)) (cU ns ask f c):=fun c hc=>by
      obtain ⟨c1,c2,_⟩:=b0 hw hc
      exact kZ hw f c c1 (by omega)
    have hL:lV ns ask i=dI ns ask (cU ns ask f) i:=l5 fun c hc=>by
      obtain ⟨c1,c2,_⟩:=b0 hw hc
      exact gH hw 9 f c c1 (by omega) (by omega)
    have e0:wantFrom ns ask (f + 1) i=((if (children ns (some i)).isEmpty=true then .ok (ask i) else (children ns (some i)).foldl (jz ns ask f) (.ok (whole 0)))).bind fun x=>match offerFor (reachAt ns i) x with | some y=>.ok y | none=>.error i:=rfl
    have e1:(if (children ns (some i)).isEmpty=true then Except.ok (ask i) else (children ns (some i)).foldl (jz ns ask f) (.ok (whole 0)))=outE (((children ns (some i)).flatMap (post ns f)).find? (badR ns ask)) (dI ns ask (cU ns ask f) i):=by
      unfold dI
      by_cases c:(children ns (some i)).isEmpty=true
      · rw [if_pos c,if_pos c,List.isEmpty_iff.mp c]
        rfl
      · rw [if_neg c,if_neg c,qx (P:=post ns f) (V:=cU ns ask f) _ _ hch]
        rfl
    rw [e0,e1]
    show _=outE (((children ns (some i)).flatMap (post ns f)++[i]).find? (badR ns ask)) ((offerFor _ (dI ns ask (cU ns ask f) i)).getD _)
    rw [List.find?_append]
    cases hb:((children ns (some i)).flatMap (post ns f)).find? (badR ns ask) with
    | some j=>rfl
    | none =>
      show (match offerFor (reachAt ns i) (dI ns ask (cU ns ask f) i) with | some y=>Except.ok y | none=>Except.error i)=outE ([i].find? (badR ns ask)) _
      rw [List.find?_cons]
      unfold badR
      rw [hL]
      cases offerFor (reachAt ns i) (dI ns ask (cU ns ask f) i) with
      | none=>rfl
      | some y=>rfl
theorem mK (hw:WF ns):Vbiraa.wants ns ask=outE ((bB ns).find? (badR ns ask)) (sumQ ((children ns none).map (wV ns ask))):=by
  show (children ns none).foldl (jz ns ask 9) (.ok (whole 0))=_
  rw [qx (P:=pst ns) (V:=wV ns ask)]
  · rfl
  · intro c hc
    obtain ⟨c1,c2⟩:=lr hw hc
    exact kZ hw 9 c c1 (by omega)
theorem uW (hw:WF ns):∀ (i:Nat),i < ns.length→∀ x∈pst ns i,x∈bB ns:=by
  intro i
  induction i using Nat.strongRecOn with
  | _ i ih =>
    intro hi x hx
    cases e:(reachAt ns i).parent with
    | none=>exact List.mem_flatMap.mpr ⟨i,aO.mpr ⟨hi,e⟩,hx⟩
    | some p =>
      have hp:=hw.par i p hi e
      refine ih p hp (by omega) x ?_
      rw [kj hw (show p < ns.length by omega)]
      exact List.mem_append.mpr (.inl (List.mem_flatMap.mpr ⟨i,aO.mpr ⟨hi,e⟩,hx⟩))
theorem rz (hw:WF ns) {i:Nat} (hi:i < ns.length):i∈pst ns i:=by
  rw [kj hw hi]
  simp
theorem own_ok (hw:WF ns) (hb:(bB ns).find? (badR ns ask)=none) {i:Nat} (hi:i < ns.length):wantFrom ns ask 9 i=.ok (wV ns ask i):=by
  rw [kZ hw 9 i hi (by omega)]
  have e:(post ns 9 i).find? (badR ns ask)=none:=by
    rw [List.find?_eq_none] at hb ⊢
    intro x hx
    exact hb x (uW hw i hi x hx)
  rw [e]
  rfl
theorem xC (hw:WF ns) (hb:(bB ns).find? (badR ns ask)=none) {i:Nat} (hi:i < ns.length):Vbiraa.setTo ns ask i=Vbiraa.over (wV ns ask i) (sumQ ((children ns (reachAt ns i).parent).map (wV ns ask))):=by
  unfold Vbiraa.setTo
  have e:∀ j,j < ns.length→(match wantFrom ns ask (Vbiraa.DEEP + 1) j with | .ok x=>x | .error _=>whole 0)=wV ns ask j:=fun j hj=>by
    have:=own_ok (ask:=ask) hw hb hj
    have this:wantFrom ns ask (Vbiraa.DEEP + 1) j=.ok (wV ns ask j):=this
    rw [this]
  show Vbiraa.over (match wantFrom ns ask (Vbiraa.DEEP + 1) i with | .ok x=>x | .error _=>whole 0) (sumQ ((children ns (reachAt ns i).parent).map fun j=>match wantFrom ns ask (Vbiraa.DEEP + 1) j with | .ok x=>x | .error _=>whole 0))=_
  rw [e i hi,List.map_congr_left fun j hj=>e j (aO.mp hj).1]
def PO (ns:Net) (l:List Nat):Prop:=∀ j x,l[j]?=some x→∀ c∈children ns (some x),c∈l.take j
theorem po_nil:PO ns []:=fun j x h=>by cases h
theorem po_app {l m:List Nat} (h1:PO ns l) (h2:PO ns m):PO ns (l++m):=by
  intro j x hx c hc
  by_cases hj:j < l.length
  · rw [List.getElem?_append_left hj] at hx
    rw [List.take_append_of_le_length (by omega)]
    exact h1 j x hx c hc
  · rw [List.getElem?_append_right (by omega)] at hx
    have:=h2 _ x hx c hc
    rw [List.take_append,List.take_of_length_le (by omega)]
    exact List.mem_append.mpr (.inr this)
theorem qe {P:Nat→List Nat}:∀ (l:List Nat),(∀ c∈l,PO ns (P c))→PO ns (l.flatMap P)
  | [],_=>po_nil
  | c :: l,h=>by
    rw [List.flatMap_cons]
    exact po_app (h c (List.mem_cons_self ..)) (qe l fun d hd=>h d (List.mem_cons_of_mem _ hd))
theorem zd {l:List Nat} {i:Nat} (h1:PO ns l) (h2:∀ c∈children ns (some i),c∈l):PO ns (l++[i]):=by
  intro j x hx c hc
  by_cases hj:j < l.length
  · rw [List.getElem?_append_left hj] at hx
    rw [List.take_append_of_le_length (by omega)]
    exact h1 j x hx c hc
  · rw [List.getElem?_append_right (by omega)] at hx
    have hj0:j=l.length:=by
      have:=(List.getElem?_eq_some_iff.mp hx).1
      have:j - l.length < 1:=this
      omega
    subst hj0
    rw [Nat.sub_self] at hx
    have hx:i=x:=Option.some.inj hx
    subst hx
    rw [List.take_append_of_le_length (Nat.le_refl _),List.take_length]
    exact h2 c hc
theorem uY (hw:WF ns):∀ (f i:Nat),i < ns.length→9≤f + depth ns i→PO ns (post ns f i)
  | 0,i,hi,hf=>by
    have:=hw.deep i hi
    omega
  | f + 1,i,hi,hf=>by
    refine zd (qe _ fun c hc=>?_) fun c hc=>?_
    · obtain ⟨c1,c2,_⟩:=b0 hw hc
      exact uY hw f c c1 (by omega)
    · obtain ⟨c1,c2,_⟩:=b0 hw hc
      refine List.mem_flatMap.mpr ⟨c,hc,?_⟩
      rw [iC hw f 9 c c1 (by omega) (by omega)]
      exact rz hw c1
theorem po_all (hw:WF ns):PO ns (bB ns):=qe _ fun c hc=>by
  obtain ⟨c1,c2⟩:=lr hw hc
  exact uY hw 9 c c1 (by omega)
theorem uX (hw:WF ns):∀ (f i:Nat),i < ns.length→∀ x∈post ns f i,x < ns.length
  | 0,i,hi,x,hx=>by cases hx
  | f + 1,i,hi,x,hx=>by
    rcases List.mem_append.mp hx with h | h
    · obtain ⟨c,hc,hx⟩:=List.mem_flatMap.mp h
      exact uX hw f c (b0 hw hc).1 x hx
    · rw [List.mem_singleton.mp h]
      exact hi
theorem ord_lt (hw:WF ns) {x:Nat} (hx:x∈bB ns):x < ns.length:=by
  obtain ⟨c,hc,hx⟩:=List.mem_flatMap.mp hx
  exact uX hw 9 c (lr hw hc).1 x hx
def one:Nat→Nat:=fun _=>1
theorem xM (f:Nat):∀ i,(post ns (f + 1) i).length=1 + bg ns one f (some i):=by
  induction f with
  | zero =>
    intro i
    show ((children ns (some i)).flatMap (post ns 0)++[i]).length=1 + 0
    rw [List.length_append,List.length_flatMap]
    have:((children ns (some i)).map fun c=>(post ns 0 c).length).sum=0:=by
      show ((children ns (some i)).map fun c=>0).sum=0
      induction children ns (some i) with
      | nil=>rfl
      | cons a l ih=>rw [List.map_cons,List.sum_cons,ih]
    rw [this]
    rfl
  | succ f ih =>
    intro i
    show ((children ns (some i)).flatMap (post ns (f + 1))++[i]).length=1 + ((children ns (some i)).map fun c=>one c + bg ns one f (some c)).sum
    rw [List.length_append,List.length_flatMap,List.map_congr_left fun c _=>ih c,Nat.add_comm]
    rfl
theorem zj (hw:WF ns):(bB ns).length=ns.length:=by
  unfold bB pst
  rw [List.length_flatMap,List.map_congr_left fun c _=>xM 8 c]
  have:=il hw one (f:=9) (by decide)
  have e:bg ns one 9 none=((children ns none).map fun c=>1 + bg ns one 8 (some c)).sum:=rfl
  rw [e] at this
  rw [this]
  unfold sumN one
  induction ns.length with
  | zero=>rfl
  | succ n ih =>
    rw [List.range_succ,List.map_append,List.sum_append,ih]
    rfl
theorem pst_ne (hw:WF ns) {i:Nat} (hi:i < ns.length):1≤(pst ns i).length:=by
  rw [kj hw hi,List.length_append,List.length_singleton]
  omega
theorem mL (hw:WF ns) (f:Nat) (p:Option Nat) (hp:∀ c,p=some c→c < ns.length) (hf:8≤f + dQ ns p):bg ns one f p≤30:=by
  rw [k4 hw one f p hp hf]
  have h:∀ n,sumN n (fun i=>if ju ns p i=true then one i else 0)≤n:=by
    intro n
    induction n with
    | zero=>exact Nat.le_refl _
    | succ n ih =>
      rw [ba]
      refine Nat.add_le_add ih ?_
      split
      · exact Nat.le_refl _
      · exact Nat.zero_le _
  exact Nat.le_trans (h _) hw.len
structure i7 (ns:Net) (ask:Nat→Q):Prop where
  low:∀ i,Low (ask i)∧(ask i).d=1∧(ask i).n≤1000000
theorem rS {r:Reach} {q:Q} {B:Nat} (hl:r.loss≤99) (hc:r.cap≤100000) (hq:Low q) (hb:q.d≤B) (hB:0 < B):Low ((offerFor r q).getD (whole 0))∧((offerFor r q).getD (whole 0)).n≤100000 * ((offerFor r q).getD (whole 0)).d∧((offerFor r q).getD (whole 0)).d≤100 * B:=by
  by_cases c:q.n=0
  · rw [jt c]
    exact ⟨dZ 0,Nat.zero_le _,by show 1≤_; omega⟩
  · rw [fH hl hq c]
    by_cases c2:(bf r q).n≤r.cap * (bf r q).d
    · rw [if_pos c2]
      refine ⟨ka hl hq,Nat.le_trans c2 (Nat.mul_le_mul_right _ hc),?_⟩
      refine Nat.le_trans (kE (eY hl hq)) ?_
      rw [Nat.mul_comm 100]
      exact Nat.mul_le_mul hb (Nat.sub_le _ _)
    · rw [if_neg c2]
      exact ⟨dZ 0,Nat.zero_le _,by show 1≤_; omega⟩
theorem ng {V:Nat→Q} {e:Nat→Nat}:∀ (l:List Nat),(∀ c∈l,(V c).d≤100 ^ e c)→cb (l.map V)≤100 ^ (l.map e).sum
  | [],_=>Nat.le_refl _
  | c :: l,h=>by
    rw [List.map_cons,nh,List.map_cons,List.sum_cons,Nat.pow_add]
    exact Nat.mul_le_mul (h c (List.mem_cons_self ..)) (ng l fun d hd=>h d (List.mem_cons_of_mem _ hd))
theorem ik (hw:WF ns) (ha:i7 ns ask):∀ (f i:Nat),i < ns.length→Low (cU ns ask f i)∧(cU ns ask f i).n≤100000 * (cU ns ask f i).d∧(cU ns ask f i).d≤100 ^ (1 + bg ns one f (some i))
  | 0,i,hi=>⟨dZ 0,Nat.zero_le _,by show 1≤_; exact Nat.one_le_pow _ _ (by decide)⟩
  | f + 1,i,hi=>by
    obtain ⟨_,nl,_,_,nc,_⟩:=hw.num i hi
    have hq:Low (dI ns ask (cU ns ask f) i)∧(dI ns ask (cU ns ask f) i).d≤100 ^ bg ns one (f + 1) (some i):=by
      unfold dI
      by_cases c:(children ns (some i)).isEmpty=true
      · rw [if_pos c]
        refine ⟨(ha.low i).1,?_⟩
        rw [(ha.low i).2.1]
        exact Nat.one_le_pow _ _ (by decide)
      · rw [if_neg c]
        have hb:∀ c∈children ns (some i),_:=fun c hc=>ik hw ha f c (b0 hw hc).1
        have hs:=p3 (M:=100000) (l:=(children ns (some i)).map (cU ns ask f)) fun q hq=>by
          obtain ⟨c,hc,rfl⟩:=List.mem_map.mp hq
          exact ⟨(hb c hc).1,(hb c hc).2.1⟩
        refine ⟨hs.1,Nat.le_trans hs.2.1 ?_⟩
        exact ng (e:=fun c=>1 + bg ns one f (some c)) _ fun c hc=>(hb c hc).2.2
    have:=rS (B:=100 ^ bg ns one (f + 1) (some i)) nl nc hq.1 hq.2 (Nat.pow_pos (by decide))
    rw [Nat.pow_add,Nat.pow_one]
    exact this
theorem qW (hw:WF ns) (ha:i7 ns ask) {i:Nat} (hi:i < ns.length):Low (wV ns ask i)∧(wV ns ask i).n≤100000 * (wV ns ask i).d∧(wV ns ask i).d≤100 ^ 31:=by
  obtain ⟨h1,h2,h3⟩:=ik hw ha 9 i hi
  refine ⟨h1,h2,Nat.le_trans h3 (Nat.pow_le_pow_right (by decide) ?_)⟩
  have:=mL hw 9 (some i) (fun c e=>by cases e; exact hi) (by omega)
  omega
theorem fu (hw:WF ns) (ha:i7 ns ask) (p:Option Nat) (hp:∀ c,p=some c→c < ns.length):cb ((children ns p).map (wV ns ask))≤100 ^ 30:=by
  refine Nat.le_trans (ng (e:=fun c=>1 + bg ns one 9 (some c)) _ fun c hc=>(ik hw ha 9 c (aO.mp hc).1).2.2) (Nat.pow_le_pow_right (by decide) ?_)
  exact mL hw 10 p hp (by omega)
theorem iQ (hw:WF ns) (ha:i7 ns ask) (p:Option Nat):∀ q∈(children ns p).map (wV ns ask),Low q∧q.n≤100000 * q.d:=fun q hq=>by
  obtain ⟨c,hc,rfl⟩:=List.mem_map.mp hq
  obtain ⟨h1,h2,_⟩:=qW hw ha (aO.mp hc).1
  exact ⟨h1,h2⟩
theorem kH (hw:WF ns) (ha:i7 ns ask) {i:Nat} (hi:i < ns.length):Low (lV ns ask i)∧(lV ns ask i).n≤10000000 * (lV ns ask i).d∧(lV ns ask i).d≤100 ^ 30:=by
  unfold lV dI
  by_cases c:(children ns (some i)).isEmpty=true
  · rw [if_pos c]
    obtain ⟨a1,a2,a3⟩:=ha.low i
    refine ⟨a1,?_,?_⟩
    · rw [a2]
      omega
    · rw [a2]
      exact Nat.one_le_pow _ _ (by decide)
  · rw [if_neg c]
    obtain ⟨s1,s2,s3⟩:=p3 (iQ hw ha (some i))
    refine ⟨s1,Nat.le_trans s3 (Nat.mul_le_mul_right _ ?_),Nat.le_trans s2 (fu hw ha (some i) fun c e=>by cases e; exact hi)⟩
    rw [List.length_map]
    have h1:(children ns (some i)).length≤ns.length:=by
      unfold Vbiraa.children
      have:=List.length_filter_le (fun j=>(reachAt ns j).parent == some i) (List.range ns.length)
      rw [List.length_range] at this
      exact this
    have h2:=hw.len
    omega
theorem uz (ns:Net):(Vbiraa.ends ns).Nodup:=by
  unfold Vbiraa.ends
  exact List.Pairwise.filter _ List.nodup_range
theorem qP (l:List Nat) (hl:∀ x∈l,x≤1000000):i7 ns (Vbiraa.askOf ns l):=by
  refine ⟨fun i=>?_⟩
  unfold Vbiraa.askOf
  split
  · rename_i k _
    refine ⟨dZ _,rfl,?_⟩
    show l.getD k 0≤1000000
    rw [List.getD_eq_getElem?_getD]
    cases e:l[k]? with
    | none=>exact Nat.zero_le _
    | some y=>exact hl y (List.mem_of_getElem? e)
  · exact ⟨dZ _,rfl,Nat.zero_le _⟩
theorem ask_at {l:List Nat} {k i x:Nat} (he:(Vbiraa.ends ns)[k]?=some i) (hx:l[k]?=some x):Vbiraa.askOf ns l i=whole x:=by
  unfold Vbiraa.askOf
  have hk:=(List.getElem?_eq_some_iff.mp he).1
  have hf:(Vbiraa.ends ns).findIdx? (fun j=>j == i)=some k:=by
    rw [List.findIdx?_eq_some_iff_getElem]
    have e1:=(List.getElem?_eq_some_iff.mp he).2
    refine ⟨hk,by rw [e1,beq_self_eq_true],fun j hj=>?_⟩
    rw [beq_iff_eq]
    intro z
    have hne:=List.pairwise_iff_getElem.mp (uz ns) j k (by omega) hk hj
    exact hne (z.trans e1.symm)
  rw [hf]
  show whole (l.getD k 0)=whole x
  rw [List.getD_eq_getElem?_getD,hx]
  rfl
end
end CN
namespace CN
open Vbiraa (Net Reach House Q mk whole reachAt way children delayOf partAt through)
def iK (h:House) (t:Nat) (l:List Nat) (w:Nat):Nat:=l.foldl (fun w k=>(cA (reachAt h.net k) w (ptAt h t k)).2.2) w
theorem nM (h:House) (t:Nat) (l:List Nat) (k w:Nat):iK h t (l++[k]) w=(cA (reachAt h.net k) (iK h t l w) (ptAt h t k)).2.2:=by
  unfold iK
  rw [List.foldl_append]
  rfl
theorem wn (h:House) (t k w:Nat):iK h t [k] w=(cA (reachAt h.net k) w (ptAt h t k)).2.2:=by
  unfold iK
  rw [List.foldl_cons,List.foldl_nil]
theorem gf (h:House) (i t:Nat):∀ (l:List (Nat × Nat)) (x:Option Q),Vbiraa.mostFrom h (l++[(i,t)]) x=some (through (reachAt h.net i) ((if partAt h i t=0 then some (whole 0) else (Vbiraa.mostFrom h l x).map fun q=>Vbiraa.mul q (mk (partAt h i t) 100)).getD (whole (reachAt h.net i).cap)))
  | [],x=>rfl
  | (j,u) :: l,x=>by
    rw [List.cons_append]
    exact gf h i t l _
theorem xF {r:Reach} {p:Nat}:cA r (r.cap * 100 * DD) p=(r.cap * DD * p,min (r.cap * DD * p) (r.cap * DD),(min (r.cap * DD * p) (r.cap * DD) - min (min (r.cap * DD * p) (r.cap * DD)) (r.soak * DD)) * (100 - r.loss) / 100):=by
  have e:r.cap * 100 * DD * p / 100=r.cap * DD * p:=by
    rw [show r.cap * 100 * DD * p=100 * (r.cap * DD * p) by grind,Nat.mul_div_cancel_left _ (by decide)]
  unfold cA
  rw [e]
theorem wd {r:Reach} {p:Nat}:(cA r (r.cap * 100 * DD) p).2.2=(min (r.cap * DD * p) (r.cap * DD) - min (min (r.cap * DD * p) (r.cap * DD)) (r.soak * DD)) * (100 - r.loss) / 100:=by
  rw [xF]
theorem x9 {h:House} (hw:WF h.net) (hP:∀ i t,i < h.net.length→partAt h i t≤100) (t:Nat):∀ (i:Nat),i < h.net.length→∀ a,(way h.net i)[0]?=some a→∀ m,m + 2 * depth h.net i=16 →
    100 ^ m∣iK h t (way h.net i) ((reachAt h.net a).cap * 100 * DD)∧Vbiraa.mostFrom h ((way h.net i).map fun j=>(j,t + above h.net j)) none=some (mk (iK h t (way h.net i) ((reachAt h.net a).cap * 100 * DD)) DD):=by
  intro i
  induction i using Nat.strongRecOn with
  | _ i ih =>
    intro hi a ha m hm
    have hd:=bi hw.par hi
    have hws:=dm hw.par hi
    cases e:(reachAt h.net i).parent with
    | none =>
      rw [e] at hd hws
      have hd:depth h.net i=1:=hd
      have hws:way h.net i=[i]:=hws
      rw [hws] at ha ⊢
      have ha:i=a:=Option.some.inj ha
      subst ha
      have dv:100 ^ 16∣min ((reachAt h.net i).cap * DD * ptAt h t i) ((reachAt h.net i).cap * DD):=by
        refine vq ?_ (lL (Nat.le_refl _) _)
        exact Nat.dvd_trans (lL (Nat.le_refl _) _) (Nat.dvd_mul_right _ _)
      have dv2:100 ^ 16∣min ((reachAt h.net i).cap * DD * ptAt h t i) ((reachAt h.net i).cap * DD) - (reachAt h.net i).soak * DD:=Nat.dvd_sub dv (lL (Nat.le_refl _) _)
      obtain ⟨q1,q2⟩:=iV (m:=15) (p:=100 - (reachAt h.net i).loss) dv2
      rw [wn,wd]
      refine ⟨?_,?_⟩
      · rw [mr]
        exact Nat.dvd_trans (Nat.pow_dvd_pow 100 (by omega)) q2
      · show Vbiraa.mostFrom h ([]++[(i,t + above h.net i)]) none=_
        rw [gf]
        show some (through _ ((if ptAt h t i=0 then some (whole 0) else none).getD _))=_
        by_cases c:ptAt h t i=0
        · rw [if_pos c]
          show some (through _ (whole 0))=_
          rw [←fI bw,eX _ 0 (by simp),c]
          simp
        · rw [if_neg c]
          show some (through _ (whole (reachAt h.net i).cap))=_
          have le:(reachAt h.net i).cap * DD≤(reachAt h.net i).cap * DD * ptAt h t i:=Nat.le_mul_of_pos_right _ (by omega)
          rw [Nat.min_eq_right le] at q1 ⊢
          rw [ij (n:=(reachAt h.net i).cap) bw,eX _ _ (by rw [Nat.min_self]; exact q1),Nat.min_self]
    | some p =>
      rw [e] at hd hws
      have hd:depth h.net i=depth h.net p + 1:=hd
      have hws:way h.net i=way h.net p++[i]:=hws
      have hpi:=hw.par i p hi e
      have hpl:p < h.net.length:=by omega
      have hne:0 < (way h.net p).length:=by
        have:=bi hw.par hpl
        have h1:1≤depth h.net p:=by
          rw [this]
          cases (reachAt h.net p).parent <;> simp
        exact h1
      have ha2:(way h.net p)[0]?=some a:=by
        rw [hws,List.getElem?_append_left hne] at ha
        exact ha
      obtain ⟨i1,i2⟩:=ih p hpi hpl a ha2 (m + 2) (by omega)
      rw [hws,nM]
      have hd8:=hw.deep i hi
      obtain ⟨a1,a2,a3,a4,a5⟩:=lm (r:=reachAt h.net i) (p:=ptAt h t i) (m:=m) (by omega) i1
      refine ⟨a5,?_⟩
      rw [List.map_append,List.map_cons,List.map_nil,gf,i2]
      show some (through _ ((if ptAt h t i=0 then some (whole 0) else some (Vbiraa.mul _ (mk (ptAt h t i) 100))).getD _))=_
      rw [mulD bw a1]
      have fin:through (reachAt h.net i) (mk (iK h t (way h.net p) ((reachAt h.net a).cap * 100 * DD) * ptAt h t i / 100) DD)=mk (cA (reachAt h.net i) (iK h t (way h.net p) ((reachAt h.net a).cap * 100 * DD)) (ptAt h t i)).2.2 DD:=eX _ _ a4
      by_cases c:ptAt h t i=0
      · rw [if_pos c]
        show some (through _ (whole 0))=_
        rw [←fin,c,Nat.mul_zero,Nat.zero_div,fI bw]
      · rw [if_neg c]
        exact congrArg some fin
theorem zq {h:House} (hw:WF h.net) (hP:∀ i t,i < h.net.length→partAt h i t≤100) (t:Nat) {i:Nat} (hi:i < h.net.length) {a:Nat} (ha:(way h.net i)[0]?=some a):Vbiraa.mostOut h i t=mk (iK h t (way h.net i) ((reachAt h.net a).cap * 100 * DD)) DD:=by
  have hd8:=hw.deep i hi
  obtain ⟨_,e⟩:=x9 hw hP t i hi a ha (16 - 2 * depth h.net i) (by omega)
  unfold Vbiraa.mostOut
  rw [lM hw.par t i hi,e]
  rfl
end CN
namespace CN
open PySem PySem.Spec PyProof.Rows L2
open AutoSeq1 (wpAny_loadPart')
abbrev kw1 (t:Tok):List (Str × Value):=[(Str.ofString "start",.int 1 t)]
theorem xi (a:Value) (t:Tok):checkTypeCall "enumerate" ⟨[a],kw1 t⟩=pure ():=by kernel_rfl
theorem x6 (a:Value) (t:Tok):checkBuiltinCall "enumerate.__new__" ⟨[.type "enumerate",a],kw1 t⟩=pure ():=by kernel_rfl
theorem yH (obj a:Value) (t:Tok):argsOk "object.__init__" ⟨[obj,a],kw1 t⟩:=by
  unfold argsOk
  kernel_rfl
theorem r9 (l:Addr) (items:Array Value) (n:Nat) (dct:Option Addr) (sl:Array (Option Value)) (t:Tok) :
    Meets (Builtin.«enumerate.__new__» ⟨[.type "enumerate",.ref l],kw1 t⟩) (fun _ R s=>s.heap.get? l=some { cls:=.type "list",dict:=dct,data:=.seq items n,slots:=sl } ∧
      R (.ok (.ret (.ref (s.heap.push { cls:=.type "list_iterator",data:=.fields #[.ref l,.int 0 0] }).objs.size)))
        { s with heap:=(s.heap.push { cls:=.type "list_iterator",data:=.fields #[.ref l,.int 0 0] }).push { cls:=.type "enumerate",data:=.fields #[.none,.bool false,.ref s.heap.objs.size,rawInt 1,.none,.none] } }) :=
  .of_wp fun prog w A R s h=>by
    obtain ⟨hp,g,d,tk,os⟩:=s
    obtain ⟨hl,h⟩:=h
    have hsub:=sub_enumerate
    have hL:Heap.IsList (Shared.heap ⟨hp,g,d,tk,os⟩) l items:=⟨_,hl,rfl,n,rfl⟩
    wp_walk using wpAny_loadPart' hl
    refine wpAny_stack_any fun st=>wpAny_pure ?_
    split
    · rename_i c _ _ _ _ _
      cases (c == Value.type "enumerate") <;> wp_walk using wpAny_loadPart' hl,wpAny_pyIter_list hL
      all_goals exact ⟨_,rfl,h⟩
    · wp_walk using wpAny_loadPart' hl,wpAny_pyIter_list hL
      exact ⟨_,rfl,h⟩
theorem uq (self a:Value) (t:Tok):Meets (Builtin.«object.__init__» ⟨[self,a],kw1 t⟩) (fun _ R s=>s.TypeIs self "enumerate" ∧ R (.ok (.ret .none)) s):=by
  refine Meets.of_wp fun prog w A R s hs=>?_
  obtain ⟨hT,hq⟩:=hs
  have hl:=PySem.F.called_enumerate.init.lookup
  have hm:=PySem.F.called_enumerate.made
  have hne:(some "enumerate.__new__" != some "object.__new__")=true:=by decide
  repeat (any_goals (first | assumption | wp_step))
  exact ⟨_,rfl,hq⟩
section
variable {prog:Program} {w:World} {A:Around} {E:Value→Shared→Prop} {s:Shared}
theorem tE {l:Addr} {t:Tok} {S:PySem.Spec} {Q:Value→Shared→Prop} (g:Meets (Builtin.«enumerate.__new__» ⟨[.type "enumerate",.ref l],kw1 t⟩) S)
    (h:S A.in1 (wants (fun obj s1=>s1.TypeIs obj "enumerate" ∧ Q obj s1) E) s):wpAny (model prog w) A (call (.type "enumerate") [.ref l] (kw1 t)) Q E s:=by
  have ft:=PySem.F.called_enumerate
  obtain ⟨c,tl,hmro⟩:=ft.mro
  have hmade:=ft.made
  have hsub:=ft.sub
  refine wpAny_call (codeAny_of_tree ?_); show wpAny _ _ (callAny (.type "enumerate") _) _ _ _
  refine wpAny_pure ⟨Code.quiet_builtin _ (by decide +kernel),codeAny_builtin F.entry_type_call ?_⟩; rw [Around.under_plain (weight_type_call_type "enumerate" [.ref l] (kw1 t)) (units_type_call_type "enumerate" [.ref l] (kw1 t))]
  have h1:=ft.notType
  have h2:=ft.canCreate
  have h3:=xi (.ref l) t
  repeat (any_goals (first | assumption | wp_step))
  refine codeAny_mono (codeAny_call_builtin ft.plain PySem.F.entry_enumerate_new (wpAny_of_eq (x6 (.ref l) t) (g prog w A.in1 _ s h))) fun r s1 hr=>?_
  cases r with
  | error e=>exact hr
  | ok fl =>
    cases fl with
    | ret obj =>
      obtain ⟨hT,hq⟩:=hr
      have hli:=ft.init.lookup
      have hbi:=ft.init.bind obj
      repeat (any_goals (first | assumption | wp_step))
      refine codeAny_mono (codeAny_call_builtin ft.init.plain F.entry_object_init (ft.init.check _ _ _ _ _ _ _ _ hT (yH obj (.ref l) t) (uq obj (.ref l) t prog w A.in1 (wants (fun r s2=>r=.none∧Q obj s2) E) s1 ⟨hT,rfl,hq⟩))) fun r2 s2 hr2=>?_
      cases r2 with
      | error e=>exact hr2
      | ok fl2 =>
        cases fl2 with
        | ret r =>
          obtain ⟨rfl,hq⟩:=hr2
          repeat (any_goals (first | assumption | wp_step))
        | _=>exact hr2.elim
    | _=>exact hr.elim
theorem uE {l:Addr} {items:Array Value} {t:Tok} {Q:Value→Shared→Prop} (hL:s.heap.IsList l items)
    (h:∀ h',IsEnum h' (s.heap.objs.size + 1) s.heap.objs.size 1 .none→h'.IsListIter s.heap.objs.size l 0→h'.objs.size=s.heap.objs.size + 2 →
      (∀ b o,s.heap.get? b=some o→h'.get? b=some o)→Q (.ref (s.heap.objs.size + 1)) { s with heap:=h' }) :
    wpAny (model prog w) A (call (.type "enumerate") [.ref l] (kw1 t)) Q E s:=by
  obtain ⟨⟨c,dct,dt,sl⟩,hl,hc,n,hd⟩:=hL
  have hc:c=.type "list" := hc
  have hd:dt=.seq items n:=hd
  subst hc hd
  refine tE (r9 l items n dct sl t) ⟨hl,?_⟩
  have hz:(s.heap.push { cls:=.type "list_iterator",data:=.fields #[.ref l,.int 0 0] }).objs.size=s.heap.objs.size + 1:=Heap.size_push ..
  show _∧_
  rw [hz]
  have he:IsEnum ((s.heap.push { cls:=.type "list_iterator",data:=.fields #[.ref l,.int 0 0] }).push { cls:=.type "enumerate",data:=.fields #[.none,.bool false,.ref s.heap.objs.size,rawInt 1,.none,.none] }) (s.heap.objs.size + 1) s.heap.objs.size 1 .none:=by
    have e:=Heap.get?_push_size (s.heap.push { cls:=.type "list_iterator",data:=.fields #[.ref l,.int 0 0] }) (o:={ cls:=.type "enumerate",data:=.fields #[.none,.bool false,.ref s.heap.objs.size,rawInt 1,.none,.none] }) rfl
    rw [hz] at e
    exact e
  exact ⟨⟨_,he,rfl⟩,h _ he ⟨_,Heap.get?_push_of_some _ (Heap.get?_push_size _ rfl),rfl,rfl⟩ (by rw [Heap.size_push,hz]) fun b o x=>Heap.get?_push_of_some _ (Heap.get?_push_of_some _ x)⟩
end
end CN
namespace CN
open PySem PySem.Spec PyProof.Rows L2
theorem draws1 {prog:Program} {w:World} {A:Around} (hh:A.handled=none) (it l:Addr) (hne:l≠it) (items:Array Value) :
    Draws prog w A it [it,l] (items.size + 1) (fun i v=>items[i - 1]?=some v) (fun i h=>1≤i∧h.IsListIter it l (i - 1)∧h.IsList l items) where
  live:=fun _ _ st=>let ⟨o,ho,_⟩:=st.2.1; ⟨o,ho⟩
  frame:=fun _ _ _ st hk=>⟨st.1,st.2.1.at fun o e=>hk it (by simp) o e,st.2.2.at fun o e=>hk l (by simp) o e⟩
  item:=fun i s Q E hi st hQ=>by
    have h1:=st.1
    have hlt:i - 1 < items.size:=by omega
    refine wpAny_nextOf_list_item st.2.1 st.2.2 (x:=items[i - 1]) (by simp [hlt]) fun h' hit' hs'=>?_
    refine hQ _ h' s.toks (by simp [hlt]) ⟨by omega,?_,st.2.2.extBut hs'.extBut hne⟩ hs'
    rw [show i + 1 - 1=i - 1 + 1 by omega]
    exact hit'
  done:=fun s Q E st hE=>wpAny_nextOf_list_end hh st.2.1 st.2.2 (by simp) hE
def Ite1 (K:PySem.W.Frag) (a:Addr):It :=
  ⟨fun i H=>∃ (xs:List V) (x:V),SqL K H a xs∧xs[i]?=some x,fun i H v H'=>∃ T x,v=.ref T∧H T=none∧H'=upd H T (.tup [.int ((i + 1:Nat):Int),x])∧∀ xs,SqL K H a xs→xs[i]?=some x,fun i H=>∃ xs:List V,SqL K H a xs∧xs.length≤i⟩
theorem tH {P:Program} {w:World} {K:PySem.W.Frag} {elts:List Expr} {kk:Nat} {tpos:Pos} (a e it:Addr) :
    Turn P w K (.Tuple elts kk tpos) (Ite1 K a) [e,it] e (fun i h=>(∃ old,IsEnum h e it ((i + 1:Nat):Int) old)∧h.IsListIter it a i∧e≠it∧a≠it∧a≠e) where
  mem:=by simp
  obj:=fun i h st b hb=>by
    obtain ⟨⟨old,he⟩,⟨o,ho,hc,hd⟩,_⟩:=st
    have e':b=e∨b=it:=by simpa using hb
    rcases e' with z | z
    · rw [z]; exact ⟨_,he,fun v q=>nomatch q⟩
    · rw [z]; exact ⟨o,ho,fun v q=>by rw [hd] at q; cases q⟩
  keep:=fun i h h' st k=>let ⟨⟨old,he⟩,hi,hne⟩:=st; ⟨⟨old,k e (by simp) _ he⟩,hi.at fun o q=>k it (by simp) o q,hne⟩
  item:=by
    intro X hP hw hK hc i pins s σ H E I hf st hg
    subst hP hw hK
    obtain ⟨⟨old,he⟩,hit,hne,hna,hnb⟩:=st
    obtain ⟨xs,x,hq,hx⟩:=hg
    obtain ⟨its,rv,p,hz⟩:=I.list hq
    obtain ⟨u,hu,ru⟩:=rv.get hx
    have hil:i < its.toArray.size:=by
      rw [List.size_toArray]
      exact (List.getElem?_eq_some_iff.mp hu).1
    have hel:e < s.heap.objs.size:=Heap.lt_size he
    have hil2:it < s.heap.objs.size:=by obtain ⟨_,q,_⟩:=hit; exact Heap.lt_size q
    refine wpAny_pyNext_enum_itemD (draws1 (A:=X.A.in1) (I.ok.hd hc) it a hna its.toArray) he ⟨by omega,hit,p.isList⟩ (by omega) hne (by simp [hne,Ne.symm hnb]) fun u' h' tk hu' ho hit' hT hsz hk=>?_
    have eu:u'=u:=by
      have z:its.toArray[i]?=some u':=hu'
      rw [show its.toArray[i]?=some u by simpa using hu] at z
      exact (Option.some.inj z).symm
    subst eu
    refine ⟨_,rfl,wpAny_letOwnedTupleGo_enum (s:={ s with heap:=h',toks:=tk + 1 }) ho fun h'' he' sb=>?_⟩
    have hT2:h''.get? s.heap.objs.size=some { cls:=.type "tuple",data:=.seq #[.int ((i + 1:Nat):Int) tk,u'] }:=(sb.2 _ (Nat.ne_of_gt hel)).trans hT
    have new:bN X.prog X.w (upd H s.heap.objs.size (.tup [.int ((i + 1:Nat):Int),x])) h'' s.heap.objs.size (.tup [.int ((i + 1:Nat):Int),x]) :=
      ⟨by show 2≤sizeLine; decide,[.int ((i + 1:Nat):Int) tk,u'],.cons ⟨_,rfl⟩ (.cons ru .nil),⟨_,hT2,rfl,_,rfl⟩⟩
    have I1:Inv X pins σ (upd H s.heap.objs.size (.tup [.int ((i + 1:Nat):Int),x])) { s with heap:=h'',toks:=tk + 1 } :=
      I.turnedNew (ch:=[e,it]) (fun b ob hb q=>(sb.2 b (fun z=>hb (by simp [z]))).trans (hk b ob (fun z=>hb (by simp [z])) (fun z=>hb (by simp [z])) q)) hf (Nat.le_refl _) new
    refine ⟨.ref s.heap.objs.size,_,I1,rfl,⟨_,x,rfl,I.hok.fresh (Nat.le_refl _),rfl,fun ys hy=>by rw [I.list_inj hy hq]; exact hx⟩,⟨⟨u',?_⟩,hit'.2.1.at fun o q=>(sb.2 it (Ne.symm hne)).trans q,hne,hna,hnb⟩,fun b hb=>?_⟩
    · have e1:((i + 1 + 1:Nat):Int)=((i + 1:Nat):Int) + 1:=by omega
      rw [e1]; exact he'
    · have hb':b < s.heap.objs.size:=by
        have e':b=e∨b=it:=by simpa using hb
        rcases e' with z | z
        · rw [z]; exact hel
        · rw [z]; exact hil2
      rw [ai (Nat.ne_of_lt hb')]
      exact (hf b hb).1
  done:=by
    intro X hP hw hK hc i pins s σ H E I hf st hg
    subst hP hw hK
    obtain ⟨⟨old,he⟩,hit,hne,hna,hnb⟩:=st
    obtain ⟨xs,hq,hx⟩:=hg
    obtain ⟨its,rv,p,hz⟩:=I.list hq
    obtain ⟨f0,f1,f2,f3,f4,f5⟩:=hf it (by simp)
    have hl:=rv.length
    have D:Draws X.prog X.w X.A.in1 it [it,a] (i + 1) (fun _ _=>True) (fun j h=>j=i + 1∧h.IsListIter it a i∧h.IsList a its.toArray) :=
      ⟨fun _ _ st=>let ⟨o,ho,_⟩:=st.2.1; ⟨o,ho⟩,fun _ _ _ st hk=>⟨st.1,st.2.1.at fun o e=>hk it (by simp) o e,st.2.2.at fun o e=>hk a (by simp) o e⟩,fun j s Q E hj st hQ=>absurd st.1 (Nat.ne_of_lt hj),
        fun s Q E st hE=>wpAny_nextOf_list_end (I.ok.hd hc) st.2.1 st.2.2 (by simp; omega) hE⟩
    exact wpAny_pyNext_enum_endD D he ⟨rfl,hit,p.isList⟩ fun h' eb=>⟨rfl,I.turned (t':=s.toks) (fun b o hb q=>eb b o hb q) f0 f1 f3 f4 f5⟩
  self:=fun A i s Q E st h=>let ⟨⟨_,he⟩,_⟩:=st; wpAny_pyIter_enum he h
def iEnum1 (K:PySem.W.Frag) (ta:TA):TI:=fun σ H R=>ta σ H fun vs H1=>∃ a xs,vs=[.ref a]∧SqL K H1 a xs∧R (Ite1 K a) H1
section
variable {M:Model} {A:Around} {E:Value→Shared→Prop} {s:Shared} {env:Env}
theorem qE {pos:Pos} {T:String} {e:Expr} {rest:List Expr} {kws:List Keyword} {Q:Value→Shared→Prop}
    (h:wpAny M A (spliced (backTo pos (starEach (e :: rest) env))) (fun vs s1=>wpAny M A (evalAll ((backToKw pos (keywordEach kws env)).map (·.2))) (fun kvs s2=>wpAny M A (call (.type T) vs (((backToKw pos (keywordEach kws env)).filterMap (·.1)).zip kvs)) Q E s2) E s1) E s)
    (he:backTo pos (starEach (e :: rest) env)=(false,eval e env) :: backTo pos (starEach rest env):=by rfl) (hplain:(backTo pos (starEach (e :: rest) env)).any (·.1)=false:=by rfl)
    (hall:(backToKw pos (keywordEach kws env)).all (·.1.isSome)=true:=by rfl) (hkw:(backToKw pos (keywordEach kws env)).any (·.1.isNone)=false:=by rfl) :
    wpAny M A (callWith pos (.type T) [] (backTo pos (starEach (e :: rest) env)) (backToKw pos (keywordEach kws env))) Q E s:=by
  unfold callWith
  rw [he] at h hplain ⊢
  refine wpAny_bind (wpAny_holding (wpAny_mono (evalArgs_kwB (f:=.type T) (Q:=fun a s1=>wpAny M A (call (.type T) ([]++a.pos) a.kw) Q E s1) hall h) (fun a s1 h1=>wpAny_bind (wpAny_standAt ?_)) fun _ _ x=>x))
  simp only [hplain,hkw,Bool.or_false]
  refine wpAny_bind (wpAny_pure ?_)
  exact wpAny_bind (wpAny_mono h1 (fun r s2 hr=>wpAny_bind (wpAny_holding (wpAny_point (wpAny_pure hr)))) fun _ _ x=>x)
end
theorem xO {X:Cx} {e:Expr} {ta:TA} {p pos tpos kp vp:Pos} {j:Nat} {elts:List Expr} {kk:Nat} (hg:Gl X "enumerate") (hm:X.mg "enumerate" = none) (ha:PA X [e] ta) (hs:starEach [e] X.env=[(false,eval e X.env)]:=by rfl) :
    PI X (.Tuple elts kk tpos) (.Call (.Name "enumerate" p) [e] [⟨some "start",.Constant (.int 1) j vp,kp⟩] pos) (iEnum1 X.K ta):=by
  intro pins s σ H R I h
  show wpAny _ _ (eval (.Name "enumerate" p) X.env >>= fun f=>callWith pos f [] (backTo pos (starEach [e] X.env)) (backToKw pos (keywordEach [⟨some "start",.Constant (.int 1) j vp,kp⟩] X.env))) _ _ _
  refine wpAny_bind (g6 I hg hm boot_enumerate (qE (thn (ha pos pins s σ H _ I h) fun us s1 ⟨vs,H1,I1,r1,q1⟩=>?_) (by rw [hs]; rfl) (by rw [hs]; rfl)))
  refine kws_cons (wpAny_Constant_int (kws_nil ?_))
  obtain ⟨a,xs,ex,hq,q⟩:=q1
  subst ex
  have I1':=I1.tok (s1.toks + 1)
  cases r1 with
  | cons r rr =>
    cases rr
    cases r
    obtain ⟨its,rv,p',hz⟩:=I1.list hq
    have hal:a < s1.heap.objs.size:=by obtain ⟨_,_,e,_⟩:=p'; exact Heap.lt_size e
    refine uE (t:=s1.toks) p'.isList fun h' he hit hsz hk=>wpAny_pyIter_enum he ?_
    have I2:Inv X pins σ H1 { s1 with heap:=h',toks:=s1.toks + 1 }:=I1.kept hk
    refine ⟨s1.heap.objs.size + 1,[s1.heap.objs.size + 1,s1.heap.objs.size],_,_,H1,rfl,I2,tH a (s1.heap.objs.size + 1) s1.heap.objs.size,⟨⟨.none,he⟩,hit,Nat.succ_ne_self _,Nat.ne_of_lt hal,Nat.ne_of_lt (Nat.lt_succ_of_lt hal)⟩,fun b hb=>?_,q⟩
    have e':b=s1.heap.objs.size + 1∨b=s1.heap.objs.size:=by simpa using hb
    have hle:s1.heap.objs.size≤b:=by
      rcases e' with z | z
      · rw [z]; exact Nat.le_add_right _ _
      · rw [z]; exact Nat.le_refl _
    exact I1.fpOk hle (I1.hok.fresh hle)
end CN
namespace CN
open PySem PySem.Spec PyProof.Rows L2
theorem ui:typeLookup (.type "list_reverseiterator") "__len__" = pure none:=by rw [typeLookup_type,builtinLookup_eq_fast]; kernel_rfl
theorem ye:typeLookup (.type "list_reverseiterator") "__length_hint__" = pure (some (.builtin "list_reverseiterator.__length_hint__")):=by rw [typeLookup_type,builtinLookup_eq_fast]; kernel_rfl
section
variable {prog:Program} {w:World} {A:Around} {E:Value→Shared→Prop} {s:Shared}
theorem yq {it l:Addr} {i:Int} {Q:Bool→Shared→Prop} (hit:s.heap.IsRevIter it l i) (h:Q false s):wpAny (model prog w) A (Builtin.List.listLengthHint (.ref it)) Q E s:=by
  unfold Builtin.List.listLengthHint
  refine wpAny_bind (wpAny_specialOf hit.typeIs ui ?_)
  refine wpAny_bind (m:=specialOf _ _) (wpAny_specialOf hit.typeIs ye ?_)
  generalize hid:("list_reverseiterator.__length_hint__" : String)=id0
  wp_delta
  rw [show splitId id0=some ("list_reverseiterator", "__length_hint__") from by subst hid; decide +kernel]
  subst hid
  refine wpAny_bind (wpAny_isInstance (T := "list_reverseiterator") (b:=true) hit.typeIs (by rw [isSubtype_type]; kernel_rfl) ?_)
  refine wpAny_ite_split (fun hab=>absurd hab (by decide)) (fun _=>?_)
  refine wpAny_ite_split (fun _=>?_) (fun hab=>absurd (by decide +kernel) hab)
  exact wpAny_ite_split (fun hab=>absurd hab (by decide +kernel)) (fun _=>wpAny_pure h)
theorem yf {it l:Addr} {items:Array Value} {Q:Value→Shared→Prop} (hh:A.handled=none) (hit:s.heap.IsRevIter it l ((items.size:Int) - 1)) (hl:s.heap.IsList l items) (hne:l≠it) (hn:items.size≤sizeLine)
    (h:∀ (h':Heap) (tk:Nat) (acc:Array Value) (c:Nat),(∀ b o,b≠it→s.heap.get? b=some o→h'.get? b=some o)→h'.get? s.heap.objs.size=some { cls:=.type "list",dict:=none,data:=.seq acc c,slots:=#[] }→ItemsOf (fun i v=>items[items.size - 1 - i]?=some v) acc items.size →
      Q (.ref s.heap.objs.size) { s with heap:=h',toks:=tk }):wpAny (model prog w) A (call (.type "list") [.ref it]) Q E s:=by
  have hitl:it < s.heap.objs.size:=by obtain ⟨o,ho,_⟩:=hit; exact Heap.lt_size ho
  have hll:l < s.heap.objs.size:=by obtain ⟨o,ho,_⟩:=hl; exact Heap.lt_size ho
  have hSf:s.heap.objs.size∉[it,l]:=fun m=>by
    simp only [List.mem_cons,List.not_mem_nil,or_false] at m
    rcases m with m | m
    · exact absurd m (Nat.ne_of_gt hitl)
    · exact absurd m (Nat.ne_of_gt hll)
  have hSi:s.heap.objs.size≠it:=Nat.ne_of_gt hitl
  refine callType_codes (Q₁:=fun obj s1=>obj=.ref s.heap.objs.size∧s1={ s with heap:=s.heap.push { cls:=.type "list",data:=.seq #[] } }) F.called_list (F.typeCall_list_1 _) F.entry_list_init (code_list_new _ ⟨rfl,rfl⟩) fun obj s1 h1=>?_
  obtain ⟨rfl,rfl⟩:=h1
  have hS:(s.heap.push { cls:=.type "list",data:=.seq #[] }).get? s.heap.objs.size=some { cls:=.type "list",data:=.seq #[] }:=Heap.get?_push_size _ rfl
  refine ⟨⟨_,hS,rfl⟩,F.args_list_init_2 _ _,?_⟩
  show wpAny _ _ (do let old ← Builtin.List.listItems (.ref s.heap.objs.size); Builtin.List.listUpdate (.ref s.heap.objs.size) (fun _=>#[]); letGo old.toList.reverse; Builtin.List.listExtendWith (.ref s.heap.objs.size) (.ref it) .none) _ _ _
  refine wpAny_bind ?_
  unfold Builtin.List.listItems
  refine wpAny_bind (wpAny_seqItems hS rfl (wpAny_pure ?_)); show wpAny _ _ (updateSeq s.heap.objs.size (fun _=>#[]) >>= fun _=>letGo (#[]:Array Value).toList.reverse >>= fun _=>Builtin.List.listExtendWith (.ref s.heap.objs.size) (.ref it) .none) _ _ _
  refine wpAny_bind (wpAny_updateSeq hS rfl ?_)
  have hS2:=Heap.get?_update_self (Obj.mapSeq (fun _=>(#[]:Array Value))) hS rfl
  generalize hg:(s.heap.push { cls:=.type "list",data:=.seq #[] }).update s.heap.objs.size (Obj.mapSeq (fun _=>(#[]:Array Value)))=hp at hS2
  have oth:∀ b o,s.heap.get? b=some o→hp.get? b=some o:=fun b o e=>by
    rw [←hg]
    exact (Heap.get?_update_other _ _ (Nat.ne_of_gt (Heap.lt_size e))).trans (Heap.get?_push_of_some _ e)
  have hit2:hp.IsRevIter it l ((items.size:Int) - 1):=hit.at fun o e=>oth _ _ e
  have hl2:hp.IsList l items:=hl.at fun o e=>oth _ _ e
  refine wpAny_bind (wpAny_letGo ?_)
  unfold Builtin.List.listExtendWith
  refine wpAny_bind (wpAny_typeOf (s:={ s with heap:=hp }) hit2.typeIs ?_)
  have e1:Builtin.List.listSameRef (.ref s.heap.objs.size) (.ref it)=false:=by simp [Builtin.List.listSameRef,hSi]
  have e2:(Value.type "list_reverseiterator" == Value.type "list")=false:=by decide
  have e3:(Value.type "list_reverseiterator" == Value.type "tuple")=false:=by decide
  simp only [e1,e2,e3,Bool.or_false,Bool.false_eq_true,if_false]
  refine wpAny_bind (wpAny_pyIter_revIter (s:={ s with heap:=hp }) hit2 ?_)
  refine wpAny_bind (wpAny_holding (yq (s:={ s with heap:=hp }) hit2 ?_))
  refine wpAny_ite_split (fun hab=>absurd hab (by decide +kernel)) (fun _=>?_)
  have W:=(Walks.listRev (prog:=prog) (w:=w) (A:=A.in1.in1) hh it l hne items).toS
  refine wpAny_pure ⟨plainId_quiet F.plain_extend_loop _,codeAny_extend_loopS W hn s.heap.objs.size hSf .none items.size 0 { s with heap:=hp } #[] _ rfl (Nat.zero_le _) ⟨Nat.zero_le _,?_,hl2⟩ hS2 (ItemsOf.nil _) fun s' acc c hm hS' hacc=>⟨rfl,?_⟩⟩
  · rw [show (items.size:Int) - 1 - ((0:Nat):Int)=(items.size:Int) - 1 by omega]
    exact hit2
  · rw [Moved.eq_with hm]
    refine h s'.heap s'.toks acc c (fun b o hb e=>hm.heap b o (fun m=>?_) (oth b o e)) hS' hacc
    have hbl:=Heap.lt_size e
    simp only [List.mem_cons,List.not_mem_nil,or_false] at m
    rcases m with m | m
    · exact absurd m (Nat.ne_of_lt hbl)
    · exact hb m
end
section
variable {X:Cx}
def tRev (K:PySem.W.Frag) (t:TE):TE:=fun σ H Q=>t σ H fun x H1=>∃ a xs,x=.ref a∧SqL K H1 a xs∧∀ p,H1 p=none→Q (.ref p) (upd H1 p (.lst xs.reverse))
theorem xa:∀ {xs:List V} {its acc:List Value},Vals xs its→acc.length=its.length→(∀ (j:Nat) v,acc[j]?=some v→its[its.length - 1 - j]?=some v)→Vals xs.reverse acc:=fun {xs its acc} r hl h=>by
  have e:acc=its.reverse:=by
    refine List.ext_getElem? fun j=>?_
    by_cases c:j < its.length
    · obtain ⟨v,hv⟩:∃ v,acc[j]?=some v:=⟨_,List.getElem?_eq_getElem (by omega)⟩
      rw [hv,List.getElem?_reverse c,h j v hv]
    · rw [List.getElem?_eq_none (by omega),List.getElem?_eq_none (by rw [List.length_reverse]; omega)]
  rw [e]
  exact r.reverse
theorem lP {e:Expr} {te:TE} {p1 p2 pos1 pos2:Pos} (hc:X.calm=true) (hg1:Gl X "list") (hm1:X.mg "list" = none) (hb1:bootBuiltins "list" = some (.type "list")) (hg:Gl X "reversed") (hm:X.mg "reversed" = none) (he:PE X e te) (hs:starEach [e] X.env=[(false,eval e X.env)]:=by rfl)
    (hs2:starEach [Expr.Call (.Name "reversed" p2) [e] [] pos2] X.env=[(false,eval (.Call (.Name "reversed" p2) [e] [] pos2) X.env)]:=by rfl):PE X (.Call (.Name "list" p1) [.Call (.Name "reversed" p2) [e] [] pos2] [] pos1) (tRev X.K te):=by
  intro pins s σ H Q I h
  refine Call_ (g6 I hg1 hm1 hb1 (PyProof.Rows.callWith_type1 ?_ hs2 rfl))
  rw [hs2]
  refine Calls.spliced_cons (Call_ (g6 I hg hm i3 (PyProof.Rows.callWith_type1 ?_ hs rfl)))
  rw [hs]
  refine Calls.spliced_cons (thn (he pins s σ H _ I h) fun u s1 ⟨x,H1,I1,r1,q1⟩=>Calls.spliced_nil ?_)
  obtain ⟨a,xs,rfl,hq,q⟩:=q1
  cases r1
  obtain ⟨its,rv,p',hz⟩:=I1.list hq
  have hl:=rv.length
  have hal:a < s1.heap.objs.size:=by obtain ⟨_,_,e,_⟩:=p'; exact Heap.lt_size e
  refine call_reversed_list p'.isList (Calls.spliced_nil ?_)
  have hnew:∀ b o,s1.heap.get? b=some o→(s1.heap.push (revObj a ((its.toArray.size:Int) - 1))).get? b=some o:=fun b o e=>Heap.get?_push_of_some _ e
  refine yf (s:={ s1 with heap:=s1.heap.push (revObj a ((its.toArray.size:Int) - 1)) }) (it:=s1.heap.objs.size) (l:=a) (items:=its.toArray) (I1.ok.hd hc) ⟨_,Heap.get?_push_size _ rfl,rfl,rfl⟩ (p'.isList.at fun o e=>hnew _ _ e) (Nat.ne_of_lt hal) (by rw [List.size_toArray]; omega) fun h' tk acc c hk hS hacc=>?_
  have hsz:(s1.heap.push (revObj a ((its.toArray.size:Int) - 1))).objs.size=s1.heap.objs.size + 1:=Heap.size_push ..
  have hk2:∀ b o,s1.heap.get? b=some o→h'.get? b=some o:=fun b o e=>hk b o (Nat.ne_of_lt (Heap.lt_size e)) (hnew b o e)
  have hle:s1.heap.objs.size≤(s1.heap.push (revObj a ((its.toArray.size:Int) - 1))).objs.size:=by rw [hsz]; exact Nat.le_succ _
  have hvals:Vals xs.reverse acc.toList:=xa rv (by rw [Array.length_toList,hacc.1,List.size_toArray]) fun j v hv=>by
    have:=hacc.2 j v (by simpa using hv)
    simpa using this
  refine ⟨.ref _,upd H1 _ (.lst xs.reverse),I1.laid (o:=.lst xs.reverse) hk2 hle ?_,rfl,q _ (I1.hok.fresh hle)⟩
  exact ⟨by rw [List.length_reverse]; exact hz,acc.toList,c,hvals,by simpa using hS⟩
end
end CN
namespace CN
open PySem PySem.Spec PyProof.Rows L2
structure Df (K:PySem.W.Frag) (mg:Str→Option Value) (x:Str) (st:Stmt) where
  f:Addr
  fd:FuncData
  F:Fun K x x st f fd
  m:mg x=some (.ref f)
structure Md (K:PySem.W.Frag) (x qual:Str) (st:Stmt) where
  f:Addr
  fd:FuncData
  F:Fun K x qual st f fd
def GI (mg:Str→Option Value) (x:Str) (n:Int):Prop:=∃ t,mg x=some (.int n t)
def GS (mg:Str→Option Value) (x:Str) (n:Str):Prop:=∃ t,mg x=some (.str n t)
structure GTup (K:PySem.W.Frag) (mg:Str→Option Value) (x:Str) (xs:List V) where
  a:Addr
  m:mg x=some (.ref a)
  is:∀ H:Hp,SqT K H a xs
section
variable {X:Cx}
theorem a9 {x:Str} {n:Int} {pos:Pos} (h:GI X.mg x n) (hg:Gl X x:=by rfl) (hd:(x == ("__debug__" : Str))=false:=by decide):PE X (.Name x pos) (tC (.int n)) :=
  let ⟨t,e⟩:=h
  qh hg e ⟨t,rfl⟩ hd
theorem pe_gs {x:Str} {n:Str} {pos:Pos} (h:GS X.mg x n) (hg:Gl X x:=by rfl) (hd:(x == ("__debug__" : Str))=false:=by decide):PE X (.Name x pos) (tC (.str n)) :=
  let ⟨t,e⟩:=h
  qh hg e ⟨t,rfl⟩ hd
theorem kn {x:Str} {a:Addr} {pos:Pos} (h:X.mg x=some (.ref a)) (hg:Gl X x:=by rfl) (hd:(x == ("__debug__" : Str))=false:=by decide):PE X (.Name x pos) (tC (.ref a)):=qh hg h rfl hd
theorem aC {x:Str} {st:Stmt} {k:Nat} {ps:List Str} {sp:Sp} {e:Expr} {es:List Expr} {t:TA} {p pos:Pos} (D:Df X.K X.mg x st) (G:FnOk X.prog X.w X.K X.mg X.base CX0 k D.f D.fd ps sp) (hr:Room k X.A) (hb:aJ X.K D.fd ps []) (ha:PA X (e :: es) t)
    (hg:Gl X x:=by rfl) (hdb:(x == ("__debug__" : Str))=false:=by decide) (he:starEach (e :: es) X.env=(false,eval e X.env) :: starEach es X.env:=by rfl) (hpl:(backTo pos (starEach es X.env)).any (·.1)=false:=by rfl) :
    PE X (.Call (.Name x p) (e :: es) [] pos) (tCall sp [] E0 t):=zg G hr hg D.m D.F.kp hb .nil lQ ha hdb he hpl
theorem lI:bootBuiltins "sum" = some (.builtin "sum"):=by decide +kernel
theorem ji:bootBuiltins "all" = some (.builtin "all"):=by decide +kernel
theorem pO:bootBuiltins "min" = some (.builtin "min"):=by decide +kernel
theorem pP:bootBuiltins "int" = some (.type "int"):=by decide +kernel
theorem hX:bootBuiltins "list" = some (.type "list"):=by decide +kernel
theorem gE:bootBuiltins "str" = some (.type "str"):=by decide +kernel
theorem wM:bootBuiltins "ord" = some (.builtin "ord"):=by decide +kernel
section
variable {K:PySem.W.Frag}
theorem ak (hK:X.K=K:=by rfl):IxR X (rIxL K):=by
  subst hK
  exact zy
theorem aS (hK:X.K=K:=by rfl):IxR X (rIxT K):=by
  subst hK
  exact ix_tup
theorem am {e:Expr} {f:Str} {pos:Pos} {ta:TE} (he:PE X e ta) (hb:attributeBase e f X.env (eval e X.env)=eval e X.env) (hK:X.K=K:=by rfl):PE X (.Attribute e f pos) (tFld K ta f):=by
  subst hK
  exact pe_fld he hb
theorem ax (hK:X.K=K:=by rfl):fR X (.builtin "len") (fun xs H Q=>∃ p ys,xs=[.ref p]∧(SqL K H p ys∨SqT K H p ys)∧Q (.int ys.length) H):=by
  subst hK
  exact qD
theorem qA (hc:X.calm=true) (hK:X.K=K:=by rfl):fR X (.builtin "sum") (rSum K):=by
  subst hK
  exact cr_sum hc
theorem mB (hc:X.calm=true) (hK:X.K=K:=by rfl):fR X (.builtin "all") (rAll K):=by
  subst hK
  exact cr_all hc
theorem jP (hK:X.K=K:=by rfl):OpR X (compareOp .In) (rIn K false):=by
  subst hK
  exact we
theorem d7 {es:List Expr} {k:Nat} {t:TGs} {n:Nat} {pos:Pos} (hc:X.calm=true) (h:PGs X es t) (hn:(assignEach es X.env).length=n:=by rfl) (hst:(assignEach es X.env).findIdx? (·.1)=none:=by rfl) (hK:X.K=K:=by rfl):PG X (.Tuple es k pos) (gTup K n t):=by
  subst hK
  exact pg_tup hc h hn hst
theorem aL {a:Expr} {ta:TE} (ha:PE X a ta) (he:∀ whole,isTrue a X.env whole=(do let v ← whole; standAt a.pos; holding [v] (truthy v))) (hK:X.K=K:=by rfl) :
    PT X a (fun σ H Q=>ta σ H fun x H'=>∃ k,TruV K x H' k∧Q k H'):=by
  subst hK
  exact xK ha he
end
def yK (i j:Int):Prop:=0 < j∧j < 2 ^ 1000
theorem kx:OpR X (binaryOp .FloorDiv) (rI yK fun i j=>.int (i / j)):=opI fun i j _ _ _ _ _ hc q=>by
  have h1:(0:Int) < j:=hc.1
  have h2:j < 2 ^ 1000:=hc.2
  refine floordiv_int (by omega) (by rw [Int.fdiv_eq_ediv_of_nonneg i (by omega)]; exact q) (.inl (PyProof.noPylong_of_log2 ?_))
  have h3:j.natAbs < 2 ^ 1000:=by
    have:((2 ^ 1000:Nat):Int)=2 ^ 1000:=by norm_cast
    omega
  have h4:j.natAbs.log2 < 1000:=(Nat.log2_lt (by omega)).mpr h3
  omega
def pZ (i j:Int):Prop:=i.natAbs < 2 ^ 1000∧j.natAbs < 2 ^ 1000
theorem cY:OpR X (binaryOp .Mult) (rI pZ fun i j=>.int (i * j)):=opI fun i j _ _ _ _ _ hc q=>by
  refine mul_int q ?_
  have ha:=PyProof.Rows.intBits_le hc.1
  have hb:=PyProof.Rows.intBits_le hc.2
  have h':Builtin.Int.intTooBig (Builtin.Int.intBits i + Builtin.Int.intBits j)=false:=by
    unfold Builtin.Int.intTooBig bitsLine
    exact decide_eq_false (by omega)
  unfold IntMulOk
  rw [h']
  simp
theorem yz (i:Int):yK i 100:=⟨by decide,by decide⟩
theorem aR {H H':Hp} {a:Addr} {o:HO} (s:Same H H') (h:H a=none):Same H (upd H' a o):=fun b q e=>by
  rw [ai (aq e h)]
  exact s b q e
theorem ah {H:Hp} {a:Addr} {o:HO} (h:H a=none):Same H (upd H a o):=aR (Same.refl H) h
end
def top (i:Nat):Stmt:=PySem.Challenge.pw_channelnet_s01_answers.main.body.getD i (.Pass ⟨0,0,0,0⟩)
abbrev dR:Stmt:=top 1
theorem bq:az ["a", "b", "greater", "less", "rest"] ["a", "b"] (aj dR):=⟨rfl,rfl,rfl,by decide +kernel,rfl,by decide +kernel,by decide +kernel⟩
abbrev m9:Stmt:=top 2
theorem pb:az ["top", "bottom", "divisor"] ["top", "bottom"] (aj m9):=⟨rfl,rfl,rfl,by decide +kernel,rfl,by decide +kernel,by decide +kernel⟩
abbrev qa:Stmt:=top 3
theorem gr:az ["fractions", "top", "bottom", "fraction"] ["fractions"] (aj qa):=⟨rfl,rfl,rfl,by decide +kernel,rfl,by decide +kernel,by decide +kernel⟩
abbrev gS:Stmt:=qw (top 7) 0
theorem oH:az ["self", "name", "begins", "above", "depth", "numbers"] ["self", "name", "begins", "above", "depth", "numbers"] (aj gS):=⟨rfl,rfl,rfl,by decide +kernel,rfl,by decide +kernel,by decide +kernel⟩
abbrev jN:Stmt:=qw (top 8) 0
theorem rn:az ["self"] ["self"] (aj jN):=⟨rfl,rfl,rfl,by decide +kernel,rfl,by decide +kernel,by decide +kernel⟩
abbrev iz:Stmt:=qw (top 8) 1
theorem p9:az ["self", "reaches"] ["self", "reaches"] (aj iz):=⟨rfl,rfl,rfl,by decide +kernel,rfl,by decide +kernel,by decide +kernel⟩
abbrev jF:Stmt:=top 9
theorem lN:az ["reach", "cap", "numbers"] ["reach", "cap"] (aj jF):=⟨rfl,rfl,rfl,by decide +kernel,rfl,by decide +kernel,by decide +kernel⟩
abbrev i9:Stmt:=top 10
theorem fb:az ["net", "i", "cap", "other", "k", "reach"] ["net", "i", "cap"] (aj i9):=⟨rfl,rfl,rfl,by decide +kernel,rfl,by decide +kernel,by decide +kernel⟩
abbrev mX:Stmt:=top 11
theorem i8:az ["reaches", "i", "upward", "at"] ["reaches", "i"] (aj mX):=⟨rfl,rfl,rfl,by decide +kernel,rfl,by decide +kernel,by decide +kernel⟩
abbrev dD:Stmt:=top 12
theorem eA:az ["reaches", "place", "k"] ["reaches", "place"] (aj dD):=⟨rfl,rfl,rfl,by decide +kernel,rfl,by decide +kernel,by decide +kernel⟩
abbrev ja:Stmt:=top 13
theorem jC:az ["reaches", "k"] ["reaches"] (aj ja):=⟨rfl,rfl,rfl,by decide +kernel,rfl,by decide +kernel,by decide +kernel⟩
abbrev iy:Stmt:=top 15
theorem cH:az ["reaches", "settings", "i", "tick", "part", "latest", "setting"] ["reaches", "settings", "i", "tick"] (aj iy):=⟨rfl,rfl,rfl,by decide +kernel,rfl,by decide +kernel,by decide +kernel⟩
abbrev fB:Stmt:=top 16
theorem du:az ["reaches", "settings", "place", "beside", "tick", "k"] ["reaches", "settings", "place"] (aj fB):=⟨rfl,rfl,rfl,by decide +kernel,rfl,by decide +kernel,by decide +kernel⟩
abbrev k8:Stmt:=top 18
theorem mR:az ["reach", "water", "kept"] ["reach", "water"] (aj k8):=⟨rfl,rfl,rfl,by decide +kernel,rfl,by decide +kernel,by decide +kernel⟩
abbrev jM:Stmt:=top 19
theorem rm:az ["reach", "water"] ["reach", "water"] (aj jM):=⟨rfl,rfl,rfl,by decide +kernel,rfl,by decide +kernel,by decide +kernel⟩
abbrev mZ:Stmt:=top 20
theorem dO:az ["net", "i", "tick", "water", "wanted", "k", "reach", "part", "taken"] ["net", "i", "tick", "water"] (aj mZ):=⟨rfl,rfl,rfl,by decide +kernel,rfl,by decide +kernel,by decide +kernel⟩
abbrev gN:Stmt:=top 22
theorem d5:az ["reaches", "downward", "waiting", "i"] ["reaches"] (aj gN):=⟨rfl,rfl,rfl,by decide +kernel,rfl,by decide +kernel,by decide +kernel⟩
abbrev eG:Stmt:=top 23
theorem fS:az ["reaches", "offers", "place", "k"] ["reaches", "offers", "place"] (aj eG):=⟨rfl,rfl,rfl,by decide +kernel,rfl,by decide +kernel,by decide +kernel⟩
abbrev eF:Stmt:=top 24
theorem bx:az ["reaches", "asks", "by_end", "i", "water", "offers", "reach", "leaving"] ["reaches", "asks"] (aj eF):=⟨rfl,rfl,rfl,by decide +kernel,rfl,by decide +kernel,by decide +kernel⟩
abbrev ld:Stmt:=top 25
theorem mS:az ["reaches", "offers", "i", "whole"] ["reaches", "offers", "i"] (aj ld):=⟨rfl,rfl,rfl,by decide +kernel,rfl,by decide +kernel,by decide +kernel⟩
abbrev lg:Stmt:=top 27
theorem eZ:az ["reaches", "i", "reach", "where", "words"] ["reaches", "i"] (aj lg):=⟨rfl,rfl,rfl,by decide +kernel,rfl,by decide +kernel,by decide +kernel⟩
abbrev gt:Stmt:=top 28
theorem dN:az ["reaches", "text", "i", "sign"] ["reaches"] (aj gt):=⟨rfl,rfl,rfl,by decide +kernel,rfl,by decide +kernel,by decide +kernel⟩
abbrev k9:Stmt:=top 40
theorem tO:az ["byte"] ["byte"] (aj k9):=⟨rfl,rfl,rfl,by decide +kernel,rfl,by decide +kernel,by decide +kernel⟩
abbrev jE:Stmt:=top 41
theorem dh:az ["line", "words", "word", "byte"] ["line"] (aj jE):=⟨rfl,rfl,rfl,by decide +kernel,rfl,by decide +kernel,by decide +kernel⟩
abbrev jJ:Stmt:=top 42
theorem ee:az ["text", "lines", "line", "byte"] ["text"] (aj jJ):=⟨rfl,rfl,rfl,by decide +kernel,rfl,by decide +kernel,by decide +kernel⟩
abbrev gM:Stmt:=top 43
theorem io:az ["words", "k"] ["words"] (aj gM):=⟨rfl,rfl,rfl,by decide +kernel,rfl,by decide +kernel,by decide +kernel⟩
abbrev iw:Stmt:=top 44
theorem p7:az ["word"] ["word"] (aj iw):=⟨rfl,rfl,rfl,by decide +kernel,rfl,by decide +kernel,by decide +kernel⟩
abbrev cS:Stmt:=top 45
theorem cz:az ["words", "k", "word"] ["words"] (aj cS):=⟨rfl,rfl,rfl,by decide +kernel,rfl,by decide +kernel,by decide +kernel⟩
abbrev dC:Stmt:=top 46
theorem et:az ["name", "reaches", "reach"] ["name", "reaches"] (aj dC):=⟨rfl,rfl,rfl,by decide +kernel,rfl,by decide +kernel,by decide +kernel⟩
abbrev jI:Stmt:=top 47
theorem im:az ["where", "reaches", "k", "reach"] ["where", "reaches"] (aj jI):=⟨rfl,rfl,rfl,by decide +kernel,rfl,by decide +kernel,by decide +kernel⟩
abbrev jH:Stmt:=top 48
theorem lO:az ["name", "place", "numbers", "reaches", "before"] ["name", "place", "numbers", "reaches"] (aj jH):=⟨rfl,rfl,rfl,by decide +kernel,rfl,by decide +kernel,by decide +kernel⟩
abbrev qb:Stmt:=top 49
theorem p8:az ["reach", "reaches", "beside", "k"] ["reach", "reaches"] (aj qb):=⟨rfl,rfl,rfl,by decide +kernel,rfl,by decide +kernel,by decide +kernel⟩
abbrev dw:Stmt:=top 50
theorem bH:az ["words", "reaches", "told", "k", "place", "reach", "word"] ["words", "reaches"] (aj dw):=⟨rfl,rfl,rfl,by decide +kernel,rfl,by decide +kernel,by decide +kernel⟩
abbrev jG:Stmt:=top 51
theorem cy:az ["text", "reaches", "lines", "number", "line", "words", "reach"] ["text"] (aj jG):=⟨rfl,rfl,rfl,by decide +kernel,rfl,by decide +kernel,by decide +kernel⟩
abbrev ff:Stmt:=top 54
theorem b7:az ["net", "i", "tick", "water", "reach", "offered", "taken", "left"] ["net", "i", "tick", "water"] (aj ff):=⟨rfl,rfl,rfl,by decide +kernel,rfl,by decide +kernel,by decide +kernel⟩
abbrev mY:Stmt:=top 55
theorem eM:az ["net", "tick", "rows", "i", "reach", "water"] ["net", "tick"] (aj mY):=⟨rfl,rfl,rfl,by decide +kernel,rfl,by decide +kernel,by decide +kernel⟩
abbrev lc:Stmt:=top 56
theorem tP:az ["net", "i", "tick"] ["net", "i", "tick"] (aj lc):=⟨rfl,rfl,rfl,by decide +kernel,rfl,by decide +kernel,by decide +kernel⟩
abbrev gL:Stmt:=top 57
theorem jm:az ["net", "i", "tick", "reach"] ["net", "i", "tick"] (aj gL):=⟨rfl,rfl,rfl,by decide +kernel,rfl,by decide +kernel,by decide +kernel⟩
abbrev li:Stmt:=top 58
theorem mT:az ["net", "i", "tick", "row"] ["net", "i", "tick"] (aj li):=⟨rfl,rfl,rfl,by decide +kernel,rfl,by decide +kernel,by decide +kernel⟩
abbrev gR:Stmt:=top 59
theorem aW:az ["net", "tick", "ends", "arrived", "lost", "spilled", "parted", "i", "row"] ["net", "tick"] (aj gR):=⟨rfl,rfl,rfl,by decide +kernel,rfl,by decide +kernel,by decide +kernel⟩
abbrev cI:Stmt:=top 60
theorem br:az ["net", "totals", "tick", "total", "more"] ["net"] (aj cI):=⟨rfl,rfl,rfl,by decide +kernel,rfl,by decide +kernel,by decide +kernel⟩
abbrev cX:Stmt:=top 61
theorem bA:az ["net", "spilled", "tick", "before", "row"] ["net"] (aj cX):=⟨rfl,rfl,rfl,by decide +kernel,rfl,by decide +kernel,by decide +kernel⟩
abbrev fg:Stmt:=top 62
theorem b8:az ["net", "i", "tick", "way", "water", "k"] ["net", "i", "tick"] (aj fg):=⟨rfl,rfl,rfl,by decide +kernel,rfl,by decide +kernel,by decide +kernel⟩
abbrev tR:Stmt:=top 63
theorem p6:az ["waters", "numbers", "water"] ["waters"] (aj tR):=⟨rfl,rfl,rfl,by decide +kernel,rfl,by decide +kernel,by decide +kernel⟩
abbrev jL:Stmt:=top 73
theorem rk:az ["net", "i"] ["net", "i"] (aj jL):=⟨rfl,rfl,rfl,by decide +kernel,rfl,by decide +kernel,by decide +kernel⟩
abbrev lh:Stmt:=top 74
theorem tQ:az ["tick"] ["tick"] (aj lh):=⟨rfl,rfl,rfl,by decide +kernel,rfl,by decide +kernel,by decide +kernel⟩
abbrev jK:Stmt:=top 75
theorem rj:az ["number"] ["number"] (aj jK):=⟨rfl,rfl,rfl,by decide +kernel,rfl,by decide +kernel,by decide +kernel⟩
abbrev gO:Stmt:=top 76
theorem ip:az ["net", "row", "number"] ["net", "row"] (aj gO):=⟨rfl,rfl,rfl,by decide +kernel,rfl,by decide +kernel,by decide +kernel⟩
abbrev gQ:Stmt:=top 77
theorem fU:az ["net", "numbers", "row", "read", "reaches"] ["net", "numbers", "row"] (aj gQ):=⟨rfl,rfl,rfl,by decide +kernel,rfl,by decide +kernel,by decide +kernel⟩
abbrev eI:Stmt:=top 78
theorem cj:az ["net", "numbers", "row", "tick", "water", "k"] ["net", "numbers", "row"] (aj eI):=⟨rfl,rfl,rfl,by decide +kernel,rfl,by decide +kernel,by decide +kernel⟩
abbrev fY:Stmt:=top 79
theorem fe:az ["net", "numbers", "row", "i", "settings"] ["net", "numbers", "row"] (aj fY):=⟨rfl,rfl,rfl,by decide +kernel,rfl,by decide +kernel,by decide +kernel⟩
abbrev fZ:Stmt:=top 80
theorem mW:az ["net", "numbers", "row"] ["net", "numbers", "row"] (aj fZ):=⟨rfl,rfl,rfl,by decide +kernel,rfl,by decide +kernel,by decide +kernel⟩
abbrev dE:Stmt:=top 81
theorem b9:az ["net", "numbers", "row", "i", "tick", "k"] ["net", "numbers", "row"] (aj dE):=⟨rfl,rfl,rfl,by decide +kernel,rfl,by decide +kernel,by decide +kernel⟩
abbrev dU:Stmt:=top 82
theorem ki:az ["net", "numbers", "row"] ["net", "numbers", "row"] (aj dU):=⟨rfl,rfl,rfl,by decide +kernel,rfl,by decide +kernel,by decide +kernel⟩
abbrev dF:Stmt:=top 83
theorem jD:az ["net", "numbers", "row"] ["net", "numbers", "row"] (aj dF):=⟨rfl,rfl,rfl,by decide +kernel,rfl,by decide +kernel,by decide +kernel⟩
abbrev gP:Stmt:=top 84
theorem fT:az ["net", "numbers", "row", "reach", "way"] ["net", "numbers", "row"] (aj gP):=⟨rfl,rfl,rfl,by decide +kernel,rfl,by decide +kernel,by decide +kernel⟩
abbrev fW:Stmt:=top 85
theorem iq:az ["net", "numbers", "row", "water"] ["net", "numbers", "row"] (aj fW):=⟨rfl,rfl,rfl,by decide +kernel,rfl,by decide +kernel,by decide +kernel⟩
abbrev fX:Stmt:=top 86
theorem mV:az ["net", "numbers", "row"] ["net", "numbers", "row"] (aj fX):=⟨rfl,rfl,rfl,by decide +kernel,rfl,by decide +kernel,by decide +kernel⟩
abbrev fh:Stmt:=top 87
theorem ib:az ["net", "numbers", "row", "found"] ["net", "numbers", "row"] (aj fh):=⟨rfl,rfl,rfl,by decide +kernel,rfl,by decide +kernel,by decide +kernel⟩
abbrev df:Stmt:=top 88
theorem bI:az ["net", "numbers", "row", "found", "answer", "i"] ["net", "numbers", "row"] (aj df):=⟨rfl,rfl,rfl,by decide +kernel,rfl,by decide +kernel,by decide +kernel⟩
abbrev fV:Stmt:=top 89
theorem mU:az ["net", "numbers", "row"] ["net", "numbers", "row"] (aj fV):=⟨rfl,rfl,rfl,by decide +kernel,rfl,by decide +kernel,by decide +kernel⟩
abbrev eB:Stmt:=top 90
theorem k6:az ["net", "numbers", "row"] ["net", "numbers", "row"] (aj eB):=⟨rfl,rfl,rfl,by decide +kernel,rfl,by decide +kernel,by decide +kernel⟩
abbrev fi:Stmt:=top 91
theorem md:az ["net", "numbers", "row"] ["net", "numbers", "row"] (aj fi):=⟨rfl,rfl,rfl,by decide +kernel,rfl,by decide +kernel,by decide +kernel⟩
abbrev f6:Stmt:=top 92
theorem ir:az ["net", "numbers", "row", "ends"] ["net", "numbers", "row"] (aj f6):=⟨rfl,rfl,rfl,by decide +kernel,rfl,by decide +kernel,by decide +kernel⟩
abbrev cT:Stmt:=top 93
theorem eg:az ["net", "numbers", "row", "text"] ["net", "numbers", "row"] (aj cT):=⟨rfl,rfl,rfl,by decide +kernel,rfl,by decide +kernel,by decide +kernel⟩
abbrev eC:Stmt:=top 94
theorem k7:az ["net", "numbers", "row"] ["net", "numbers", "row"] (aj eC):=⟨rfl,rfl,rfl,by decide +kernel,rfl,by decide +kernel,by decide +kernel⟩
abbrev f7:Stmt:=top 99
theorem iu:az ["net", "call", "numbers", "row", "function"] ["net", "call", "numbers", "row"] (aj f7):=⟨rfl,rfl,rfl,by decide +kernel,rfl,by decide +kernel,by decide +kernel⟩
abbrev lj:Stmt:=top 100
theorem bu:az ["calls", "net", "answered", "at", "call", "behind", "numbers", "row", "answer"] ["calls"] (aj lj):=⟨rfl,rfl,rfl,by decide +kernel,rfl,by decide +kernel,by decide +kernel⟩
structure Txt (K:PySem.W.Frag) (mg:Str→Option Value) where
  n_len:mg "len" = none
  n_range:mg "range" = none
  n_reversed:mg "reversed" = none
  n_list:mg "list" = none
  n_all:mg "all" = none
  n_sum:mg "sum" = none
  n_min:mg "min" = none
  n_enumerate:mg "enumerate" = none
  n_zip:mg "zip" = none
  n_int:mg "int" = none
  n_str:mg "str" = none
  n_ord:mg "ord" = none
  c_SOURCE:GI mg "SOURCE" (-1)
  c_TICKS:GI mg "TICKS" (60)
  c_MOST_REACHES:GI mg "MOST_REACHES" (30)
  c_LONGEST_WAY:GI mg "LONGEST_WAY" (8)
  c_LONGEST_NAME:GI mg "LONGEST_NAME" (8)
  c_LONGEST_NUMBER:GI mg "LONGEST_NUMBER" (8)
  c_NOWHERE:GI mg "NOWHERE" (-2)
  c_DROPS:GI mg "DROPS" (100000000000000000000000000000000)
  c_NO_NET:GI mg "NO_NET" (-9)
  c_OUT_OF_RANGE:GI mg "OUT_OF_RANGE" (-1)
  c_TOO_MUCH_PARTED:GI mg "TOO_MUCH_PARTED" (-7)
  c_CANNOT:GI mg "CANNOT" (-8)
  c_TOO_MANY_SETTINGS:GI mg "TOO_MANY_SETTINGS" (-6)
  c_MOST_WATER:GI mg "MOST_WATER" (1000000)
  c_MOST_SETTINGS:GI mg "MOST_SETTINGS" (60)
  c_MOST_CAP:GI mg "MOST_CAP" (100000)
  c_NET:GI mg "NET" (0)
  c_LETTERS:GS mg "LETTERS" "abcdefghijklmnopqrstuvwxyz"
  c_DIGITS:GS mg "DIGITS" "0123456789"
  t_FORM:GTup K mg "FORM" [.str "reach",.str "from",.str "delay",.str "loss",.str "soak",.str "cap",.str "gate"]
  t_LEAST:GTup K mg "LEAST" [.int 0,.int 0,.int 0,.int 1,.int 0]
  t_GREATEST:GTup K mg "GREATEST" [.int 10,.int 99,.int 1000,.int 100000,.int 100]
  t_HOW_MANY_NUMBERS:GTup K mg "HOW_MANY_NUMBERS" [.int 0,.int 1,.int 3,.int 2,.int 3,.int 1,.int 0,.int 1,.int 3,.int 2,.int 0,.int 0,.int 2,.int 0,.int 2,.int 0,.int 0,.int 0]
  t_WITH_ROW:GTup K mg "WITH_ROW" [.int 0,.int 1,.int 10,.int 11]
  common_divisor:Df K mg "common_divisor" dR
  lowest:Df K mg "lowest" m9
  total:Df K mg "total" qa
  Reach_init:Md K "__init__" "Reach.__init__" gS
  Net_init:Md K "__init__" "Net.__init__" jN
  Net_renew:Md K "renew" "Net.renew" iz
  with_cap:Df K mg "with_cap" jF
  if_held:Df K mg "if_held" i9
  way_to:Df K mg "way_to" mX
  beginning_at:Df K mg "beginning_at" dD
  ends_of:Df K mg "ends_of" ja
  gate_part:Df K mg "gate_part" iy
  parts_fit:Df K mg "parts_fit" fB
  to_take:Df K mg "to_take" k8
  can_take:Df K mg "can_take" jM
  needed:Df K mg "needed" mZ
  from_below:Df K mg "from_below" gN
  offered_at:Df K mg "offered_at" eG
  offers_for:Df K mg "offers_for" eF
  part_of:Df K mg "part_of" ld
  line_of:Df K mg "line_of" lg
  text_of:Df K mg "text_of" gt
  sign_of:Df K mg "sign_of" k9
  words_of:Df K mg "words_of" jE
  lines_of:Df K mg "lines_of" jJ
  has_form:Df K mg "has_form" gM
  is_number:Df K mg "is_number" iw
  are_numbers_right:Df K mg "are_numbers_right" cS
  is_name_free:Df K mg "is_name_free" dC
  place_of:Df K mg "place_of" jI
  reach_at:Df K mg "reach_at" jH
  fits:Df K mg "fits" qb
  read_reach:Df K mg "read_reach" dw
  read_net:Df K mg "read_net" jG
  pass_through:Df K mg "pass_through" ff
  passes:Df K mg "passes" mY
  pass_of:Df K mg "pass_of" lc
  leaving_at:Df K mg "leaving_at" gL
  flow_at:Df K mg "flow_at" li
  account_of:Df K mg "account_of" gR
  account_of_all:Df K mg "account_of_all" cI
  spills_of_all:Df K mg "spills_of_all" cX
  most_leaving:Df K mg "most_leaving" fg
  told:Df K mg "told" tR
  is_reach:Df K mg "is_reach" jL
  is_tick:Df K mg "is_tick" lh
  is_water:Df K mg "is_water" jK
  are_asks:Df K mg "are_asks" gO
  answer_net:Df K mg "answer_net" gQ
  answer_let:Df K mg "answer_let" eI
  answer_gate:Df K mg "answer_gate" fY
  answer_flow:Df K mg "answer_flow" fZ
  answer_comes:Df K mg "answer_comes" dE
  answer_account:Df K mg "answer_account" dU
  answer_accounts:Df K mg "answer_accounts" dF
  answer_way:Df K mg "answer_way" gP
  answer_need:Df K mg "answer_need" fW
  answer_most:Df K mg "answer_most" fX
  answer_wants:Df K mg "answer_wants" fh
  answer_set_gates:Df K mg "answer_set_gates" df
  answer_part:Df K mg "answer_part" fV
  answer_spills:Df K mg "answer_spills" eB
  answer_ifcap:Df K mg "answer_ifcap" fi
  answer_ends:Df K mg "answer_ends" f6
  answer_print_text:Df K mg "answer_print_text" cT
  answer_counts:Df K mg "answer_counts" eC
  answer_call:Df K mg "answer_call" f7
  answers:Df K mg "answers" lj
  t_FUNCTIONS:GTup K mg "FUNCTIONS" [.ref answer_net.f,.ref answer_let.f,.ref answer_gate.f,.ref answer_flow.f,.ref answer_comes.f,.ref answer_account.f,.ref answer_accounts.f,.ref answer_way.f,.ref answer_need.f,.ref answer_most.f,.ref answer_wants.f,.ref answer_set_gates.f,.ref answer_part.f,.ref answer_spills.f,.ref answer_ifcap.f,.ref answer_ends.f,.ref answer_print_text.f,.ref answer_counts.f]
  a_Reach:Addr
  m_Reach:mg "Reach" = some (.ref a_Reach)
  cl_Reach:Cls K a_Reach
  mk_Reach:Mk K a_Reach Reach_init.f
  na_Reach_name:b5 K a_Reach "name"
  na_Reach_begins:b5 K a_Reach "begins"
  na_Reach_above:b5 K a_Reach "above"
  na_Reach_depth:b5 K a_Reach "depth"
  na_Reach_delay:b5 K a_Reach "delay"
  na_Reach_loss:b5 K a_Reach "loss"
  na_Reach_soak:b5 K a_Reach "soak"
  na_Reach_cap:b5 K a_Reach "cap"
  na_Reach_gate:b5 K a_Reach "gate"
  a_Net:Addr
  m_Net:mg "Net" = some (.ref a_Net)
  cl_Net:Cls K a_Net
  mk_Net:Mk K a_Net Net_init.f
  na_Net_reaches:b5 K a_Net "reaches"
  na_Net_waters:b5 K a_Net "waters"
  na_Net_settings:b5 K a_Net "settings"
  me_Net_renew:Meth K a_Net "renew" Net_renew.f
theorem lJ {K:PySem.W.Frag} {mg:Str→Option Value} {T:Txt K mg}:aJ K T.common_divisor.fd ["a", "b"] []:=T.common_divisor.F.binds (ps:=["a", "b"]) fun _ _ _ _ _ _ us hl=>match us,hl with | [_,_],_=>rfl
theorem i6 {K:PySem.W.Frag} {mg:Str→Option Value} {T:Txt K mg}:aJ K T.lowest.fd ["top", "bottom"] []:=T.lowest.F.binds (ps:=["top", "bottom"]) fun _ _ _ _ _ _ us hl=>match us,hl with | [_,_],_=>rfl
theorem zJ {K:PySem.W.Frag} {mg:Str→Option Value} {T:Txt K mg}:aJ K T.total.fd ["fractions"] []:=T.total.F.binds (ps:=["fractions"]) fun _ _ _ _ _ _ us hl=>match us,hl with | [_],_=>rfl
theorem ia {K:PySem.W.Frag} {mg:Str→Option Value} {T:Txt K mg}:aJ K T.Reach_init.fd ["self", "name", "begins", "above", "depth", "numbers"] []:=T.Reach_init.F.binds (ps:=["self", "name", "begins", "above", "depth", "numbers"]) fun _ _ _ _ _ _ us hl=>match us,hl with | [_,_,_,_,_,_],_=>rfl
theorem oA {K:PySem.W.Frag} {mg:Str→Option Value} {T:Txt K mg}:aJ K T.Net_init.fd ["self"] []:=T.Net_init.F.binds (ps:=["self"]) fun _ _ _ _ _ _ us hl=>match us,hl with | [_],_=>rfl
theorem sU {K:PySem.W.Frag} {mg:Str→Option Value} {T:Txt K mg}:aJ K T.Net_renew.fd ["self", "reaches"] []:=T.Net_renew.F.binds (ps:=["self", "reaches"]) fun _ _ _ _ _ _ us hl=>match us,hl with | [_,_],_=>rfl
theorem uG {K:PySem.W.Frag} {mg:Str→Option Value} {T:Txt K mg}:aJ K T.with_cap.fd ["reach", "cap"] []:=T.with_cap.F.binds (ps:=["reach", "cap"]) fun _ _ _ _ _ _ us hl=>match us,hl with | [_,_],_=>rfl
theorem wS {K:PySem.W.Frag} {mg:Str→Option Value} {T:Txt K mg}:aJ K T.if_held.fd ["net", "i", "cap"] []:=T.if_held.F.binds (ps:=["net", "i", "cap"]) fun _ _ _ _ _ _ us hl=>match us,hl with | [_,_,_],_=>rfl
theorem om {K:PySem.W.Frag} {mg:Str→Option Value} {T:Txt K mg}:aJ K T.way_to.fd ["reaches", "i"] []:=T.way_to.F.binds (ps:=["reaches", "i"]) fun _ _ _ _ _ _ us hl=>match us,hl with | [_,_],_=>rfl
theorem bM {K:PySem.W.Frag} {mg:Str→Option Value} {T:Txt K mg}:aJ K T.beginning_at.fd ["reaches", "place"] []:=T.beginning_at.F.binds (ps:=["reaches", "place"]) fun _ _ _ _ _ _ us hl=>match us,hl with | [_,_],_=>rfl
theorem eR {K:PySem.W.Frag} {mg:Str→Option Value} {T:Txt K mg}:aJ K T.ends_of.fd ["reaches"] []:=T.ends_of.F.binds (ps:=["reaches"]) fun _ _ _ _ _ _ us hl=>match us,hl with | [_],_=>rfl
theorem fO {K:PySem.W.Frag} {mg:Str→Option Value} {T:Txt K mg}:aJ K T.gate_part.fd ["reaches", "settings", "i", "tick"] []:=T.gate_part.F.binds (ps:=["reaches", "settings", "i", "tick"]) fun _ _ _ _ _ _ us hl=>match us,hl with | [_,_,_,_],_=>rfl
theorem sR {K:PySem.W.Frag} {mg:Str→Option Value} {T:Txt K mg}:aJ K T.parts_fit.fd ["reaches", "settings", "place"] []:=T.parts_fit.F.binds (ps:=["reaches", "settings", "place"]) fun _ _ _ _ _ _ us hl=>match us,hl with | [_,_,_],_=>rfl
theorem pU {K:PySem.W.Frag} {mg:Str→Option Value} {T:Txt K mg}:aJ K T.to_take.fd ["reach", "water"] []:=T.to_take.F.binds (ps:=["reach", "water"]) fun _ _ _ _ _ _ us hl=>match us,hl with | [_,_],_=>rfl
theorem ou {K:PySem.W.Frag} {mg:Str→Option Value} {T:Txt K mg}:aJ K T.can_take.fd ["reach", "water"] []:=T.can_take.F.binds (ps:=["reach", "water"]) fun _ _ _ _ _ _ us hl=>match us,hl with | [_,_],_=>rfl
theorem yE {K:PySem.W.Frag} {mg:Str→Option Value} {T:Txt K mg}:aJ K T.needed.fd ["net", "i", "tick", "water"] []:=T.needed.F.binds (ps:=["net", "i", "tick", "water"]) fun _ _ _ _ _ _ us hl=>match us,hl with | [_,_,_,_],_=>rfl
theorem qK {K:PySem.W.Frag} {mg:Str→Option Value} {T:Txt K mg}:aJ K T.from_below.fd ["reaches"] []:=T.from_below.F.binds (ps:=["reaches"]) fun _ _ _ _ _ _ us hl=>match us,hl with | [_],_=>rfl
theorem hZ {K:PySem.W.Frag} {mg:Str→Option Value} {T:Txt K mg}:aJ K T.offered_at.fd ["reaches", "offers", "place"] []:=T.offered_at.F.binds (ps:=["reaches", "offers", "place"]) fun _ _ _ _ _ _ us hl=>match us,hl with | [_,_,_],_=>rfl
theorem kP {K:PySem.W.Frag} {mg:Str→Option Value} {T:Txt K mg}:aJ K T.offers_for.fd ["reaches", "asks"] []:=T.offers_for.F.binds (ps:=["reaches", "asks"]) fun _ _ _ _ _ _ us hl=>match us,hl with | [_,_],_=>rfl
theorem wQ {K:PySem.W.Frag} {mg:Str→Option Value} {T:Txt K mg}:aJ K T.part_of.fd ["reaches", "offers", "i"] []:=T.part_of.F.binds (ps:=["reaches", "offers", "i"]) fun _ _ _ _ _ _ us hl=>match us,hl with | [_,_,_],_=>rfl
theorem wR {K:PySem.W.Frag} {mg:Str→Option Value} {T:Txt K mg}:aJ K T.line_of.fd ["reaches", "i"] []:=T.line_of.F.binds (ps:=["reaches", "i"]) fun _ _ _ _ _ _ us hl=>match us,hl with | [_,_],_=>rfl
theorem wO {K:PySem.W.Frag} {mg:Str→Option Value} {T:Txt K mg}:aJ K T.text_of.fd ["reaches"] []:=T.text_of.F.binds (ps:=["reaches"]) fun _ _ _ _ _ _ us hl=>match us,hl with | [_],_=>rfl
theorem wP {K:PySem.W.Frag} {mg:Str→Option Value} {T:Txt K mg}:aJ K T.sign_of.fd ["byte"] []:=T.sign_of.F.binds (ps:=["byte"]) fun _ _ _ _ _ _ us hl=>match us,hl with | [_],_=>rfl
theorem uF {K:PySem.W.Frag} {mg:Str→Option Value} {T:Txt K mg}:aJ K T.words_of.fd ["line"] []:=T.words_of.F.binds (ps:=["line"]) fun _ _ _ _ _ _ us hl=>match us,hl with | [_],_=>rfl
theorem uK {K:PySem.W.Frag} {mg:Str→Option Value} {T:Txt K mg}:aJ K T.lines_of.fd ["text"] []:=T.lines_of.F.binds (ps:=["text"]) fun _ _ _ _ _ _ us hl=>match us,hl with | [_],_=>rfl
theorem uL {K:PySem.W.Frag} {mg:Str→Option Value} {T:Txt K mg}:aJ K T.has_form.fd ["words"] []:=T.has_form.F.binds (ps:=["words"]) fun _ _ _ _ _ _ us hl=>match us,hl with | [_],_=>rfl
theorem sT {K:PySem.W.Frag} {mg:Str→Option Value} {T:Txt K mg}:aJ K T.is_number.fd ["word"] []:=T.is_number.F.binds (ps:=["word"]) fun _ _ _ _ _ _ us hl=>match us,hl with | [_],_=>rfl
theorem jk {K:PySem.W.Frag} {mg:Str→Option Value} {T:Txt K mg}:aJ K T.are_numbers_right.fd ["words"] []:=T.are_numbers_right.F.binds (ps:=["words"]) fun _ _ _ _ _ _ us hl=>match us,hl with | [_],_=>rfl
theorem ot {K:PySem.W.Frag} {mg:Str→Option Value} {T:Txt K mg}:aJ K T.is_name_free.fd ["name", "reaches"] []:=T.is_name_free.F.binds (ps:=["name", "reaches"]) fun _ _ _ _ _ _ us hl=>match us,hl with | [_,_],_=>rfl
theorem uJ {K:PySem.W.Frag} {mg:Str→Option Value} {T:Txt K mg}:aJ K T.place_of.fd ["where", "reaches"] []:=T.place_of.F.binds (ps:=["where", "reaches"]) fun _ _ _ _ _ _ us hl=>match us,hl with | [_,_],_=>rfl
theorem uI {K:PySem.W.Frag} {mg:Str→Option Value} {T:Txt K mg}:aJ K T.reach_at.fd ["name", "place", "numbers", "reaches"] []:=T.reach_at.F.binds (ps:=["name", "place", "numbers", "reaches"]) fun _ _ _ _ _ _ us hl=>match us,hl with | [_,_,_,_],_=>rfl
theorem b_fits {K:PySem.W.Frag} {mg:Str→Option Value} {T:Txt K mg}:aJ K T.fits.fd ["reach", "reaches"] []:=T.fits.F.binds (ps:=["reach", "reaches"]) fun _ _ _ _ _ _ us hl=>match us,hl with | [_,_],_=>rfl
theorem qJ {K:PySem.W.Frag} {mg:Str→Option Value} {T:Txt K mg}:aJ K T.read_reach.fd ["words", "reaches"] []:=T.read_reach.F.binds (ps:=["words", "reaches"]) fun _ _ _ _ _ _ us hl=>match us,hl with | [_,_],_=>rfl
theorem uH {K:PySem.W.Frag} {mg:Str→Option Value} {T:Txt K mg}:aJ K T.read_net.fd ["text"] []:=T.read_net.F.binds (ps:=["text"]) fun _ _ _ _ _ _ us hl=>match us,hl with | [_],_=>rfl
theorem i4 {K:PySem.W.Frag} {mg:Str→Option Value} {T:Txt K mg}:aJ K T.pass_through.fd ["net", "i", "tick", "water"] []:=T.pass_through.F.binds (ps:=["net", "i", "tick", "water"]) fun _ _ _ _ _ _ us hl=>match us,hl with | [_,_,_,_],_=>rfl
theorem oo {K:PySem.W.Frag} {mg:Str→Option Value} {T:Txt K mg}:aJ K T.passes.fd ["net", "tick"] []:=T.passes.F.binds (ps:=["net", "tick"]) fun _ _ _ _ _ _ us hl=>match us,hl with | [_,_],_=>rfl
theorem pV {K:PySem.W.Frag} {mg:Str→Option Value} {T:Txt K mg}:aJ K T.pass_of.fd ["net", "i", "tick"] []:=T.pass_of.F.binds (ps:=["net", "i", "tick"]) fun _ _ _ _ _ _ us hl=>match us,hl with | [_,_,_],_=>rfl
theorem kQ {K:PySem.W.Frag} {mg:Str→Option Value} {T:Txt K mg}:aJ K T.leaving_at.fd ["net", "i", "tick"] []:=T.leaving_at.F.binds (ps:=["net", "i", "tick"]) fun _ _ _ _ _ _ us hl=>match us,hl with | [_,_,_],_=>rfl
theorem wT {K:PySem.W.Frag} {mg:Str→Option Value} {T:Txt K mg}:aJ K T.flow_at.fd ["net", "i", "tick"] []:=T.flow_at.F.binds (ps:=["net", "i", "tick"]) fun _ _ _ _ _ _ us hl=>match us,hl with | [_,_,_],_=>rfl
theorem kS {K:PySem.W.Frag} {mg:Str→Option Value} {T:Txt K mg}:aJ K T.account_of.fd ["net", "tick"] []:=T.account_of.F.binds (ps:=["net", "tick"]) fun _ _ _ _ _ _ us hl=>match us,hl with | [_,_],_=>rfl
theorem gF {K:PySem.W.Frag} {mg:Str→Option Value} {T:Txt K mg}:aJ K T.account_of_all.fd ["net"] []:=T.account_of_all.F.binds (ps:=["net"]) fun _ _ _ _ _ _ us hl=>match us,hl with | [_],_=>rfl
theorem mm {K:PySem.W.Frag} {mg:Str→Option Value} {T:Txt K mg}:aJ K T.spills_of_all.fd ["net"] []:=T.spills_of_all.F.binds (ps:=["net"]) fun _ _ _ _ _ _ us hl=>match us,hl with | [_],_=>rfl
theorem oq {K:PySem.W.Frag} {mg:Str→Option Value} {T:Txt K mg}:aJ K T.most_leaving.fd ["net", "i", "tick"] []:=T.most_leaving.F.binds (ps:=["net", "i", "tick"]) fun _ _ _ _ _ _ us hl=>match us,hl with | [_,_,_],_=>rfl
theorem jY {K:PySem.W.Frag} {mg:Str→Option Value} {T:Txt K mg}:aJ K T.told.fd ["waters"] []:=T.told.F.binds (ps:=["waters"]) fun _ _ _ _ _ _ us hl=>match us,hl with | [_],_=>rfl
theorem cF {K:PySem.W.Frag} {mg:Str→Option Value} {T:Txt K mg}:aJ K T.is_reach.fd ["net", "i"] []:=T.is_reach.F.binds (ps:=["net", "i"]) fun _ _ _ _ _ _ us hl=>match us,hl with | [_,_],_=>rfl
theorem dk {K:PySem.W.Frag} {mg:Str→Option Value} {T:Txt K mg}:aJ K T.is_tick.fd ["tick"] []:=T.is_tick.F.binds (ps:=["tick"]) fun _ _ _ _ _ _ us hl=>match us,hl with | [_],_=>rfl
theorem jZ {K:PySem.W.Frag} {mg:Str→Option Value} {T:Txt K mg}:aJ K T.is_water.fd ["number"] []:=T.is_water.F.binds (ps:=["number"]) fun _ _ _ _ _ _ us hl=>match us,hl with | [_],_=>rfl
theorem ow {K:PySem.W.Frag} {mg:Str→Option Value} {T:Txt K mg}:aJ K T.are_asks.fd ["net", "row"] []:=T.are_asks.F.binds (ps:=["net", "row"]) fun _ _ _ _ _ _ us hl=>match us,hl with | [_,_],_=>rfl
theorem qM {K:PySem.W.Frag} {mg:Str→Option Value} {T:Txt K mg}:aJ K T.answer_net.fd ["net", "numbers", "row"] []:=T.answer_net.F.binds (ps:=["net", "numbers", "row"]) fun _ _ _ _ _ _ us hl=>match us,hl with | [_,_,_],_=>rfl
theorem qN {K:PySem.W.Frag} {mg:Str→Option Value} {T:Txt K mg}:aJ K T.answer_let.fd ["net", "numbers", "row"] []:=T.answer_let.F.binds (ps:=["net", "numbers", "row"]) fun _ _ _ _ _ _ us hl=>match us,hl with | [_,_,_],_=>rfl
theorem oT {K:PySem.W.Frag} {mg:Str→Option Value} {T:Txt K mg}:aJ K T.answer_gate.fd ["net", "numbers", "row"] []:=T.answer_gate.F.binds (ps:=["net", "numbers", "row"]) fun _ _ _ _ _ _ us hl=>match us,hl with | [_,_,_],_=>rfl
theorem oU {K:PySem.W.Frag} {mg:Str→Option Value} {T:Txt K mg}:aJ K T.answer_flow.fd ["net", "numbers", "row"] []:=T.answer_flow.F.binds (ps:=["net", "numbers", "row"]) fun _ _ _ _ _ _ us hl=>match us,hl with | [_,_,_],_=>rfl
theorem oz {K:PySem.W.Frag} {mg:Str→Option Value} {T:Txt K mg}:aJ K T.answer_comes.fd ["net", "numbers", "row"] []:=T.answer_comes.F.binds (ps:=["net", "numbers", "row"]) fun _ _ _ _ _ _ us hl=>match us,hl with | [_,_,_],_=>rfl
theorem lK {K:PySem.W.Frag} {mg:Str→Option Value} {T:Txt K mg}:aJ K T.answer_account.fd ["net", "numbers", "row"] []:=T.answer_account.F.binds (ps:=["net", "numbers", "row"]) fun _ _ _ _ _ _ us hl=>match us,hl with | [_,_,_],_=>rfl
theorem kR {K:PySem.W.Frag} {mg:Str→Option Value} {T:Txt K mg}:aJ K T.answer_accounts.fd ["net", "numbers", "row"] []:=T.answer_accounts.F.binds (ps:=["net", "numbers", "row"]) fun _ _ _ _ _ _ us hl=>match us,hl with | [_,_,_],_=>rfl
theorem qL {K:PySem.W.Frag} {mg:Str→Option Value} {T:Txt K mg}:aJ K T.answer_way.fd ["net", "numbers", "row"] []:=T.answer_way.F.binds (ps:=["net", "numbers", "row"]) fun _ _ _ _ _ _ us hl=>match us,hl with | [_,_,_],_=>rfl
theorem oR {K:PySem.W.Frag} {mg:Str→Option Value} {T:Txt K mg}:aJ K T.answer_need.fd ["net", "numbers", "row"] []:=T.answer_need.F.binds (ps:=["net", "numbers", "row"]) fun _ _ _ _ _ _ us hl=>match us,hl with | [_,_,_],_=>rfl
theorem oS {K:PySem.W.Frag} {mg:Str→Option Value} {T:Txt K mg}:aJ K T.answer_most.fd ["net", "numbers", "row"] []:=T.answer_most.F.binds (ps:=["net", "numbers", "row"]) fun _ _ _ _ _ _ us hl=>match us,hl with | [_,_,_],_=>rfl
theorem ox {K:PySem.W.Frag} {mg:Str→Option Value} {T:Txt K mg}:aJ K T.answer_wants.fd ["net", "numbers", "row"] []:=T.answer_wants.F.binds (ps:=["net", "numbers", "row"]) fun _ _ _ _ _ _ us hl=>match us,hl with | [_,_,_],_=>rfl
theorem j0 {K:PySem.W.Frag} {mg:Str→Option Value} {T:Txt K mg}:aJ K T.answer_set_gates.fd ["net", "numbers", "row"] []:=T.answer_set_gates.F.binds (ps:=["net", "numbers", "row"]) fun _ _ _ _ _ _ us hl=>match us,hl with | [_,_,_],_=>rfl
theorem oQ {K:PySem.W.Frag} {mg:Str→Option Value} {T:Txt K mg}:aJ K T.answer_part.fd ["net", "numbers", "row"] []:=T.answer_part.F.binds (ps:=["net", "numbers", "row"]) fun _ _ _ _ _ _ us hl=>match us,hl with | [_,_,_],_=>rfl
theorem mo {K:PySem.W.Frag} {mg:Str→Option Value} {T:Txt K mg}:aJ K T.answer_spills.fd ["net", "numbers", "row"] []:=T.answer_spills.F.binds (ps:=["net", "numbers", "row"]) fun _ _ _ _ _ _ us hl=>match us,hl with | [_,_,_],_=>rfl
theorem oy {K:PySem.W.Frag} {mg:Str→Option Value} {T:Txt K mg}:aJ K T.answer_ifcap.fd ["net", "numbers", "row"] []:=T.answer_ifcap.F.binds (ps:=["net", "numbers", "row"]) fun _ _ _ _ _ _ us hl=>match us,hl with | [_,_,_],_=>rfl
theorem oV {K:PySem.W.Frag} {mg:Str→Option Value} {T:Txt K mg}:aJ K T.answer_ends.fd ["net", "numbers", "row"] []:=T.answer_ends.F.binds (ps:=["net", "numbers", "row"]) fun _ _ _ _ _ _ us hl=>match us,hl with | [_,_,_],_=>rfl
theorem jl {K:PySem.W.Frag} {mg:Str→Option Value} {T:Txt K mg}:aJ K T.answer_print_text.fd ["net", "numbers", "row"] []:=T.answer_print_text.F.binds (ps:=["net", "numbers", "row"]) fun _ _ _ _ _ _ us hl=>match us,hl with | [_,_,_],_=>rfl
theorem mq {K:PySem.W.Frag} {mg:Str→Option Value} {T:Txt K mg}:aJ K T.answer_counts.fd ["net", "numbers", "row"] []:=T.answer_counts.F.binds (ps:=["net", "numbers", "row"]) fun _ _ _ _ _ _ us hl=>match us,hl with | [_,_,_],_=>rfl
theorem oW {K:PySem.W.Frag} {mg:Str→Option Value} {T:Txt K mg}:aJ K T.answer_call.fd ["net", "call", "numbers", "row"] []:=T.answer_call.F.binds (ps:=["net", "call", "numbers", "row"]) fun _ _ _ _ _ _ us hl=>match us,hl with | [_,_,_,_],_=>rfl
end CN
namespace CN
open PySem PySem.Spec PyProof.Rows L2
section
variable {Goal:Prop} {w:World} {h:Heap} {mg:Str→Option Value}
noncomputable abbrev KW (w:World):PySem.W.Frag:=CH.KM w.params
theorem cr {a b:Addr} (e:a=b):RelV (.ref a) (.ref b):=congrArg Value.ref e.symm
theorem mn (x:Str) (X:(KW w).In h) (G:h.Ns mainGlobals mg) (a:PySem.W.nsIn (KW w) mainGlobals x=some none:=by kernel_rfl):mg x=none:=PySem.W.mg_none_of X G a
theorem mi (x:Str) (z:Int) (t:Tok) (X:(KW w).In h) (G:h.Ns mainGlobals mg) (a:PySem.W.nsIn (KW w) mainGlobals x=some (some (.int z t)):=by kernel_rfl):GI mg x z:=⟨t,PySem.W.mg_of X G a⟩
theorem mt (x z:Str) (t:Tok) (X:(KW w).In h) (G:h.Ns mainGlobals mg) (a:PySem.W.nsIn (KW w) mainGlobals x=some (some (.str z t)):=by kernel_rfl):GS mg x z:=⟨t,PySem.W.mg_of X G a⟩
def mtu (x:Str) (xs:List V) (p:Addr) (its:Array Value) (X:(KW w).In h) (G:h.Ns mainGlobals mg) (z:its.size≤sizeLine) (v:Vals xs its.toList) (a:PySem.W.nsIn (KW w) mainGlobals x=some (some (.ref p)):=by kernel_rfl)
    (l:(KW w).lookup p=some ⟨.type "tuple",none,.seq its 0,#[]⟩:=by kernel_rfl):GTup (KW w) mg x xs:=⟨p,PySem.W.mg_of X G a,fun H=>.inr ⟨_,its,0,l,rfl,rfl,z,v⟩⟩
theorem mdf (x:Str) (st:Stmt) (f c t:Nat) (m:Str) (X:(KW w).In h) (G:h.Ns mainGlobals mg) (cont:∀ D:Df (KW w) mg x st,D.f=f→Goal) (a:PySem.W.nsIn (KW w) mainGlobals x=some (some (.ref f)):=by kernel_rfl)
    (l:(KW w).lookup f=some ⟨.type "function",none,.func (PySem.W.fnOf x x (hG st) (fK st) (aj st) .none .none .none (.str m t) none (.ref c) .none),#[]⟩:=by kernel_rfl) (cc:PySem.W.codeIn (KW w) (.ref c) x=true:=by kernel_rfl) (k:PySem.W.keepIn (KW w) (.ref f)=true:=by kernel_rfl):Goal:=cont ⟨f,_,yu l cc k,PySem.W.mg_of X G a⟩ rfl
theorem mcl (x:Str) (C:Addr) (X:(KW w).In h) (G:h.Ns mainGlobals mg) (cont:∀ D:Addr,mg x=some (.ref D)→Cls (KW w) D→D=C→Goal) (a:PySem.W.nsIn (KW w) mainGlobals x=some (some (.ref C)):=by kernel_rfl) (pg:PySem.W.plainGet (KW w) C Str.empty=true:=by kernel_rfl)
    (hd:PySem.W.hasDictIn (KW w) C=true:=by kernel_rfl) (po:PySem.W.plainOver (KW w) C=true:=by kernel_rfl) (sa:PySem.W.findIn (KW w) (.ref C) "__setattr__" = some (some (.builtin "object.__setattr__")):=by kernel_rfl):Goal:=cont C (PySem.W.mg_of X G a) ⟨pg,hd,po,sa⟩ rfl
theorem mna {C D:Addr} (f:Str) (X:(KW w).In h) (e:D=C) (n:PySem.W.findIn (KW w) (.ref C) f=some none:=by kernel_rfl):b5 (KW w) D f:=by
  subst e
  exact n
theorem mme {C D:Addr} (x q:Str) (st:Stmt) (f c t:Nat) (m:Str) (X:(KW w).In h) (e:D=C) (cont:∀ M:Md (KW w) x q st,Meth (KW w) D x M.f→Goal) (a:PySem.W.findIn (KW w) (.ref C) x=some (some (.ref f)):=by kernel_rfl) (i:PySem.W.isFn (KW w) (.ref f)=true:=by kernel_rfl)
    (l:(KW w).lookup f=some ⟨.type "function",none,.func (PySem.W.fnOf x q (hG st) (fK st) (aj st) .none .none .none (.str m t) none (.ref c) .none),#[]⟩:=by kernel_rfl) (cc:PySem.W.codeIn (KW w) (.ref c) q=true:=by kernel_rfl) (k:PySem.W.keepIn (KW w) (.ref f)=true:=by kernel_rfl):Goal:=by
  subst e
  exact cont ⟨f,_,yu l cc k⟩ ⟨a,i,k⟩
theorem mmk {C D f:Addr} (X:(KW w).In h) (e:D=C) (m:Meth (KW w) D "__init__" f) (mk:PySem.W.makesIn (KW w) C=true:=by kernel_rfl) (kc:PySem.W.keepIn (KW w) (.ref C)=true:=by kernel_rfl):Mk (KW w) D f:=by
  subst e
  exact ⟨mk,m.at_,m.fn,kc⟩
theorem wN {K:PySem.W.Frag} {x p:Str} {st:Stmt} (D:Df K mg x st) (hb:∀ (kV doc pm cdv ct:Value) (an:Option Addr) (u:Value),bindArgs (PySem.W.fnOf x x (hG st) (fK st) (aj st) .none kV doc pm an cdv ct) ⟨[u],[]⟩=pure ([p].zip [u])):∀ (s:Shared) (us:List Value),us.length=[p].length→BindsTo s D.fd ⟨us,[]⟩ ([p].zip us):=by
  obtain ⟨oc,od,kV,doc,pm,an,cdv,ct,osl,e,_,_⟩:=D.F.ex
  intro s us hu
  rw [e]
  match us,hu with
  | [u],_=>exact .of_eq (hb kV doc pm cdv ct an u)
end
theorem txt_of {w:World} {mg:Str→Option Value} {h:Heap} (KX:(KW w).In h) (G:h.Ns mainGlobals mg):Nonempty (Txt (KW w) mg):=by
  have t_FORM:=mtu "FORM" [.str "reach",.str "from",.str "delay",.str "loss",.str "soak",.str "cap",.str "gate"] 183 #[.str "reach" 456,.str "from" 457,.str "delay" 458,.str "loss" 459,.str "soak" 460,.str "cap" 461,.str "gate" 462] KX G (by decide) (.cons ⟨_,rfl⟩ (.cons ⟨_,rfl⟩ (.cons ⟨_,rfl⟩ (.cons ⟨_,rfl⟩ (.cons ⟨_,rfl⟩ (.cons ⟨_,rfl⟩ (.cons ⟨_,rfl⟩ .nil)))))))
  have t_LEAST:=mtu "LEAST" [.int 0,.int 0,.int 0,.int 1,.int 0] 184 #[.int 0 464,.int 0 465,.int 0 466,.int 1 467,.int 0 468] KX G (by decide) (.cons ⟨_,rfl⟩ (.cons ⟨_,rfl⟩ (.cons ⟨_,rfl⟩ (.cons ⟨_,rfl⟩ (.cons ⟨_,rfl⟩ .nil)))))
  have t_GREATEST:=mtu "GREATEST" [.int 10,.int 99,.int 1000,.int 100000,.int 100] 185 #[.int 10 470,.int 99 471,.int 1000 472,.int 100000 473,.int 100 474] KX G (by decide) (.cons ⟨_,rfl⟩ (.cons ⟨_,rfl⟩ (.cons ⟨_,rfl⟩ (.cons ⟨_,rfl⟩ (.cons ⟨_,rfl⟩ .nil)))))
  have t_HOW_MANY_NUMBERS:=mtu "HOW_MANY_NUMBERS" [.int 0,.int 1,.int 3,.int 2,.int 3,.int 1,.int 0,.int 1,.int 3,.int 2,.int 0,.int 0,.int 2,.int 0,.int 2,.int 0,.int 0,.int 0] 477 #[.int 0 918,.int 1 919,.int 3 920,.int 2 921,.int 3 922,.int 1 923,.int 0 924,.int 1 925,.int 3 926,.int 2 927,.int 0 928,.int 0 929,.int 2 930,.int 0 931,.int 2 932,.int 0 933,.int 0 934,.int 0 935] KX G (by decide) (.cons ⟨_,rfl⟩ (.cons ⟨_,rfl⟩ (.cons ⟨_,rfl⟩ (.cons ⟨_,rfl⟩ (.cons ⟨_,rfl⟩ (.cons ⟨_,rfl⟩ (.cons ⟨_,rfl⟩ (.cons ⟨_,rfl⟩ (.cons ⟨_,rfl⟩ (.cons ⟨_,rfl⟩ (.cons ⟨_,rfl⟩ (.cons ⟨_,rfl⟩ (.cons ⟨_,rfl⟩ (.cons ⟨_,rfl⟩ (.cons ⟨_,rfl⟩ (.cons ⟨_,rfl⟩ (.cons ⟨_,rfl⟩ (.cons ⟨_,rfl⟩ .nil))))))))))))))))))
  have t_WITH_ROW:=mtu "WITH_ROW" [.int 0,.int 1,.int 10,.int 11] 478 #[.int 0 937,.int 1 938,.int 10 939,.int 11 940] KX G (by decide) (.cons ⟨_,rfl⟩ (.cons ⟨_,rfl⟩ (.cons ⟨_,rfl⟩ (.cons ⟨_,rfl⟩ .nil))))
  refine mdf "common_divisor" dR 21 20 187 "channelnet.fraction" KX G fun d_common_divisor e_common_divisor=>?_
  refine mdf "lowest" m9 28 27 187 "channelnet.fraction" KX G fun d_lowest e_lowest=>?_
  refine mdf "total" qa 35 34 187 "channelnet.fraction" KX G fun d_total e_total=>?_
  refine mdf "with_cap" jF 91 90 219 "channelnet.state" KX G fun d_with_cap e_with_cap=>?_
  refine mdf "if_held" i9 96 95 219 "channelnet.state" KX G fun d_if_held e_if_held=>?_
  refine mdf "way_to" mX 103 102 219 "channelnet.state" KX G fun d_way_to e_way_to=>?_
  refine mdf "beginning_at" dD 108 107 219 "channelnet.state" KX G fun d_beginning_at e_beginning_at=>?_
  refine mdf "ends_of" ja 113 112 219 "channelnet.state" KX G fun d_ends_of e_ends_of=>?_
  refine mdf "gate_part" iy 120 119 342 "channelnet.gates" KX G fun d_gate_part e_gate_part=>?_
  refine mdf "parts_fit" fB 125 124 342 "channelnet.gates" KX G fun d_parts_fit e_parts_fit=>?_
  refine mdf "to_take" k8 132 131 363 "channelnet.need" KX G fun d_to_take e_to_take=>?_
  refine mdf "can_take" jM 139 138 363 "channelnet.need" KX G fun d_can_take e_can_take=>?_
  refine mdf "needed" mZ 146 145 363 "channelnet.need" KX G fun d_needed e_needed=>?_
  refine mdf "from_below" gN 153 152 397 "channelnet.asked" KX G fun d_from_below e_from_below=>?_
  refine mdf "offered_at" eG 158 157 397 "channelnet.asked" KX G fun d_offered_at e_offered_at=>?_
  refine mdf "offers_for" eF 163 162 397 "channelnet.asked" KX G fun d_offers_for e_offers_for=>?_
  refine mdf "part_of" ld 170 169 397 "channelnet.asked" KX G fun d_part_of e_part_of=>?_
  refine mdf "line_of" lg 177 176 431 "channelnet.printing" KX G fun d_line_of e_line_of=>?_
  refine mdf "text_of" gt 182 181 431 "channelnet.printing" KX G fun d_text_of e_text_of=>?_
  refine mdf "sign_of" k9 192 191 450 "channelnet.reading" KX G fun d_sign_of e_sign_of=>?_
  refine mdf "words_of" jE 199 198 450 "channelnet.reading" KX G fun d_words_of e_words_of=>?_
  refine mdf "lines_of" jJ 206 205 450 "channelnet.reading" KX G fun d_lines_of e_lines_of=>?_
  refine mdf "has_form" gM 211 210 450 "channelnet.reading" KX G fun d_has_form e_has_form=>?_
  refine mdf "is_number" iw 218 217 450 "channelnet.reading" KX G fun d_is_number e_is_number=>?_
  refine mdf "are_numbers_right" cS 225 224 450 "channelnet.reading" KX G fun d_are_numbers_right e_are_numbers_right=>?_
  refine mdf "is_name_free" dC 230 229 450 "channelnet.reading" KX G fun d_is_name_free e_is_name_free=>?_
  refine mdf "place_of" jI 237 236 450 "channelnet.reading" KX G fun d_place_of e_place_of=>?_
  refine mdf "reach_at" jH 244 243 450 "channelnet.reading" KX G fun d_reach_at e_reach_at=>?_
  refine mdf "fits" qb 249 248 450 "channelnet.reading" KX G fun d_fits e_fits=>?_
  refine mdf "read_reach" dw 254 253 450 "channelnet.reading" KX G fun d_read_reach e_read_reach=>?_
  refine mdf "read_net" jG 261 260 450 "channelnet.reading" KX G fun d_read_net e_read_net=>?_
  refine mdf "pass_through" ff 268 267 588 "channelnet.water" KX G fun d_pass_through e_pass_through=>?_
  refine mdf "passes" mY 275 274 588 "channelnet.water" KX G fun d_passes e_passes=>?_
  refine mdf "pass_of" lc 282 281 588 "channelnet.water" KX G fun d_pass_of e_pass_of=>?_
  refine mdf "leaving_at" gL 289 288 588 "channelnet.water" KX G fun d_leaving_at e_leaving_at=>?_
  refine mdf "flow_at" li 296 295 588 "channelnet.water" KX G fun d_flow_at e_flow_at=>?_
  refine mdf "account_of" gR 303 302 588 "channelnet.water" KX G fun d_account_of e_account_of=>?_
  refine mdf "account_of_all" cI 308 307 588 "channelnet.water" KX G fun d_account_of_all e_account_of_all=>?_
  refine mdf "spills_of_all" cX 313 312 588 "channelnet.water" KX G fun d_spills_of_all e_spills_of_all=>?_
  refine mdf "most_leaving" fg 320 319 588 "channelnet.water" KX G fun d_most_leaving e_most_leaving=>?_
  refine mdf "told" tR 327 326 588 "channelnet.water" KX G fun d_told e_told=>?_
  refine mdf "is_reach" jL 334 333 695 "channelnet.channels" KX G fun d_is_reach e_is_reach=>?_
  refine mdf "is_tick" lh 341 340 695 "channelnet.channels" KX G fun d_is_tick e_is_tick=>?_
  refine mdf "is_water" jK 348 347 695 "channelnet.channels" KX G fun d_is_water e_is_water=>?_
  refine mdf "are_asks" gO 353 352 695 "channelnet.channels" KX G fun d_are_asks e_are_asks=>?_
  refine mdf "answer_net" gQ 360 359 695 "channelnet.channels" KX G fun d_answer_net e_answer_net=>?_
  refine mdf "answer_let" eI 365 364 695 "channelnet.channels" KX G fun d_answer_let e_answer_let=>?_
  refine mdf "answer_gate" fY 372 371 695 "channelnet.channels" KX G fun d_answer_gate e_answer_gate=>?_
  refine mdf "answer_flow" fZ 379 378 695 "channelnet.channels" KX G fun d_answer_flow e_answer_flow=>?_
  refine mdf "answer_comes" dE 384 383 695 "channelnet.channels" KX G fun d_answer_comes e_answer_comes=>?_
  refine mdf "answer_account" dU 391 390 695 "channelnet.channels" KX G fun d_answer_account e_answer_account=>?_
  refine mdf "answer_accounts" dF 398 397 695 "channelnet.channels" KX G fun d_answer_accounts e_answer_accounts=>?_
  refine mdf "answer_way" gP 405 404 695 "channelnet.channels" KX G fun d_answer_way e_answer_way=>?_
  refine mdf "answer_need" fW 412 411 695 "channelnet.channels" KX G fun d_answer_need e_answer_need=>?_
  refine mdf "answer_most" fX 419 418 695 "channelnet.channels" KX G fun d_answer_most e_answer_most=>?_
  refine mdf "answer_wants" fh 426 425 695 "channelnet.channels" KX G fun d_answer_wants e_answer_wants=>?_
  refine mdf "answer_set_gates" df 433 432 695 "channelnet.channels" KX G fun d_answer_set_gates e_answer_set_gates=>?_
  refine mdf "answer_part" fV 440 439 695 "channelnet.channels" KX G fun d_answer_part e_answer_part=>?_
  refine mdf "answer_spills" eB 447 446 695 "channelnet.channels" KX G fun d_answer_spills e_answer_spills=>?_
  refine mdf "answer_ifcap" fi 454 453 695 "channelnet.channels" KX G fun d_answer_ifcap e_answer_ifcap=>?_
  refine mdf "answer_ends" f6 461 460 695 "channelnet.channels" KX G fun d_answer_ends e_answer_ends=>?_
  refine mdf "answer_print_text" cT 468 467 695 "channelnet.channels" KX G fun d_answer_print_text e_answer_print_text=>?_
  refine mdf "answer_counts" eC 475 474 695 "channelnet.channels" KX G fun d_answer_counts e_answer_counts=>?_
  refine mdf "answer_call" f7 485 484 695 "channelnet.channels" KX G fun d_answer_call e_answer_call=>?_
  refine mdf "answers" lj 492 491 695 "channelnet.channels" KX G fun d_answers e_answers=>?_
  have t_FUNCTIONS:=mtu "FUNCTIONS" [.ref d_answer_net.f,.ref d_answer_let.f,.ref d_answer_gate.f,.ref d_answer_flow.f,.ref d_answer_comes.f,.ref d_answer_account.f,.ref d_answer_accounts.f,.ref d_answer_way.f,.ref d_answer_need.f,.ref d_answer_most.f,.ref d_answer_wants.f,.ref d_answer_set_gates.f,.ref d_answer_part.f,.ref d_answer_spills.f,.ref d_answer_ifcap.f,.ref d_answer_ends.f,.ref d_answer_print_text.f,.ref d_answer_counts.f] 476 #[.ref 360,.ref 365,.ref 372,.ref 379,.ref 384,.ref 391,.ref 398,.ref 405,.ref 412,.ref 419,.ref 426,.ref 433,.ref 440,.ref 447,.ref 454,.ref 461,.ref 468,.ref 475] KX G (by decide) (.cons (cr e_answer_net) (.cons (cr e_answer_let) (.cons (cr e_answer_gate) (.cons (cr e_answer_flow) (.cons (cr e_answer_comes) (.cons (cr e_answer_account) (.cons (cr e_answer_accounts) (.cons (cr e_answer_way) (.cons (cr e_answer_need) (.cons (cr e_answer_most) (.cons (cr e_answer_wants) (.cons (cr e_answer_set_gates) (.cons (cr e_answer_part) (.cons (cr e_answer_spills) (.cons (cr e_answer_ifcap) (.cons (cr e_answer_ends) (.cons (cr e_answer_print_text) (.cons (cr e_answer_counts) .nil))))))))))))))))))
  refine mcl "Reach" 52 KX G fun a_Reach m_Reach cl_Reach ea_Reach=>?_
  refine mme "__init__" "Reach.__init__" gS 49 48 219 "channelnet.state" KX ea_Reach fun d_Reach_init me_Reach_init=>?_
  refine mcl "Net" 80 KX G fun a_Net m_Net cl_Net ea_Net=>?_
  refine mme "__init__" "Net.__init__" jN 70 69 219 "channelnet.state" KX ea_Net fun d_Net_init me_Net_init=>?_
  refine mme "renew" "Net.renew" iz 77 76 219 "channelnet.state" KX ea_Net fun d_Net_renew me_Net_renew=>?_
  exact ⟨{ n_len:=mn "len" KX G,n_range:=mn "range" KX G,n_reversed:=mn "reversed" KX G,n_list:=mn "list" KX G,n_all:=mn "all" KX G,n_sum:=mn "sum" KX G,n_min:=mn "min" KX G,n_enumerate:=mn "enumerate" KX G,n_zip:=mn "zip" KX G,n_int:=mn "int" KX G,n_str:=mn "str" KX G,n_ord:=mn "ord" KX G,c_SOURCE:=mi "SOURCE" (-1) 222 KX G,c_TICKS:=mi "TICKS" (60) 224 KX G,c_MOST_REACHES:=mi "MOST_REACHES" (30) 476 KX G,c_LONGEST_WAY:=mi "LONGEST_WAY" (8) 478 KX G,c_LONGEST_NAME:=mi "LONGEST_NAME" (8) 480 KX G,c_LONGEST_NUMBER:=mi "LONGEST_NUMBER" (8) 482 KX G,c_NOWHERE:=mi "NOWHERE" (-2) 485 KX G,c_DROPS:=mi "DROPS" (100000000000000000000000000000000) 590 KX G,c_NO_NET:=mi "NO_NET" (-9) 698 KX G,c_OUT_OF_RANGE:=mi "OUT_OF_RANGE" (-1) 701 KX G,c_TOO_MUCH_PARTED:=mi "TOO_MUCH_PARTED" (-7) 704 KX G,c_CANNOT:=mi "CANNOT" (-8) 707 KX G,c_TOO_MANY_SETTINGS:=mi "TOO_MANY_SETTINGS" (-6) 710 KX G,c_MOST_WATER:=mi "MOST_WATER" (1000000) 712 KX G,c_MOST_SETTINGS:=mi "MOST_SETTINGS" (60) 714 KX G,c_MOST_CAP:=mi "MOST_CAP" (100000) 716 KX G,c_NET:=mi "NET" (0) 915 KX G,c_LETTERS:=mt "LETTERS" "abcdefghijklmnopqrstuvwxyz" 452 KX G,c_DIGITS:=mt "DIGITS" "0123456789" 454 KX G,t_FORM:=t_FORM,t_LEAST:=t_LEAST,t_GREATEST:=t_GREATEST,t_HOW_MANY_NUMBERS:=t_HOW_MANY_NUMBERS,t_WITH_ROW:=t_WITH_ROW,common_divisor:=d_common_divisor,lowest:=d_lowest,total:=d_total,with_cap:=d_with_cap,if_held:=d_if_held,way_to:=d_way_to,beginning_at:=d_beginning_at,ends_of:=d_ends_of,gate_part:=d_gate_part,parts_fit:=d_parts_fit,to_take:=d_to_take,can_take:=d_can_take,needed:=d_needed,from_below:=d_from_below,offered_at:=d_offered_at,offers_for:=d_offers_for,part_of:=d_part_of,line_of:=d_line_of,text_of:=d_text_of,sign_of:=d_sign_of,words_of:=d_words_of,lines_of:=d_lines_of,has_form:=d_has_form,is_number:=d_is_number,are_numbers_right:=d_are_numbers_right,is_name_free:=d_is_name_free,place_of:=d_place_of,reach_at:=d_reach_at,fits:=d_fits,read_reach:=d_read_reach,read_net:=d_read_net,pass_through:=d_pass_through,passes:=d_passes,pass_of:=d_pass_of,leaving_at:=d_leaving_at,flow_at:=d_flow_at,account_of:=d_account_of,account_of_all:=d_account_of_all,spills_of_all:=d_spills_of_all,most_leaving:=d_most_leaving,told:=d_told,is_reach:=d_is_reach,is_tick:=d_is_tick,is_water:=d_is_water,are_asks:=d_are_asks,answer_net:=d_answer_net,answer_let:=d_answer_let,answer_gate:=d_answer_gate,answer_flow:=d_answer_flow,answer_comes:=d_answer_comes,answer_account:=d_answer_account,answer_accounts:=d_answer_accounts,answer_way:=d_answer_way,answer_need:=d_answer_need,answer_most:=d_answer_most,answer_wants:=d_answer_wants,answer_set_gates:=d_answer_set_gates,answer_part:=d_answer_part,answer_spills:=d_answer_spills,answer_ifcap:=d_answer_ifcap,answer_ends:=d_answer_ends,answer_print_text:=d_answer_print_text,answer_counts:=d_answer_counts,answer_call:=d_answer_call,answers:=d_answers,t_FUNCTIONS:=t_FUNCTIONS,a_Reach:=a_Reach,m_Reach:=m_Reach,cl_Reach:=cl_Reach,na_Reach_name:=mna "name" KX ea_Reach,na_Reach_begins:=mna "begins" KX ea_Reach,na_Reach_above:=mna "above" KX ea_Reach,na_Reach_depth:=mna "depth" KX ea_Reach,na_Reach_delay:=mna "delay" KX ea_Reach,na_Reach_loss:=mna "loss" KX ea_Reach,na_Reach_soak:=mna "soak" KX ea_Reach,na_Reach_cap:=mna "cap" KX ea_Reach,na_Reach_gate:=mna "gate" KX ea_Reach,Reach_init:=d_Reach_init,mk_Reach:=mmk KX ea_Reach me_Reach_init,a_Net:=a_Net,m_Net:=m_Net,cl_Net:=cl_Net,na_Net_reaches:=mna "reaches" KX ea_Net,na_Net_waters:=mna "waters" KX ea_Net,na_Net_settings:=mna "settings" KX ea_Net,Net_init:=d_Net_init,mk_Net:=mmk KX ea_Net me_Net_init,Net_renew:=d_Net_renew,me_Net_renew:=me_Net_renew }⟩
end CN
namespace CN
open PySem PySem.Spec PyProof.Rows L2
def sOf (b:List Nat):Str:=⟨b.toArray⟩
def pInt:Option Nat→Int
  | none=>-1
  | some p=>(p:Int)
theorem xS {p q:Option Nat} (h:pInt p=pInt q):p=q:=by
  cases p <;> cases q <;> simp only [pInt] at h <;> first | rfl | omega | skip
  exact congrArg some (by omega)
def rfs (name:Str) (b a d D L S C G:Int):List (Str × V) :=
  [("name",.str name),("begins",.int b),("above",.int a),("depth",.int d),("delay",.int D),("loss",.int L),("soak",.int S),("cap",.int C),("gate",.int G)]
def rf (ns:Vbiraa.Net) (i:Nat):List (Str × V) :=
  rfs (sOf (Vbiraa.reachAt ns i).name) (pInt (Vbiraa.reachAt ns i).parent) (above ns i) (depth ns i) (Vbiraa.reachAt ns i).delay (Vbiraa.reachAt ns i).loss (Vbiraa.reachAt ns i).soak (Vbiraa.reachAt ns i).cap (Vbiraa.reachAt ns i).gate
section
variable {name:Str} {b a d D L S C G:Int}
theorem nV:(rfs name b a d D L S C G).lookup ("name" : Str)=some (.str name):=by rfl
theorem cW:(rfs name b a d D L S C G).lookup ("begins" : Str)=some (.int b):=by rfl
theorem g8:(rfs name b a d D L S C G).lookup ("above" : Str)=some (.int a):=by rfl
theorem qt:(rfs name b a d D L S C G).lookup ("depth" : Str)=some (.int d):=by rfl
theorem kG:(rfs name b a d D L S C G).lookup ("delay" : Str)=some (.int D):=by rfl
theorem qr:(rfs name b a d D L S C G).lookup ("loss" : Str)=some (.int L):=by rfl
theorem qp:(rfs name b a d D L S C G).lookup ("soak" : Str)=some (.int S):=by rfl
theorem vd:(rfs name b a d D L S C G).lookup ("cap" : Str)=some (.int C):=by rfl
theorem nW:(rfs name b a d D L S C G).lookup ("gate" : Str)=some (.int G):=by rfl
end
structure RsAt (C:Addr) (H:Hp) (l:Addr) (ns:Vbiraa.Net):Prop where
  ex:∃ as:List Addr,H l=some (.lst (as.map V.ref))∧as.length=ns.length∧∀ (i:Nat) (a:Addr),as[i]?=some a→∃ dx,H a=some (.ins C dx (rf ns i))
theorem RsAt.same {C l:Addr} {H H':Hp} {ns:Vbiraa.Net} (R:RsAt C H l ns) (s:Same H H'):RsAt C H' l ns:=by
  obtain ⟨as,h1,h2,h3⟩:=R.ex
  refine ⟨as,s _ _ h1,h2,fun i a e=>?_⟩
  obtain ⟨dx,h⟩:=h3 i a e
  exact ⟨dx,s _ _ h⟩
def NewL (H:Hp) (Q:VK) (xs:List V):Prop:=∀ (H':Hp) (p:Addr),Same H H'→H p=none→H' p=some (.lst xs)→Q (.ref p) H'
def ao (l:List Nat):List V:=l.map fun (n:Nat)=>V.int (n:Int)
theorem aP {n:Nat} (h:n < 1000000):n < sizeLine:=Nat.lt_of_lt_of_le h (by decide)
section
variable {P:Program} {w:World} {K:PySem.W.Frag} {mg:Str→Option Value} {base:Heap}
def spBeg (C:Addr):Sp:=fun vs H Q _=>∃ (l:Addr) (ns:Vbiraa.Net) (p:Option Nat),vs=[.ref l,.int (pInt p)]∧RsAt C H l ns∧ns.length≤1000∧NewL H Q (ao (Vbiraa.children ns p))
theorem bD (T:Txt K mg):FnOk P w K mg base CX0 1 T.beginning_at.f T.beginning_at.fd ["reaches", "place"] (spBeg T.a_Reach):=by
  refine T.beginning_at.F.ok eA (fun vs H Q E h=>?_) (fun cdv A outer s H vs Q E hr h=>?_)
  · obtain ⟨l,ns,p,rfl,_⟩:=h
    rfl
  · obtain ⟨l,ns,p,rfl,R,hn,k⟩:=h
    refine ⟨_,(ag (au (gv (own:=[("k",2)]) rfl eA.nd (cK rfl T.n_range (aa (aE (ax (K:=K)) (by rfl) T.n_len PySem.boot_len (aa (pv 0) ad)) ad)) (bh (N:=["reaches", "place", "k"]) (sc:=aj dD) (by decide +kernel)) (fun _ _ _ _ _=>(aI (i:=2) eA.nd rfl (by first | exact Or.inl rfl | exact Or.inr rfl))) (fun _ _ _ _ _=>(uV (aN dG (am (K:=K) (ay (ak (K:=K)) (pv 0) (pv 2) (fun _ _=>rfl)) rfl) (pv 1) (aQ _)))) (fun _ _ _ _ _=>(pv 2))))),?_⟩
    obtain ⟨as,h1,h2,h3⟩:=R.ex
    have hl:(as.map V.ref).length=ns.length:=by rw [List.length_map]; exact h2
    refine ⟨_,rfl,l,_,rfl,.inl (SqL.of h1),_,rfl,by omega,by omega,fun D hD=>?_⟩
    refine nT (n:=(as.map V.ref).length) (fun j H'=>Same H H'∧H' D=some (.lst (ao ((List.range j).filter fun i=>(Vbiraa.reachAt ns i).parent == p)))) ⟨ah hD,ac⟩ ?_ ?_
    · rintro i H' hi ⟨sm,hD'⟩
      rw [hl] at hi
      obtain ⟨a,ha⟩:∃ a,as[i]?=some a:=⟨_,List.getElem?_eq_getElem (by omega)⟩
      obtain ⟨dx,hx⟩:=h3 i a ha
      refine ⟨rfl,_,rfl,_,rfl,l,_,_,_,rfl,rfl,SqL.of (sm _ _ h1),at_of (j:=i) (v:=V.ref a) (Int.zero_add _) (by rw [List.getElem?_map,ha]; rfl),a,T.a_Reach,dx,_,_,rfl,sm _ _ hx,T.cl_Reach,T.na_Reach_begins,cW,_,rfl,rfl,_,rfl,?_⟩
      have e:decide (V.int (pInt (Vbiraa.reachAt ns i).parent)=V.int (pInt p))=((Vbiraa.reachAt ns i).parent == p):=by
        rw [Bool.eq_iff_iff,decide_eq_true_eq,beq_iff_eq]
        exact ⟨fun q=>xS (V.int.inj q),fun q=>by rw [q]⟩
      rw [e,List.range_succ,List.filter_append]
      cases c:((Vbiraa.reachAt ns i).parent == p) with
      | true =>
        refine iteT ⟨_,rfl,_,hD',?_,?_,?_⟩
        · unfold ao
          rw [List.length_map]
          refine aP (Nat.lt_of_le_of_lt (List.length_filter_le _ _) ?_)
          rw [List.length_range]
          omega
        · exact aR sm hD
        · rw [ac]
          unfold ao
          rw [List.map_append,List.filter_cons,if_pos c,Int.zero_add]
          rfl
      | false =>
        refine iteF ⟨sm,?_⟩
        rw [List.filter_cons,if_neg (by rw [c]; exact Bool.false_ne_true),List.filter_nil,List.append_nil]
        exact hD'
    · rintro H' ⟨sm,hD'⟩
      rw [hl] at hD'
      exact k H' D sm hD hD'
def spEnds (C:Addr):Sp:=fun vs H Q _=>∃ (l:Addr) (ns:Vbiraa.Net),vs=[.ref l]∧RsAt C H l ns∧ns.length≤1000∧NewL H Q (ao (Vbiraa.ends ns))
theorem dX (T:Txt K mg):FnOk P w K mg base CX0 2 T.ends_of.f T.ends_of.fd ["reaches"] (spEnds T.a_Reach):=by
  refine T.ends_of.F.ok jC (fun vs H Q E h=>?_) (fun cdv A outer s H vs Q E hr h=>?_)
  · obtain ⟨l,ns,rfl,_⟩:=h
    rfl
  · obtain ⟨l,ns,rfl,R,hn,k⟩:=h
    refine ⟨_,(ag (au (gv (own:=[("k",1)]) rfl jC.nd (cK rfl T.n_range (aa (aE (ax (K:=K)) (by rfl) T.n_len PySem.boot_len (aa (pv 0) ad)) ad)) (bh (N:=["reaches", "k"]) (sc:=aj ja) (by decide +kernel)) (fun _ _ _ _ _=>(aI (i:=1) jC.nd rfl (by first | exact Or.inl rfl | exact Or.inr rfl))) (fun _ _ _ _ _=>(uV (aN dG (aE (ax (K:=K)) (by rfl) T.n_len PySem.boot_len (aa (aC T.beginning_at (bD T) (hr.mono (by decide)) bM (aa (pv 0) (aa (pv 1) ad))) ad)) af (aQ _)))) (fun _ _ _ _ _=>(pv 1))))),?_⟩
    obtain ⟨as,h1,h2,h3⟩:=R.ex
    have hl:(as.map V.ref).length=ns.length:=by rw [List.length_map]; exact h2
    refine ⟨_,rfl,l,_,rfl,.inl (SqL.of h1),_,rfl,by omega,by omega,fun D hD=>?_⟩
    refine nT (n:=(as.map V.ref).length) (fun j H'=>Same H H'∧H' D=some (.lst (ao ((List.range j).filter fun i=>(Vbiraa.children ns (some i)).isEmpty)))) ⟨ah hD,ac⟩ ?_ ?_
    · rintro i H' hi ⟨sm,hD'⟩
      rw [hl] at hi
      refine ⟨rfl,_,rfl,_,rfl,l,ns,some i,?_,R.same sm,hn,?_⟩
      · rw [Int.zero_add]; rfl
      intro H2 q s2 hq hq2
      refine ⟨q,_,rfl,.inl (SqL.of hq2),rfl,_,rfl,?_⟩
      have e:decide (V.int ((ao (Vbiraa.children ns (some i))).length:Int)=V.int 0)=(Vbiraa.children ns (some i)).isEmpty:=by
        rw [Bool.eq_iff_iff,decide_eq_true_eq,List.isEmpty_iff]
        unfold ao
        rw [List.length_map]
        constructor
        · intro q
          have:=V.int.inj q
          exact List.length_eq_zero_iff.mp (by omega)
        · intro q
          rw [q]
          rfl
      rw [e,List.range_succ,List.filter_append]
      have sm2:Same H H2:=sm.trans s2
      cases c:(Vbiraa.children ns (some i)).isEmpty with
      | true =>
        refine iteT ⟨_,rfl,_,s2 _ _ hD',?_,?_,?_⟩
        · unfold ao
          rw [List.length_map]
          refine aP (Nat.lt_of_le_of_lt (List.length_filter_le _ _) ?_)
          rw [List.length_range]
          omega
        · exact aR sm2 hD
        · rw [ac]
          unfold ao
          rw [List.map_append,List.filter_cons,if_pos c,Int.zero_add]
          rfl
      | false =>
        refine iteF ⟨sm2,?_⟩
        rw [List.filter_cons,if_neg (by rw [c]; exact Bool.false_ne_true),List.filter_nil,List.append_nil]
        exact s2 _ _ hD'
    · rintro H' ⟨sm,hD'⟩
      rw [hl] at hD'
      exact k H' D sm hD hD'
end
end CN
namespace CN
open PySem PySem.Spec PyProof.Rows L2
def jp (ns:Vbiraa.Net) (ss:List Vbiraa.Setting) (i t:Nat):Nat:=Vbiraa.partAt { net:=ns,lets:=[],settings:=ss } i t
def bZ (i t:Nat) (b:Nat × Nat) (s:Vbiraa.Setting):Nat × Nat:=if s.reach=i∧b.1≤s.tick∧s.tick≤t then (s.tick,s.part) else b
def gp (g i t:Nat) (ss:List Vbiraa.Setting):Nat × Nat:=ss.foldl (bZ i t) (0,g)
def p4 (b:Option Vbiraa.Setting) (s:Vbiraa.Setting):Option Vbiraa.Setting:=match b with
  | none=>some s
  | some x=>if Vbiraa.later s x=true then some s else some x
theorem ut (g i t:Nat):∀ (ss:List Vbiraa.Setting) (b:Option Vbiraa.Setting) (c:Nat × Nat),(match b with | none=>c=(0,g) | some x=>c=(x.tick,x.part)) →
    (match (ss.filter fun s=>s.reach == i && decide (s.tick≤t)).foldl p4 b with | none=>ss.foldl (bZ i t) c=(0,g) | some x=>ss.foldl (bZ i t) c=(x.tick,x.part))
  | [],b,c,h=>by
    cases b <;> exact h
  | s :: ss,b,c,h=>by
    rw [List.filter_cons,List.foldl_cons]
    by_cases hs:s.reach=i∧s.tick≤t
    · rw [if_pos (by rw [Bool.and_eq_true,beq_iff_eq,decide_eq_true_eq]; exact hs),List.foldl_cons]
      refine ut g i t ss _ _ ?_
      cases b with
      | none =>
        have e:c=(0,g):=h
        subst e
        show bZ i t (0,g) s=(s.tick,s.part)
        unfold bZ
        rw [if_pos ⟨hs.1,Nat.zero_le _,hs.2⟩]
      | some x =>
        have e:c=(x.tick,x.part):=h
        subst e
        unfold p4 bZ Vbiraa.later
        by_cases q:x.tick≤s.tick
        · simp only [q,decide_true,if_true,hs,and_self]
        · simp only [q,decide_false,Bool.false_eq_true,if_false,false_and,and_false]
    · rw [if_neg (by rw [Bool.and_eq_true,beq_iff_eq,decide_eq_true_eq]; exact hs)]
      have e:bZ i t c s=c:=by
        unfold bZ
        rw [if_neg (fun q=>hs ⟨q.1,q.2.2⟩)]
      rw [e]
      exact ut g i t ss b c h
theorem zB (ns:Vbiraa.Net) (ss:List Vbiraa.Setting) (i t:Nat):(gp (Vbiraa.reachAt ns i).gate i t ss).2=jp ns ss i t:=by
  have h:=ut (Vbiraa.reachAt ns i).gate i t ss none _ rfl
  unfold jp Vbiraa.partAt
  show _=(match (ss.filter fun s=>s.reach == i && decide (s.tick≤t)).foldl p4 none with | some s=>s.part | none=>(Vbiraa.reachAt ns i).gate)
  unfold gp
  cases e:(ss.filter fun s=>s.reach == i && decide (s.tick≤t)).foldl p4 none with
  | none =>
    rw [e] at h
    rw [show ss.foldl (bZ i t) (0,(Vbiraa.reachAt ns i).gate)=(0,(Vbiraa.reachAt ns i).gate) from h]
  | some x =>
    rw [e] at h
    rw [show ss.foldl (bZ i t) (0,(Vbiraa.reachAt ns i).gate)=(x.tick,x.part) from h]
theorem zA {g i t:Nat} {ss:List Vbiraa.Setting} {k:Nat} {s:Vbiraa.Setting} (h:ss[k]?=some s):gp g i t (ss.take (k + 1))=bZ i t (gp g i t (ss.take k)) s:=by
  unfold gp
  rw [List.take_add_one,h,List.foldl_append]
  rfl
structure gh (H:Hp) (l:Addr) (ss:List Vbiraa.Setting):Prop where
  ex:∃ as:List Addr,H l=some (.lst (as.map V.ref))∧as.length=ss.length∧∀ (i:Nat) (a:Addr) (s:Vbiraa.Setting),as[i]?=some a→ss[i]?=some s→H a=some (.tup [.int s.reach,.int s.tick,.int s.part])
theorem gh.same {l:Addr} {H H':Hp} {ss:List Vbiraa.Setting} (R:gh H l ss) (s:Same H H'):gh H' l ss:=by
  obtain ⟨as,h1,h2,h3⟩:=R.ex
  exact ⟨as,s _ _ h1,h2,fun i a x e e'=>s _ _ (h3 i a x e e')⟩
theorem cZ {a b:Nat}:decide (V.int (a:Int)=V.int (b:Int))=decide (a=b):=decide_eq_decide.mpr ⟨fun q=>Int.ofNat.inj (V.int.inj q),fun q=>by rw [q]⟩
theorem lA {a b:Nat}:decide ((a:Int)≤(b:Int))=decide (a≤b):=decide_eq_decide.mpr (by omega)
section
variable {P:Program} {w:World} {K:PySem.W.Frag} {mg:Str→Option Value} {base:Heap}
def spGate (C:Addr):Sp:=fun vs H Q _=>∃ (l sl:Addr) (ns:Vbiraa.Net) (ss:List Vbiraa.Setting) (i t:Nat),vs=[.ref l,.ref sl,.int i,.int t]∧RsAt C H l ns∧gh H sl ss∧i < ns.length∧Q (.int (jp ns ss i t)) H
theorem eJ (T:Txt K mg):FnOk P w K mg base CX0 1 T.gate_part.f T.gate_part.fd ["reaches", "settings", "i", "tick"] (spGate T.a_Reach):=by
  refine T.gate_part.F.ok cH (fun vs H Q E h=>?_) (fun cdv A outer s H vs Q E hr h=>?_)
  · obtain ⟨l,sl,ns,ss,i,t,rfl,_⟩:=h
    rfl
  · obtain ⟨l,sl,ns,ss,i,t,rfl,R,S,hi,k⟩:=h
    refine ⟨_,(ae (aw (i:=4) cH.nd rfl (by first | exact Or.inl rfl | exact Or.inr rfl) (am (K:=K) (ay (ak (K:=K)) (pv 0) (pv 2) (fun _ _=>rfl)) rfl))
      (ae (aw (i:=5) cH.nd rfl (by first | exact Or.inl rfl | exact Or.inr rfl) af)
      (ae (bT PassesOwn.never rfl (bW (pv 1)) (aI (i:=6) cH.nd rfl (by first | exact Or.inl rfl | exact Or.inr rfl))
      (ag (aV (xJ (aN dG (ay (aS (K:=K)) (pv 6) af (fun _ _=>rfl)) (pv 2) (aQ _)) (uU (fk cP cP (pv 5) (ay (aS (K:=K)) (pv 6) af (fun _ _=>rfl)) (pv 3)))).pt
      (ae (aw (i:=5) cH.nd rfl (by first | exact Or.inl rfl | exact Or.inr rfl) (ay (aS (K:=K)) (pv 6) af (fun _ _=>rfl)))
      (ag (aw (i:=4) cH.nd rfl (by first | exact Or.inl rfl | exact Or.inr rfl) (ay (aS (K:=K)) (pv 6) af (fun _ _=>rfl)))))
      aH)))
      (ag (au (pv 4)))))),?_⟩
    obtain ⟨as,h1,h2,h3⟩:=R.ex
    obtain ⟨bs,g1,g2,g3⟩:=S.ex
    obtain ⟨a,ha⟩:∃ a,as[i]?=some a:=⟨_,List.getElem?_eq_getElem (by omega)⟩
    obtain ⟨dx,hx⟩:=h3 i a ha
    refine ⟨_,rfl,_,rfl,l,_,_,_,rfl,rfl,SqL.of h1,aY (by rw [List.getElem?_map,ha]; rfl),a,T.a_Reach,dx,_,_,rfl,hx,T.cl_Reach,T.na_Reach_gate,nW,?_⟩
    refine ⟨_,rfl,sl,rfl,⟨_,SqL.of g1⟩,fv (K:=K) (a:=sl) (xs:=bs.map V.ref)
      (fun j σ H'=>H'=H∧∃ v:Option V,σ=[some (.ref l),some (.ref sl),some (.int i),some (.int t),some (.int (gp (Vbiraa.reachAt ns i).gate i t (ss.take j)).2),some (.int (gp (Vbiraa.reachAt ns i).gate i t (ss.take j)).1),v]) ⟨rfl,none,rfl⟩ ?_ ?_ ?_⟩
    · rintro j σ H' _ ⟨rfl,_⟩
      exact SqL.of g1
    · rintro j y σ H' hj ⟨rfl,v,rfl⟩
      obtain ⟨b,hb,rfl⟩:∃ b,bs[j]?=some b∧V.ref b=y:=by
        rw [List.getElem?_map] at hj
        exact Option.map_eq_some_iff.mp hj
      have hjl:j < ss.length:=by
        have:=(List.getElem?_eq_some_iff.mp hb).1
        omega
      obtain ⟨q,hq⟩:∃ q,ss[j]?=some q:=⟨_,List.getElem?_eq_getElem hjl⟩
      have ht:=g3 j b q hb hq
      rw [zA hq]
      generalize gp (Vbiraa.reachAt ns i).gate i t (ss.take j)=c
      refine ⟨_,rfl,b,_,0,_,rfl,rfl,SqT.of ht,rfl,_,rfl,rfl,_,rfl,ite2 (fun c1=>?_) (fun c1=>?_)⟩
      · rw [cZ,decide_eq_true_eq] at c1
        refine ⟨_,rfl,_,rfl,b,_,1,_,rfl,rfl,SqT.of ht,rfl,_,_,rfl,rfl,_,rfl,ite2 (fun c2=>?_) (fun c2=>?_)⟩
        · rw [lA,decide_eq_true_eq] at c2
          refine ⟨_,rfl,_,_,rfl,rfl,_,rfl,ite2 (fun c3=>?_) (fun c3=>?_)⟩
          · rw [lA,decide_eq_true_eq] at c3
            refine ⟨_,rfl,b,_,1,_,rfl,rfl,SqT.of ht,rfl,?_⟩
            refine ⟨_,rfl,b,_,2,_,rfl,rfl,SqT.of ht,rfl,?_⟩
            refine ⟨rfl,some (.ref b),?_⟩
            have e:bZ i t c q=(q.tick,q.part):=by
              unfold bZ
              rw [if_pos ⟨c1,c2,c3⟩]
            rw [e]
            rfl
          · rw [lA,decide_eq_true_eq] at c3
            have e:bZ i t c q=c:=by
              unfold bZ
              rw [if_neg (fun z=>c3 z.2.2)]
            rw [e]
            exact ⟨rfl,_,rfl⟩
        · rw [lA,decide_eq_true_eq] at c2
          refine ⟨_,rfl,?_⟩
          have e:bZ i t c q=c:=by
            unfold bZ
            rw [if_neg (fun z=>c2 z.2.1)]
          rw [e]
          exact iteF ⟨rfl,_,rfl⟩
      · rw [cZ,decide_eq_true_eq] at c1
        have e:bZ i t c q=c:=by
          unfold bZ
          rw [if_neg (fun z=>c1 z.1)]
        rw [e]
        exact iteF ⟨rfl,_,rfl⟩
    · rintro σ H' ⟨rfl,v,rfl⟩
      refine ⟨_,rfl,?_⟩
      rw [List.length_map,g2,List.take_length,zB]
      exact k
end
end CN
namespace CN
open PySem PySem.Spec PyProof.Rows L2
theorem bK {α:Type} {l:List α} {i:Nat} {x:α} (h:l[i]?=some x):l.take (i + 1)=l.take i++[x]:=by
  rw [List.take_add_one,h]
  rfl
section
variable {K:PySem.W.Frag} {a:Addr} {xs:List V} {g:TG} {te:TE} {vs:List Nat} {σ:L2.St} {H1:Hp} {D:Addr} {Qd:Hp→Prop}
theorem kF {i:Nat} {y:V} {ys:List V} {H H':Hp} (hD:H1 D=none) (hz:ys.length < sizeLine) (sm:Same H1 H) (hH:H D=some (.lst (ys.take i))) (hy:ys[i]?=some y) (s2:Same H H') :
    ∃ acc,H' D=some (.lst acc)∧acc.length < sizeLine∧(Same H1 (upd H' D (.lst (acc++[y])))∧(upd H' D (.lst (acc++[y]))) D=some (.lst (ys.take (i + 1)))):=by
  refine ⟨_,s2 _ _ hH,?_,aR (sm.trans s2) hD,?_⟩
  · rw [List.length_take]
    exact Nat.lt_of_le_of_lt (Nat.min_le_right _ _) hz
  · rw [ac,bK hy]
theorem bY (ys:List V) (hl:ys.length=xs.length) (hD:H1 D=none) (hq:SqL K H1 a xs) (hz:xs.length < sizeLine)
    (hs:∀ (i:Nat) (x y:V) (H:Hp),xs[i]?=some x→ys[i]?=some y→Same H1 H→∀ Q:VK,(∀ H',Same H H'→Q y H')→g x (wipe σ vs) H fun σ2 H2=>wipe σ2 vs=wipe σ vs∧te σ2 H2 Q)
    (hd:∀ H,Same H1 H→H D=some (.lst ys)→Qd H) :
    ∃ W:Nat→Nat→Hp→Prop,(∃ m,W 0 m (upd H1 D (.lst [])))∧∀ i m H,W i m H →
      ((Itl K a).stop i H∧Qd H)∨((Itl K a).go i H∧∃ Nx:Hp→Prop,(∀ H',Nx H'→∃ m',m' < m∧W (i + 1) m' H')∧∀ x H',(Itl K a).yld i H x H'→g x (wipe σ vs) H' fun σ2 H2=>wipe σ2 vs=wipe σ vs∧tYes σ2 H2 fun b H3 =>
        if b=true then te σ2 H3 fun y H4=>∃ acc,H4 D=some (.lst acc)∧acc.length < sizeLine∧Nx (upd H4 D (.lst (acc++[y]))) else Nx H3):=by
  refine vb (xs:=xs) (tt:=tYes) (fun i H=>Same H1 H∧H D=some (.lst (ys.take i))) ⟨ah hD,ac⟩ (fun i H _ p=>p.1.seq hq) ?_ ?_
  · rintro i x H hx ⟨sm,hH⟩
    obtain ⟨y,hy⟩:∃ y,ys[i]?=some y:=⟨_,List.getElem?_eq_getElem (by have:=(List.getElem?_eq_some_iff.mp hx).1; omega)⟩
    simp only [tYes,if_true]
    exact hs i x y H hx hy sm _ fun H' s2=>kF hD (by omega) sm hH hy s2
  · rintro H ⟨sm,hH⟩
    rw [←hl,List.take_length] at hH
    exact hd H sm hH
theorem si (ys:List V) (hl:ys.length=xs.length) (hD:H1 D=none) (hq:∀ H,Same H1 H→SqT K H a xs) (hz:xs.length < sizeLine)
    (hs:∀ (i:Nat) (x y:V) (H:Hp),xs[i]?=some x→ys[i]?=some y→Same H1 H→∀ Q:VK,(∀ H',Same H H'→Q y H')→g x (wipe σ vs) H fun σ2 H2=>wipe σ2 vs=wipe σ vs∧te σ2 H2 Q)
    (hd:∀ H,Same H1 H→H D=some (.lst ys)→Qd H) :
    ∃ W:Nat→Nat→Hp→Prop,(∃ m,W 0 m (upd H1 D (.lst [])))∧∀ i m H,W i m H →
      ((Itt K a).stop i H∧Qd H)∨((Itt K a).go i H∧∃ Nx:Hp→Prop,(∀ H',Nx H'→∃ m',m' < m∧W (i + 1) m' H')∧∀ x H',(Itt K a).yld i H x H'→g x (wipe σ vs) H' fun σ2 H2=>wipe σ2 vs=wipe σ vs∧tYes σ2 H2 fun b H3 =>
        if b=true then te σ2 H3 fun y H4=>∃ acc,H4 D=some (.lst acc)∧acc.length < sizeLine∧Nx (upd H4 D (.lst (acc++[y]))) else Nx H3):=by
  refine lc_tup (xs:=xs) (tt:=tYes) (fun i H=>Same H1 H∧H D=some (.lst (ys.take i))) ⟨ah hD,ac⟩ (fun i H _ p=>hq H p.1) ?_ ?_
  · rintro i x H hx ⟨sm,hH⟩
    obtain ⟨y,hy⟩:∃ y,ys[i]?=some y:=⟨_,List.getElem?_eq_getElem (by have:=(List.getElem?_eq_some_iff.mp hx).1; omega)⟩
    simp only [tYes,if_true]
    exact hs i x y H hx hy sm _ fun H' s2=>kF hD (by omega) sm hH hy s2
  · rintro H ⟨sm,hH⟩
    rw [←hl,List.take_length] at hH
    exact hd H sm hH
theorem gg {lo:Int} {n:Nat} (ys:List V) (hl:ys.length=n) (hD:H1 D=none) (hz:n < sizeLine)
    (hs:∀ (i:Nat) (y:V) (H:Hp),i < n→ys[i]?=some y→Same H1 H→∀ Q:VK,(∀ H',Same H H'→Q y H')→g (.int (lo + i)) (wipe σ vs) H fun σ2 H2=>wipe σ2 vs=wipe σ vs∧te σ2 H2 Q)
    (hd:∀ H,Same H1 H→H D=some (.lst ys)→Qd H) :
    ∃ W:Nat→Nat→Hp→Prop,(∃ m,W 0 m (upd H1 D (.lst [])))∧∀ i m H,W i m H →
      ((Itr lo n).stop i H∧Qd H)∨((Itr lo n).go i H∧∃ Nx:Hp→Prop,(∀ H',Nx H'→∃ m',m' < m∧W (i + 1) m' H')∧∀ x H',(Itr lo n).yld i H x H'→g x (wipe σ vs) H' fun σ2 H2=>wipe σ2 vs=wipe σ vs∧tYes σ2 H2 fun b H3 =>
        if b=true then te σ2 H3 fun y H4=>∃ acc,H4 D=some (.lst acc)∧acc.length < sizeLine∧Nx (upd H4 D (.lst (acc++[y]))) else Nx H3):=by
  refine nT (tt:=tYes) (fun i H=>Same H1 H∧H D=some (.lst (ys.take i))) ⟨ah hD,ac⟩ ?_ ?_
  · rintro i H hi ⟨sm,hH⟩
    obtain ⟨y,hy⟩:∃ y,ys[i]?=some y:=⟨_,List.getElem?_eq_getElem (by omega)⟩
    simp only [tYes,if_true]
    exact hs i y H hi hy sm _ fun H' s2=>kF hD (by omega) sm hH hy s2
  · rintro H ⟨sm,hH⟩
    rw [←hl,List.take_length] at hH
    exact hd H sm hH
end
theorem aB {α:Type} {xs:List α} {z:Int} {j:Nat} {v:α} (e:z=(j:Int)) (h:xs[j]?=some v):atI xs z=some v:=by
  rw [e]
  exact aY h
theorem aX {l:List Nat} {i:Nat} {x:V} (h:(ao l)[i]?=some x):∃ n,l[i]?=some n∧V.int (n:Int)=x:=by
  unfold ao at h
  rw [List.getElem?_map] at h
  exact Option.map_eq_some_iff.mp h
theorem eP (l:List Nat):ao l=(l.map fun (n:Nat)=>(n:Int)).map V.int:=by
  unfold ao
  rw [List.map_map]
  rfl
theorem kh:∀ l:List Nat,(l.map fun (n:Nat)=>(n:Int)).sum=(l.sum:Nat)
  | []=>rfl
  | a :: l=>by
    rw [List.map_cons,List.sum_cons,List.sum_cons,kh l]
    omega
theorem bz {ns:Vbiraa.Net} {p:Option Nat} {i:Nat} (h:i∈Vbiraa.children ns p):i < ns.length:=by
  unfold Vbiraa.children at h
  rw [List.mem_filter,List.mem_range] at h
  exact h.1
theorem eK (ns:Vbiraa.Net) (p:Option Nat):(Vbiraa.children ns p).length≤ns.length:=by
  unfold Vbiraa.children
  have:=List.length_filter_le (fun i=>(Vbiraa.reachAt ns i).parent == p) (List.range ns.length)
  rw [List.length_range] at this
  exact this
def psum (ns:Vbiraa.Net) (ss:List Vbiraa.Setting) (p:Option Nat) (t:Nat):Nat:=((Vbiraa.children ns p).map fun i=>jp ns ss i t).sum
def fitN (ns:Vbiraa.Net) (ss:List Vbiraa.Setting) (p:Option Nat) (n:Nat):Bool:=(List.range n).all fun t=>decide (psum ns ss p t≤100)
section
variable {P:Program} {w:World} {K:PySem.W.Frag} {mg:Str→Option Value} {base:Heap}
def spFit (C:Addr):Sp:=fun vs H Q _=>∃ (l sl:Addr) (ns:Vbiraa.Net) (ss:List Vbiraa.Setting) (p:Option Nat),vs=[.ref l,.ref sl,.int (pInt p)]∧RsAt C H l ns∧gh H sl ss∧ns.length≤1000∧∀ H',Same H H'→Q (.bl (fitN ns ss p 60)) H'
theorem qj (T:Txt K mg):FnOk P w K mg base CX0 2 T.parts_fit.f T.parts_fit.fd ["reaches", "settings", "place"] (spFit T.a_Reach):=by
  refine T.parts_fit.F.ok du (fun vs H Q E h=>?_) (fun cdv A outer s H vs Q E hr h=>?_)
  · obtain ⟨l,sl,ns,ss,p,rfl,_⟩:=h
    rfl
  · obtain ⟨l,sl,ns,ss,p,rfl,R,S,hn,k⟩:=h
    refine ⟨_,(ae (aw (i:=3) du.nd rfl (by first | exact Or.inl rfl | exact Or.inr rfl) (aC T.beginning_at (bD T) (hr.mono (by decide)) bM (aa (pv 0) (aa (pv 2) ad))))
      (ae (bT PassesOwn.never rfl (cK rfl T.n_range (aa (a9 T.c_TICKS) ad)) (aI (i:=4) du.nd rfl (by first | exact Or.inl rfl | exact Or.inr rfl))
      (ag (aV (aN ku (aE (qA (K:=K) rfl) (by rfl) T.n_sum lI (aa (gv (own:=[("k",5)]) rfl du.nd (bW (pv 3)) (bh (N:=["reaches", "settings", "place", "beside", "tick", "k"]) (sc:=aj fB) (by decide +kernel)) (fun _ _ _ _ _=>(aI (i:=5) du.nd rfl (by first | exact Or.inl rfl | exact Or.inr rfl))) (fun _ _ _ _ _=>bJ) (fun _ _ _ _ _=>(aC T.gate_part (eJ T) (hr.mono (by decide)) fO (aa (pv 0) (aa (pv 1) (aa (pv 5) (aa (pv 4) ad))))))) ad)) af (aQ _))
      (ag (au nq))
      aH)))
      (ag (au nq)))),?_⟩
    refine ⟨_,rfl,_,rfl,l,ns,p,rfl,R,hn,fun H1 b s1 hb hb1=>?_⟩
    refine ⟨60,rfl,by decide,by decide,jf (n:=60) (fun j σ H'=>Same H1 H'∧fitN ns ss p j=true∧∃ v:Option V,σ=[some (.ref l),some (.ref sl),some (.int (pInt p)),some (.ref b),v,none]) ⟨Same.refl _,rfl,none,rfl⟩ ?_ ?_⟩
    · rintro j σ H' hj ⟨s2,hf,v,rfl⟩
      have R2:=R.same (s1.trans s2)
      have S2:=S.same (s1.trans s2)
      refine ⟨_,rfl,b,rfl,⟨_,SqL.of (s2 _ _ hb1)⟩,fun D hD=>?_⟩
      refine bY (ao ((Vbiraa.children ns p).map fun i=>jp ns ss i j)) ?_ hD (SqL.of (s2 _ _ hb1)) ?_ ?_ ?_
      · unfold ao
        simp only [List.length_map]
      · unfold ao
        rw [List.length_map]
        have:=eK ns p
        exact aP (by omega)
      · rintro i x y H2 hx hy s3 Q' kq
        obtain ⟨c,hc,rfl⟩:=aX hx
        obtain ⟨d,hd,rfl⟩:=aX hy
        rw [List.getElem?_map,hc] at hd
        have hd:jp ns ss c j=d:=Option.some.inj hd
        subst hd
        refine ⟨rfl,_,rfl,_,rfl,_,rfl,_,rfl,l,sl,ns,ss,c,j,?_,R2.same s3,S2.same s3,bz (List.mem_of_getElem? hc),kq _ (Same.refl _)⟩
        rw [Int.zero_add]
        rfl
      · rintro H2 s3 hD2
        refine ⟨D,((Vbiraa.children ns p).map fun i=>jp ns ss i j).map fun (n:Nat)=>(n:Int),rfl,?_,_,_,rfl,rfl,_,rfl,?_⟩
        · rw [eP] at hD2
          exact SqL.of hD2
        have s4:Same H H2:=(s1.trans s2).trans s3
        have e:decide ((100:Int) < (((Vbiraa.children ns p).map fun i=>jp ns ss i j).map fun (n:Nat)=>(n:Int)).sum)=decide (¬ psum ns ss p j≤100):=by
          rw [kh]
          unfold psum
          exact decide_eq_decide.mpr (by omega)
        refine ite2 (fun c=>?_) (fun c=>?_)
        · have c:¬ psum ns ss p j≤100:=of_decide_eq_true (e.symm.trans c)
          have ef:fitN ns ss p 60=false:=by
            unfold fitN
            rw [List.all_eq_false]
            exact ⟨j,List.mem_range.mpr hj,by rw [decide_eq_true_eq]; exact c⟩
          have:=k H2 s4
          rw [ef] at this
          exact this
        · have c:psum ns ss p j≤100:=Decidable.byContradiction fun z=>c (e.trans (decide_eq_true z))
          refine ⟨s2.trans s3,?_,some (.int (0 + j)),rfl⟩
          unfold fitN at hf ⊢
          rw [List.range_succ,List.all_append,hf,List.all_cons,List.all_nil,decide_eq_true c]
          rfl
    · rintro σ H' ⟨s2,hf,v,rfl⟩
      have:=k H' (s1.trans s2)
      rw [hf] at this
      exact this
end
end CN
namespace CN
open PySem PySem.Spec PyProof.Rows L2
theorem uT {a b:List Nat} (h:sOf a=sOf b):a=b:=by
  have e:=congrArg (fun s:Str=>s.cps.toList) h
  exact e
theorem cJ (a:List Nat):(sOf a).length=a.length:=rfl
theorem jb (a b:List Nat):sOf a++sOf b=sOf (a++b):=by
  show (⟨(sOf a).cps++(sOf b).cps⟩:Str)=⟨(a++b).toArray⟩
  congr 1
  exact List.append_toArray a b
theorem fL {a b:List Nat}:decide (V.str (sOf a)=V.str (sOf b))=decide (a=b):=decide_eq_decide.mpr ⟨fun q=>uT (V.str.inj q),fun q=>by rw [q]⟩
def b6 (ws:List (List Nat)):List V:=ws.map fun w=>V.str (sOf w)
theorem uk:∀ k:Nat,k < 26→(Str.ofString "abcdefghijklmnopqrstuvwxyz").cps.toList[k]?=some (97 + k):=by decide +kernel
theorem wE:∀ k:Nat,k < 10→(Str.ofString "0123456789").cps.toList[k]?=some (48 + k):=by decide +kernel
theorem vN (b:List (List Nat) × List Nat) (x:Nat):(bO b x).1.length≤b.1.length + 1∧(bO b x).2.length≤b.2.length + 1:=by
  unfold bO
  split
  · split
    · omega
    · simp
  · simp
theorem o5:∀ (l:List Nat) (b:List (List Nat) × List Nat),(l.foldl bO b).1.length≤b.1.length + l.length∧(l.foldl bO b).2.length≤b.2.length + l.length
  | [],b=>by simp
  | x :: l,b=>by
    rw [List.foldl_cons,List.length_cons]
    have h1:=vN b x
    have h2:=o5 l (bO b x)
    omega
theorem wr (b:List (List Nat) × List Nat) (x:Nat):(cQ b x).1.length≤b.1.length + 1∧(cQ b x).2.length≤b.2.length + 1:=by
  unfold cQ
  split <;> simp
theorem lB:∀ (l:List Nat) (b:List (List Nat) × List Nat),(l.foldl cQ b).1.length≤b.1.length + l.length∧(l.foldl cQ b).2.length≤b.2.length + l.length
  | [],b=>by simp
  | x :: l,b=>by
    rw [List.foldl_cons,List.length_cons]
    have h1:=wr b x
    have h2:=lB l (cQ b x)
    omega
theorem pC {α β:Type} {f:β→α→β} {b:β} {l:List α} {k:Nat} {x:α} (h:l[k]?=some x):(l.take (k + 1)).foldl f b=f ((l.take k).foldl f b) x:=by
  rw [bK h,List.foldl_append]
  rfl
theorem gz (a b:List Nat):ao a++ao b=ao (a++b):=by
  unfold ao
  rw [List.map_append]
theorem aA (a:List Nat):(ao a).length=a.length:=by
  unfold ao
  rw [List.length_map]
theorem gq (a:List (List Nat)):(b6 a).length=a.length:=by
  unfold b6
  rw [List.length_map]
theorem o8 (a b:List (List Nat)):b6 (a++b)=b6 a++b6 b:=by
  unfold b6
  rw [List.map_append]
def sgs (ws:List (List Nat)):List (List Nat):=ws.map fun w=>w.map sg
theorem y8 (a b:List (List Nat)):sgs (a++b)=sgs a++sgs b:=by
  unfold sgs
  rw [List.map_append]
theorem uS (a:List (List Nat)):(sgs a).length=a.length:=by
  unfold sgs
  rw [List.length_map]
section
variable {P:Program} {w:World} {K:PySem.W.Frag} {mg:Str→Option Value} {base:Heap}
def spSign:Sp:=fun vs H Q _=>∃ b:Nat,vs=[.int b]∧Q (.str (sOf [sg b])) H
theorem tY (T:Txt K mg):FnOk P w K mg base CX0 1 T.sign_of.f T.sign_of.fd ["byte"] spSign:=by
  refine T.sign_of.F.ok tO (fun vs H Q E h=>?_) (fun cdv A outer s H vs Q E hr h=>?_)
  · obtain ⟨b,rfl,_⟩:=h
    rfl
  · obtain ⟨b,rfl,k⟩:=h
    refine ⟨_,(ae (aV (fk cP cP af (pv 0) af)
      (ag (au (ay um (pe_gs T.c_LETTERS) (aF dg (pv 0) af) (fun _ _=>rfl))))
      aH)
      (ae (aV (fk cP cP af (pv 0) af)
      (ag (au (ay um (pe_gs T.c_DIGITS) (aF dg (pv 0) af) (fun _ _=>rfl))))
      aH)
      (ag (au bX)))),?_⟩
    have two:¬ (97≤b∧b≤122)→(tSeq (tIfS (xl (tI (rI0 fun i j=>V.bl (decide (i≤j))) (rI0 fun i j=>V.bl (decide (i≤j))) (tC (V.int 48)) (tVar 0) (tC (V.int 57)))) (tRet (tOp rIxS (tC (V.str "0123456789")) (tOp (rI0 fun i j=>V.int (i - j)) (tVar 0) (tC (V.int 48))))) tNext) (tRet (tC (V.str "?")))) { nx:=fun x H'=>Q V.non H',rt:=Q } (L2.start ["byte"] [V.int b]) H:=by
      intro no
      refine ⟨_,rfl,_,_,rfl,rfl,_,rfl,ite2 (fun c1=>?_) (fun c1=>?_)⟩
      · have c1:(48:Int)≤b:=of_decide_eq_true c1
        refine ⟨_,_,rfl,rfl,_,rfl,ite2 (fun c2=>?_) (fun c2=>?_)⟩
        · have c2:(b:Int)≤57:=of_decide_eq_true c2
          have e:sg b=b:=rg (by unfold isAl Vbiraa.isSmall Vbiraa.isDigit; simp; omega)
          rw [e] at k
          refine ⟨_,rfl,_,_,rfl,rfl,_,_,b,rfl,rfl,by decide +kernel,?_,k⟩
          have:=wE (b - 48) (by omega)
          rw [show 48 + (b - 48)=b by omega] at this
          exact aB (by omega) this
        · have c2:¬ (b:Int)≤57:=fun z=>c2 (decide_eq_true z)
          have e:sg b=63:=re (by unfold isAl Vbiraa.isSmall Vbiraa.isDigit; simp; omega)
          rw [e] at k
          exact k
      · have c1:¬ (48:Int)≤b:=fun z=>c1 (decide_eq_true z)
        have e:sg b=63:=re (by unfold isAl Vbiraa.isSmall Vbiraa.isDigit; simp; omega)
        rw [e] at k
        exact ⟨_,rfl,iteF k⟩
    refine ⟨_,rfl,_,_,rfl,rfl,_,rfl,ite2 (fun c1=>?_) (fun c1=>?_)⟩
    · have c1:(97:Int)≤b:=of_decide_eq_true c1
      refine ⟨_,_,rfl,rfl,_,rfl,ite2 (fun c2=>?_) (fun c2=>?_)⟩
      · have c2:(b:Int)≤122:=of_decide_eq_true c2
        have e:sg b=b:=rg (by unfold isAl Vbiraa.isSmall Vbiraa.isDigit; simp; omega)
        rw [e] at k
        refine ⟨_,rfl,_,_,rfl,rfl,_,_,b,rfl,rfl,by decide +kernel,?_,k⟩
        have:=uk (b - 97) (by omega)
        rw [show 97 + (b - 97)=b by omega] at this
        exact aB (by omega) this
      · have c2:¬ (b:Int)≤122:=fun z=>c2 (decide_eq_true z)
        exact two (by omega)
    · have c1:¬ (97:Int)≤b:=fun z=>c1 (decide_eq_true z)
      exact ⟨_,rfl,iteF (two (by omega))⟩
def yT:Sp:=fun vs H Q _=>∃ (l:Addr) (bs:List Nat),vs=[.ref l]∧H l=some (.lst (ao bs))∧bs.length≤5000∧NewL H Q (b6 (sgs (Vbiraa.wordsOf bs)))
theorem rL (T:Txt K mg):FnOk P w K mg base CX0 2 T.words_of.f T.words_of.fd ["line"] yT:=by
  refine T.words_of.F.ok dh (fun vs H Q E h=>?_) (fun cdv A outer s H vs Q E hr h=>?_)
  · obtain ⟨l,bs,rfl,_⟩:=h
    rfl
  · obtain ⟨l,bs,rfl,hl,hn,k⟩:=h
    refine ⟨_,(ae (aw (i:=1) dh.nd rfl (by first | exact Or.inl rfl | exact Or.inr rfl) (aD ad))
      (ae (aw (i:=2) dh.nd rfl (by first | exact Or.inl rfl | exact Or.inr rfl) bX)
      (ae (bT PassesOwn.never rfl (bW (aF dH (pv 0) (aD (aa af ad)))) (aI (i:=3) dh.nd rfl (by first | exact Or.inl rfl | exact Or.inr rfl))
      (ag (aV (aN kt (pv 3) af (aQ _))
      (ag (aw (i:=2) dh.nd rfl (by first | exact Or.inl rfl | exact Or.inr rfl) (aF nu (pv 2) (aC T.sign_of (tY T) (hr.mono (by decide)) wP (aa (pv 3) ad)))))
      (ag (aV (aN kt (pv 2) bX (aQ _))
      (ae (bV (fF PySem.F.plainAttrs_list PySem.F.slot_list_append PySem.F.type_list_append cO (pv 1) (aa (pv 2) ad)))
      (ag (aw (i:=2) dh.nd rfl (by first | exact Or.inl rfl | exact Or.inr rfl) bX)))
      aH)))))
      (ag (au (pv 1)))))),?_⟩
    refine ⟨Nat.zero_le _,fun wl hw=>?_⟩
    have s1:Same H (upd H wl (.lst [])):=ah hw
    refine ⟨_,rfl,(by show 1≤sizeLine; decide),fun e32 h32=>?_⟩
    have s2:Same (upd H wl (.lst [])) (upd (upd H wl (.lst [])) e32 (.lst [.int 32])):=ah h32
    refine ⟨l,e32,_,_,rfl,rfl,s2 _ _ (s1 _ _ hl),ac,?_,fun cl hc=>?_⟩
    · rw [aA]
      exact Nat.le_of_lt (aP (by show bs.length + 1 < 1000000; omega))
    have s3:=ah (o:=.lst (ao bs++[.int 32])) hc
    have eb:ao bs++[V.int 32]=ao (bs++[32]):=by
      rw [←gz]
      rfl
    rw [eb] at s3 ⊢
    have hwn:wl≠cl:=aq (s2 _ _ ac) hc
    refine ⟨cl,rfl,⟨_,SqL.of ac⟩,fv (K:=K) (a:=cl) (xs:=ao (bs++[32]))
      (fun j σ H'=>Same H H'∧H' cl=some (.lst (ao (bs++[32])))∧H' wl=some (.lst (b6 (sgs (((bs++[32]).take j).foldl bO ([],[])).1)))∧∃ v:Option V,σ=[some (.ref l),some (.ref wl),some (.str (sOf ((((bs++[32]).take j).foldl bO ([],[])).2.map sg))),v]) ⟨(s1.trans s2).trans s3,ac,s3 _ _ (s2 _ _ ac),none,rfl⟩ ?_ ?_ ?_⟩
    · rintro j σ H' _ ⟨_,hc',_⟩
      exact SqL.of hc'
    · rintro j y σ H' hj ⟨sm,hc',hw',v,rfl⟩
      obtain ⟨x,hx,rfl⟩:=aX hj
      rw [pC hx]
      have hlen:=o5 ((bs++[32]).take j) ([],[])
      have hjl:((bs++[32]).take j).length≤5001:=by
        rw [List.length_take,List.length_append]
        simp
        omega
      generalize ((bs++[32]).take j).foldl bO ([],[])=c at hlen hw' ⊢
      simp only [List.length_nil,Nat.zero_add] at hlen
      refine ⟨_,rfl,rfl,_,rfl,?_⟩
      have e0:(!decide (V.int (x:Int)=V.int 32))=decide (¬ x=32):=by
        rw [show (V.int 32)=V.int ((32:Nat):Int) from rfl,cZ]
        exact decide_not.symm
      rw [e0]
      refine ite2 (fun c1=>?_) (fun c1=>?_)
      · have c1:¬ x=32:=of_decide_eq_true c1
        refine ⟨_,rfl,_,rfl,x,rfl,_,_,rfl,rfl,?_,?_⟩
        · rw [cJ,cJ,List.length_map]
          exact Nat.le_of_lt (aP (by show c.2.length + 1 < 1000000; omega))
        · have e:bO c x=(c.1,c.2++[x]):=by
            unfold bO
            rw [if_neg c1]
          rw [e]
          refine ⟨sm,hc',hw',some (.int x),?_⟩
          rw [jb,List.map_append]
          rfl
      · have c1:x=32:=Decidable.byContradiction fun z=>c1 (decide_eq_true z)
        subst c1
        refine ⟨_,rfl,rfl,_,rfl,?_⟩
        have e1:(!decide (V.str (sOf (c.2.map sg))=V.str ""))=decide (¬ c.2=[]):=by
          rw [show ("" : Str)=sOf [] from by decide +kernel,fL,←decide_not]
          exact decide_eq_decide.mpr (by rw [List.map_eq_nil_iff])
        rw [e1]
        refine ite2 (fun c2=>?_) (fun c2=>?_)
        · have c2:¬ c.2=[]:=of_decide_eq_true c2
          have e:bO c 32=(c.1++[c.2],[]):=by
            unfold bO
            rw [if_pos rfl,if_neg c2]
          rw [e]
          refine ⟨_,rfl,.inl ⟨rfl,_,SqL.of hw'⟩,_,rfl,wl,_,_,rfl,rfl,hw',?_,?_⟩
          · rw [gq,uS]
            exact aP (by omega)
          · refine ⟨aR sm hw,?_,?_,some (.int 32),rfl⟩
            · rw [ai hwn.symm]
              exact hc'
            · rw [ac,y8,o8]
              rfl
        · have c2:c.2=[]:=Decidable.byContradiction fun z=>c2 (decide_eq_true z)
          have e:bO c 32=c:=by
            unfold bO
            rw [if_pos rfl,if_pos c2]
          rw [e]
          exact ⟨sm,hc',hw',some (.int 32),rfl⟩
    · rintro σ H' ⟨sm,hc',hw',v,rfl⟩
      refine ⟨_,rfl,?_⟩
      rw [aA,List.take_length,wZ] at hw'
      exact k H' wl sm hw hw'
end
end CN
namespace CN
open PySem PySem.Spec PyProof.Rows L2
def cv (H:Hp) (as:List Addr) (ls:List (List Nat)):Prop:=as.length=ls.length∧∀ (i:Nat) (a:Addr) (w:List Nat),as[i]?=some a→ls[i]?=some w→H a=some (.lst (ao w))
theorem cv.upd {H:Hp} {as:List Addr} {ls:List (List Nat)} {c:Addr} {o:HO} (h:cv H as ls) (n:c∉as):cv (upd H c o) as ls :=
  ⟨h.1,fun i a w e e'=>by rw [ai (fun q=>n (by rw [←q]; exact List.mem_of_getElem? e))]; exact h.2 i a w e e'⟩
theorem cv.same {H H':Hp} {as:List Addr} {ls:List (List Nat)} (h:cv H as ls) (s:Same H H'):cv H' as ls:=⟨h.1,fun i a w e e'=>s _ _ (h.2 i a w e e')⟩
theorem cv.snoc {H:Hp} {as:List Addr} {ls:List (List Nat)} {c:Addr} {w:List Nat} (h:cv H as ls) (hc:H c=some (.lst (ao w))):cv H (as++[c]) (ls++[w]):=by
  refine ⟨by rw [List.length_append,List.length_append,h.1]; rfl,fun i a v e e'=>?_⟩
  by_cases hi:i < as.length
  · rw [List.getElem?_append_left hi] at e
    rw [List.getElem?_append_left (by rw [←h.1]; exact hi)] at e'
    exact h.2 i a v e e'
  · rw [List.getElem?_append_right (by omega)] at e
    rw [List.getElem?_append_right (by rw [←h.1]; omega)] at e'
    rw [←h.1] at e'
    cases z:i - as.length with
    | zero =>
      rw [z] at e e'
      have e1:c=a:=Option.some.inj e
      have e2:w=v:=Option.some.inj e'
      subst e1 e2
      exact hc
    | succ m =>
      rw [z] at e
      cases e
theorem cv.free {H:Hp} {as:List Addr} {ls:List (List Nat)} {c:Addr} (h:cv H as ls) (n:H c=none):c∉as:=fun m=>by
  obtain ⟨i,hi,e⟩:=List.getElem_of_mem m
  have:=h.2 i c _ (by rw [List.getElem?_eq_getElem hi,e]) (List.getElem?_eq_getElem (by rw [←h.1]; exact hi))
  rw [n] at this
  cases this
def LsAt (H0 H:Hp) (l:Addr) (ls:List (List Nat)):Prop:=∃ as:List Addr,H l=some (.lst (as.map V.ref))∧cv H as ls∧H0 l=none∧∀ a∈as,H0 a=none
section
variable {P:Program} {w:World} {K:PySem.W.Frag} {mg:Str→Option Value} {base:Heap}
def y3:Sp:=fun vs H Q _=>∃ (l:Addr) (bs:List Nat),vs=[.ref l]∧H l=some (.lst (ao bs))∧bs.length≤5000∧∀ (H':Hp) (p:Addr),Same H H'→LsAt H H' p (Vbiraa.linesOf bs)→Q (.ref p) H'
theorem rQ (T:Txt K mg):FnOk P w K mg base CX0 1 T.lines_of.f T.lines_of.fd ["text"] y3:=by
  refine T.lines_of.F.ok ee (fun vs H Q E h=>?_) (fun cdv A outer s H vs Q E hr h=>?_)
  · obtain ⟨l,bs,rfl,_⟩:=h
    rfl
  · obtain ⟨l,bs,rfl,hl,hn,k⟩:=h
    refine ⟨_,(ae (aw (i:=1) ee.nd rfl (by first | exact Or.inl rfl | exact Or.inr rfl) (aD ad))
      (ae (aw (i:=2) ee.nd rfl (by first | exact Or.inl rfl | exact Or.inr rfl) (aD ad))
      (ae (bT PassesOwn.never rfl (bW (pv 0)) (aI (i:=3) ee.nd rfl (by first | exact Or.inl rfl | exact Or.inr rfl))
      (ag (aV (aN dG (pv 3) af (aQ _))
      (ae (bV (fF PySem.F.plainAttrs_list PySem.F.slot_list_append PySem.F.type_list_append cO (pv 1) (aa (pv 2) ad)))
      (ag (aw (i:=2) ee.nd rfl (by first | exact Or.inl rfl | exact Or.inr rfl) (aD ad))))
      (ag (bV (fF PySem.F.plainAttrs_list PySem.F.slot_list_append PySem.F.type_list_append cO (pv 2) (aa (pv 3) ad)))))))
      (ae (aV (aN ku (aE (ax (K:=K)) (by rfl) T.n_len PySem.boot_len (aa (pv 2) ad)) af (aQ _))
      (ag (bV (fF PySem.F.plainAttrs_list PySem.F.slot_list_append PySem.F.type_list_append cO (pv 1) (aa (pv 2) ad))))
      aH)
      (ag (au (pv 1))))))),?_⟩
    refine ⟨Nat.zero_le _,fun ll hll=>⟨Nat.zero_le _,fun c0 hc0=>?_⟩⟩
    have s1:Same H (upd H ll (.lst [])):=ah hll
    have s2:Same (upd H ll (.lst [])) (upd (upd H ll (.lst [])) c0 (.lst [])):=ah hc0
    have n0:ll≠c0:=aq ac hc0
    refine ⟨_,rfl,l,rfl,⟨_,SqL.of ((s1.trans s2) _ _ hl)⟩,fv (K:=K) (a:=l) (xs:=ao bs)
      (fun j σ H'=>Same H H'∧∃ (as:List Addr) (cl:Addr) (v:Option V),H' ll=some (.lst (as.map V.ref))∧cv H' as ((bs.take j).foldl cQ ([],[])).1∧H' cl=some (.lst (ao ((bs.take j).foldl cQ ([],[])).2))∧H cl=none∧ll≠cl∧cl∉as∧ll∉as∧(∀ a∈as,H a=none) ∧
        σ=[some (.ref l),some (.ref ll),some (.ref cl),v]) ⟨s1.trans s2,[],c0,none,s2 _ _ ac,⟨rfl,fun i a w e=>by cases e⟩,ac,s1.free hc0,n0,by simp,by simp,by simp,rfl⟩ ?_ ?_ ?_⟩
    · rintro j σ H' _ ⟨sm,_⟩
      exact SqL.of (sm _ _ hl)
    · rintro j y σ H' hj ⟨sm,as,cl,v,e1,e2,e3,e4,e5,e6,e7,e8,rfl⟩
      obtain ⟨x,hx,rfl⟩:=aX hj
      rw [pC hx]
      have hlen:=lB (bs.take j) ([],[])
      have hjl:(bs.take j).length≤5000:=by
        rw [List.length_take]
        omega
      generalize (bs.take j).foldl cQ ([],[])=c at hlen e2 e3 ⊢
      simp only [List.length_nil,Nat.zero_add] at hlen
      refine ⟨_,rfl,rfl,_,rfl,?_⟩
      have e0:decide (V.int (x:Int)=V.int 10)=decide (x=10):=by
        rw [show (V.int 10)=V.int ((10:Nat):Int) from rfl,cZ]
      rw [e0]
      refine ite2 (fun c1=>?_) (fun c1=>?_)
      · have c1:x=10:=of_decide_eq_true c1
        subst c1
        have e:cQ c 10=(c.1++[c.2],[]):=by
          unfold cQ
          rw [if_pos rfl]
        rw [e]
        refine ⟨_,rfl,.inl ⟨rfl,_,SqL.of e1⟩,_,rfl,ll,_,_,rfl,rfl,e1,?_,?_⟩
        · rw [List.length_map,e2.1]
          exact aP (by omega)
        refine ⟨Nat.zero_le _,fun d hd=>?_⟩
        have a1:cv (upd H' ll (.lst (as.map V.ref++[V.ref cl]))) (as++[cl]) (c.1++[c.2]):=(e2.upd e7).snoc (by rw [ai e5.symm]; exact e3)
        have s4:=ah (o:=.lst []) hd
        have smu:Same H (upd H' ll (.lst (as.map V.ref++[V.ref cl]))):=aR sm hll
        refine ⟨smu.trans s4,as++[cl],d,some (.int 10),?_,a1.same s4,ac,smu.free hd,?_,?_,?_,?_,rfl⟩
        · rw [List.map_append]
          exact s4 _ _ ac
        · exact aq ac hd
        · exact a1.free hd
        · intro m
          rcases List.mem_append.mp m with m | m
          · exact e7 m
          · exact e5 (List.mem_singleton.mp m)
        · intro b m
          rcases List.mem_append.mp m with m | m
          · exact e8 b m
          · rw [List.mem_singleton.mp m]
            exact e4
      · have c1:¬ x=10:=fun z=>c1 (decide_eq_true z)
        have e:cQ c x=(c.1,c.2++[x]):=by
          unfold cQ
          rw [if_neg c1]
        rw [e]
        refine ⟨_,rfl,.inl ⟨rfl,_,SqL.of e3⟩,_,rfl,cl,_,_,rfl,rfl,e3,?_,?_⟩
        · rw [aA]
          exact aP (by omega)
        refine ⟨aR sm e4,as,cl,some (.int x),?_,e2.upd e6,?_,e4,e5,e6,e7,e8,rfl⟩
        · rw [ai e5]
          exact e1
        · rw [ac,←gz]
          rfl
    · rintro σ H' ⟨sm,as,cl,v,e1,e2,e3,e4,e5,e6,e7,e8,rfl⟩
      rw [aA,List.take_length] at e2 e3
      have hle:=yg bs
      have hlen:=lB bs ([],[])
      generalize bs.foldl cQ ([],[])=c at e2 e3 hle hlen
      simp only [List.length_nil,Nat.zero_add] at hlen
      refine ⟨_,rfl,cl,_,rfl,.inl (SqL.of e3),_,_,rfl,rfl,_,rfl,?_⟩
      have e0:decide ((0:Int) < ((ao c.2).length:Int))=decide (¬ c.2=[]):=by
        rw [aA]
        refine decide_eq_decide.mpr ?_
        constructor
        · intro q z
          rw [z] at q
          exact absurd q (by decide)
        · intro q
          have:=List.length_pos_iff.mpr q
          omega
      rw [e0]
      unfold lEnd at hle
      refine ite2 (fun c1=>?_) (fun c1=>?_)
      · have c1:¬ c.2=[]:=of_decide_eq_true c1
        rw [if_neg c1] at hle
        refine ⟨_,rfl,.inl ⟨rfl,_,SqL.of e1⟩,_,rfl,ll,_,_,rfl,rfl,e1,?_,?_⟩
        · rw [List.length_map,e2.1]
          exact aP (by omega)
        refine ⟨_,rfl,k _ ll (aR sm hll) ⟨as++[cl],?_,?_,hll,?_⟩⟩
        · rw [List.map_append]
          exact ac
        · rw [←hle]
          exact (e2.upd e7).snoc (by rw [ai e5.symm]; exact e3)
        · intro b m
          rcases List.mem_append.mp m with m | m
          · exact e8 b m
          · rw [List.mem_singleton.mp m]
            exact e4
      · have c1:c.2=[]:=Decidable.byContradiction fun z=>c1 (decide_eq_true z)
        rw [if_pos c1] at hle
        refine ⟨_,rfl,k _ ll sm ⟨as,e1,?_,hll,e8⟩⟩
        rw [←hle]
        exact e2
end
end CN
namespace CN
open PySem PySem.Spec PyProof.Rows L2
theorem iT {K:PySem.W.Frag} {a:Addr} {xs:List V} {g:TG} {tb:TS} {D:Ends} {σ:L2.St} {H:Hp} (Pv:Nat→L2.St→Hp→Prop) (h0:Pv 0 σ H) (hl:∀ i σ H,i≤xs.length→Pv i σ H→SqL K H a xs)
    (hs:∀ (i:Nat) (x:V) (σ:L2.St) (H:Hp) (T:Addr),xs[i]?=some x→Pv i σ H→H T=none→g (.ref T) σ (upd H T (.tup [.int (i:Nat),x])) fun σ2 H2=>tb { D with nx:=Pv (i + 1),ct:=Pv (i + 1),bk:=D.nx } σ2 H2) (hd:∀ σ H,Pv xs.length σ H→D.nx σ H) :
    ∃ W:Nat→Nat→L2.St→Hp→Prop,(∃ m,W 0 m σ H)∧∀ i m σ H,W i m σ H →
      ((Ite K a).stop i H∧D.nx σ H)∨((Ite K a).go i H∧∃ N:L2.St→Hp→Prop,(∀ σ' H',N σ' H'→∃ m',m' < m∧W (i + 1) m' σ' H')∧∀ x H',(Ite K a).yld i H x H'→g x σ H' fun σ2 H2=>tb { D with nx:=N,ct:=N,bk:=D.nx } σ2 H2):=by
  refine ⟨fun i m σ H=>m=xs.length - i∧i≤xs.length∧Pv i σ H,⟨xs.length,by simp,Nat.zero_le _,h0⟩,?_⟩
  rintro i m σ H ⟨rfl,hi,p⟩
  have q:=hl i σ H hi p
  by_cases hlt:i < xs.length
  · refine .inr ⟨⟨xs,xs[i],q,by simp [hlt]⟩,Pv (i + 1),fun σ' H' p'=>⟨xs.length - (i + 1),by omega,rfl,hlt,p'⟩,fun v H' y=>?_⟩
    obtain ⟨T,x,e1,e2,e3,y⟩:=y
    subst e1 e3
    exact hs i x σ H T (y xs q) p e2
  · have e:i=xs.length:=by omega
    subst e
    exact .inl ⟨⟨xs,q,Nat.le_refl _⟩,hd σ H p⟩
def Sg (w:List Nat):Prop:=∀ c∈w,isAl c=true∨c=63
theorem sg_Sg (w:List Nat):Sg (w.map sg):=fun c h=>by
  obtain ⟨x,_,e⟩:=List.mem_map.mp h
  subst e
  unfold sg
  split
  · exact .inl (by assumption)
  · exact .inr rfl
theorem vO:∀ c:Nat,c < 128→(isAl c=true∨c=63)→Unicode.isDigit c=Vbiraa.isDigit c:=by decide +kernel
theorem vP:∀ c:Nat,c < 128→(isAl c=true∨c=63)→Unicode.isAlpha c=Vbiraa.isSmall c:=by decide +kernel
theorem Sg.lt {w:List Nat} (h:Sg w):∀ c∈w,c < 128:=fun c m=>by
  rcases h c m with q | q
  · unfold isAl Vbiraa.isSmall Vbiraa.isDigit at q
    simp only [Bool.or_eq_true,Bool.and_eq_true,decide_eq_true_eq] at q
    omega
  · omega
theorem vH (w:List Nat) (f:Nat→Bool):(sOf w).cps.all f=w.all f:=by
  show w.toArray.all f=w.all f
  simp
theorem pX {w:List Nat} {f g:Nat→Bool} (h:∀ c∈w,f c=g c):w.all f=w.all g:=by
  induction w with
  | nil=>rfl
  | cons c w ih =>
    rw [List.all_cons,List.all_cons,h c (List.mem_cons_self ..),ih fun d hd=>h d (List.mem_cons_of_mem _ hd)]
theorem va (w:List Nat):decide ((sOf w).length > 0)=!w.isEmpty:=by
  cases w <;> rfl
theorem qZ {w:List Nat} (h:Sg w):Txt.isdigit (sOf w)=(!w.isEmpty && w.all Vbiraa.isDigit):=by
  show (decide ((sOf w).length > 0) && (sOf w).cps.all Unicode.isDigit)=_
  rw [va,vH,pX fun c hc=>vO c (h.lt c hc) (h c hc)]
theorem q0 {w:List Nat} (h:Sg w):Txt.isalpha (sOf w)=(!w.isEmpty && w.all Vbiraa.isSmall):=by
  show (decide ((sOf w).length > 0) && (sOf w).cps.all Unicode.isAlpha)=_
  rw [va,vH,pX fun c hc=>vP c (h.lt c hc) (h c hc)]
def iR (w:List Nat):Bool:=(!w.isEmpty && w.all Vbiraa.isDigit) && (decide (w.length≤8) && (decide (w=[48]) || !decide (w.head?=some 48)))
theorem eQ (w:List Nat):iR w=true↔¬ (w.isEmpty=true∨w.all Vbiraa.isDigit=false∨8 < w.length∨(1 < w.length∧w.head?=some 48)):=by
  unfold iR
  simp only [Bool.and_eq_true,Bool.or_eq_true,Bool.not_eq_true',decide_eq_true_eq,decide_eq_false_iff_not]
  cases w with
  | nil=>simp
  | cons c r =>
    cases r with
    | nil =>
      simp
      exact fun _=>Decidable.em _
    | cons d r =>
      simp only [List.isEmpty_cons,List.head?_cons,List.length_cons,Option.some.injEq,List.cons.injEq,reduceCtorEq,and_false,false_or,Bool.not_eq_false]
      simp
theorem tD (w:List Nat) (n:Nat):w.foldl (fun n c=>10 * n + (c - 48)) n=w.foldl (fun acc c=>acc * 10 + (c - 48)) n:=by
  congr 1
  funext a c
  omega
theorem lD {w:List Nat} (h:iR w=true):PySem.intText? (sOf w)=some ((Vbiraa.value w:Nat):Int):=by
  have h':=(eQ w).mp h
  simp only [not_or] at h'
  obtain ⟨h1,h2,h3,_⟩:=h'
  have hd:w.all Vbiraa.isDigit=true:=by
    cases e:w.all Vbiraa.isDigit with
    | true=>rfl
    | false=>exact absurd e h2
  have e:=intText_digits (x:=sOf w) (by
    intro c hc
    have:=List.all_eq_true.mp hd c hc
    unfold Vbiraa.isDigit at this
    simp only [Bool.and_eq_true,decide_eq_true_eq] at this
    omega) (by
    intro z
    have z:w=[]:=z
    rw [z] at h1
    exact h1 rfl) (by rw [cJ]; omega)
  rw [e]
  unfold Vbiraa.value
  rw [tD]
  rfl
theorem lX (lo hi:Nat) (w:List Nat):(Vbiraa.numberIn lo hi w).isSome=(iR w && (decide (lo≤Vbiraa.value w) && decide (Vbiraa.value w≤hi))):=by
  unfold Vbiraa.numberIn
  by_cases h:iR w=true
  · rw [if_neg ((eQ w).mp h),h,Bool.true_and]
    show (if lo≤Vbiraa.value w∧Vbiraa.value w≤hi then some (Vbiraa.value w) else none).isSome=_
    by_cases q:lo≤Vbiraa.value w∧Vbiraa.value w≤hi
    · rw [if_pos q,decide_eq_true q.1,decide_eq_true q.2]
      rfl
    · rw [if_neg q]
      symm
      show (decide _ && decide _)=false
      rw [Bool.and_eq_false_iff,decide_eq_false_iff_not,decide_eq_false_iff_not]
      omega
  · rw [if_pos (Decidable.byContradiction fun z=>h ((eQ w).mpr z)),Bool.eq_false_iff.mpr h]
    rfl
theorem aU {lo hi n:Nat} {w:List Nat} (h:Vbiraa.numberIn lo hi w=some n):n=Vbiraa.value w∧lo≤n∧n≤hi∧iR w=true:=by
  have hs:=lX lo hi w
  rw [h] at hs
  have hs2:(iR w && (decide (lo≤Vbiraa.value w) && decide (Vbiraa.value w≤hi)))=true:=hs.symm
  simp only [Bool.and_eq_true,decide_eq_true_eq] at hs2
  unfold Vbiraa.numberIn at h
  rw [if_neg ((eQ w).mp hs2.1)] at h
  have h:(if lo≤Vbiraa.value w∧Vbiraa.value w≤hi then some (Vbiraa.value w) else none)=some n:=h
  rw [if_pos hs2.2] at h
  have e:Vbiraa.value w=n:=Option.some.inj h
  subst e
  exact ⟨rfl,hs2.2.1,hs2.2.2,hs2.1⟩
def cR:List (List Nat):=[Vbiraa.text "reach",Vbiraa.text "from",Vbiraa.text "delay",Vbiraa.text "loss",Vbiraa.text "soak",Vbiraa.text "cap",Vbiraa.text "gate"]
theorem formV:([.str "reach",.str "from",.str "delay",.str "loss",.str "soak",.str "cap",.str "gate"]:List V)=b6 cR:=by decide +kernel
theorem k5 {l:List (List Nat)} {i:Nat} {w:List Nat} (h:l[i]?=some w):(b6 l)[i]?=some (V.str (sOf w)):=by
  unfold b6
  rw [List.getElem?_map,h]
  rfl
def d9 (ws:List (List Nat)):Bool:=decide (ws.length=14) && (List.range 7).all fun k=>decide (ws.getD (2 * k) []=cR.getD k [])
def gi:List Nat:=[0,0,0,1,0]
def gj:List Nat:=[10,99,1000,100000,100]
def ge (ds:List (List Nat)):Bool:=(List.range ds.length).all fun k=>(Vbiraa.numberIn (gi.getD k 0) (gj.getD k 0) (ds.getD k [])).isSome
section
variable {P:Program} {w:World} {K:PySem.W.Frag} {mg:Str→Option Value} {base:Heap}
def spForm:Sp:=fun vs H Q _=>∃ (l:Addr) (ws:List (List Nat)),vs=[.ref l]∧H l=some (.lst (b6 ws))∧∀ H',Same H H'→Q (.bl (d9 ws)) H'
theorem rR (T:Txt K mg):FnOk P w K mg base CX0 1 T.has_form.f T.has_form.fd ["words"] spForm:=by
  refine T.has_form.F.ok io (fun vs H Q E h=>?_) (fun cdv A outer s H vs Q E hr h=>?_)
  · obtain ⟨l,ws,rfl,_⟩:=h
    rfl
  · obtain ⟨l,ws,rfl,hl,k⟩:=h
    refine ⟨_,(ae (aV (aN kt (aE (ax (K:=K)) (by rfl) T.n_len PySem.boot_len (aa (pv 0) ad)) (aF ga af (aE (ax (K:=K)) (by rfl) T.n_len PySem.boot_len (aa (kn T.t_FORM.m) ad))) (aQ _))
      (ag (au nq))
      aH)
      (ag (au (aE (mB (K:=K) rfl) (by rfl) T.n_all ji (aa (gv (own:=[("k",1)]) rfl io.nd (cK rfl T.n_range (aa (aE (ax (K:=K)) (by rfl) T.n_len PySem.boot_len (aa (kn T.t_FORM.m) ad)) ad)) (bh (N:=["words", "k"]) (sc:=aj gM) (by decide +kernel)) (fun _ _ _ _ _=>(aI (i:=1) io.nd rfl (by first | exact Or.inl rfl | exact Or.inr rfl))) (fun _ _ _ _ _=>bJ) (fun _ _ _ _ _=>(d8 dG (ay (ak (K:=K)) (pv 0) (aF ga af (pv 1)) (fun _ _=>rfl)) (ay (aS (K:=K)) (kn T.t_FORM.m) (pv 1) (fun _ _=>rfl)) (aQ _)))) ad))))),?_⟩
    refine ⟨_,rfl,l,_,rfl,.inl (SqL.of hl),T.t_FORM.a,_,rfl,.inr (T.t_FORM.is _),_,_,rfl,rfl,.inl ⟨by decide,by decide⟩,rfl,_,rfl,?_⟩
    have e0:(!decide (V.int ((b6 ws).length:Int)=V.int (2 * ((([.str "reach",.str "from",.str "delay",.str "loss",.str "soak",.str "cap",.str "gate"]:List V).length:Nat):Int))))=decide (¬ ws.length=14):=by
      rw [show (2 * ((([.str "reach",.str "from",.str "delay",.str "loss",.str "soak",.str "cap",.str "gate"]:List V).length:Nat):Int))=((14:Nat):Int) from rfl,cZ,gq]
      exact decide_not.symm
    refine (congrArg (fun b=>if b=true then _ else _) e0).mpr ?_
    refine ite2 (fun c1=>?_) (fun c1=>?_)
    · have c1:¬ ws.length=14:=of_decide_eq_true c1
      have:=k H (Same.refl _)
      unfold d9 at this
      rw [decide_eq_false c1,Bool.false_and] at this
      exact this
    · have c1:ws.length=14:=Decidable.byContradiction fun z=>c1 (decide_eq_true z)
      refine ⟨T.t_FORM.a,_,rfl,.inr (T.t_FORM.is _),7,rfl,by decide,by decide,fun D hD=>?_⟩
      refine gg (n:=7) ((List.range 7).map fun k=>V.bl (decide (ws.getD (2 * k) []=cR.getD k []))) (by simp) hD (by decide) ?_ ?_
      · rintro i y H2 hi hy s2 Q' kq
        have hy:y=V.bl (decide (ws.getD (2 * i) []=cR.getD i [])):=by
          rw [List.getElem?_map,List.getElem?_range hi] at hy
          exact (Option.some.inj hy).symm
        subst hy
        have h1:ws[2 * i]?=some (ws.getD (2 * i) []):=by
          rw [List.getD_eq_getElem?_getD,List.getElem?_eq_getElem (by omega)]
          rfl
        have h2:cR[i]?=some (cR.getD i []):=by
          rw [List.getD_eq_getElem?_getD,List.getElem?_eq_getElem (show i < cR.length from hi)]
          rfl
        refine ⟨rfl,_,rfl,_,rfl,_,_,rfl,rfl,.inl ⟨by decide,by decide⟩,l,_,_,_,rfl,rfl,SqL.of (s2 _ _ hl),aB (j:=2 * i) (by omega) (k5 h1),_,rfl,T.t_FORM.a,_,_,V.str (sOf (cR.getD i [])),rfl,rfl,T.t_FORM.is _,aB (j:=i) (by omega) (by rw [formV]; exact k5 h2),rfl,?_⟩
        rw [fL]
        exact kq _ (Same.refl _)
      · rintro H2 s2 hD2
        refine ⟨D,(List.range 7).map fun k=>decide (ws.getD (2 * k) []=cR.getD k []),rfl,?_,?_⟩
        · rw [List.map_map]
          exact SqL.of hD2
        · have:=k H2 s2
          unfold d9 at this
          rw [decide_eq_true c1,Bool.true_and] at this
          rw [List.all_map]
          exact this
def spNum:Sp:=fun vs H Q _=>∃ u:List Nat,vs=[.str (sOf u)]∧Sg u∧u.length≤5000∧Q (.bl (iR u)) H
theorem qk (T:Txt K mg):FnOk P w K mg base CX0 1 T.is_number.f T.is_number.fd ["word"] spNum:=by
  refine T.is_number.F.ok p7 (fun vs H Q E h=>?_) (fun cdv A outer s H vs Q E hr h=>?_)
  · obtain ⟨u,rfl,_⟩:=h
    rfl
  · obtain ⟨u,rfl,hs,hn,k⟩:=h
    refine ⟨_,(ag (au (nr (pe_m0 F.slot_str_isdigit F.type_str_isdigit ud (pv 0)) (nr (d8 cP (aE kL (by rfl) T.n_len PySem.boot_len (aa (pv 0) ad)) (a9 T.c_LONGEST_NUMBER) (aQ _)) (qf (pe_or (d8 dG (pv 0) bX (aQ _)) (qf (d8 kt (ay um (pv 0) af (fun _ _=>rfl)) bX (aQ _))))))))),?_⟩
    unfold iR at k
    refine ⟨_,rfl,⟨_,rfl⟩,_,rfl,rfl,trivial,_,rfl,?_⟩
    rw [qZ hs]
    cases c1:(!u.isEmpty && u.all Vbiraa.isDigit) with
    | false =>
      rw [c1,Bool.false_and] at k
      exact iteF k
    | true =>
      rw [c1,Bool.true_and] at k
      refine iteT ⟨_,rfl,_,rfl,Nat.le_of_lt (aP (by rw [cJ]; omega)),_,_,rfl,rfl,_,rfl,?_⟩
      rw [show decide (((sOf u).length:Int)≤8)=decide (u.length≤8) from decide_eq_decide.mpr (by rw [cJ]; omega)]
      cases c2:decide (u.length≤8) with
      | false =>
        rw [c2,Bool.false_and] at k
        exact iteF k
      | true =>
        rw [c2,Bool.true_and] at k
        refine iteT ⟨_,rfl,rfl,_,rfl,?_⟩
        have e0:decide (V.str (sOf u)=V.str "0")=decide (u=[48]):=by
          rw [show ("0" : Str)=sOf [48] from by decide +kernel,fL]
        rw [e0]
        cases c3:decide (u=[48]) with
        | true =>
          rw [c3,Bool.true_or] at k
          exact iteT k
        | false =>
          rw [c3,Bool.false_or] at k
          cases u with
          | nil=>cases c1
          | cons d r =>
            refine iteF ⟨_,rfl,_,_,d,rfl,rfl,Nat.le_of_lt (aP (by rw [cJ]; omega)),aB (j:=0) rfl rfl,rfl,?_⟩
            have e1:(!decide (V.str ⟨#[d]⟩=V.str "0"))=!decide ((d :: r).head?=some 48):=by
              rw [show ("0" : Str)=sOf [48] from by decide +kernel,show (⟨#[d]⟩:Str)=sOf [d] from rfl,fL]
              congr 1
              exact decide_eq_decide.mpr (by simp)
            rw [e1]
            exact k
def spNums:Sp:=fun vs H Q _=>∃ (l:Addr) (ds:List (List Nat)),vs=[.ref l]∧H l=some (.lst (b6 ds))∧ds.length=5∧(∀ u∈ds,Sg u∧u.length≤5000)∧∀ H',Same H H'→Q (.bl (ge ds)) H'
theorem iG (T:Txt K mg):FnOk P w K mg base CX0 2 T.are_numbers_right.f T.are_numbers_right.fd ["words"] spNums:=by
  refine T.are_numbers_right.F.ok cz (fun vs H Q E h=>?_) (fun cdv A outer s H vs Q E hr h=>?_)
  · obtain ⟨l,ds,rfl,_⟩:=h
    rfl
  · obtain ⟨l,ds,rfl,hl,h5,hS,k⟩:=h
    refine ⟨_,(ae (bT PassesOwn.never rfl (jd rfl T.n_enumerate (aa (pv 0) ad)) (d7 (K:=K) (n:=2) rfl (bd (aI (i:=1) cz.nd rfl (by first | exact Or.inl rfl | exact Or.inr rfl)) (bd (aI (i:=2) cz.nd rfl (by first | exact Or.inl rfl | exact Or.inr rfl)) d6)))
      (ag (aV (ei (a8 (aL (K:=K) (aC T.is_number (qk T) (hr.mono (by decide)) sT (aa (pv 2) ad)) (fun _=>rfl))) (dW (a8 (fk cP cP (ay (aS (K:=K)) (kn T.t_LEAST.m) (pv 1) (fun _ _=>rfl)) (cM kM (by rfl) T.n_int pP (aa (pv 2) ad)) (ay (aS (K:=K)) (kn T.t_GREATEST.m) (pv 1) (fun _ _=>rfl)))))).pt
      (ag (au nq))
      aH)))
      (ag (au nq))),?_⟩
    refine ⟨_,rfl,l,_,rfl,SqL.of hl,iT (K:=K) (a:=l) (xs:=b6 ds) (fun j σ H'=>Same H H'∧((List.range j).all fun k=>(Vbiraa.numberIn (gi.getD k 0) (gj.getD k 0) (ds.getD k [])).isSome)=true∧∃ v v':Option V,σ=[some (.ref l),v,v'])
      ⟨Same.refl _,rfl,none,none,rfl⟩ (fun j σ H' _ p=>SqL.of (p.1 _ _ hl)) ?_ ?_⟩
    · rintro j x σ H' t hx ⟨sm,hj,v,v',rfl⟩ ht
      have hjl:j < ds.length:=by
        have:=(List.getElem?_eq_some_iff.mp hx).1
        rw [gq] at this
        exact this
      have hu:ds[j]?=some (ds.getD j []):=by
        rw [List.getD_eq_getElem?_getD,List.getElem?_eq_getElem hjl]
        rfl
      have hx2:=k5 hu
      rw [hx] at hx2
      have hx2:=Option.some.inj hx2
      subst hx2
      obtain ⟨g1,g2⟩:=hS _ (List.mem_of_getElem? hu)
      have sm2:Same H (upd H' t (.tup [.int (j:Nat),V.str (sOf (ds.getD j []))])):=aR sm (sm.free ht)
      have hne:=lX (gi.getD j 0) (gj.getD j 0) (ds.getD j [])
      have bad:(Vbiraa.numberIn (gi.getD j 0) (gj.getD j 0) (ds.getD j [])).isSome=false→ge ds=false:=fun z=>by
        unfold ge
        rw [List.all_eq_false]
        exact ⟨j,List.mem_range.mpr hjl,by rw [z]; exact Bool.false_ne_true⟩
      refine ⟨t,_,rfl,SqT.of ac,rfl,_,_,rfl,_,_,rfl,rfl,?_⟩
      refine ⟨_,rfl,_,rfl,g1,g2,_,rfl,?_⟩
      cases c1:iR (ds.getD j []) with
      | false =>
        rw [c1,Bool.false_and] at hne
        have:=k _ sm2
        rw [bad hne] at this
        exact this
      | true =>
        rw [c1,Bool.true_and] at hne
        have i5:j < 5:=by omega
        have hlo:gi[j]?=some (gi.getD j 0):=by
          rw [List.getD_eq_getElem?_getD,List.getElem?_eq_getElem (show j < gi.length from i5)]
          rfl
        have hhi:gj[j]?=some (gj.getD j 0):=by
          rw [List.getD_eq_getElem?_getD,List.getElem?_eq_getElem (show j < gj.length from i5)]
          rfl
        generalize elo:gi.getD j 0=lo at hne hlo bad
        generalize ehi:gj.getD j 0=hi at hne hhi bad
        have n1:([.int 0,.int 0,.int 0,.int 1,.int 0]:List V)[j]?=some (.int lo):=by
          rw [show ([.int 0,.int 0,.int 0,.int 1,.int 0]:List V)=ao gi from rfl]
          unfold ao
          rw [List.getElem?_map,hlo]
          rfl
        have n2:([.int 10,.int 99,.int 1000,.int 100000,.int 100]:List V)[j]?=some (.int hi):=by
          rw [show ([.int 10,.int 99,.int 1000,.int 100000,.int 100]:List V)=ao gj from rfl]
          unfold ao
          rw [List.getElem?_map,hhi]
          rfl
        refine iteF ⟨_,rfl,T.t_LEAST.a,_,_,_,rfl,rfl,T.t_LEAST.is _,aY n1,_,rfl,_,_,rfl,lD c1,?_,_,_,rfl,rfl,_,rfl,?_⟩
        · rw [cJ]
          have:=(eQ _).mp c1
          simp only [not_or] at this
          omega
        rw [lA]
        cases c2:decide (lo≤Vbiraa.value (ds.getD j [])) with
        | false =>
          have hne:_=(decide (lo≤Vbiraa.value (ds.getD j [])) && decide (Vbiraa.value (ds.getD j [])≤hi)):=hne
          rw [c2,Bool.false_and] at hne
          have:=k _ sm2
          rw [bad hne] at this
          exact ⟨_,rfl,this⟩
        | true =>
          have hne:_=(decide (lo≤Vbiraa.value (ds.getD j [])) && decide (Vbiraa.value (ds.getD j [])≤hi)):=hne
          rw [c2,Bool.true_and] at hne
          refine iteT ⟨_,rfl,T.t_GREATEST.a,_,_,_,rfl,rfl,T.t_GREATEST.is _,aY n2,_,_,rfl,rfl,_,rfl,?_⟩
          rw [lA]
          cases c3:decide (Vbiraa.value (ds.getD j [])≤hi) with
          | false =>
            rw [c3] at hne
            have:=k _ sm2
            rw [bad hne] at this
            exact this
          | true =>
            rw [c3] at hne
            refine ⟨sm2,?_,_,_,rfl⟩
            rw [List.range_succ,List.all_append,hj,List.all_cons,List.all_nil]
            show (true && ((Vbiraa.numberIn (gi.getD j 0) (gj.getD j 0) (ds.getD j [])).isSome && true))=true
            rw [elo,ehi,hne]
            rfl
    · rintro σ H' ⟨sm,hj,v,v',rfl⟩
      have:=k H' sm
      unfold ge at this
      rw [gq] at hj
      rw [hj] at this
      exact this
end
end CN
namespace CN
open PySem PySem.Spec PyProof.Rows L2
theorem RsAt.at_ {C l:Addr} {H:Hp} {ns:Vbiraa.Net} (R:RsAt C H l ns) {i:Nat} (hi:i < ns.length):∃ (xs:List V) (a dx:Addr),H l=some (.lst xs)∧xs.length=ns.length∧xs[i]?=some (.ref a)∧H a=some (.ins C dx (rf ns i)):=by
  obtain ⟨as,h1,h2,h3⟩:=R.ex
  obtain ⟨a,ha⟩:∃ a,as[i]?=some a:=⟨_,List.getElem?_eq_getElem (by omega)⟩
  obtain ⟨dx,hx⟩:=h3 i a ha
  exact ⟨_,a,dx,h1,by rw [List.length_map]; exact h2,by rw [List.getElem?_map,ha]; rfl,hx⟩
theorem RsAt.list {C l:Addr} {H:Hp} {ns:Vbiraa.Net} (R:RsAt C H l ns):∃ xs:List V,H l=some (.lst xs)∧xs.length=ns.length∧∀ i x,xs[i]?=some x→∃ a dx:Addr,x=.ref a∧H a=some (.ins C dx (rf ns i)):=by
  obtain ⟨as,h1,h2,h3⟩:=R.ex
  refine ⟨_,h1,by rw [List.length_map]; exact h2,fun i x e=>?_⟩
  rw [List.getElem?_map] at e
  obtain ⟨a,ha,e⟩:=Option.map_eq_some_iff.mp e
  obtain ⟨dx,hx⟩:=h3 i a ha
  exact ⟨a,dx,e.symm,hx⟩
theorem oO {ns:Vbiraa.Net} {u:List Nat}:(Vbiraa.find ns u).isNone=((List.range ns.length).map fun i=>!decide ((Vbiraa.reachAt ns i).name=u)).all id:=by
  rw [Bool.eq_iff_iff,Option.isNone_iff_eq_none,List.all_map,List.all_eq_true]
  unfold Vbiraa.find
  rw [List.findIdx?_eq_none_iff]
  constructor
  · intro h i hi
    have hi:=List.mem_range.mp hi
    have:=h _ (List.mem_of_getElem? (gT hi))
    show (!decide _)=true
    rw [Bool.not_eq_true',decide_eq_false_iff_not]
    intro e
    rw [e,beq_self_eq_true] at this
    cases this
  · intro h r hr
    obtain ⟨i,hi,e⟩:=List.getElem_of_mem hr
    have:=h i (List.mem_range.mpr hi)
    have this:(!decide ((Vbiraa.reachAt ns i).name=u))=true:=this
    rw [Bool.not_eq_true',decide_eq_false_iff_not,fD (by rw [List.getElem?_eq_getElem hi,e])] at this
    exact beq_eq_false_iff_ne.mpr this
theorem yk (u:List Nat) (l:List (List Nat)):inV (V.str (sOf u)) (b6 l)=l.any fun v=>decide (v=u):=by
  unfold inV b6
  rw [List.any_map]
  congr 1
  funext v
  show (sOf v == sOf u)=decide (v=u)
  rw [Bool.eq_iff_iff,beq_iff_eq,decide_eq_true_eq]
  exact ⟨uT,fun h=>by rw [h]⟩
theorem zo (u:List Nat):Vbiraa.isName u=((!u.isEmpty && u.all Vbiraa.isSmall) && (decide (u.length≤8) && (!(cR.any fun v=>decide (v=u)) && !decide (u=Vbiraa.text "source")))):=by
  unfold Vbiraa.isName
  have e:Vbiraa.KEYS.contains u=((cR.any fun v=>decide (v=u)) || decide (u=Vbiraa.text "source")):=by
    rw [Bool.eq_iff_iff,List.contains_iff_mem,Bool.or_eq_true,List.any_eq_true,decide_eq_true_eq]
    simp only [decide_eq_true_eq]
    show u∈[Vbiraa.text "reach",Vbiraa.text "from",Vbiraa.text "source",Vbiraa.text "delay",Vbiraa.text "loss",Vbiraa.text "soak",Vbiraa.text "cap",Vbiraa.text "gate"]↔_
    constructor
    · intro h
      simp only [List.mem_cons,List.not_mem_nil,or_false] at h
      rcases h with h | h | h | h | h | h | h | h
      · exact .inl ⟨_,by simp [cR],h.symm⟩
      · exact .inl ⟨_,by simp [cR],h.symm⟩
      · exact .inr h
      · exact .inl ⟨_,by simp [cR],h.symm⟩
      · exact .inl ⟨_,by simp [cR],h.symm⟩
      · exact .inl ⟨_,by simp [cR],h.symm⟩
      · exact .inl ⟨_,by simp [cR],h.symm⟩
      · exact .inl ⟨_,by simp [cR],h.symm⟩
    · rintro (⟨v,hv,rfl⟩ | h)
      · unfold cR at hv
        simp only [List.mem_cons,List.not_mem_nil,or_false] at hv ⊢
        rcases hv with h | h | h | h | h | h | h <;> simp [h]
      · simp [h]
  rw [e]
  have e2:decide (1≤u.length)=!u.isEmpty:=by
    cases u <;> simp
  rw [e2]
  cases (!u.isEmpty) <;> cases decide (u.length≤8) <;> cases (u.all Vbiraa.isSmall) <;> simp
def ni (ns:Vbiraa.Net) (u:List Nat):Int:=if u=Vbiraa.text "source" then -1 else match Vbiraa.find ns u with
  | some i=>(i:Int)
  | none=>-2
section
variable {P:Program} {w:World} {K:PySem.W.Frag} {mg:Str→Option Value} {base:Heap}
def spFree (C:Addr):Sp:=fun vs H Q _=>∃ (l:Addr) (ns:Vbiraa.Net) (u:List Nat),vs=[.str (sOf u),.ref l]∧Sg u∧u.length≤5000∧RsAt C H l ns∧ns.length≤1000∧∀ H',Same H H'→Q (.bl (Vbiraa.isName u && (Vbiraa.find ns u).isNone)) H'
theorem mf (T:Txt K mg):FnOk P w K mg base CX0 1 T.is_name_free.f T.is_name_free.fd ["name", "reaches"] (spFree T.a_Reach):=by
  refine T.is_name_free.F.ok et (fun vs H Q E h=>?_) (fun cdv A outer s H vs Q E hr h=>?_)
  · obtain ⟨l,ns,u,rfl,_⟩:=h
    rfl
  · obtain ⟨l,ns,u,rfl,hs,hn,R,hz,k⟩:=h
    refine ⟨_,(ae (aV (ei (a8 (aL (K:=K) (pe_m0 F.slot_str_isalpha F.type_str_isalpha ue (pv 0)) (fun _=>rfl))) (dW (aN ku (aE kL (by rfl) T.n_len PySem.boot_len (aa (pv 0) ad)) (a9 T.c_LONGEST_NAME) (aQ _)))).pt
      (ag (au nq))
      aH)
      (ae (aV (ei (aN (jP (K:=K)) (pv 0) (kn T.t_FORM.m) (by with_unfolding_all rfl)) (dW (aN dG (pv 0) bX (aQ _)))).pt
      (ag (au nq))
      aH)
      (ag (au (aE (mB (K:=K) rfl) (by rfl) T.n_all ji (aa (gv (own:=[("reach",2)]) rfl et.nd (bW (pv 1)) (bh (N:=["name", "reaches", "reach"]) (sc:=aj dC) (by decide +kernel)) (fun _ _ _ _ _=>(aI (i:=2) et.nd rfl (by first | exact Or.inl rfl | exact Or.inr rfl))) (fun _ _ _ _ _=>bJ) (fun _ _ _ _ _=>(d8 kt (am (K:=K) (pv 2) rfl) (pv 0) (aQ _)))) ad)))))),?_⟩
    rw [zo] at k
    refine ⟨_,rfl,⟨_,rfl⟩,_,rfl,rfl,trivial,_,rfl,?_⟩
    rw [q0 hs]
    cases c1:(!u.isEmpty && u.all Vbiraa.isSmall) with
    | false =>
      rw [c1] at k
      exact k H (Same.refl _)
    | true =>
      rw [c1,Bool.true_and] at k
      refine iteF ⟨_,rfl,_,rfl,Nat.le_of_lt (aP (by rw [cJ]; omega)),_,_,rfl,rfl,_,rfl,?_⟩
      have e8:decide ((8:Int) < ((sOf u).length:Int))=!decide (u.length≤8):=by
        rw [cJ,←decide_not]
        exact decide_eq_decide.mpr (by omega)
      rw [e8]
      cases c2:decide (u.length≤8) with
      | false =>
        rw [c2] at k
        exact k H (Same.refl _)
      | true =>
        rw [c2,Bool.true_and] at k
        refine iteF ?_
        refine ⟨_,rfl,T.t_FORM.a,b6 cR,rfl,.inr (by rw [←formV]; exact T.t_FORM.is _),rfl,by rfl,_,rfl,?_⟩
        show if inV (V.str (sOf u)) (b6 cR)=true then _ else _
        rw [yk]
        cases c3:(cR.any fun v=>decide (v=u)) with
        | true =>
          rw [c3] at k
          exact iteT (iteT (k H (Same.refl _)))
        | false =>
          rw [c3,Bool.not_false,Bool.true_and] at k
          refine iteF ⟨_,rfl,rfl,_,rfl,?_⟩
          have e0:decide (V.str (sOf u)=V.str "source")=decide (u=Vbiraa.text "source"):=by
            rw [show ("source" : Str)=sOf (Vbiraa.text "source") from by decide +kernel,fL]
          rw [e0]
          cases c4:decide (u=Vbiraa.text "source") with
          | true =>
            rw [c4] at k
            exact iteT (k H (Same.refl _))
          | false =>
            rw [c4,Bool.not_false,Bool.true_and] at k
            refine iteF ?_
            obtain ⟨xs,h1,h2,h3⟩:=R.list
            refine ⟨_,rfl,l,rfl,⟨_,SqL.of h1⟩,fun D hD=>?_⟩
            refine bY ((List.range ns.length).map fun i=>V.bl (!decide ((Vbiraa.reachAt ns i).name=u))) (by simp [h2]) hD (SqL.of h1) (aP (by omega)) ?_ ?_
            · rintro i x y H2 hx hy s2 Q' kq
              obtain ⟨a,dx,rfl,ha⟩:=h3 i x hx
              have hi:i < ns.length:=by
                rw [←h2]
                exact (List.getElem?_eq_some_iff.mp hx).1
              rw [List.getElem?_map,List.getElem?_range hi] at hy
              have hy:=Option.some.inj hy
              subst hy
              refine ⟨rfl,_,rfl,a,T.a_Reach,dx,_,_,rfl,s2 _ _ ha,T.cl_Reach,T.na_Reach_name,nV,_,rfl,rfl,?_⟩
              rw [fL]
              exact kq _ (Same.refl _)
            · rintro H2 s2 hD2
              refine ⟨D,(List.range ns.length).map fun i=>!decide ((Vbiraa.reachAt ns i).name=u),rfl,?_,?_⟩
              · rw [List.map_map]
                exact SqL.of hD2
              · have:=k H2 s2
                rw [oO] at this
                exact this
def yX (C:Addr):Sp:=fun vs H Q _=>∃ (l:Addr) (ns:Vbiraa.Net) (u:List Nat),vs=[.str (sOf u),.ref l]∧RsAt C H l ns∧∀ H',Same H H'→Q (.int (ni ns u)) H'
theorem rP (T:Txt K mg):FnOk P w K mg base CX0 1 T.place_of.f T.place_of.fd ["where", "reaches"] (yX T.a_Reach):=by
  refine T.place_of.F.ok im (fun vs H Q E h=>?_) (fun cdv A outer s H vs Q E hr h=>?_)
  · obtain ⟨l,ns,u,rfl,_⟩:=h
    rfl
  · obtain ⟨l,ns,u,rfl,R,k⟩:=h
    refine ⟨_,(ae (aV (aN dG (pv 0) bX (aQ _))
      (ag (au (a9 T.c_SOURCE)))
      aH)
      (ae (bT PassesOwn.never rfl (jd rfl T.n_enumerate (aa (pv 1) ad)) (d7 (K:=K) (n:=2) rfl (bd (aI (i:=2) im.nd rfl (by first | exact Or.inl rfl | exact Or.inr rfl)) (bd (aI (i:=3) im.nd rfl (by first | exact Or.inl rfl | exact Or.inr rfl)) d6)))
      (ag (aV (aN dG (am (K:=K) (pv 3) rfl) (pv 0) (aQ _))
      (ag (au (pv 2)))
      aH)))
      (ag (au (a9 T.c_NOWHERE))))),?_⟩
    refine ⟨_,rfl,rfl,_,rfl,?_⟩
    have e0:decide (V.str (sOf u)=V.str "source")=decide (u=Vbiraa.text "source"):=by
      rw [show ("source" : Str)=sOf (Vbiraa.text "source") from by decide +kernel,fL]
    rw [e0]
    unfold ni at k
    refine ite2 (fun c1=>?_) (fun c1=>?_)
    · have c1:u=Vbiraa.text "source" := of_decide_eq_true c1
      rw [if_pos c1] at k
      exact k H (Same.refl _)
    · have c1:¬ u=Vbiraa.text "source" := fun z=>c1 (decide_eq_true z)
      rw [if_neg c1] at k
      obtain ⟨xs,h1,h2,h3⟩:=R.list
      refine ⟨_,rfl,l,_,rfl,SqL.of h1,iT (K:=K) (a:=l) (xs:=xs) (fun j σ H'=>Same H H'∧(∀ i,i < j→¬ (Vbiraa.reachAt ns i).name=u)∧∃ v v':Option V,σ=[some (.str (sOf u)),some (.ref l),v,v'])
        ⟨Same.refl _,fun i h=>absurd h (Nat.not_lt_zero i),none,none,rfl⟩ (fun j σ H' _ p=>SqL.of (p.1 _ _ h1)) ?_ ?_⟩
      · rintro j x σ H' t hx ⟨sm,hj,v,v',rfl⟩ ht
        obtain ⟨a,dx,rfl,ha⟩:=h3 j x hx
        have hi:j < ns.length:=by
          rw [←h2]
          exact (List.getElem?_eq_some_iff.mp hx).1
        have sm2:Same H (upd H' t (.tup [.int (j:Nat),V.ref a])):=aR sm (sm.free ht)
        refine ⟨t,_,rfl,SqT.of ac,rfl,_,_,rfl,_,_,rfl,rfl,?_⟩
        refine ⟨_,rfl,a,T.a_Reach,dx,_,_,rfl,sm2 _ _ ha,T.cl_Reach,T.na_Reach_name,nV,_,rfl,rfl,_,rfl,?_⟩
        rw [fL]
        refine ite2 (fun c2=>?_) (fun c2=>?_)
        · have c2:=of_decide_eq_true c2
          have e:Vbiraa.find ns u=some j:=by
            unfold Vbiraa.find
            rw [List.findIdx?_eq_some_iff_getElem]
            refine ⟨hi,?_,fun m hm=>?_⟩
            · have:=fD (List.getElem?_eq_getElem hi)
              rw [this] at c2
              exact beq_iff_eq.mpr c2
            · have:=hj m hm
              rw [fD (List.getElem?_eq_getElem (show m < ns.length by omega))] at this
              rw [beq_iff_eq]
              exact this
          rw [e] at k
          exact ⟨_,rfl,k _ sm2⟩
        · have c2:¬ (Vbiraa.reachAt ns j).name=u:=fun z=>c2 (decide_eq_true z)
          refine ⟨sm2,fun i hi=>?_,_,_,rfl⟩
          rcases Nat.lt_or_eq_of_le (Nat.lt_succ_iff.mp hi) with q | q
          · exact hj i q
          · rw [q]
            exact c2
      · rintro σ H' ⟨sm,hj,v,v',rfl⟩
        rw [h2] at hj
        have e:Vbiraa.find ns u=none:=by
          unfold Vbiraa.find
          rw [List.findIdx?_eq_none_iff]
          intro r hr
          obtain ⟨i,hi,e⟩:=List.getElem_of_mem hr
          have:=hj i hi
          rw [fD (by rw [List.getElem?_eq_getElem hi,e])] at this
          exact beq_eq_false_iff_ne.mpr this
        rw [e] at k
        exact k H' sm
def yW (C:Addr):Sp:=fun vs H Q _=>∃ (x dx nl:Addr) (nm:Str) (b a d D L S Cp G:Int),vs=[.ref x,.str nm,.int b,.int a,.int d,.ref nl]∧H x=some (.ins C dx [])∧H nl=some (.lst [.int D,.int L,.int S,.int Cp,.int G]) ∧
  ∀ H':Hp,H' x=some (.ins C dx (rfs nm b a d D L S Cp G))→(∀ b o,H b=some o→b≠x→H' b=some o)→Q .non H'
theorem gc (T:Txt K mg):FnOk P w K mg base CX0 1 T.Reach_init.f T.Reach_init.fd ["self", "name", "begins", "above", "depth", "numbers"] (yW T.a_Reach):=by
  refine T.Reach_init.F.ok oH (fun vs H Q E h=>?_) (fun cdv A outer s H vs Q E hr h=>?_)
  · obtain ⟨x,dx,nl,nm,b,a,d,D,L,S,Cp,G,rfl,_⟩:=h
    rfl
  · obtain ⟨x,dx,nl,nm,b,a,d,D,L,S,Cp,G,rfl,hx,hn,k⟩:=h
    refine ⟨_,(ae (bU (pv 0) (pv 1) rfl)
      (ae (bU (pv 0) (pv 2) rfl)
      (ae (bU (pv 0) (pv 3) rfl)
      (ae (bU (pv 0) (pv 4) rfl)
      (ae (bU (pv 0) (ay (ak (K:=K)) (pv 5) af (fun _ _=>rfl)) rfl)
      (ae (bU (pv 0) (ay (ak (K:=K)) (pv 5) af (fun _ _=>rfl)) rfl)
      (ae (bU (pv 0) (ay (ak (K:=K)) (pv 5) af (fun _ _=>rfl)) rfl)
      (ae (bU (pv 0) (ay (ak (K:=K)) (pv 5) af (fun _ _=>rfl)) rfl)
      (ag (bU (pv 0) (ay (ak (K:=K)) (pv 5) af (fun _ _=>rfl)) rfl)))))))))),?_⟩
    have ne:nl≠x:=bL hn hx (by intro q; cases q)
    have nn:∀ {H':Hp} {o:HO},H' nl=some (.lst [.int D,.int L,.int S,.int Cp,.int G])→(upd H' x o) nl=some (.lst [.int D,.int L,.int S,.int Cp,.int G]):=fun h=>by rw [ai ne]; exact h
    refine ⟨_,rfl,_,rfl,x,T.a_Reach,dx,_,rfl,hx,T.cl_Reach,T.na_Reach_name,by decide,?_⟩
    refine ⟨_,rfl,_,rfl,x,T.a_Reach,dx,_,rfl,ac,T.cl_Reach,T.na_Reach_begins,by show 1 < 1000; decide,?_⟩
    refine ⟨_,rfl,_,rfl,x,T.a_Reach,dx,_,rfl,ac,T.cl_Reach,T.na_Reach_above,by show 2 < 1000; decide,?_⟩
    refine ⟨_,rfl,_,rfl,x,T.a_Reach,dx,_,rfl,ac,T.cl_Reach,T.na_Reach_depth,by show 3 < 1000; decide,?_⟩
    refine ⟨_,rfl,nl,_,_,_,rfl,rfl,SqL.of (nn (nn (nn (nn hn)))),aB (j:=0) rfl rfl,_,rfl,x,T.a_Reach,dx,_,rfl,ac,T.cl_Reach,T.na_Reach_delay,by show 4 < 1000; decide,?_⟩
    refine ⟨_,rfl,nl,_,_,_,rfl,rfl,SqL.of (nn (nn (nn (nn (nn hn))))),aB (j:=1) rfl rfl,_,rfl,x,T.a_Reach,dx,_,rfl,ac,T.cl_Reach,T.na_Reach_loss,by show 5 < 1000; decide,?_⟩
    refine ⟨_,rfl,nl,_,_,_,rfl,rfl,SqL.of (nn (nn (nn (nn (nn (nn hn)))))),aB (j:=2) rfl rfl,_,rfl,x,T.a_Reach,dx,_,rfl,ac,T.cl_Reach,T.na_Reach_soak,by show 6 < 1000; decide,?_⟩
    refine ⟨_,rfl,nl,_,_,_,rfl,rfl,SqL.of (nn (nn (nn (nn (nn (nn (nn hn))))))),aB (j:=3) rfl rfl,_,rfl,x,T.a_Reach,dx,_,rfl,ac,T.cl_Reach,T.na_Reach_cap,by show 7 < 1000; decide,?_⟩
    refine ⟨_,rfl,nl,_,_,_,rfl,rfl,SqL.of (nn (nn (nn (nn (nn (nn (nn (nn hn)))))))),aB (j:=4) rfl rfl,_,rfl,x,T.a_Reach,dx,_,rfl,ac,T.cl_Reach,T.na_Reach_gate,by show 8 < 1000; decide,?_⟩
    refine k _ (ac.trans ?_) ?_
    · rfl
    · intro b o e hb
      simp only [ai hb]
      exact e
end
end CN
namespace CN
open PySem PySem.Spec PyProof.Rows L2
theorem nZ {ws:List (List Nat)} (h:d9 ws=true):∃ n p d o s m v:List Nat,ws=[Vbiraa.text "reach",n,Vbiraa.text "from",p,Vbiraa.text "delay",d,Vbiraa.text "loss",o,Vbiraa.text "soak",s,Vbiraa.text "cap",m,Vbiraa.text "gate",v]:=by
  unfold d9 at h
  rw [Bool.and_eq_true,decide_eq_true_eq,List.all_eq_true] at h
  obtain ⟨hl,h⟩:=h
  match ws,hl,h with
  | [k,n,f,p,a,d,b,o,c,s,e,m,g,v],_,h =>
    have h0:k=Vbiraa.text "reach" := of_decide_eq_true (h 0 (by decide))
    have h1:f=Vbiraa.text "from" := of_decide_eq_true (h 1 (by decide))
    have h2:a=Vbiraa.text "delay" := of_decide_eq_true (h 2 (by decide))
    have h3:b=Vbiraa.text "loss" := of_decide_eq_true (h 3 (by decide))
    have h4:c=Vbiraa.text "soak" := of_decide_eq_true (h 4 (by decide))
    have h5:e=Vbiraa.text "cap" := of_decide_eq_true (h 5 (by decide))
    have h6:g=Vbiraa.text "gate" := of_decide_eq_true (h 6 (by decide))
    subst h0 h1 h2 h3 h4 h5 h6
    exact ⟨n,p,d,o,s,m,v,rfl⟩
theorem vn {ns:Vbiraa.Net} {ws:List (List Nat)} (h:d9 ws=false):Vbiraa.lineOf ns ws=none:=by
  unfold Vbiraa.lineOf
  split
  · rename_i k n f p a d b o c s e m g v
    rw [if_neg]
    rintro ⟨h0,h1,h2,h3,h4,h5,h6,_⟩
    subst h0 h1 h2 h3 h4 h5 h6
    have:d9 [Vbiraa.text "reach",n,Vbiraa.text "from",p,Vbiraa.text "delay",d,Vbiraa.text "loss",o,Vbiraa.text "soak",s,Vbiraa.text "cap",m,Vbiraa.text "gate",v]=true:=by
      unfold d9
      rw [Bool.and_eq_true,decide_eq_true_eq,List.all_eq_true]
      refine ⟨rfl,fun k hk=>?_⟩
      have hk:=List.mem_range.mp hk
      match k,hk with
      | 0,_=>exact decide_eq_true rfl
      | 1,_=>exact decide_eq_true rfl
      | 2,_=>exact decide_eq_true rfl
      | 3,_=>exact decide_eq_true rfl
      | 4,_=>exact decide_eq_true rfl
      | 5,_=>exact decide_eq_true rfl
      | 6,_=>exact decide_eq_true rfl
      | n + 7,h=>omega
    rw [this] at h
    cases h
  · rfl
def f8 (ns:Vbiraa.Net) (p:List Nat):Option (Option Nat):=if p=Vbiraa.text "source" then some none else (Vbiraa.find ns p).map fun i=>some i
def dpOf (ns:Vbiraa.Net):Option Nat→Nat
  | none=>1
  | some i=>depth ns i + 1
def abOf (ns:Vbiraa.Net):Option Nat→Nat
  | none=>0
  | some i=>above ns i + (Vbiraa.reachAt ns i).delay
theorem xN (ns:Vbiraa.Net) (p:List Nat):ni ns p=match f8 ns p with | some q=>pInt q | none=>-2:=by
  unfold ni f8
  by_cases h:p=Vbiraa.text "source"
  · rw [if_pos h,if_pos h]
    rfl
  · rw [if_neg h,if_neg h]
    cases Vbiraa.find ns p <;> rfl
theorem pf {ns:Vbiraa.Net} {p:List Nat} {i:Nat} (h:f8 ns p=some (some i)):i < ns.length:=by
  unfold f8 at h
  by_cases c:p=Vbiraa.text "source"
  · rw [if_pos c] at h
    cases h
  · rw [if_neg c] at h
    obtain ⟨j,hj,e⟩:=Option.map_eq_some_iff.mp h
    cases e
    exact zG hj
theorem zi (q:Option Nat):¬ pInt q=-2:=by
  cases q <;> simp only [pInt] <;> omega
theorem gX {d o s m v:List Nat}:ge [d,o,s,m,v]=true↔(Vbiraa.numberIn 0 10 d).isSome=true∧(Vbiraa.numberIn 0 99 o).isSome=true∧(Vbiraa.numberIn 0 1000 s).isSome=true∧(Vbiraa.numberIn 1 100000 m).isSome=true∧(Vbiraa.numberIn 0 100 v).isSome=true:=by
  show ((Vbiraa.numberIn 0 10 d).isSome && ((Vbiraa.numberIn 0 99 o).isSome && ((Vbiraa.numberIn 0 1000 s).isSome && ((Vbiraa.numberIn 1 100000 m).isSome && ((Vbiraa.numberIn 0 100 v).isSome && true)))))=true↔_
  simp only [Bool.and_eq_true,and_true]
def fitR (ns:Vbiraa.Net) (q:Option Nat) (dp:Nat) (G:Nat):Bool:=decide (ns.length < 30) && (decide (dp≤8) && decide (Vbiraa.gatesAt ns q + G≤100))
def newR (q:Option Nat) (n d o s m v:List Nat):Vbiraa.Reach:={ name:=n,parent:=q,delay:=Vbiraa.value d,loss:=Vbiraa.value o,soak:=Vbiraa.value s,cap:=Vbiraa.value m,gate:=Vbiraa.value v }
def qz (ns:Vbiraa.Net):Option Nat→Bool
  | none=>true
  | some i=>decide ((Vbiraa.way ns i).length < 8)
theorem fJ (ns:Vbiraa.Net) (n p d o s m v:List Nat) :
    Vbiraa.lineOf ns [Vbiraa.text "reach",n,Vbiraa.text "from",p,Vbiraa.text "delay",d,Vbiraa.text "loss",o,Vbiraa.text "soak",s,Vbiraa.text "cap",m,Vbiraa.text "gate",v] =
      if (Vbiraa.isName n && (Vbiraa.find ns n).isNone)=true∧ns.length < 30 then
        (match f8 ns p,Vbiraa.numberIn 0 10 d,Vbiraa.numberIn 0 99 o,Vbiraa.numberIn 0 1000 s,Vbiraa.numberIn 1 100000 m,Vbiraa.numberIn 0 100 v with
        | some q,some d,some o,some s,some m,some v=>if Vbiraa.gatesAt ns q + v≤100∧qz ns q=true then some (ns++[{ name:=n,parent:=q,delay:=d,loss:=o,soak:=s,cap:=m,gate:=v }]) else none
        | _,_,_,_,_,_=>none) else none:=by
  unfold Vbiraa.lineOf f8
  simp only [true_and,Bool.and_eq_true,and_assoc]
  rfl
theorem pq {ns:Vbiraa.Net} {n p d o s m v:List Nat} (h:(Vbiraa.isName n && (Vbiraa.find ns n).isNone)=false) :
    Vbiraa.lineOf ns [Vbiraa.text "reach",n,Vbiraa.text "from",p,Vbiraa.text "delay",d,Vbiraa.text "loss",o,Vbiraa.text "soak",s,Vbiraa.text "cap",m,Vbiraa.text "gate",v]=none:=by
  rw [fJ,if_neg]
  rw [h]
  exact fun z=>Bool.false_ne_true z.1
theorem pk {ns:Vbiraa.Net} {n p d o s m v:List Nat} (h:ge [d,o,s,m,v]=false) :
    Vbiraa.lineOf ns [Vbiraa.text "reach",n,Vbiraa.text "from",p,Vbiraa.text "delay",d,Vbiraa.text "loss",o,Vbiraa.text "soak",s,Vbiraa.text "cap",m,Vbiraa.text "gate",v]=none:=by
  rw [fJ]
  split
  · split
    · rename_i h1 h2 h3 h4 h5 h6
      have:ge [d,o,s,m,v]=true:=gX.mpr ⟨by rw [h2]; rfl,by rw [h3]; rfl,by rw [h4]; rfl,by rw [h5]; rfl,by rw [h6]; rfl⟩
      rw [this] at h
      cases h
    · rfl
  · rfl
theorem nS {ns:Vbiraa.Net} {n p d o s m v:List Nat} (h:f8 ns p=none) :
    Vbiraa.lineOf ns [Vbiraa.text "reach",n,Vbiraa.text "from",p,Vbiraa.text "delay",d,Vbiraa.text "loss",o,Vbiraa.text "soak",s,Vbiraa.text "cap",m,Vbiraa.text "gate",v]=none:=by
  rw [fJ,h]
  split <;> rfl
theorem pr {ns:Vbiraa.Net} {n p d o s m v:List Nat} {q:Option Nat} (h1:(Vbiraa.isName n && (Vbiraa.find ns n).isNone)=true) (h2:ge [d,o,s,m,v]=true) (h3:f8 ns p=some q) :
    Vbiraa.lineOf ns [Vbiraa.text "reach",n,Vbiraa.text "from",p,Vbiraa.text "delay",d,Vbiraa.text "loss",o,Vbiraa.text "soak",s,Vbiraa.text "cap",m,Vbiraa.text "gate",v] =
      if fitR ns q (dpOf ns q) (Vbiraa.value v)=true then some (ns++[newR q n d o s m v]) else none:=by
  obtain ⟨a1,a2,a3,a4,a5⟩:=gX.mp h2
  obtain ⟨d',e1⟩:=Option.isSome_iff_exists.mp a1
  obtain ⟨o',e2⟩:=Option.isSome_iff_exists.mp a2
  obtain ⟨s',e3⟩:=Option.isSome_iff_exists.mp a3
  obtain ⟨m',e4⟩:=Option.isSome_iff_exists.mp a4
  obtain ⟨v',e5⟩:=Option.isSome_iff_exists.mp a5
  rw [fJ,h3,e1,e2,e3,e4,e5,h1]
  have f1:=(aU e1).1
  have f2:=(aU e2).1
  have f3:=(aU e3).1
  have f4:=(aU e4).1
  have f5:=(aU e5).1
  subst f1 f2 f3 f4 f5
  unfold fitR newR
  simp only [Bool.and_eq_true,decide_eq_true_eq,true_and]
  have ed:(qz ns q=true)=(dpOf ns q≤8):=by
    cases q with
    | none=>simp [dpOf,qz]
    | some i =>
      simp only [decide_eq_true_eq,dpOf,depth,qz]
      exact propext (by omega)
  by_cases c1:ns.length < 30
  · rw [if_pos c1]
    simp only [ed]
    by_cases c2:Vbiraa.gatesAt ns q + Vbiraa.value v≤100∧dpOf ns q≤8
    · rw [if_pos c2,if_pos ⟨c1,c2.2,c2.1⟩]
    · rw [if_neg c2,if_neg (fun z=>c2 ⟨z.2.2,z.2.1⟩)]
  · rw [if_neg c1,if_neg (fun z=>c1 z.1)]
def RObj (C:Addr) (H:Hp) (x:Addr) (fs:List (Str × V)):Prop:=∃ dx,H x=some (.ins C dx fs)
section
variable {P:Program} {w:World} {K:PySem.W.Frag} {mg:Str→Option Value} {base:Heap}
def vY (C:Addr):Sp:=fun vs H Q _=>∃ (l nl:Addr) (ns:Vbiraa.Net) (nm:Str) (q:Option Nat) (D L S Cp G:Nat),vs=[.str nm,.int (pInt q),.ref nl,.ref l]∧H nl=some (.lst [.int D,.int L,.int S,.int Cp,.int G])∧RsAt C H l ns∧(∀ i,q=some i→i < ns.length) ∧
  ∀ (H':Hp) (x:Addr),Same H H'→H x=none→RObj C H' x (rfs nm (pInt q) (abOf ns q) (dpOf ns q) D L S Cp G)→Q (.ref x) H'
theorem rO (T:Txt K mg):FnOk P w K mg base CX0 3 T.reach_at.f T.reach_at.fd ["name", "place", "numbers", "reaches"] (vY T.a_Reach):=by
  refine T.reach_at.F.ok lO (fun vs H Q E h=>?_) (fun cdv A outer s H vs Q E hr h=>?_)
  · obtain ⟨l,nl,ns,nm,q,D,L,S,Cp,G,rfl,_⟩:=h
    rfl
  · obtain ⟨l,nl,ns,nm,q,D,L,S,Cp,G,rfl,hn,R,hq,k⟩:=h
    refine ⟨_,(ae (aV (aN dG (pv 1) (a9 T.c_SOURCE) (aQ _))
      (ag (au (qg T.mk_Reach (gc T) (hr.mono (by decide)) rfl T.m_Reach ia .nil lQ (aa (pv 0) (aa (pv 1) (aa af (aa af (aa (pv 2) ad))))))))
      aH)
      (ae (aw (i:=4) lO.nd rfl (by first | exact Or.inl rfl | exact Or.inr rfl) (ay (ak (K:=K)) (pv 3) (pv 1) (fun _ _=>rfl)))
      (ag (au (qg T.mk_Reach (gc T) (hr.mono (by decide)) rfl T.m_Reach ia .nil lQ (aa (pv 0) (aa (pv 1) (aa (aF bv (am (K:=K) (pv 4) rfl) (am (K:=K) (pv 4) rfl)) (aa (aF bv (am (K:=K) (pv 4) rfl) af) (aa (pv 2) ad)))))))))),?_⟩
    refine ⟨_,rfl,rfl,_,rfl,?_⟩
    cases q with
    | none =>
      refine iteT ?_
      refine ⟨_,rfl,_,rfl,_,rfl,?_⟩
      intro x dx nx nd ne
      have nnl:(upd (upd H dx (.own x)) x (.ins T.a_Reach dx [])) nl=some (.lst [.int D,.int L,.int S,.int Cp,.int G]):=by
        rw [ai (aq hn nx),ai (aq hn nd)]
        exact hn
      refine ⟨x,dx,nl,nm,_,0,1,_,_,_,_,_,rfl,ac,nnl,fun H2 h2 kp=>⟨rfl,?_⟩⟩
      exact k H2 x (Same.made nx nd kp) nx ⟨dx,h2⟩
    | some i =>
      have e:decide (V.int (pInt (some i))=V.int (-1))=false:=by
        rw [decide_eq_false_iff_not]
        intro z
        have z:((i:Nat):Int)=-1:=V.int.inj z
        omega
      rw [e]
      refine iteF ?_
      have hi:=hq i rfl
      obtain ⟨xs,a,da,h1,h2,h3,h4⟩:=R.at_ hi
      refine ⟨_,rfl,_,rfl,l,_,_,_,rfl,rfl,SqL.of h1,aY h3,?_⟩
      refine ⟨_,rfl,_,rfl,_,rfl,a,T.a_Reach,da,_,_,rfl,h4,T.cl_Reach,T.na_Reach_above,g8,_,rfl,a,T.a_Reach,da,_,_,rfl,h4,T.cl_Reach,T.na_Reach_delay,kG,_,_,rfl,rfl,_,rfl,a,T.a_Reach,da,_,_,rfl,h4,T.cl_Reach,T.na_Reach_depth,qt,_,_,rfl,rfl,_,rfl,?_⟩
      intro x dx nx nd ne
      have nnl:(upd (upd H dx (.own x)) x (.ins T.a_Reach dx [])) nl=some (.lst [.int D,.int L,.int S,.int Cp,.int G]):=by
        rw [ai (aq hn nx),ai (aq hn nd)]
        exact hn
      refine ⟨x,dx,nl,nm,_,_,_,_,_,_,_,_,rfl,ac,nnl,fun H2 h2 kp=>⟨rfl,?_⟩⟩
      exact k H2 x (Same.made nx nd kp) nx ⟨dx,h2⟩
def spFits (C:Addr):Sp:=fun vs H Q _=>∃ (x l:Addr) (ns:Vbiraa.Net) (nm:Str) (q:Option Nat) (ab dp D L S Cp G:Nat),vs=[.ref x,.ref l]∧RObj C H x (rfs nm (pInt q) ab dp D L S Cp G)∧RsAt C H l ns∧ns.length≤1000∧∀ H',Same H H'→Q (.bl (fitR ns q dp G)) H'
theorem zk (T:Txt K mg):FnOk P w K mg base CX0 2 T.fits.f T.fits.fd ["reach", "reaches"] (spFits T.a_Reach):=by
  refine T.fits.F.ok p8 (fun vs H Q E h=>?_) (fun cdv A outer s H vs Q E hr h=>?_)
  · obtain ⟨x,l,ns,nm,q,ab,dp,D,L,S,Cp,G,rfl,_⟩:=h
    rfl
  · obtain ⟨x,l,ns,nm,q,ab,dp,D,L,S,Cp,G,rfl,⟨dx,hx⟩,R,hz,k⟩:=h
    refine ⟨_,(ae (iB (i:=2) (own:=[("k",3)]) rfl p8.nd rfl rfl (kg rfl rfl rfl rfl) (bW (aC T.beginning_at (bD T) (hr.mono (by decide)) bM (aa (pv 1) (aa (am (K:=K) (pv 0) rfl) ad)))) (bh (N:=["reach", "reaches", "beside", "k"]) (sc:=aj qb) (by decide +kernel)) (fun _ _ _ _ _=>(aI (i:=3) p8.nd rfl (by first | exact Or.inl rfl | exact Or.inr rfl))) (fun _ _ _ _ _=>bJ) (fun _ _ _ _ _=>(am (K:=K) (ay (ak (K:=K)) (pv 1) (pv 3) (fun _ _=>rfl)) rfl)))
      (ag (au (nr (d8 rK (aE (ax (K:=K)) (by rfl) T.n_len PySem.boot_len (aa (pv 1) ad)) (a9 T.c_MOST_REACHES) (aQ _)) (nr (d8 cP (am (K:=K) (pv 0) rfl) (a9 T.c_LONGEST_WAY) (aQ _)) (qf (d8 cP (aF bv (aE (qA (K:=K) rfl) (by rfl) T.n_sum lI (aa (pv 2) ad)) (am (K:=K) (pv 0) rfl)) af (aQ _)))))))),?_⟩
    refine ⟨_,rfl,_,rfl,x,T.a_Reach,dx,_,_,rfl,hx,T.cl_Reach,T.na_Reach_begins,cW,l,ns,q,rfl,R,hz,fun H1 b s1 hb hb1=>?_⟩
    refine ⟨b,rfl,⟨_,SqL.of hb1⟩,fun Dd hD=>?_⟩
    have hcl:=eK ns q
    refine bY (ao ((Vbiraa.children ns q).map fun i=>(Vbiraa.reachAt ns i).gate)) (by rw [aA,aA,List.length_map]) hD (SqL.of hb1) (aP (by rw [aA]; omega)) ?_ ?_
    · rintro i v y H2 hv hy s2 Q' kq
      obtain ⟨c,hc,rfl⟩:=aX hv
      obtain ⟨g,hg,rfl⟩:=aX hy
      rw [List.getElem?_map,hc] at hg
      have hg:(Vbiraa.reachAt ns c).gate=g:=Option.some.inj hg
      subst hg
      obtain ⟨xs,a,da,h1,h2,h3,h4⟩:=(R.same (s1.trans s2)).at_ (bz (List.mem_of_getElem? hc))
      exact ⟨rfl,_,rfl,_,rfl,l,_,_,_,rfl,rfl,SqL.of h1,aY h3,a,T.a_Reach,da,_,_,rfl,h4,T.cl_Reach,T.na_Reach_gate,nW,kq _ (Same.refl _)⟩
    · rintro H2 s2 hD2
      have R2:=R.same (s1.trans s2)
      have hx2:=(s1.trans s2) _ _ hx
      obtain ⟨xs,h1,h2,_⟩:=R2.list
      have k2:=k H2 (s1.trans s2)
      unfold fitR at k2
      refine ⟨_,rfl,l,_,rfl,.inl (SqL.of h1),_,_,rfl,rfl,_,rfl,?_⟩
      rw [show decide ((xs.length:Int) < 30)=decide (ns.length < 30) from decide_eq_decide.mpr (by omega)]
      cases c1:decide (ns.length < 30) with
      | false =>
        rw [c1] at k2
        exact iteF k2
      | true =>
        rw [c1,Bool.true_and] at k2
        refine iteT ⟨_,rfl,x,T.a_Reach,dx,_,_,rfl,hx2,T.cl_Reach,T.na_Reach_depth,qt,_,_,rfl,rfl,_,rfl,?_⟩
        rw [show decide ((dp:Int)≤8)=decide (dp≤8) from decide_eq_decide.mpr (by omega)]
        cases c2:decide (dp≤8) with
        | false =>
          rw [c2] at k2
          exact iteF k2
        | true =>
          rw [c2,Bool.true_and] at k2
          refine iteT ⟨_,rfl,Dd,((Vbiraa.children ns q).map fun i=>(Vbiraa.reachAt ns i).gate).map fun (n:Nat)=>(n:Int),rfl,?_,_,rfl,x,T.a_Reach,dx,_,_,rfl,hx2,T.cl_Reach,T.na_Reach_gate,nW,_,_,rfl,rfl,_,_,rfl,rfl,?_⟩
          · rw [eP] at hD2
            exact SqL.of hD2
          have e:decide ((((Vbiraa.children ns q).map fun i=>(Vbiraa.reachAt ns i).gate).map fun (n:Nat)=>(n:Int)).sum + (G:Int)≤100)=decide (Vbiraa.gatesAt ns q + G≤100):=by
            rw [kh]
            unfold Vbiraa.gatesAt
            rw [cq]
            exact decide_eq_decide.mpr (by omega)
          show Q (V.bl (decide ((((Vbiraa.children ns q).map fun i=>(Vbiraa.reachAt ns i).gate).map fun (n:Nat)=>(n:Int)).sum + (G:Int)≤100))) H2
          rw [e]
          exact k2
def spRead (C:Addr):Sp:=fun vs H Q _=>∃ (wl l:Addr) (ns:Vbiraa.Net) (ws:List (List Nat)),vs=[.ref wl,.ref l]∧H wl=some (.lst (b6 ws))∧(∀ u∈ws,Sg u∧u.length≤5000)∧RsAt C H l ns∧WF ns ∧
  (Vbiraa.lineOf ns ws=none→∀ H',Same H H'→Q .non H')∧∀ ns2,Vbiraa.lineOf ns ws=some ns2→∀ (H':Hp) (x:Addr),Same H H'→H x=none→RObj C H' x (rf ns2 ns.length)→Q (.ref x) H'
theorem oI (T:Txt K mg):FnOk P w K mg base CX0 4 T.read_reach.f T.read_reach.fd ["words", "reaches"] (spRead T.a_Reach):=by
  refine T.read_reach.F.ok bH (fun vs H Q E h=>?_) (fun cdv A outer s H vs Q E hr h=>?_)
  · obtain ⟨wl,l,ns,ws,rfl,_⟩:=h
    rfl
  · obtain ⟨wl,l,ns,ws,rfl,hw,hS,R,hwf,k0,k1⟩:=h
    refine ⟨_,(ae (aV (a8 (aL (K:=K) (aC T.has_form (rR T) (hr.mono (by decide)) uL (aa (pv 0) ad)) (fun _=>rfl)))
      (ag (au f9))
      aH)
      (ae (iB (i:=2) (own:=[("k",3)]) rfl bH.nd rfl rfl (kg rfl rfl rfl rfl) (pi_tup (gU (aa af (aa af (aa af (aa af (aa af ad))))))) (bh (N:=["words", "reaches", "told", "k", "place", "reach", "word"]) (sc:=aj dw) (by decide +kernel)) (fun _ _ _ _ _=>(aI (i:=3) bH.nd rfl (by first | exact Or.inl rfl | exact Or.inr rfl))) (fun _ _ _ _ _=>bJ) (fun _ _ _ _ _=>(ay (ak (K:=K)) (pv 0) (pv 3) (fun _ _=>rfl))))
      (ae (aV (ei (a8 (aL (K:=K) (aC T.is_name_free (mf T) (hr.mono (by decide)) ot (aa (ay (ak (K:=K)) (pv 0) af (fun _ _=>rfl)) (aa (pv 1) ad))) (fun _=>rfl))) (dW (a8 (aL (K:=K) (aC T.are_numbers_right (iG T) (hr.mono (by decide)) jk (aa (pv 2) ad)) (fun _=>rfl))))).pt
      (ag (au f9))
      aH)
      (ae (aw (i:=4) bH.nd rfl (by first | exact Or.inl rfl | exact Or.inr rfl) (aC T.place_of (rP T) (hr.mono (by decide)) uJ (aa (ay (ak (K:=K)) (pv 0) af (fun _ _=>rfl)) (aa (pv 1) ad))))
      (ae (aV (aN dG (pv 4) (a9 T.c_NOWHERE) (aQ _))
      (ag (au f9))
      aH)
      (ae (aw (i:=5) bH.nd rfl (by first | exact Or.inl rfl | exact Or.inr rfl) (aC T.reach_at (rO T) (hr.mono (by decide)) uI (aa (ay (ak (K:=K)) (pv 0) af (fun _ _=>rfl)) (aa (pv 4) (aa (gv (own:=[("word",6)]) rfl bH.nd (bW (pv 2)) (bh (N:=["words", "reaches", "told", "k", "place", "reach", "word"]) (sc:=aj dw) (by decide +kernel)) (fun _ _ _ _ _=>(aI (i:=6) bH.nd rfl (by first | exact Or.inl rfl | exact Or.inr rfl))) (fun _ _ _ _ _=>bJ) (fun _ _ _ _ _=>(cM kM (by rfl) T.n_int pP (aa (pv 6) ad)))) (aa (pv 1) ad))))))
      (ae (aV (a8 (aL (K:=K) (aC T.fits (zk T) (hr.mono (by decide)) b_fits (aa (pv 5) (aa (pv 1) ad))) (fun _=>rfl)))
      (ag (au f9))
      aH)
      (ag (au (pv 5)))))))))),?_⟩
    have hlen:=hwf.len
    refine ⟨_,rfl,wl,ws,rfl,hw,fun H1 s1=>⟨_,rfl,?_⟩⟩
    cases cf:d9 ws with
    | false=>exact iteT (k0 (vn cf) H1 s1)
    | true =>
    refine iteF ?_
    obtain ⟨n,p,d,o,s',m,v,rfl⟩:=nZ cf
    refine ⟨(by show 5≤sizeLine; decide),fun tp htp=>?_⟩
    have st:Same H1 (upd H1 tp (.tup [.int 5,.int 7,.int 9,.int 11,.int 13])):=ah htp
    refine ⟨tp,rfl,⟨_,SqT.of ac⟩,fun D hD=>?_⟩
    have sS:∀ u,u∈[d,o,s',m,v]→Sg u∧u.length≤5000:=fun u hu=>hS u (by simp only [List.mem_cons,List.not_mem_nil,or_false] at hu ⊢; rcases hu with h | h | h | h | h <;> simp [h])
    refine si (xs:=[.int 5,.int 7,.int 9,.int 11,.int 13]) (b6 [d,o,s',m,v]) rfl hD (fun H' s'=>SqT.of (s' _ _ ac)) (by show 5 < sizeLine; decide) ?_ ?_
    · rintro i x y H2 hx hy s2 Q' kq
      have hw2:=s2 _ _ (st _ _ (s1 _ _ hw))
      match i,hx,hy with
      | 0,hx,hy =>
        cases hx; cases hy
        exact ⟨rfl,_,rfl,_,rfl,wl,_,_,_,rfl,rfl,SqL.of hw2,aB (j:=5) rfl rfl,kq _ (Same.refl _)⟩
      | 1,hx,hy =>
        cases hx; cases hy
        exact ⟨rfl,_,rfl,_,rfl,wl,_,_,_,rfl,rfl,SqL.of hw2,aB (j:=7) rfl rfl,kq _ (Same.refl _)⟩
      | 2,hx,hy =>
        cases hx; cases hy
        exact ⟨rfl,_,rfl,_,rfl,wl,_,_,_,rfl,rfl,SqL.of hw2,aB (j:=9) rfl rfl,kq _ (Same.refl _)⟩
      | 3,hx,hy =>
        cases hx; cases hy
        exact ⟨rfl,_,rfl,_,rfl,wl,_,_,_,rfl,rfl,SqL.of hw2,aB (j:=11) rfl rfl,kq _ (Same.refl _)⟩
      | 4,hx,hy =>
        cases hx; cases hy
        exact ⟨rfl,_,rfl,_,rfl,wl,_,_,_,rfl,rfl,SqL.of hw2,aB (j:=13) rfl rfl,kq _ (Same.refl _)⟩
      | j + 5,hx,_=>cases hx
    · rintro H2 s2 hD2
      have t2:Same H H2:=(s1.trans st).trans s2
      obtain ⟨gn1,gn2⟩:=hS n (by simp)
      refine ⟨_,rfl,wl,_,_,_,rfl,rfl,SqL.of (t2 _ _ hw),aB (j:=1) rfl rfl,_,rfl,l,ns,n,rfl,gn1,gn2,R.same t2,by omega,fun H3 s3=>⟨_,rfl,?_⟩⟩
      have t3:=t2.trans s3
      cases cn:(Vbiraa.isName n && (Vbiraa.find ns n).isNone) with
      | false=>exact iteT (iteT (k0 (pq cn) H3 t3))
      | true =>
      refine iteF ⟨_,rfl,D,_,rfl,s3 _ _ hD2,rfl,sS,fun H4 s4=>⟨_,rfl,?_⟩⟩
      have t4:=t3.trans s4
      cases cm:ge [d,o,s',m,v] with
      | false=>exact iteT (k0 (pk cm) H4 t4)
      | true =>
      refine iteF ?_
      refine ⟨_,rfl,wl,_,_,_,rfl,rfl,SqL.of (t4 _ _ hw),aB (j:=3) rfl rfl,_,rfl,l,ns,p,rfl,R.same t4,fun H5 s5=>?_⟩
      have t5:=t4.trans s5
      refine ⟨_,rfl,rfl,_,rfl,?_⟩
      have ep:=xN ns p
      cases cp:f8 ns p with
      | none =>
        rw [cp] at ep
        rw [ep]
        exact iteT (k0 (nS cp) H5 t5)
      | some q =>
      rw [cp] at ep
      have ep:ni ns p=pInt q:=ep
      rw [ep]
      have e2:decide (V.int (pInt q)=V.int (-2))=false:=decide_eq_false fun z=>zi q (V.int.inj z)
      rw [e2]
      refine iteF ?_
      have hq:∀ i,q=some i→i < ns.length:=fun i e=>pf (by rw [cp,e])
      have hlast:=pr cn cm cp
      obtain ⟨a1,a2,a3,a4,a5⟩:=gX.mp cm
      obtain ⟨d',e1⟩:=Option.isSome_iff_exists.mp a1
      obtain ⟨o',e2⟩:=Option.isSome_iff_exists.mp a2
      obtain ⟨s'',e3⟩:=Option.isSome_iff_exists.mp a3
      obtain ⟨m',e4⟩:=Option.isSome_iff_exists.mp a4
      obtain ⟨v',e5⟩:=Option.isSome_iff_exists.mp a5
      have f1:=aU e1
      have f2:=aU e2
      have f3:=aU e3
      have f4:=aU e4
      have f5:=aU e5
      have hD5:=s5 _ _ (s4 _ _ (s3 _ _ hD2))
      refine ⟨_,rfl,wl,_,_,_,rfl,rfl,SqL.of (t5 _ _ hw),aB (j:=1) rfl rfl,_,rfl,_,rfl,D,rfl,⟨_,SqL.of hD5⟩,fun nl hnl=>?_⟩
      refine bY (xs:=b6 [d,o,s',m,v]) (ao [Vbiraa.value d,Vbiraa.value o,Vbiraa.value s',Vbiraa.value m,Vbiraa.value v]) rfl hnl (SqL.of hD5) (by show 5 < sizeLine; decide) ?_ ?_
      · have small:∀ {u:List Nat},iR u=true→(sOf u).length≤640:=fun {u} h=>by
          rw [cJ]
          have:=(eQ _).mp h
          simp only [not_or] at this
          omega
        rintro i x y H6 hx hy s6 Q' kq
        match i,hx,hy with
        | 0,hx,hy =>
          cases hx; cases hy
          exact ⟨rfl,_,rfl,_,_,rfl,lD f1.2.2.2,small f1.2.2.2,kq _ (Same.refl _)⟩
        | 1,hx,hy =>
          cases hx; cases hy
          exact ⟨rfl,_,rfl,_,_,rfl,lD f2.2.2.2,small f2.2.2.2,kq _ (Same.refl _)⟩
        | 2,hx,hy =>
          cases hx; cases hy
          exact ⟨rfl,_,rfl,_,_,rfl,lD f3.2.2.2,small f3.2.2.2,kq _ (Same.refl _)⟩
        | 3,hx,hy =>
          cases hx; cases hy
          exact ⟨rfl,_,rfl,_,_,rfl,lD f4.2.2.2,small f4.2.2.2,kq _ (Same.refl _)⟩
        | 4,hx,hy =>
          cases hx; cases hy
          exact ⟨rfl,_,rfl,_,_,rfl,lD f5.2.2.2,small f5.2.2.2,kq _ (Same.refl _)⟩
        | j + 5,hx,_=>cases hx
      · rintro H6 s6 hnl6
        have t6:=t5.trans s6
        refine ⟨_,rfl,l,nl,ns,sOf n,q,Vbiraa.value d,Vbiraa.value o,Vbiraa.value s',Vbiraa.value m,Vbiraa.value v,rfl,hnl6,R.same t6,hq,fun H7 x s7 hx hx7=>?_⟩
        have t7:=t6.trans s7
        have fx:H x=none:=t6.free hx
        refine ⟨_,rfl,_,rfl,x,l,ns,sOf n,q,_,_,_,_,_,_,_,rfl,hx7,R.same t7,by omega,fun H8 s8=>⟨_,rfl,?_⟩⟩
        have t8:=t7.trans s8
        cases cg:fitR ns q (dpOf ns q) (Vbiraa.value v) with
        | false =>
          rw [cg,if_neg Bool.false_ne_true] at hlast
          exact iteT (k0 hlast H8 t8)
        | true =>
          rw [cg,if_pos rfl] at hlast
          refine iteF ⟨_,rfl,k1 _ hlast H8 x t8 fx ?_⟩
          obtain ⟨dx,hdx⟩:=hx7
          refine ⟨dx,(s8 _ _ hdx).trans ?_⟩
          have hp:∀ i,(newR q n d o s' m v).parent=some i→i < ns.length:=fun i e=>hq i e
          have ea:=wY hwf.par hp
          have ed:=pD hwf.par hp
          unfold rf
          rw [cB,ea,ed]
          cases q <;> rfl
end
end CN
namespace CN
open PySem PySem.Spec PyProof.Rows L2
def wayQ (ns:Vbiraa.Net):Option Nat→List Nat
  | none=>[]
  | some j=>Vbiraa.way ns j
theorem vL {ns:Vbiraa.Net} (hp:Par ns) {j:Nat} (hj:j < ns.length):Vbiraa.way ns j=wayQ ns (Vbiraa.reachAt ns j).parent++[j]:=by
  rw [dm hp hj]
  cases (Vbiraa.reachAt ns j).parent <;> rfl
section
variable {P:Program} {w:World} {K:PySem.W.Frag} {mg:Str→Option Value} {base:Heap}
def spWay (C:Addr):Sp:=fun vs H Q _=>∃ (l:Addr) (ns:Vbiraa.Net) (i:Nat),vs=[.ref l,.int i]∧RsAt C H l ns∧WF ns∧i < ns.length∧NewL H Q (ao (Vbiraa.way ns i))
theorem lu (T:Txt K mg):FnOk P w K mg base CX0 1 T.way_to.f T.way_to.fd ["reaches", "i"] (spWay T.a_Reach):=by
  refine T.way_to.F.ok i8 (fun vs H Q E h=>?_) (fun cdv A outer s H vs Q E hr h=>?_)
  · obtain ⟨l,ns,i,rfl,_⟩:=h
    rfl
  · obtain ⟨l,ns,i,rfl,R,hwf,hi,k⟩:=h
    refine ⟨_,(ae (aw (i:=2) i8.nd rfl (by first | exact Or.inl rfl | exact Or.inr rfl) (aD ad))
      (ae (aw (i:=3) i8.nd rfl (by first | exact Or.inl rfl | exact Or.inr rfl) (pv 1))
      (ae (kl PassesOwn.never (aN kt (pv 3) (a9 T.c_SOURCE) (aQ _))
      (ae (bV (fF PySem.F.plainAttrs_list PySem.F.slot_list_append PySem.F.type_list_append cO (pv 2) (aa (pv 3) ad)))
      (ag (aw (i:=3) i8.nd rfl (by first | exact Or.inl rfl | exact Or.inr rfl) (am (K:=K) (ay (ak (K:=K)) (pv 0) (pv 3) (fun _ _=>rfl)) rfl)))))
      (ag (au (lP rfl (by rfl) T.n_list hX (by rfl) T.n_reversed (pv 2))))))),?_⟩
    refine ⟨Nat.zero_le _,fun ul hul=>⟨_,rfl,?_⟩⟩
    have hdeep:=hwf.deep i hi
    unfold depth at hdeep
    refine j6 (fun σ H'=>Same H H'∧∃ (U:List Nat) (q:Option Nat),H' ul=some (.lst (ao U))∧Vbiraa.way ns i=wayQ ns q++U.reverse∧(∀ j,q=some j→j < ns.length)∧σ=[some (.ref l),some (.int i),some (.ref ul),some (.int (pInt q))])
      (fun σ _=>match σ with | [_,_,_,some (.int z)]=>(z + 1).toNat | _=>0) ⟨ah hul,[],some i,ac,by simp [wayQ],fun j e=>by cases e; exact hi,rfl⟩ ?_ ?_
    · rintro σ H' ⟨sm,U,q,hU,hw,hq,rfl⟩
      refine ⟨_,rfl,rfl,_,rfl,?_⟩
      cases q with
      | none =>
        refine iteF ?_
        refine ⟨_,rfl,ul,_,rfl,SqL.of hU,fun p hp=>?_⟩
        have hw:Vbiraa.way ns i=U.reverse:=hw
        refine k _ p (aR sm (sm.free hp)) (sm.free hp) ?_
        rw [ac,hw]
        unfold ao
        rw [List.map_reverse]
      | some j =>
        have hj:=hq j rfl
        have e:(!decide (V.int (pInt (some j))=V.int (-1)))=true:=by
          rw [Bool.not_eq_true',decide_eq_false_iff_not]
          intro z
          have z:((j:Nat):Int)=-1:=V.int.inj z
          omega
        rw [e]
        have hUl:U.length≤8:=by
          have:=congrArg List.length hw
          rw [List.length_append,List.length_reverse] at this
          omega
        obtain ⟨xs,a,da,h1,h2,h3,h4⟩:=(R.same sm).at_ hj
        obtain ⟨us,eus,_⟩:=R.ex
        have hne:l≠ul:=aq eus hul
        have hna:a≠ul:=bL h4 hU (by intro z; cases z)
        refine iteT ⟨_,rfl,.inl ⟨rfl,_,SqL.of hU⟩,_,rfl,ul,_,_,rfl,rfl,hU,aP (by rw [aA]; omega),?_⟩
        refine ⟨_,rfl,_,rfl,l,_,_,_,rfl,rfl,SqL.of (by rw [ai hne]; exact h1),aY h3,a,T.a_Reach,da,_,_,rfl,by rw [ai hna]; exact h4,T.cl_Reach,T.na_Reach_begins,cW,?_⟩
        refine ⟨⟨aR sm hul,U++[j],(Vbiraa.reachAt ns j).parent,?_,?_,?_,rfl⟩,?_⟩
        · rw [ac,←gz]
          rfl
        · rw [hw]
          show Vbiraa.way ns j++U.reverse=_
          rw [vL hwf.par hj,List.reverse_append,List.append_assoc]
          rfl
        · intro p hp
          have:=hwf.par j p hj hp
          omega
        · show (pInt (Vbiraa.reachAt ns j).parent + 1).toNat < ((j:Int) + 1).toNat
          cases e:(Vbiraa.reachAt ns j).parent with
          | none =>
            simp only [pInt]
            omega
          | some p =>
            have:=hwf.par j p hj e
            simp only [pInt]
            omega
    · intro σ H Q Q' m h
      obtain ⟨v,e1,e2,b,e3,h⟩:=h
      exact ⟨v,e1,e2,b,e3,m _ _ h⟩
theorem wD {K:PySem.W.Frag} {a:Addr} {xs:List V} {g:TG} {tb:TS} {D:Ends} {σ:L2.St} {H:Hp} (Pv:Nat→L2.St→Hp→Prop) (h0:Pv 0 σ H) (hl:∀ i σ H,i≤xs.length→Pv i σ H→SqL K H a xs)
    (hs:∀ (i:Nat) (x:V) (σ:L2.St) (H:Hp) (T:Addr),xs[i]?=some x→Pv i σ H→H T=none→g (.ref T) σ (upd H T (.tup [.int ((i + 1:Nat):Int),x])) fun σ2 H2=>tb { D with nx:=Pv (i + 1),ct:=Pv (i + 1),bk:=D.nx } σ2 H2) (hd:∀ σ H,Pv xs.length σ H→D.nx σ H) :
    ∃ W:Nat→Nat→L2.St→Hp→Prop,(∃ m,W 0 m σ H)∧∀ i m σ H,W i m σ H →
      ((Ite1 K a).stop i H∧D.nx σ H)∨((Ite1 K a).go i H∧∃ N:L2.St→Hp→Prop,(∀ σ' H',N σ' H'→∃ m',m' < m∧W (i + 1) m' σ' H')∧∀ x H',(Ite1 K a).yld i H x H'→g x σ H' fun σ2 H2=>tb { D with nx:=N,ct:=N,bk:=D.nx } σ2 H2):=by
  refine ⟨fun i m σ H=>m=xs.length - i∧i≤xs.length∧Pv i σ H,⟨xs.length,by simp,Nat.zero_le _,h0⟩,?_⟩
  rintro i m σ H ⟨rfl,hi,p⟩
  have q:=hl i σ H hi p
  by_cases hlt:i < xs.length
  · refine .inr ⟨⟨xs,xs[i],q,by simp [hlt]⟩,Pv (i + 1),fun σ' H' p'=>⟨xs.length - (i + 1),by omega,rfl,hlt,p'⟩,fun v H' y=>?_⟩
    obtain ⟨T,x,e1,e2,e3,y⟩:=y
    subst e1 e3
    exact hs i x σ H T (y xs q) p e2
  · have e:i=xs.length:=by omega
    subst e
    exact .inl ⟨⟨xs,q,Nat.le_refl _⟩,hd σ H p⟩
def jn:Vbiraa.Net→List (List Nat)→Option Vbiraa.Net
  | ns,[]=>some ns
  | ns,l :: r=>if (Vbiraa.wordsOf l).isEmpty=true then jn ns r else (Vbiraa.lineOf ns (Vbiraa.wordsOf l)).bind fun x=>jn x r
theorem jo (i:Nat) (ns:Vbiraa.Net) (l:List Nat) (r:List (List Nat)):Vbiraa.readFrom i ns (l :: r)=if (Vbiraa.wordsOf l).isEmpty=true then Vbiraa.readFrom (i + 1) ns r else match Vbiraa.lineOf ns (Vbiraa.wordsOf l) with
    | some x=>Vbiraa.readFrom (i + 1) x r
    | none=>.error i:=rfl
theorem fC:∀ (ls:List (List Nat)) (k:Nat) (i:Nat) (ns ms:Vbiraa.Net),jn ns (ls.take k)=some ms→Vbiraa.readFrom i ns ls=Vbiraa.readFrom (i + (ls.take k).length) ms (ls.drop k)
  | ls,0,i,ns,ms,h=>by
    have:ns=ms:=Option.some.inj h
    subst this
    rfl
  | [],k + 1,i,ns,ms,h=>by
    have:ns=ms:=Option.some.inj h
    subst this
    rfl
  | l :: r,k + 1,i,ns,ms,h=>by
    rw [List.take_succ_cons] at h ⊢
    rw [List.drop_succ_cons]
    unfold jn at h
    rw [jo]
    by_cases c:(Vbiraa.wordsOf l).isEmpty=true
    · rw [if_pos c] at h ⊢
      rw [fC r k (i + 1) ns ms h,List.length_cons,show i + 1 + (r.take k).length=i + ((r.take k).length + 1) by omega]
    · rw [if_neg c] at h ⊢
      cases e:Vbiraa.lineOf ns (Vbiraa.wordsOf l) with
      | none =>
        rw [e] at h
        cases h
      | some x =>
        rw [e] at h
        show Vbiraa.readFrom (i + 1) x r=_
        rw [fC r k (i + 1) x ms h,List.length_cons,show i + 1 + (r.take k).length=i + ((r.take k).length + 1) by omega]
theorem jO:∀ (ls:List (List Nat)) (l:List Nat) (ns ms:Vbiraa.Net),jn ns ls=some ms→jn ns (ls++[l])=(if (Vbiraa.wordsOf l).isEmpty=true then some ms else Vbiraa.lineOf ms (Vbiraa.wordsOf l))
  | [],l,ns,ms,h=>by
    have:ns=ms:=Option.some.inj h
    subst this
    show jn ns [l]=_
    unfold jn
    split
    · rfl
    · cases Vbiraa.lineOf ns (Vbiraa.wordsOf l) <;> rfl
  | x :: ls,l,ns,ms,h=>by
    rw [List.cons_append]
    unfold jn at h ⊢
    split
    · rename_i c
      rw [if_pos c] at h
      exact jO ls l ns ms h
    · rename_i c
      rw [if_neg c] at h
      cases e:Vbiraa.lineOf ns (Vbiraa.wordsOf x) with
      | none =>
        rw [e] at h
        cases h
      | some y =>
        rw [e] at h
        exact jO ls l y ms h
theorem pw {ns ns2:Vbiraa.Net} {ws:List (List Nat)} (hwf:WF ns) (h:Vbiraa.lineOf ns ws=some ns2):WF ns2∧∃ r,ns2=ns++[r]:=by
  cases cf:d9 ws with
  | false =>
    rw [vn cf] at h
    cases h
  | true =>
    obtain ⟨n,p,d,o,s,m,v,rfl⟩:=nZ cf
    cases cn:(Vbiraa.isName n && (Vbiraa.find ns n).isNone) with
    | false =>
      rw [pq cn] at h
      cases h
    | true =>
    cases cm:ge [d,o,s,m,v] with
    | false =>
      rw [pk cm] at h
      cases h
    | true =>
    cases cp:f8 ns p with
    | none =>
      rw [nS cp] at h
      cases h
    | some q =>
    rw [pr cn cm cp] at h
    by_cases cg:fitR ns q (dpOf ns q) (Vbiraa.value v)=true
    · rw [if_pos cg] at h
      have e:=(Option.some.inj h).symm
      subst e
      obtain ⟨a1,a2,a3,a4,a5⟩:=gX.mp cm
      obtain ⟨d',e1⟩:=Option.isSome_iff_exists.mp a1
      obtain ⟨o',e2⟩:=Option.isSome_iff_exists.mp a2
      obtain ⟨s'',e3⟩:=Option.isSome_iff_exists.mp a3
      obtain ⟨m',e4⟩:=Option.isSome_iff_exists.mp a4
      obtain ⟨v',e5⟩:=Option.isSome_iff_exists.mp a5
      have f1:=aU e1
      have f2:=aU e2
      have f3:=aU e3
      have f4:=aU e4
      have f5:=aU e5
      have f1e:=f1.1
      have f2e:=f2.1
      have f3e:=f3.1
      have f4e:=f4.1
      have f5e:=f5.1
      subst f1e f2e f3e f4e f5e
      unfold fitR at cg
      simp only [Bool.and_eq_true,decide_eq_true_eq] at cg cn
      refine ⟨yL hwf (fun i e=>pf (by rw [cp]; exact congrArg some e)) (u6 cn.1) ?_ ⟨f1.2.2.1,f2.2.2.1,f3.2.2.1,f4.2.1,f4.2.2.1,f5.2.2.1⟩ cg.1 cg.2.2 (x8 cn.1),_,rfl⟩
      have h3:=cg.2.1
      show (match q with | none=>1 | some i=>depth ns i + 1)≤8
      cases q <;> exact h3
    · rw [if_neg cg] at h
      cases h
theorem RsAt.snoc {C l x:Addr} {H H':Hp} {ns:Vbiraa.Net} {r:Vbiraa.Reach} {xs:List V} (R:RsAt C H l ns) (hl:H l=some (.lst xs)) (hp:Par ns) (sm:∀ b o,H b=some o→b≠l→H' b=some o) (hx:RObj C H' x (rf (ns++[r]) ns.length)) (hl':H' l=some (.lst (xs++[.ref x]))):RsAt C H' l (ns++[r]):=by
  obtain ⟨as,h1,h2,h3⟩:=R.ex
  have e:xs=as.map V.ref:=by
    rw [h1] at hl
    cases hl
    rfl
  subst e
  refine ⟨as++[x],by rw [hl',List.map_append]; rfl,by rw [List.length_append,List.length_append,h2]; rfl,fun i a e=>?_⟩
  by_cases hi:i < as.length
  · rw [List.getElem?_append_left hi] at e
    obtain ⟨dx,hd⟩:=h3 i a e
    refine ⟨dx,?_⟩
    have hne:a≠l:=bL hd h1 (by intro z; cases z)
    rw [sm _ _ hd hne]
    have hin:i < ns.length:=by omega
    unfold rf
    rw [bE hin,oE hp hin,jV hp hin]
  · rw [List.getElem?_append_right (by omega)] at e
    cases z:i - as.length with
    | zero =>
      rw [z] at e
      have e1:x=a:=Option.some.inj e
      subst e1
      have:i=ns.length:=by omega
      subst this
      exact hx
    | succ m =>
      rw [z] at e
      cases e
end
end CN
namespace CN
open PySem PySem.Spec PyProof.Rows L2
def sZ (l:Addr) (H H':Hp):Prop:=∀ b o,H b=some o→b≠l→H' b=some o
theorem sZ.trans {l:Addr} {H H1 H2:Hp} (a:sZ l H H1) (b:Same H1 H2):sZ l H H2:=fun c o h n=>b c o (a c o h n)
section
variable {P:Program} {w:World} {K:PySem.W.Frag} {mg:Str→Option Value} {base:Heap}
def spNet (C:Addr):Sp:=fun vs H Q _=>∃ (tl:Addr) (bs:List Nat),vs=[.ref tl]∧H tl=some (.lst (ao bs))∧bs.length≤4000 ∧
  (∀ i,Vbiraa.readNet bs=.error i→∀ (H':Hp) (p e:Addr),Same H H'→H' p=some (.tup [.ref e,.int (i:Nat)])→H' e=some (.lst [])→Q (.ref p) H') ∧
  ∀ ns,Vbiraa.readNet bs=.ok ns→∀ (H':Hp) (p l:Addr),Same H H'→H' p=some (.tup [.ref l,.int 0])→RsAt C H' l ns→WF ns→ns≠[]→H l=none→Q (.ref p) H'
theorem rN (T:Txt K mg):FnOk P w K mg base CX0 5 T.read_net.f T.read_net.fd ["text"] (spNet T.a_Reach):=by
  refine T.read_net.F.ok cy (fun vs H Q E h=>?_) (fun cdv A outer s H vs Q E hr h=>?_)
  · obtain ⟨tl,bs,rfl,_⟩:=h
    rfl
  · obtain ⟨tl,bs,rfl,ht,hn,ke,ko⟩:=h
    refine ⟨_,(ae (aw (i:=1) cy.nd rfl (by first | exact Or.inl rfl | exact Or.inr rfl) (aD ad))
      (ae (aw (i:=2) cy.nd rfl (by first | exact Or.inl rfl | exact Or.inr rfl) (aC T.lines_of (rQ T) (hr.mono (by decide)) uK (aa (pv 0) ad)))
      (ae (bT PassesOwn.never rfl (xO rfl T.n_enumerate (aa (pv 2) ad)) (d7 (K:=K) (n:=2) rfl (bd (aI (i:=3) cy.nd rfl (by first | exact Or.inl rfl | exact Or.inr rfl)) (bd (aI (i:=4) cy.nd rfl (by first | exact Or.inl rfl | exact Or.inr rfl)) d6)))
      (ae (aw (i:=5) cy.nd rfl (by first | exact Or.inl rfl | exact Or.inr rfl) (aC T.words_of (rL T) (hr.mono (by decide)) uF (aa (pv 4) ad)))
      (ag (aV (aN ku (aE (ax (K:=K)) (by rfl) T.n_len PySem.boot_len (aa (pv 5) ad)) af (aQ _))
      (ae (aw (i:=6) cy.nd rfl (by first | exact Or.inl rfl | exact Or.inr rfl) (aC T.read_reach (oI T) (hr.mono (by decide)) qJ (aa (pv 5) (aa (pv 1) ad))))
      (ae (aV (aN xU (pv 6) f9 (aQ _))
      (ag (au (gU (aa (aD ad) (aa (pv 3) ad)))))
      aH)
      (ag (bV (fF PySem.F.plainAttrs_list PySem.F.slot_list_append PySem.F.type_list_append cO (pv 1) (aa (pv 6) ad))))))
      aH))))
      (ae (aV (aN dG (aE (ax (K:=K)) (by rfl) T.n_len PySem.boot_len (aa (pv 1) ad)) af (aQ _))
      (ag (au (gU (aa (aD ad) (aa (aF bv (aE (ax (K:=K)) (by rfl) T.n_len PySem.boot_len (aa (pv 2) ad)) af) ad)))))
      aH)
      (ag (au (gU (aa (pv 1) (aa af ad))))))))),?_⟩
    refine ⟨Nat.zero_le _,fun rl hrl=>?_⟩
    have s0:Same H (upd H rl (.lst [])):=ah hrl
    refine ⟨_,rfl,tl,bs,rfl,s0 _ _ ht,by omega,fun H1 lp s1 hls=>?_⟩
    obtain ⟨as,g1,g2,g3,g4⟩:=hls
    have hlc:=sd bs
    have nlr:lp≠rl:=(aq ac g3).symm
    refine ⟨_,rfl,lp,_,rfl,SqL.of g1,wD (K:=K) (a:=lp) (xs:=as.map V.ref)
      (fun j σ H'=>sZ rl H1 H'∧∃ (ns:Vbiraa.Net) (v1 v2 v3 v4:Option V),jn [] ((Vbiraa.linesOf bs).take j)=some ns∧WF ns∧RsAt T.a_Reach H' rl ns∧σ=[some (.ref tl),some (.ref rl),some (.ref lp),v1,v2,v3,v4])
      ⟨fun b o e _=>e,[],none,none,none,none,rfl,tj,⟨[],s1 _ _ ac,rfl,fun i a e=>by cases e⟩,rfl⟩ ?_ ?_ ?_⟩
    · rintro j σ H' _ ⟨sm,_⟩
      exact SqL.of (sm _ _ g1 nlr)
    · rintro j x σ H' t hx ⟨sm,ns,v1,v2,v3,v4,hk,hwf,R,rfl⟩ htt
      obtain ⟨a,ha,rfl⟩:∃ a,as[j]?=some a∧V.ref a=x:=by
        rw [List.getElem?_map] at hx
        exact Option.map_eq_some_iff.mp hx
      have hjl:j < (Vbiraa.linesOf bs).length:=by
        rw [←g2.1]
        exact (List.getElem?_eq_some_iff.mp ha).1
      obtain ⟨ln,hln⟩:∃ ln,(Vbiraa.linesOf bs)[j]?=some ln:=⟨_,List.getElem?_eq_getElem hjl⟩
      have hlen:=wq (List.mem_of_getElem? hln)
      have hna:a≠rl:=fun q=>by
        have:=g4 a (List.mem_of_getElem? ha)
        rw [q,ac] at this
        cases this
      have ha':=sm _ _ (g2.2 j a ln ha hln) hna
      have st:Same H' (upd H' t (.tup [.int ((j + 1:Nat):Int),V.ref a])):=ah htt
      have hsnoc:=jO ((Vbiraa.linesOf bs).take j) ln [] ns hk
      rw [←bK hln] at hsnoc
      have hread:Vbiraa.readNet bs=Vbiraa.readFrom (1 + j) ns (ln :: (Vbiraa.linesOf bs).drop (j + 1)):=by
        unfold Vbiraa.readNet
        rw [fC _ j 1 [] ns hk,List.length_take,Nat.min_eq_left (by omega),List.drop_eq_getElem_cons hjl]
        congr 1
        rw [List.getElem?_eq_getElem hjl] at hln
        rw [Option.some.inj hln]
      refine ⟨t,_,rfl,SqT.of ac,rfl,_,_,rfl,_,_,rfl,rfl,?_⟩
      refine ⟨_,rfl,a,ln,rfl,st _ _ ha',by omega,fun H2 wl s2 hwl hwl2=>?_⟩
      have t2:Same H' H2:=st.trans s2
      refine ⟨_,rfl,wl,_,rfl,.inl (SqL.of hwl2),_,_,rfl,rfl,_,rfl,?_⟩
      have e0:decide ((0:Int) < ((b6 (sgs (Vbiraa.wordsOf ln))).length:Int))=!(Vbiraa.wordsOf ln).isEmpty:=by
        rw [gq,uS]
        cases Vbiraa.wordsOf ln <;> simp
      rw [e0]
      cases ce:(Vbiraa.wordsOf ln).isEmpty with
      | true =>
        rw [ce,if_pos rfl] at hsnoc
        exact iteF ⟨sm.trans t2,ns,_,_,_,_,hsnoc,hwf,R.same t2,rfl⟩
      | false =>
        rw [ce,if_neg Bool.false_ne_true] at hsnoc
        rw [jo,ce,if_neg Bool.false_ne_true] at hread
        refine iteT ?_
        have hline:Vbiraa.lineOf ns (sgs (Vbiraa.wordsOf ln))=Vbiraa.lineOf ns (Vbiraa.wordsOf ln):=zt hwf.names _
        refine ⟨_,rfl,_,rfl,wl,rl,ns,sgs (Vbiraa.wordsOf ln),rfl,hwl2,?_,R.same t2,hwf,?_,?_⟩
        · intro u hu
          unfold sgs at hu
          obtain ⟨v,hv,rfl⟩:=List.mem_map.mp hu
          refine ⟨sg_Sg v,?_⟩
          rw [List.length_map]
          have:=vI hv
          omega
        · intro hno H3 s3
          rw [hline] at hno
          rw [hno] at hread
          have t3:=t2.trans s3
          refine ⟨_,rfl,rfl,_,rfl,iteT ?_⟩
          refine ⟨Nat.zero_le _,fun e he=>⟨_,rfl,(by show 2≤sizeLine; decide),fun p hp=>?_⟩⟩
          have t4:Same H3 (upd H3 e (.lst [])):=ah he
          have t5:=ah (o:=.tup [.ref e,.int ((j + 1:Nat):Int)]) hp
          refine ke (1 + j) hread _ p e ?_ ?_ (t5 _ _ ac)
          · have z:sZ rl H1 (upd (upd H3 e (.lst [])) p (.tup [.ref e,.int ((j + 1:Nat):Int)])):=sm.trans ((t3.trans t4).trans t5)
            exact fun b o q=>z b o (s1 _ _ (s0 _ _ q)) (aq q hrl)
          · rw [show 1 + j=j + 1 by omega]
            exact ac
        · intro ns2 hyes H3 x s3 hx hx3
          rw [hline] at hyes
          rw [hyes] at hsnoc
          have t3:=t2.trans s3
          obtain ⟨hwf2,r,rfl⟩:=pw hwf hyes
          obtain ⟨dx,hdx⟩:=hx3
          refine ⟨_,rfl,rfl,_,rfl,?_⟩
          refine iteF ?_
          have R3:=R.same t3
          obtain ⟨xs,h1,h2,_⟩:=R3.list
          have hlen30:=hwf.len
          refine ⟨_,rfl,.inl ⟨rfl,_,SqL.of h1⟩,_,rfl,rl,_,_,rfl,rfl,h1,aP (by omega),?_⟩
          have hxr:x≠rl:=bL hdx h1 (by intro z; cases z)
          refine ⟨?_,ns++[r],_,_,_,_,hsnoc,hwf2,?_,rfl⟩
          · intro b o q nb
            rw [ai nb]
            exact (sm.trans t3) b o q nb
          · exact R3.snoc h1 hwf.par (fun b o q nb=>by rw [ai nb]; exact q) ⟨dx,by rw [ai hxr]; exact hdx⟩ ac
    · rintro σ H' ⟨sm,ns,v1,v2,v3,v4,hk,hwf,R,rfl⟩
      rw [List.length_map,g2.1,List.take_length] at hk
      have hread:Vbiraa.readNet bs=Vbiraa.readFrom (1 + (Vbiraa.linesOf bs).length) ns []:=by
        unfold Vbiraa.readNet
        rw [fC _ (Vbiraa.linesOf bs).length 1 [] ns (by rw [List.take_length]; exact hk),List.take_length,List.drop_length]
      have smH:Same H H':=fun b o q=>sm b o (s1 _ _ (s0 _ _ q)) (aq q hrl)
      obtain ⟨xs,h1,h2,_⟩:=R.list
      refine ⟨_,rfl,rl,_,rfl,.inl (SqL.of h1),rfl,_,rfl,?_⟩
      have e0:decide (V.int ((xs.length:Nat):Int)=V.int 0)=ns.isEmpty:=by
        rw [show (V.int 0)=V.int ((0:Nat):Int) from rfl,cZ,h2]
        cases ns <;> simp
      rw [e0]
      cases cn:ns.isEmpty with
      | true =>
        have hread:Vbiraa.readNet bs=.error (1 + (Vbiraa.linesOf bs).length):=by
          rw [hread]
          unfold Vbiraa.readFrom
          rw [cn,if_pos rfl]
        refine iteT ⟨Nat.zero_le _,fun e he=>?_⟩
        have t4:Same H' (upd H' e (.lst [])):=ah he
        have g1':=sm _ _ g1 nlr
        refine ⟨_,rfl,lp,_,rfl,.inl (SqL.of (t4 _ _ g1')),_,_,rfl,rfl,(by show 2≤sizeLine; decide),fun p hp=>?_⟩
        have t5:=ah (o:=.tup [.ref e,.int (((as.map V.ref).length:Int) + 1)]) hp
        refine ke _ hread _ p e ((smH.trans t4).trans t5) ?_ (t5 _ _ ac)
        rw [←g2.1,show ((1 + as.length:Nat):Int)=((as.map V.ref).length:Int) + 1 by rw [List.length_map]; omega]
        exact ac
      | false =>
        have hread:Vbiraa.readNet bs=.ok ns:=by
          rw [hread]
          unfold Vbiraa.readFrom
          rw [cn,if_neg Bool.false_ne_true]
        refine iteF ⟨_,rfl,(by show 2≤sizeLine; decide),fun p hp=>?_⟩
        have t5:=ah (o:=.tup [.ref rl,.int 0]) hp
        refine ko ns hread _ p rl (smH.trans t5) ac (R.same t5) hwf ?_ hrl
        intro z
        rw [z] at cn
        cases cn
end
end CN
namespace CN
open PySem PySem.Spec PyProof.Rows L2
def nf (l wl sl:Addr):List (Str × V):=[("reaches",.ref l),("waters",.ref wl),("settings",.ref sl)]
theorem aG {l wl sl:Addr}:(nf l wl sl).lookup ("reaches" : Str)=some (.ref l):=by rfl
theorem dY {l wl sl:Addr}:(nf l wl sl).lookup ("waters" : Str)=some (.ref wl):=by rfl
theorem dj {l wl sl:Addr}:(nf l wl sl).lookup ("settings" : Str)=some (.ref sl):=by rfl
def waters (h:Vbiraa.House):List Nat:=if h.net.isEmpty=true then [] else (List.range 60).map (Vbiraa.letAt h)
structure bC (CR CN:Addr) (H:Hp) (n:Addr) (h:Vbiraa.House) (dn l wl sl:Addr):Prop where
  obj:H n=some (.ins CN dn (nf l wl sl))
  rs:RsAt CR H l h.net
  ws:H wl=some (.lst (ao (waters h)))
  ss:gh H sl h.settings
theorem bC.same {CR CN n dn l wl sl:Addr} {H H':Hp} {h:Vbiraa.House} (N:bC CR CN H n h dn l wl sl) (s:Same H H'):bC CR CN H' n h dn l wl sl:=⟨s _ _ N.obj,N.rs.same s,s _ _ N.ws,N.ss.same s⟩
def yI (h:Vbiraa.House):Prop:=∀ i t,i < h.net.length→Vbiraa.partAt h i t≤100
theorem zE {K:PySem.W.Frag} {a:Addr} {xs:List V} {g:TG} {tb:TS} {D:Ends} {σ:L2.St} {H:Hp} (Pv:Nat→L2.St→Hp→Prop) (h0:Pv 0 σ H) (hl:∀ i σ H,i≤xs.length→Pv i σ H→SqL K H a xs)
    (hs:∀ (i:Nat) (x:V) (σ:L2.St) (H:Hp),xs.reverse[i]?=some x→Pv i σ H→g x σ H fun σ2 H2=>tb { D with nx:=Pv (i + 1),ct:=Pv (i + 1),bk:=D.nx } σ2 H2) (hd:∀ σ H,Pv xs.length σ H→D.nx σ H) :
    ∃ W:Nat→Nat→L2.St→Hp→Prop,(∃ m,W 0 m σ H)∧∀ i m σ H,W i m σ H →
      ((Itv K a xs.length).stop i H∧D.nx σ H)∨((Itv K a xs.length).go i H∧∃ N:L2.St→Hp→Prop,(∀ σ' H',N σ' H'→∃ m',m' < m∧W (i + 1) m' σ' H')∧∀ x H',(Itv K a xs.length).yld i H x H'→g x σ H' fun σ2 H2=>tb { D with nx:=N,ct:=N,bk:=D.nx } σ2 H2):=by
  refine ⟨fun i m σ H=>m=xs.length - i∧i≤xs.length∧Pv i σ H,⟨xs.length,by simp,Nat.zero_le _,h0⟩,?_⟩
  rintro i m σ H ⟨rfl,hi,p⟩
  have q:=hl i σ H hi p
  by_cases hlt:i < xs.length
  · refine .inr ⟨⟨hlt,xs,xs[xs.length - 1 - i],q,List.getElem?_eq_getElem (by omega)⟩,Pv (i + 1),fun σ' H' p'=>⟨xs.length - (i + 1),by omega,rfl,hlt,p'⟩,fun x H' y=>?_⟩
    obtain ⟨e,y⟩:=y
    subst e
    exact hs i x σ _ (by rw [List.getElem?_reverse hlt]; exact y xs q) p
  · have e:i=xs.length:=by omega
    subst e
    exact .inl ⟨Nat.le_refl _,hd σ H p⟩
def qV (q:Vbiraa.Q):List V:=[.int (q.n:Nat),.int (q.d:Nat)]
structure FrAt (H:Hp) (l:Addr) (qs:List Vbiraa.Q):Prop where
  ex:∃ as:List Addr,H l=some (.lst (as.map V.ref))∧as.length=qs.length∧∀ (i:Nat) (a:Addr) (q:Vbiraa.Q),as[i]?=some a→qs[i]?=some q→H a=some (.lst (qV q))
theorem FrAt.same {l:Addr} {H H':Hp} {qs:List Vbiraa.Q} (R:FrAt H l qs) (s:Same H H'):FrAt H' l qs:=by
  obtain ⟨as,h1,h2,h3⟩:=R.ex
  exact ⟨as,s _ _ h1,h2,fun i a x e e'=>s _ _ (h3 i a x e e')⟩
theorem FrAt.at_ {l:Addr} {H:Hp} {qs:List Vbiraa.Q} (R:FrAt H l qs) {i:Nat} {q:Vbiraa.Q} (hr:qs[i]?=some q):∃ (xs:List V) (a:Addr),H l=some (.lst xs)∧xs.length=qs.length∧xs[i]?=some (.ref a)∧H a=some (.lst (qV q)):=by
  obtain ⟨as,h1,h2,h3⟩:=R.ex
  have hi:i < qs.length:=(List.getElem?_eq_some_iff.mp hr).1
  obtain ⟨a,ha⟩:∃ a,as[i]?=some a:=⟨_,List.getElem?_eq_getElem (by omega)⟩
  exact ⟨_,a,h1,by rw [List.length_map]; exact h2,by rw [List.getElem?_map,ha]; rfl,h3 i a q ha hr⟩
theorem yD {n:Nat} (h:n≤10 ^ 80):((n:Nat):Int).natAbs < 2 ^ 1000:=by
  rw [Int.natAbs_natCast]
  exact Nat.lt_of_le_of_lt h (by decide)
theorem big2 {a b:Nat} (h1:a≤10 ^ 80) (h2:b≤10 ^ 80):pZ (a:Nat) (b:Nat):=⟨yD h1,yD h2⟩
section
variable {P:Program} {w:World} {K:PySem.W.Frag} {mg:Str→Option Value} {base:Heap}
def spGcd:Sp:=fun vs H Q _=>∃ a b:Nat,vs=[.int a,.int b]∧Q (.int (Nat.gcd a b)) H
theorem kz (T:Txt K mg):FnOk P w K mg base CX0 1 T.common_divisor.f T.common_divisor.fd ["a", "b"] spGcd:=by
  refine T.common_divisor.F.ok bq (fun vs H Q E h=>?_) (fun cdv A outer s H vs Q E hr h=>?_)
  · obtain ⟨a,b,rfl,_⟩:=h
    rfl
  · obtain ⟨a,b,rfl,k⟩:=h
    refine ⟨_,(ae (aw (i:=2) bq.nd rfl (by first | exact Or.inl rfl | exact Or.inr rfl) (pv 0))
      (ae (aw (i:=3) bq.nd rfl (by first | exact Or.inl rfl | exact Or.inr rfl) (pv 1))
      (ae (kl PassesOwn.never (aN ku (pv 3) af (aQ _))
      (ae (aw (i:=4) bq.nd rfl (by first | exact Or.inl rfl | exact Or.inr rfl) (aF op_mod (pv 2) (pv 3)))
      (ae (aw (i:=2) bq.nd rfl (by first | exact Or.inl rfl | exact Or.inr rfl) (pv 3))
      (ag (aw (i:=3) bq.nd rfl (by first | exact Or.inl rfl | exact Or.inr rfl) (pv 4))))))
      (ag (au (pv 2)))))),?_⟩
    refine ⟨_,rfl,_,rfl,?_⟩
    refine j6 (fun σ H'=>H'=H∧∃ (x y:Nat) (v:Option V),σ=[some (.int a),some (.int b),some (.int x),some (.int y),v]∧Nat.gcd x y=Nat.gcd a b)
      (fun σ _=>match σ with | [_,_,_,some (.int y),_]=>y.toNat | _=>0) ⟨rfl,a,b,none,rfl,rfl⟩ ?_ ?_
    · rintro σ H' ⟨rfl,x,y,v,rfl,e⟩
      refine ⟨_,rfl,_,_,rfl,rfl,_,rfl,ite2 (fun hy=>?_) (fun hy=>?_)⟩
      · have hy:(0:Int) < y:=of_decide_eq_true hy
        refine ⟨_,rfl,_,rfl,_,_,rfl,rfl,hy,_,rfl,_,rfl,?_⟩
        refine ⟨⟨rfl,y,x % y,some (.int ((x % y:Nat):Int)),rfl,?_⟩,?_⟩
        · rw [←e,Nat.gcd_comm x y,Nat.gcd_comm y (x % y),←Nat.gcd_rec]
        · show ((x:Int) % (y:Int)).toNat < (y:Int).toNat
          have:=Int.emod_lt_of_pos (x:Int) hy
          have:=Int.emod_nonneg (x:Int) (show (y:Int)≠0 by omega)
          omega
      · have hy:¬ (0:Int) < y:=fun z=>hy (decide_eq_true z)
        have y0:y=0:=by omega
        subst y0
        rw [Nat.gcd_zero_right] at e
        subst e
        exact ⟨_,rfl,k⟩
    · intro σ H Q Q' m h
      obtain ⟨v,e1,i,j,e2,e3,b,e4,h⟩:=h
      exact ⟨v,e1,i,j,e2,e3,b,e4,m _ _ h⟩
def spLow:Sp:=fun vs H Q _=>∃ a b:Nat,vs=[.int a,.int b]∧0 < b∧b < 2 ^ 1000∧NewL H Q (qV (Vbiraa.mk a b))
theorem gx (T:Txt K mg):FnOk P w K mg base CX0 2 T.lowest.f T.lowest.fd ["top", "bottom"] spLow:=by
  refine T.lowest.F.ok pb (fun vs H Q E h=>?_) (fun cdv A outer s H vs Q E hr h=>?_)
  · obtain ⟨a,b,rfl,_⟩:=h
    rfl
  · obtain ⟨a,b,rfl,hb,hB,k⟩:=h
    refine ⟨_,(ae (aw (i:=2) pb.nd rfl (by first | exact Or.inl rfl | exact Or.inr rfl) (aC T.common_divisor (kz T) (hr.mono (by decide)) lJ (aa (pv 0) (aa (pv 1) ad))))
      (ag (au (aD (aa (aF kx (pv 0) (pv 2)) (aa (aF kx (pv 1) (pv 2)) ad)))))),?_⟩
    have g0:0 < Nat.gcd a b:=Nat.gcd_pos_of_pos_right a hb
    have g1:Nat.gcd a b≤b:=Nat.gcd_le_right a hb
    have c:yK a (Nat.gcd a b:Nat):=by
      refine ⟨by omega,?_⟩
      have:((2 ^ 1000:Nat):Int)=2 ^ 1000:=by norm_cast
      omega
    refine ⟨_,rfl,_,rfl,a,b,rfl,?_⟩
    refine ⟨_,rfl,_,rfl,_,_,rfl,rfl,c,_,rfl,_,rfl,_,_,rfl,rfl,c,(by show 2≤sizeLine; decide),fun p hp=>?_⟩
    refine k _ p (ah hp) hp ?_
    rw [ac,gY hb]
    rfl
def yU:Sp:=fun vs H Q _=>∃ (l:Addr) (qs:List Vbiraa.Q),vs=[.ref l]∧FrAt H l qs∧(∀ q∈qs,Low q∧q.n≤100000 * q.d)∧qs.length≤30∧cb qs≤100 ^ 31∧NewL H Q (qV (Vbiraa.sumQ qs))
theorem xV (T:Txt K mg):FnOk P w K mg base CX0 3 T.total.f T.total.fd ["fractions"] yU:=by
  refine T.total.F.ok gr (fun vs H Q E h=>?_) (fun cdv A outer s H vs Q E hr h=>?_)
  · obtain ⟨l,qs,rfl,_⟩:=h
    rfl
  · obtain ⟨l,qs,rfl,R,hq,hlen,hB,k⟩:=h
    refine ⟨_,(ae (aw (i:=1) gr.nd rfl (by first | exact Or.inl rfl | exact Or.inr rfl) af)
      (ae (aw (i:=2) gr.nd rfl (by first | exact Or.inl rfl | exact Or.inr rfl) af)
      (ae (bT PassesOwn.never rfl (bW (pv 0)) (aI (i:=3) gr.nd rfl (by first | exact Or.inl rfl | exact Or.inr rfl))
      (ae (aw (i:=1) gr.nd rfl (by first | exact Or.inl rfl | exact Or.inr rfl) (aF bv (aF cY (pv 1) (ay (ak (K:=K)) (pv 3) af (fun _ _=>rfl))) (aF cY (ay (ak (K:=K)) (pv 3) af (fun _ _=>rfl)) (pv 2))))
      (ag (aw (i:=2) gr.nd rfl (by first | exact Or.inl rfl | exact Or.inr rfl) (aF cY (pv 2) (ay (ak (K:=K)) (pv 3) af (fun _ _=>rfl)))))))
      (ag (au (aC T.lowest (gx T) (hr.mono (by decide)) i6 (aa (pv 1) (aa (pv 2) ad)))))))),?_⟩
    obtain ⟨as,h1,h2,h3⟩:=R.ex
    have hlow:∀ q∈qs,Low q:=fun q hm=>(hq q hm).1
    have bnd:∀ j,(totN (qs.take j)).2=cb (qs.take j)∧(totN (qs.take j)).2≤100 ^ 31∧0 < (totN (qs.take j)).2∧(totN (qs.take j)).1≤10 ^ 79:=fun j=>by
      obtain ⟨b1,b2,_⟩:=mM (M:=100000) (qs.take j) fun q hm=>hq q (List.mem_of_mem_take hm)
      have b3:=Nat.le_trans (tT hlow j) hB
      refine ⟨b1,by rw [b1]; exact b3,by rw [b1]; exact jc fun q hm=>hlow q (List.mem_of_mem_take hm),Nat.le_trans b2 ?_⟩
      have b4:(qs.take j).length≤30:=by
        rw [List.length_take]
        omega
      exact Nat.le_trans (Nat.mul_le_mul (Nat.mul_le_mul_left _ b4) b3) (by decide)
    refine ⟨_,rfl,l,rfl,⟨_,SqL.of h1⟩,fv (K:=K) (a:=l) (xs:=as.map V.ref)
      (fun j σ H'=>H'=H∧∃ v:Option V,σ=[some (.ref l),some (.int ((totN (qs.take j)).1:Nat)),some (.int ((totN (qs.take j)).2:Nat)),v]) ⟨rfl,none,rfl⟩ ?_ ?_ ?_⟩
    · rintro j σ H' _ ⟨rfl,_⟩
      exact SqL.of h1
    · rintro j y σ H' hj ⟨rfl,v,rfl⟩
      obtain ⟨b,hb,rfl⟩:∃ b,as[j]?=some b∧V.ref b=y:=by
        rw [List.getElem?_map] at hj
        exact Option.map_eq_some_iff.mp hj
      have hjl:j < qs.length:=by
        have:=(List.getElem?_eq_some_iff.mp hb).1
        omega
      obtain ⟨q,hqj⟩:∃ q,qs[j]?=some q:=⟨_,List.getElem?_eq_getElem hjl⟩
      have ht:=h3 j b q hb hqj
      have hm:=List.mem_of_getElem? hqj
      obtain ⟨c1,c2,c3,c4⟩:=bnd j
      obtain ⟨d1,d2,d3,d4⟩:=bnd (j + 1)
      have es:totN (qs.take (j + 1))=((totN (qs.take j)).1 * q.d + q.n * (totN (qs.take j)).2,(totN (qs.take j)).2 * q.d):=by
        rw [bK hqj,o7]
      have qd:q.d≤100 ^ 31:=by
        rw [es] at d2
        exact Nat.le_trans (Nat.le_mul_of_pos_left _ c3) d2
      have qn:q.n≤10 ^ 79:=Nat.le_trans (hq q hm).2 (Nat.le_trans (Nat.mul_le_mul_left _ qd) (by decide))
      have x1:∀ {n:Nat},n≤100 ^ 31→n≤10 ^ 80:=fun h=>Nat.le_trans h (by decide)
      have x2:∀ {n:Nat},n≤10 ^ 79→n≤10 ^ 80:=fun h=>Nat.le_trans h (by decide)
      rw [es]
      generalize totN (qs.take j)=c at c1 c2 c3 c4
      refine ⟨_,rfl,_,rfl,b,_,_,_,rfl,rfl,SqL.of ht,aB (j:=1) rfl rfl,_,_,rfl,rfl,big2 (x2 c4) (x1 qd),_,rfl,b,_,_,_,rfl,rfl,SqL.of ht,aB (j:=0) rfl rfl,_,rfl,_,_,rfl,rfl,big2 (x2 qn) (x1 c2),_,_,rfl,rfl,?_⟩
      refine ⟨_,rfl,_,rfl,b,_,_,_,rfl,rfl,SqL.of ht,aB (j:=1) rfl rfl,_,_,rfl,rfl,big2 (x1 c2) (x1 qd),?_⟩
      refine ⟨rfl,some (.ref b),?_⟩
      rw [Int.natCast_add,Int.natCast_mul,Int.natCast_mul,Int.natCast_mul]
      rfl
    · rintro σ H' ⟨rfl,v,rfl⟩
      rw [List.length_map,h2,List.take_length]
      obtain ⟨c1,c2,c3,c4⟩:=bnd qs.length
      rw [List.take_length] at c1 c2 c3 c4
      refine ⟨_,rfl,_,rfl,_,_,rfl,c3,Nat.lt_of_le_of_lt c2 (by decide),?_⟩
      rw [←(mM (M:=100000) qs hq).2.2]
      exact k
def xo (C:Addr):Sp:=fun vs H Q _=>∃ (a wa dx:Addr) (ns:Vbiraa.Net) (i:Nat) (q:Vbiraa.Q),vs=[.ref a,.ref wa]∧H a=some (.ins C dx (rf ns i))∧(Vbiraa.reachAt ns i).loss≤99∧(Vbiraa.reachAt ns i).soak≤1000∧H wa=some (.lst (qV q))∧Low q∧q.n≤10 ^ 75∧q.d≤10 ^ 75∧NewL H Q (qV (bf (Vbiraa.reachAt ns i) q))
theorem ny (T:Txt K mg):FnOk P w K mg base CX0 3 T.to_take.f T.to_take.fd ["reach", "water"] (xo T.a_Reach):=by
  refine T.to_take.F.ok mR (fun vs H Q E h=>?_) (fun cdv A outer s H vs Q E hr h=>?_)
  · obtain ⟨a,wa,dx,ns,i,q,rfl,_⟩:=h
    rfl
  · obtain ⟨a,wa,dx,ns,i,q,rfl,ha,hl,hs,hw,lq,qn,qd,k⟩:=h
    refine ⟨_,(ae (aw (i:=2) mR.nd rfl (by first | exact Or.inl rfl | exact Or.inr rfl) (aF dg af (am (K:=K) (pv 0) rfl)))
      (ag (au (aC T.lowest (gx T) (hr.mono (by decide)) i6 (aa (aF bv (aF cY (ay (ak (K:=K)) (pv 1) af (fun _ _=>rfl)) af) (aF cY (aF cY (am (K:=K) (pv 0) rfl) (pv 2)) (ay (ak (K:=K)) (pv 1) af (fun _ _=>rfl)))) (aa (aF cY (ay (ak (K:=K)) (pv 1) af (fun _ _=>rfl)) (pv 2)) ad)))))),?_⟩
    have ek:(100:Int) - ((Vbiraa.reachAt ns i).loss:Nat)=((100 - (Vbiraa.reachAt ns i).loss:Nat):Int):=by omega
    have x1:∀ {n:Nat},n≤10 ^ 75→n≤10 ^ 80:=fun h=>Nat.le_trans h (by decide)
    have kb:pZ ((Vbiraa.reachAt ns i).soak:Nat) ((100:Int) - ((Vbiraa.reachAt ns i).loss:Nat)):=by
      rw [ek]
      exact big2 (Nat.le_trans hs (by decide)) (Nat.le_trans (Nat.sub_le _ _) (by decide))
    have kc:pZ (((Vbiraa.reachAt ns i).soak:Int) * ((100:Int) - ((Vbiraa.reachAt ns i).loss:Nat))) (q.d:Nat):=by
      rw [ek,←Int.natCast_mul]
      exact big2 (Nat.le_trans (Nat.mul_le_mul hs (Nat.sub_le _ _)) (by decide)) (x1 qd)
    have kd:pZ (q.d:Nat) ((100:Int) - ((Vbiraa.reachAt ns i).loss:Nat)):=by
      rw [ek]
      exact big2 (x1 qd) (Nat.le_trans (Nat.sub_le _ _) (by decide))
    have e1:((q.n * 100 + (Vbiraa.reachAt ns i).soak * (100 - (Vbiraa.reachAt ns i).loss) * q.d:Nat):Int)=(q.n:Int) * 100 + ((Vbiraa.reachAt ns i).soak:Int) * ((100:Int) - ((Vbiraa.reachAt ns i).loss:Nat)) * (q.d:Int):=by
      rw [ek,Int.natCast_add,Int.natCast_mul,Int.natCast_mul,Int.natCast_mul]
      rfl
    have e2:((q.d * (100 - (Vbiraa.reachAt ns i).loss):Nat):Int)=(q.d:Int) * ((100:Int) - ((Vbiraa.reachAt ns i).loss:Nat)):=by
      rw [ek,Int.natCast_mul]
    refine ⟨_,rfl,a,T.a_Reach,dx,_,_,rfl,ha,T.cl_Reach,T.na_Reach_loss,qr,_,_,rfl,rfl,?_⟩
    refine ⟨_,rfl,wa,_,_,_,rfl,rfl,SqL.of hw,aB (j:=0) rfl rfl,_,_,rfl,rfl,big2 (x1 qn) (b:=100) (by decide),_,rfl,a,T.a_Reach,dx,_,_,rfl,ha,T.cl_Reach,T.na_Reach_soak,qp,_,rfl,_,_,rfl,rfl,kb,_,rfl,wa,_,_,_,rfl,rfl,SqL.of hw,aB (j:=1) rfl rfl,_,_,rfl,rfl,kc,_,_,rfl,rfl,
      _,rfl,wa,_,_,_,rfl,rfl,SqL.of hw,aB (j:=1) rfl rfl,_,rfl,_,_,rfl,rfl,kd,q.n * 100 + (Vbiraa.reachAt ns i).soak * (100 - (Vbiraa.reachAt ns i).loss) * q.d,q.d * (100 - (Vbiraa.reachAt ns i).loss),?_,eY hl lq,?_,k⟩
    · rw [e1,e2]
      rfl
    · exact Nat.lt_of_le_of_lt (Nat.mul_le_mul qd (Nat.sub_le _ _)) (by decide)
def spCan (C:Addr):Sp:=fun vs H Q _=>∃ (a wa dx:Addr) (ns:Vbiraa.Net) (i:Nat) (q:Vbiraa.Q),vs=[.ref a,.ref wa]∧H a=some (.ins C dx (rf ns i))∧(Vbiraa.reachAt ns i).cap≤100000∧H wa=some (.lst (qV q))∧q.d≤10 ^ 80∧Q (.bl (decide (q.n≤(Vbiraa.reachAt ns i).cap * q.d))) H
theorem lT (T:Txt K mg):FnOk P w K mg base CX0 1 T.can_take.f T.can_take.fd ["reach", "water"] (spCan T.a_Reach):=by
  refine T.can_take.F.ok rm (fun vs H Q E h=>?_) (fun cdv A outer s H vs Q E hr h=>?_)
  · obtain ⟨a,wa,dx,ns,i,q,rfl,_⟩:=h
    rfl
  · obtain ⟨a,wa,dx,ns,i,q,rfl,ha,hc,hw,qd,k⟩:=h
    refine ⟨_,(ag (au (d8 cP (ay (ak (K:=K)) (pv 1) af (fun _ _=>rfl)) (aF cY (am (K:=K) (pv 0) rfl) (ay (ak (K:=K)) (pv 1) af (fun _ _=>rfl))) (aQ _)))),?_⟩
    have e:decide ((q.n:Int)≤((Vbiraa.reachAt ns i).cap:Int) * (q.d:Int))=decide (q.n≤(Vbiraa.reachAt ns i).cap * q.d):=by
      rw [←Int.natCast_mul]
      exact decide_eq_decide.mpr (by omega)
    rw [←e] at k
    exact ⟨_,rfl,wa,_,_,_,rfl,rfl,SqL.of hw,aB (j:=0) rfl rfl,_,rfl,a,T.a_Reach,dx,_,_,rfl,ha,T.cl_Reach,T.na_Reach_cap,vd,_,rfl,wa,_,_,_,rfl,rfl,SqL.of hw,aB (j:=1) rfl rfl,_,_,rfl,rfl,big2 (Nat.le_trans hc (by decide)) qd,_,_,rfl,rfl,k⟩
def spNeed (CR CN:Addr):Sp:=fun vs H Q _=>∃ (n dn l wl sl:Addr) (h:Vbiraa.House) (i t x:Nat),vs=[.ref n,.int i,.int t,.int x]∧bC CR CN H n h dn l wl sl∧WF h.net∧yI h∧i < h.net.length∧x≤1000000 ∧
  (Vbiraa.need h i t (Vbiraa.whole x)=none→∀ H',Same H H'→Q .non H')∧∀ q,Vbiraa.need h i t (Vbiraa.whole x)=some q→NewL H Q (qV q)
theorem wj (T:Txt K mg):FnOk P w K mg base CX0 4 T.needed.f T.needed.fd ["net", "i", "tick", "water"] (spNeed T.a_Reach T.a_Net):=by
  refine T.needed.F.ok dO (fun vs H Q E h=>?_) (fun cdv A outer s H vs Q E hr h=>?_)
  · obtain ⟨n,dn,l,wl,sl,h,i,t,x,rfl,_⟩:=h
    rfl
  · obtain ⟨n,dn,l,wl,sl,h,i,t,x,rfl,N,hwf,hP,hi,hx6,k0,k1⟩:=h
    refine ⟨_,(ae (aV (aN dG (pv 3) af (aQ _))
      (ag (au (aD (aa af (aa af ad)))))
      aH)
      (ae (aw (i:=4) dO.nd rfl (by first | exact Or.inl rfl | exact Or.inr rfl) (aD (aa (pv 3) (aa af ad))))
      (ae (bT PassesOwn.never rfl (rC rfl T.n_reversed (aa (aC T.way_to (lu T) (hr.mono (by decide)) om (aa (am (K:=K) (pv 0) rfl) (aa (pv 1) ad))) ad)) (aI (i:=5) dO.nd rfl (by first | exact Or.inl rfl | exact Or.inr rfl))
      (ae (aw (i:=6) dO.nd rfl (by first | exact Or.inl rfl | exact Or.inr rfl) (ay (ak (K:=K)) (am (K:=K) (pv 0) rfl) (pv 5) (fun _ _=>rfl)))
      (ae (aw (i:=7) dO.nd rfl (by first | exact Or.inl rfl | exact Or.inr rfl) (aC T.gate_part (eJ T) (hr.mono (by decide)) fO (aa (am (K:=K) (pv 0) rfl) (aa (am (K:=K) (pv 0) rfl) (aa (pv 5) (aa (aF bv (pv 2) (am (K:=K) (pv 6) rfl)) ad))))))
      (ae (aw (i:=8) dO.nd rfl (by first | exact Or.inl rfl | exact Or.inr rfl) (aC T.to_take (ny T) (hr.mono (by decide)) pU (aa (pv 6) (aa (pv 4) ad))))
      (ae (aV (ei (aN dG (pv 7) af (aQ _)) (dW (a8 (aL (K:=K) (aC T.can_take (lT T) (hr.mono (by decide)) ou (aa (pv 6) (aa (pv 8) ad))) (fun _=>rfl))))).pt
      (ag (au f9))
      aH)
      (ag (aw (i:=4) dO.nd rfl (by first | exact Or.inl rfl | exact Or.inr rfl) (aC T.lowest (gx T) (hr.mono (by decide)) i6 (aa (aF cY (ay (ak (K:=K)) (pv 8) af (fun _ _=>rfl)) af) (aa (aF cY (ay (ak (K:=K)) (pv 8) af (fun _ _=>rfl)) (pv 7)) ad))))))))))
      (ag (au (pv 4)))))),?_⟩
    have hneed:=x5 hwf hi t x
    refine ⟨_,rfl,rfl,_,rfl,?_⟩
    rw [show (V.int 0)=V.int ((0:Nat):Int) from rfl,cZ]
    refine ite2 (fun c1=>?_) (fun c1=>?_)
    · have c1:x=0:=of_decide_eq_true c1
      rw [if_pos c1] at hneed
      refine ⟨(by show 2≤sizeLine; decide),fun p hp=>k1 _ hneed _ p (ah hp) hp ?_⟩
      rw [ac]
      rfl
    · have c1:¬ x=0:=fun z=>c1 (decide_eq_true z)
      rw [if_neg c1] at hneed
      have hdeep:=hwf.deep i hi
      unfold depth at hdeep
      refine ⟨_,rfl,(by show 2≤sizeLine; decide),fun w0 hw0=>?_⟩
      have s0:=ah (o:=.lst [.int x,.int 1]) hw0
      have N0:=N.same s0
      refine ⟨_,rfl,n,T.a_Net,dn,_,_,rfl,N0.obj,T.cl_Net,T.na_Net_reaches,aG,_,rfl,l,h.net,i,rfl,N0.rs,hwf,hi,fun H1 wp s1 hwp hwp1=>?_⟩
      refine ⟨wp,_,rfl,SqL.of hwp1,zE (K:=K) (a:=wp) (xs:=ao (Vbiraa.way h.net i))
        (fun j σ H'=>Same H1 H'∧∃ (q:Vbiraa.Q) (wa:Addr) (v1 v2 v3 v4:Option V),cN h.net (ptAt h t) ((Vbiraa.way h.net i).reverse.take j) (Vbiraa.whole x)=some q∧Low q∧q.n≠0∧q.d≤10000 ^ j∧q.n≤10 ^ 60∧H wa=none∧H' wa=some (.lst (qV q))∧σ=[some (.ref n),some (.int i),some (.int t),some (.int x),some (.ref wa),v1,v2,v3,v4])
        ⟨Same.refl _,Vbiraa.whole x,w0,none,none,none,none,rfl,dZ x,c1,Nat.le_refl _,Nat.le_trans hx6 (by decide),hw0,s1 _ _ ac,rfl⟩ (fun j σ H' _ p=>SqL.of (p.1 _ _ hwp1)) ?_ ?_⟩
      · rintro j v σ H' hv ⟨sm,q,wa,v1,v2,v3,v4,hnd,lq,qnz,qd,qn,hwa,hwa1,rfl⟩
        have hv2:(ao (Vbiraa.way h.net i).reverse)[j]?=some v:=by
          have e:ao (Vbiraa.way h.net i).reverse=(ao (Vbiraa.way h.net i)).reverse:=by
            unfold ao
            rw [List.map_reverse]
          rw [e]
          exact hv
        obtain ⟨c,hc,rfl⟩:=aX hv2
        have hj8:j < 8:=by
          have:=(List.getElem?_eq_some_iff.mp hc).1
          rw [List.length_reverse] at this
          omega
        have hcl:c < h.net.length:=mI hwf.par i hi c (List.mem_reverse.mp (List.mem_of_getElem? hc))
        have sm2:=(s0.trans s1).trans sm
        have N2:=N.same sm2
        obtain ⟨xs,ca,dc,h1,h2,h3,h4⟩:=N2.rs.at_ hcl
        obtain ⟨_,nl,nsk,nc1,nc2,_⟩:=hwf.num c hcl
        have hpc:ptAt h t c≤100:=hP c (t + above h.net c) hcl
        have hall:cN h.net (ptAt h t) (Vbiraa.way h.net i).reverse (Vbiraa.whole x)=(ndQ (Vbiraa.reachAt h.net c) (ptAt h t c) q).bind (cN h.net (ptAt h t) ((Vbiraa.way h.net i).reverse.drop (j + 1))):=by
          conv=>lhs; rw [←List.take_append_drop (j + 1) (Vbiraa.way h.net i).reverse,bK hc,List.append_assoc]
          rw [iJ,hnd]
          rfl
        have hstep:cN h.net (ptAt h t) ((Vbiraa.way h.net i).reverse.take (j + 1)) (Vbiraa.whole x)=ndQ (Vbiraa.reachAt h.net c) (ptAt h t c) q:=by
          rw [bK hc,iJ,hnd]
          show (ndQ _ _ q).bind _=_
          cases ndQ (Vbiraa.reachAt h.net c) (ptAt h t c) q <;> rfl
        have qd2:q.d≤10000 ^ 8:=Nat.le_trans qd (Nat.pow_le_pow_right (by decide) (by omega))
        refine ⟨_,rfl,n,T.a_Net,dn,_,_,rfl,N2.obj,T.cl_Net,T.na_Net_reaches,aG,_,rfl,l,_,_,_,rfl,rfl,SqL.of h1,aY h3,?_⟩
        refine ⟨_,rfl,n,T.a_Net,dn,_,_,rfl,N2.obj,T.cl_Net,T.na_Net_reaches,aG,_,rfl,n,T.a_Net,dn,_,_,rfl,N2.obj,T.cl_Net,T.na_Net_settings,dj,_,rfl,_,rfl,_,rfl,ca,T.a_Reach,dc,_,_,rfl,h4,T.cl_Reach,T.na_Reach_above,g8,_,_,rfl,rfl,
          l,sl,h.net,h.settings,c,t + above h.net c,rfl,N2.rs,N2.ss,hcl,?_⟩
        refine ⟨_,rfl,_,rfl,ca,wa,dc,h.net,c,q,rfl,h4,nl,nsk,hwa1,lq,Nat.le_trans qn (by decide),Nat.le_trans qd2 (by decide),fun H3 ta s3 hta hta1=>?_⟩
        have lt:=ka nl lq
        have td1:(bf (Vbiraa.reachAt h.net c) q).d≤q.d * 100:=Nat.le_trans (kE (eY nl lq)) (Nat.mul_le_mul_left _ (Nat.sub_le _ _))
        have td2:(bf (Vbiraa.reachAt h.net c) q).d≤10 ^ 34:=Nat.le_trans td1 (Nat.le_trans (Nat.mul_le_mul_right _ qd2) (by decide))
        have h43:=s3 _ _ h4
        refine ⟨_,rfl,rfl,_,rfl,?_⟩
        have e3:decide (V.int ((jp h.net h.settings c (t + above h.net c):Nat):Int)=V.int ((0:Nat):Int))=decide (ptAt h t c=0):=cZ
        have none_:(ptAt h t c=0∨¬ (bf (Vbiraa.reachAt h.net c) q).n≤(Vbiraa.reachAt h.net c).cap * (bf (Vbiraa.reachAt h.net c) q).d)→Vbiraa.need h i t (Vbiraa.whole x)=none:=fun z=>by
          rw [hneed,hall]
          unfold ndQ
          rw [if_pos z]
          rfl
        refine (congrArg (fun b=>if b=true then _ else _) e3).mpr ?_
        refine ite2 (fun c2=>?_) (fun c2=>?_)
        · exact iteT (k0 (none_ (.inl (of_decide_eq_true c2))) H3 (sm2.trans s3))
        · have c2:¬ ptAt h t c=0:=fun z=>c2 (decide_eq_true z)
          refine ⟨_,rfl,_,rfl,ca,ta,dc,h.net,c,bf (Vbiraa.reachAt h.net c) q,rfl,h43,nc2,hta1,Nat.le_trans td2 (by decide),_,rfl,?_⟩
          by_cases c3:(bf (Vbiraa.reachAt h.net c) q).n≤(Vbiraa.reachAt h.net c).cap * (bf (Vbiraa.reachAt h.net c) q).d
          · rw [decide_eq_true c3]
            refine iteF ?_
            have tn:(bf (Vbiraa.reachAt h.net c) q).n≤10 ^ 40:=Nat.le_trans c3 (Nat.le_trans (Nat.mul_le_mul nc2 td2) (by decide))
            have pp:0 < (bf (Vbiraa.reachAt h.net c) q).d * ptAt h t c:=Nat.mul_pos lt.pos (by omega)
            have m2:pZ ((bf (Vbiraa.reachAt h.net c) q).d:Nat) (jp h.net h.settings c (t + above h.net c):Nat):=big2 (Nat.le_trans td2 (by decide)) (Nat.le_trans (show ptAt h t c≤100 from hpc) (by decide))
            refine ⟨_,rfl,ta,_,_,_,rfl,rfl,SqL.of hta1,aB (j:=0) rfl rfl,_,_,rfl,rfl,big2 (b:=100) (Nat.le_trans tn (by decide)) (by decide),_,rfl,ta,_,_,_,rfl,rfl,SqL.of hta1,aB (j:=1) rfl rfl,_,rfl,_,_,rfl,rfl,m2,
              (bf (Vbiraa.reachAt h.net c) q).n * 100,(bf (Vbiraa.reachAt h.net c) q).d * ptAt h t c,?_,pp,?_,fun H4 wb s4 hwb hwb1=>?_⟩
            · rw [Int.natCast_mul,Int.natCast_mul]
              rfl
            · exact Nat.lt_of_le_of_lt (Nat.mul_le_mul td2 hpc) (by decide)
            have en:ndQ (Vbiraa.reachAt h.net c) (ptAt h t c) q=some (Vbiraa.mk ((bf (Vbiraa.reachAt h.net c) q).n * 100) ((bf (Vbiraa.reachAt h.net c) q).d * ptAt h t c)):=by
              unfold ndQ
              rw [if_neg (fun z=>z.elim c2 (fun z=>z c3))]
            obtain ⟨lq',nz'⟩:=rY nl lq qnz en
            refine ⟨(sm.trans s3).trans s4,_,wb,_,_,_,_,hstep.trans en,lq',nz',?_,?_,?_,hwb1,rfl⟩
            · refine Nat.le_trans (kE pp) (Nat.le_trans (Nat.mul_le_mul td1 hpc) ?_)
              rw [Nat.pow_succ,Nat.mul_assoc]
              exact Nat.mul_le_mul_right _ qd
            · exact Nat.le_trans (zr pp) (Nat.le_trans (Nat.mul_le_mul_right _ tn) (by decide))
            · exact sm2.free (s3.free hwb)
          · rw [decide_eq_false c3]
            exact iteT (k0 (none_ (.inr c3)) H3 (sm2.trans s3))
      · rintro σ H' ⟨sm,q,wa,v1,v2,v3,v4,hnd,lq,qnz,qd,qn,hwa,hwa1,rfl⟩
        rw [aA,←List.length_reverse,List.take_length] at hnd
        exact ⟨_,rfl,k1 _ (hneed.trans hnd) _ wa ((s0.trans s1).trans sm) hwa hwa1⟩
end
end CN
namespace CN
open PySem PySem.Spec PyProof.Rows L2
def tCallV (P:Program) (w:World) (K:PySem.W.Frag) (mg:Str→Option Value) (base:Heap) (k:Nat) (tv:TE) (t:TA):TE:=fun σ H Q=>tv σ H fun v H0=>H0=H∧∃ f fd ps sp,v=.ref f∧FnOk P w K mg base CX0 k f fd ps sp∧PySem.W.keepIn K (.ref f)=true∧aJ K fd ps []∧t σ H fun vs H1=>sp (vs++[]) H1 Q E0
theorem xR {X:Cx} {x:Str} {k:Nat} {e:Expr} {es:List Expr} {tv:TE} {t:TA} {p pos:Pos} (hr:Room k X.A) (hv:PE X (.Name x p) tv) (ha:PA X (e :: es) t)
    (he:starEach (e :: es) X.env=(false,eval e X.env) :: starEach es X.env:=by rfl) (hpl:(backTo pos (starEach es X.env)).any (·.1)=false:=by rfl) :
    PE X (.Call (.Name x p) (e :: es) [] pos) (tCallV X.prog X.w X.K X.mg X.base k tv t):=by
  intro pins s σ H Q I h
  refine wpAny_Call_Name_kw (thn (hv pins s σ H _ I h) fun u s0 ⟨v,H0,I0,r0,e0,f,fd,ps,sp,ev,F,hk,hb,q⟩=>?_)
  subst e0 ev
  obtain rfl:u=Value.ref f:=r0
  refine PySem.W.callWith_K (h₀:=X.base) I.ok.mod.kin hk (thn (ha pos pins s0 σ H0 _ I0 q) fun us s1 ⟨vs,H1,I1,r,q1⟩=>⟨I1.kIn,?_⟩) he hpl
  exact tS F hr hb .nil lQ I1 r q1
def aT (l:List Int):List V:=l.map V.int
theorem pA {l:List Int} {i:Nat} {z:Int} (h:l[i]?=some z):(aT l)[i]?=some (.int z):=by
  unfold aT
  rw [List.getElem?_map,h]
  rfl
theorem bt (l:List Int):(aT l).length=l.length:=by
  unfold aT
  rw [List.length_map]
def Post (CR CN:Addr) (H:Hp) (Q:VK) (n l wl sl:Addr) (res:Vbiraa.House × List Int):Prop:=∀ (H':Hp) (p dn' l' wl' sl':Addr),bC CR CN H' n res.1 dn' l' wl' sl'→(l'=l∨H l'=none)→(wl'=wl∨H wl'=none)→(sl'=sl∨H sl'=none)→(∀ b o,H b=some o→b≠n→b≠wl→H' b=some o)→H p=none→H' p=some (.lst (aT res.2))→Q (.ref p) H'
theorem Post.new {CR CN n dn l wl sl:Addr} {H H':Hp} {Q:VK} {h:Vbiraa.House} {ans:List Int} {p:Addr} (k:Post CR CN H Q n l wl sl (h,ans)) (N:bC CR CN H n h dn l wl sl) (s:Same H H') (hp:H p=none) (e:H' p=some (.lst (aT ans))):Q (.ref p) H' :=
  k H' p dn l wl sl (N.same s) (.inl rfl) (.inl rfl) (.inl rfl) (fun b o q _ _=>s b o q) hp e
def vk:Vbiraa.Call→Bool
  | .net _=>true
  | _=>false
def spFn (CR CN:Addr) (C:List Int→List Int→Option Vbiraa.Call):Sp:=fun vs H Q _=>∃ (n nl rl dn l wl sl:Addr) (h:Vbiraa.House) (nums rs:List Int) (c:Vbiraa.Call),vs=[.ref n,.ref nl,.ref rl]∧bC CR CN H n h dn l wl sl∧HInv h∧(vk c=false→h.net≠[])∧H nl=some (.lst (aT nums))∧H rl=some (.lst (aT rs))∧rl≠wl∧rs.length≤4000∧C nums rs=some c∧Post CR CN H Q n l wl sl (Vbiraa.step h c)
theorem bn {h:Vbiraa.House} (hne:h.net≠[]) (f:Vbiraa.Net→Vbiraa.House × Vbiraa.Ans):Vbiraa.onNet h f=f h.net:=by
  unfold Vbiraa.onNet
  rw [if_neg (by rw [List.isEmpty_iff]; exact hne)]
section
variable {P:Program} {w:World} {K:PySem.W.Frag} {mg:Str→Option Value} {base:Heap}
def v9 (CR CN:Addr):Sp:=fun vs H Q _=>∃ (n dn l wl sl:Addr) (h:Vbiraa.House) (i:Int),vs=[.ref n,.int i]∧bC CR CN H n h dn l wl sl∧Q (.bl (Vbiraa.isReach h i)) H
theorem bQ (T:Txt K mg):FnOk P w K mg base CX0 1 T.is_reach.f T.is_reach.fd ["net", "i"] (v9 T.a_Reach T.a_Net):=by
  refine T.is_reach.F.ok rk (fun vs H Q E h=>?_) (fun cdv A outer s H vs Q E hr h=>?_)
  · obtain ⟨n,dn,l,wl,sl,h,i,rfl,_⟩:=h
    rfl
  · obtain ⟨n,dn,l,wl,sl,h,i,rfl,N,k⟩:=h
    refine ⟨_,(ag (au (np cP rK af (pv 1) (aE (ax (K:=K)) (by rfl) T.n_len PySem.boot_len (aa (am (K:=K) (pv 0) rfl) ad))))),?_⟩
    unfold Vbiraa.isReach Vbiraa.within at k
    obtain ⟨xs,h1,h2,_⟩:=N.rs.list
    refine ⟨_,rfl,_,_,rfl,rfl,_,rfl,?_⟩
    cases c1:decide ((0:Int)≤i) with
    | false =>
      rw [c1] at k
      exact iteF k
    | true =>
      rw [c1,Bool.true_and] at k
      refine iteT ⟨_,rfl,n,T.a_Net,dn,_,_,rfl,N.obj,T.cl_Net,T.na_Net_reaches,aG,l,_,rfl,.inl (SqL.of h1),_,_,rfl,rfl,?_⟩
      rw [show decide (i≤(h.net.length:Int) - 1)=decide (i < (xs.length:Int)) from decide_eq_decide.mpr (by omega)] at k
      exact k
def xu:Sp:=fun vs H Q _=>∃ t:Int,vs=[.int t]∧Q (.bl (Vbiraa.isTick t)) H
theorem cD (T:Txt K mg):FnOk P w K mg base CX0 1 T.is_tick.f T.is_tick.fd ["tick"] xu:=by
  refine T.is_tick.F.ok tQ (fun vs H Q E h=>?_) (fun cdv A outer s H vs Q E hr h=>?_)
  · obtain ⟨t,rfl,_⟩:=h
    rfl
  · obtain ⟨t,rfl,k⟩:=h
    refine ⟨_,(ag (au (np cP rK af (pv 0) (a9 T.c_TICKS)))),?_⟩
    unfold Vbiraa.isTick Vbiraa.within at k
    refine ⟨_,rfl,_,_,rfl,rfl,_,rfl,?_⟩
    cases c1:decide ((0:Int)≤t) with
    | false =>
      rw [c1] at k
      exact iteF k
    | true =>
      rw [c1,Bool.true_and] at k
      refine iteT ⟨_,_,rfl,rfl,?_⟩
      rw [show decide (t≤((Vbiraa.TICKS:Nat):Int) - 1)=decide (t < 60) from decide_eq_decide.mpr (by show t≤(60:Int) - 1↔_; omega)] at k
      exact k
def v0:Sp:=fun vs H Q _=>∃ t:Int,vs=[.int t]∧Q (.bl (Vbiraa.within t 0 Vbiraa.LET)) H
theorem iF (T:Txt K mg):FnOk P w K mg base CX0 1 T.is_water.f T.is_water.fd ["number"] v0:=by
  refine T.is_water.F.ok rj (fun vs H Q E h=>?_) (fun cdv A outer s H vs Q E hr h=>?_)
  · obtain ⟨t,rfl,_⟩:=h
    rfl
  · obtain ⟨t,rfl,k⟩:=h
    refine ⟨_,(ag (au (np cP cP af (pv 0) (a9 T.c_MOST_WATER)))),?_⟩
    unfold Vbiraa.within at k
    refine ⟨_,rfl,_,_,rfl,rfl,_,rfl,?_⟩
    cases c1:decide ((0:Int)≤t) with
    | false =>
      rw [c1] at k
      exact iteF k
    | true =>
      rw [c1,Bool.true_and] at k
      exact iteT ⟨_,_,rfl,rfl,k⟩
end
end CN
namespace CN
open PySem PySem.Spec PyProof.Rows L2
def cLet:List Int→List Int→Option Vbiraa.Call
  | [t],l=>some (.let_ t l)
  | _,_=>none
def vD:List Int→List Int→Option Vbiraa.Call
  | [i,t,p],_=>some (.gate i t p)
  | _,_=>none
def cWay:List Int→List Int→Option Vbiraa.Call
  | [i],_=>some (.way i)
  | _,_=>none
def vB:List Int→List Int→Option Vbiraa.Call
  | [i,t,x],_=>some (.need i t x)
  | _,_=>none
theorem sP {a b:List Int} {c:Vbiraa.Call} (h:cLet a b=some c):∃ t,a=[t]∧c=.let_ t b:=by
  unfold cLet at h
  split at h
  · cases h
    exact ⟨_,rfl,rfl⟩
  · cases h
theorem pL {a b:List Int} {c:Vbiraa.Call} (h:vD a b=some c):∃ i t p,a=[i,t,p]∧c=.gate i t p:=by
  unfold vD at h
  split at h
  · cases h
    exact ⟨_,_,_,rfl,rfl⟩
  · cases h
theorem sM {a b:List Int} {c:Vbiraa.Call} (h:cWay a b=some c):∃ i,a=[i]∧c=.way i:=by
  unfold cWay at h
  split at h
  · cases h
    exact ⟨_,rfl,rfl⟩
  · cases h
theorem pJ {a b:List Int} {c:Vbiraa.Call} (h:vB a b=some c):∃ i t x,a=[i,t,x]∧c=.need i t x:=by
  unfold vB at h
  split at h
  · cases h
    exact ⟨_,_,_,rfl,rfl⟩
  · cases h
theorem bR {h:Vbiraa.House} {i:Int} (e:Vbiraa.isReach h i=true):∃ j:Nat,i=(j:Int)∧j < h.net.length:=by
  unfold Vbiraa.isReach Vbiraa.within at e
  rw [Bool.and_eq_true,decide_eq_true_eq,decide_eq_true_eq] at e
  exact ⟨i.toNat,by omega,by omega⟩
theorem cE {t:Int} (e:Vbiraa.isTick t=true):∃ j:Nat,t=(j:Int)∧j < 60:=by
  unfold Vbiraa.isTick Vbiraa.within at e
  rw [Bool.and_eq_true,decide_eq_true_eq,decide_eq_true_eq] at e
  have e2:t≤(60:Int) - 1:=e.2
  exact ⟨t.toNat,by omega,by omega⟩
theorem eT {x a b:Int} (e:Vbiraa.within x a b=true):a≤x∧x≤b:=by
  unfold Vbiraa.within at e
  rw [Bool.and_eq_true,decide_eq_true_eq,decide_eq_true_eq] at e
  exact e
theorem HInv.partsB {h:Vbiraa.House} (I:HInv h):yI h:=fun i t hi=>I.partB hi t
section
variable {P:Program} {w:World} {K:PySem.W.Frag} {mg:Str→Option Value} {base:Heap}
theorem oK (T:Txt K mg):FnOk P w K mg base CX0 2 T.answer_way.f T.answer_way.fd ["net", "numbers", "row"] (spFn T.a_Reach T.a_Net cWay):=by
  refine T.answer_way.F.ok fT (fun vs H Q E h=>?_) (fun cdv A outer s H vs Q E hr h=>?_)
  · obtain ⟨n,nl,rl,dn,l,wl,sl,h,nums,rs,c,rfl,_⟩:=h
    rfl
  · obtain ⟨n,nl,rl,dn,l,wl,sl,h,nums,rs,c,rfl,N,hI,hne,hnl,hrl,hrw,hrs,hC,k⟩:=h
    refine ⟨_,(ae (aV (a8 (aL (K:=K) (aC T.is_reach (bQ T) (hr.mono (by decide)) cF (aa (pv 0) (aa (ay (ak (K:=K)) (pv 1) af (fun _ _=>rfl)) ad))) (fun _=>rfl)))
      (ag (au (aD (aa (a9 T.c_OUT_OF_RANGE) ad))))
      aH)
      (ae (aw (i:=3) fT.nd rfl (by first | exact Or.inl rfl | exact Or.inr rfl) (ay (ak (K:=K)) (am (K:=K) (pv 0) rfl) (ay (ak (K:=K)) (pv 1) af (fun _ _=>rfl)) (fun _ _=>rfl)))
      (ae (aw (i:=4) fT.nd rfl (by first | exact Or.inl rfl | exact Or.inr rfl) (aC T.way_to (lu T) (hr.mono (by decide)) om (aa (am (K:=K) (pv 0) rfl) (aa (ay (ak (K:=K)) (pv 1) af (fun _ _=>rfl)) ad))))
      (ag (au (aF dH (aD (aa af (aa (aF bv (am (K:=K) (pv 3) rfl) (am (K:=K) (pv 3) rfl)) (aa (aE (ax (K:=K)) (by rfl) T.n_len PySem.boot_len (aa (pv 4) ad)) ad)))) (pv 4))))))),?_⟩
    obtain ⟨i,rfl,rfl⟩:=sM hC
    have hs:Vbiraa.step h (.way i)=if Vbiraa.isReach h i=false then (h,[-1]) else (h,0 :: (Vbiraa.delayOf h.net (Vbiraa.way h.net i.toNat):Int) :: ((Vbiraa.way h.net i.toNat).length:Int) :: Vbiraa.nums (Vbiraa.way h.net i.toNat)):=by
      rw [Vbiraa.step,bn (hne rfl)]
      rfl
    rw [hs] at k
    refine ⟨_,rfl,_,rfl,nl,_,_,_,rfl,rfl,SqL.of hnl,aB (j:=0) rfl rfl,n,dn,l,wl,sl,h,i,rfl,N,_,rfl,?_⟩
    cases c1:Vbiraa.isReach h i with
    | false =>
      rw [c1,if_pos rfl] at k
      refine iteT ⟨(by show 1≤sizeLine; decide),fun p hp=>k.new N (ah hp) hp ac⟩
    | true =>
      rw [c1,if_neg (by decide)] at k
      refine iteF ?_
      obtain ⟨j,rfl,hj⟩:=bR c1
      have hwf:=hI.wf
      obtain ⟨xs,a,dx,h1,h2,h3,h4⟩:=N.rs.at_ hj
      refine ⟨_,rfl,n,T.a_Net,dn,_,_,rfl,N.obj,T.cl_Net,T.na_Net_reaches,aG,_,rfl,nl,_,_,_,rfl,rfl,SqL.of hnl,aB (j:=0) rfl rfl,l,_,_,_,rfl,rfl,SqL.of h1,aY h3,?_⟩
      refine ⟨_,rfl,n,T.a_Net,dn,_,_,rfl,N.obj,T.cl_Net,T.na_Net_reaches,aG,_,rfl,nl,_,_,_,rfl,rfl,SqL.of hnl,aB (j:=0) rfl rfl,l,h.net,j,rfl,N.rs,hwf,hj,fun H1 wp s1 hwp hwp1=>?_⟩
      have h4':=s1 _ _ h4
      refine ⟨_,rfl,a,T.a_Reach,dx,_,_,rfl,h4',T.cl_Reach,T.na_Reach_above,g8,_,rfl,a,T.a_Reach,dx,_,_,rfl,h4',T.cl_Reach,T.na_Reach_delay,kG,_,_,rfl,rfl,_,rfl,wp,_,rfl,.inl (SqL.of hwp1),(by show 3≤sizeLine; decide),fun q hq=>?_⟩
      have s2:=ah (o:=.lst [.int 0,.int ((above h.net j:Int) + ((Vbiraa.reachAt h.net j).delay:Int)),.int ((ao (Vbiraa.way h.net j)).length:Int)]) hq
      refine ⟨_,rfl,q,wp,_,_,rfl,rfl,ac,s2 _ _ hwp1,?_,fun p hp=>?_⟩
      · have:=hwf.deep j hj
        unfold depth at this
        rw [aA]
        exact Nat.le_of_lt (aP (by show 3 + (Vbiraa.way h.net j).length < 1000000; omega))
      · have s3:=ah (o:=.lst ([.int 0,.int ((above h.net j:Int) + ((Vbiraa.reachAt h.net j).delay:Int)),.int ((ao (Vbiraa.way h.net j)).length:Int)]++ao (Vbiraa.way h.net j))) hp
        refine k.new N ((s1.trans s2).trans s3) (s1.free (s2.free hp)) (ac.trans ?_)
        rw [Int.toNat_natCast,vK hwf.par hj,aA]
        congr 2
        show _=V.int 0 :: V.int ((above h.net j + (Vbiraa.reachAt h.net j).delay:Nat):Int) :: V.int ((Vbiraa.way h.net j).length:Int) :: aT (Vbiraa.nums (Vbiraa.way h.net j))
        rw [show aT (Vbiraa.nums (Vbiraa.way h.net j))=ao (Vbiraa.way h.net j) by unfold aT Vbiraa.nums; rw [eP],Int.natCast_add]
        rfl
theorem nB (T:Txt K mg):FnOk P w K mg base CX0 5 T.answer_need.f T.answer_need.fd ["net", "numbers", "row"] (spFn T.a_Reach T.a_Net vB):=by
  refine T.answer_need.F.ok iq (fun vs H Q E h=>?_) (fun cdv A outer s H vs Q E hr h=>?_)
  · obtain ⟨n,nl,rl,dn,l,wl,sl,h,nums,rs,c,rfl,_⟩:=h
    rfl
  · obtain ⟨n,nl,rl,dn,l,wl,sl,h,nums,rs,c,rfl,N,hI,hne,hnl,hrl,hrw,hrs,hC,k⟩:=h
    refine ⟨_,(ae (aV (ei (a8 (aL (K:=K) (aC T.is_reach (bQ T) (hr.mono (by decide)) cF (aa (pv 0) (aa (ay (ak (K:=K)) (pv 1) af (fun _ _=>rfl)) ad))) (fun _=>rfl))) (ei (a8 (aL (K:=K) (aC T.is_tick (cD T) (hr.mono (by decide)) dk (aa (ay (ak (K:=K)) (pv 1) af (fun _ _=>rfl)) ad)) (fun _=>rfl))) (dW (a8 (aL (K:=K) (aC T.is_water (iF T) (hr.mono (by decide)) jZ (aa (ay (ak (K:=K)) (pv 1) af (fun _ _=>rfl)) ad)) (fun _=>rfl)))))).pt
      (ag (au (aD (aa (a9 T.c_OUT_OF_RANGE) ad))))
      aH)
      (ae (aw (i:=3) iq.nd rfl (by first | exact Or.inl rfl | exact Or.inr rfl) (aC T.needed (wj T) (hr.mono (by decide)) yE (aa (pv 0) (aa (ay (ak (K:=K)) (pv 1) af (fun _ _=>rfl)) (aa (ay (ak (K:=K)) (pv 1) af (fun _ _=>rfl)) (aa (ay (ak (K:=K)) (pv 1) af (fun _ _=>rfl)) ad))))))
      (ae (aV (aN xU (pv 3) f9 (aQ _))
      (ag (au (aD (aa af (aa af ad)))))
      aH)
      (ag (au (aF dH (aD (aa af (aa af ad))) (pv 3))))))),?_⟩
    obtain ⟨i,t,x,rfl,rfl⟩:=pJ hC
    have hs:Vbiraa.step h (.need i t x)=if (Vbiraa.isReach h i && (Vbiraa.isTick t && Vbiraa.within x 0 Vbiraa.LET))=false then (h,[-1]) else (match Vbiraa.need h i.toNat t.toNat (Vbiraa.whole x.toNat) with | none=>(h,[0,0]) | some q=>(h,0 :: 1 :: Vbiraa.qRow q)):=by
      rw [Vbiraa.step,bn (hne rfl)]
      rfl
    rw [hs] at k
    have bad:(Vbiraa.isReach h i && (Vbiraa.isTick t && Vbiraa.within x 0 Vbiraa.LET))=false→tRet (tLst (kf (tC (V.int (-1))) tNil)) { nx:=fun x H'=>Q V.non H',rt:=Q } (L2.start ["net", "numbers", "row", "water"] [V.ref n,V.ref nl,V.ref rl]) H:=fun z=>by
      rw [if_pos z] at k
      exact ⟨(by show 1≤sizeLine; decide),fun p hp=>k.new N (ah hp) hp ac⟩
    refine ⟨_,rfl,_,rfl,nl,_,_,_,rfl,rfl,SqL.of hnl,aB (j:=0) rfl rfl,n,dn,l,wl,sl,h,i,rfl,N,_,rfl,?_⟩
    cases c1:Vbiraa.isReach h i with
    | false=>exact iteT (iteT (bad (by rw [c1,Bool.false_and])))
    | true =>
    refine iteF ⟨_,rfl,nl,_,_,_,rfl,rfl,SqL.of hnl,aB (j:=1) rfl rfl,t,rfl,_,rfl,?_⟩
    cases c2:Vbiraa.isTick t with
    | false=>exact iteT (iteT (bad (by rw [c1,c2,Bool.false_and,Bool.true_and])))
    | true =>
    refine iteF ⟨_,rfl,nl,_,_,_,rfl,rfl,SqL.of hnl,aB (j:=2) rfl rfl,x,rfl,_,rfl,?_⟩
    cases c3:Vbiraa.within x 0 Vbiraa.LET with
    | false=>exact iteT (bad (by rw [c1,c2,c3]; rfl))
    | true =>
    refine iteF ?_
    rw [c1,c2,c3,if_neg (by decide)] at k
    obtain ⟨j,rfl,hj⟩:=bR c1
    obtain ⟨u,rfl,hu⟩:=cE c2
    obtain ⟨y,rfl⟩:∃ y:Nat,x=(y:Int):=⟨x.toNat,by have:=(eT c3).1; omega⟩
    simp only [Int.toNat_natCast] at k
    refine ⟨_,rfl,_,rfl,nl,_,_,_,rfl,rfl,SqL.of hnl,aB (j:=0) rfl rfl,_,rfl,nl,_,_,_,rfl,rfl,SqL.of hnl,aB (j:=1) rfl rfl,_,rfl,nl,_,_,_,rfl,rfl,SqL.of hnl,aB (j:=2) rfl rfl,n,dn,l,wl,sl,h,j,u,y,rfl,N,hI.wf,hI.partsB,hj,(by have:=(eT c3).2; have:(y:Int)≤1000000:=this; omega),fun hno H1 s1=>?_,fun q hq H1 wp s1 hwp hwp1=>?_⟩
    · rw [hno] at k
      refine ⟨_,rfl,rfl,_,rfl,iteT ⟨(by show 2≤sizeLine; decide),fun p hp=>k.new N (s1.trans (ah hp)) (s1.free hp) ac⟩⟩
    · rw [hq] at k
      refine ⟨_,rfl,rfl,_,rfl,iteF ⟨(by show 2≤sizeLine; decide),fun e he=>?_⟩⟩
      have s2:=ah (o:=.lst [.int 0,.int 1]) he
      refine ⟨_,rfl,e,wp,_,_,rfl,rfl,ac,s2 _ _ hwp1,(by show 4≤sizeLine; decide),fun p hp=>?_⟩
      have s3:=ah (o:=.lst ([.int 0,.int 1]++qV q)) hp
      exact k.new N ((s1.trans s2).trans s3) (s1.free (s2.free hp)) ac
end
end CN
namespace CN
open PySem PySem.Spec PyProof.Rows L2
def wJ (h:Vbiraa.House) (t:Nat) (vs:List Nat) (j:Nat):List Nat:=(List.range 60).map fun k=>if t≤k∧k < t + j then vs.getD (k - t) 0 else Vbiraa.letAt h k
theorem yO (h:Vbiraa.House) (t:Nat) (vs:List Nat):wJ h t vs 0=(List.range 60).map (Vbiraa.letAt h):=by
  unfold wJ
  refine List.map_congr_left fun k _=>?_
  rw [if_neg (by omega)]
theorem w9 (h:Vbiraa.House) (t:Nat) (vs:List Nat) (j:Nat):(wJ h t vs j).length=60:=by
  unfold wJ
  rw [List.length_map,List.length_range]
theorem yP (h:Vbiraa.House) {t:Nat} {vs:List Nat} {j v:Nat} (hv:vs[j]?=some v) (hb:t + j < 60):(wJ h t vs j).set (t + j) v=wJ h t vs (j + 1):=by
  refine List.ext_getElem? fun k=>?_
  by_cases c:k=t + j
  · subst c
    rw [List.getElem?_set_self (by rw [w9]; exact hb)]
    unfold wJ
    rw [List.getElem?_map,List.getElem?_range hb]
    show some v=some (if t≤t + j∧t + j < t + (j + 1) then vs.getD (t + j - t) 0 else Vbiraa.letAt h (t + j))
    rw [if_pos (by omega),show t + j - t=j by omega,List.getD_eq_getElem?_getD,hv]
    rfl
  · rw [List.getElem?_set_ne (fun z=>c z.symm)]
    unfold wJ
    rw [List.getElem?_map,List.getElem?_map]
    by_cases d:k < 60
    · rw [List.getElem?_range d]
      show some (if t≤k∧k < t + j then vs.getD (k - t) 0 else Vbiraa.letAt h k)=some (if t≤k∧k < t + (j + 1) then vs.getD (k - t) 0 else Vbiraa.letAt h k)
      by_cases e:t≤k∧k < t + j
      · rw [if_pos e,if_pos (by omega)]
      · rw [if_neg e,if_neg (by omega)]
    · rw [List.getElem?_eq_none (by rw [List.length_range]; omega)]
      rfl
theorem wJ_put (h:Vbiraa.House) (t:Nat) (vs:List Nat):wJ h t vs vs.length=Vbiraa.put h.lets t vs:=rfl
theorem tq {h:Vbiraa.House} (hne:h.net≠[]) (t:Nat) (vs:List Nat):waters { h with lets:=Vbiraa.put h.lets t vs }=Vbiraa.put h.lets t vs:=by
  unfold waters
  show (if h.net.isEmpty=true then [] else _)=_
  rw [if_neg (by rw [List.isEmpty_iff]; exact hne)]
  refine List.ext_getElem? fun k=>?_
  rw [List.getElem?_map]
  by_cases d:k < 60
  · rw [List.getElem?_range d]
    show some ((Vbiraa.put h.lets t vs).getD k 0)=_
    rw [List.getD_eq_getElem?_getD]
    have:k < (Vbiraa.put h.lets t vs).length:=by
      unfold Vbiraa.put
      rw [List.length_map,List.length_range]
      exact d
    rw [List.getElem?_eq_getElem this]
    rfl
  · rw [List.getElem?_eq_none (by rw [List.length_range]; omega),List.getElem?_eq_none (by unfold Vbiraa.put; rw [List.length_map,List.length_range]; show 60≤k; omega)]
    rfl
theorem cG {h:Vbiraa.House} (hne:h.net≠[]):waters h=(List.range 60).map (Vbiraa.letAt h):=by
  unfold waters
  rw [if_neg (by rw [List.isEmpty_iff]; exact hne)]
theorem jw {l:List Int} {f:Int→Bool}:(l.map f).all id=l.all f:=by
  rw [List.all_map]
  rfl
theorem bC.apart {CR CN n dn l wl sl:Addr} {H:Hp} {h:Vbiraa.House} (N:bC CR CN H n h dn l wl sl) (hne:h.net≠[]):l≠wl∧sl≠wl∧n≠wl:=by
  have w60:(ao (waters h)).length=60:=by rw [aA,cG hne,List.length_map,List.length_range]
  refine ⟨?_,?_,?_⟩
  · intro z
    obtain ⟨as,h1,h2,_⟩:=N.rs.ex
    rw [z,N.ws] at h1
    have e:ao (waters h)=as.map V.ref:=HO.lst.inj (Option.some.inj h1)
    cases as with
    | nil =>
      rw [e] at w60
      cases w60
    | cons a as =>
      cases ew:waters h with
      | nil =>
        rw [ew] at w60
        cases w60
      | cons x r =>
        rw [ew] at e
        cases e
  · intro z
    obtain ⟨as,h1,h2,_⟩:=N.ss.ex
    rw [z,N.ws] at h1
    have e:ao (waters h)=as.map V.ref:=HO.lst.inj (Option.some.inj h1)
    cases as with
    | nil =>
      rw [e] at w60
      cases w60
    | cons a as =>
      cases ew:waters h with
      | nil =>
        rw [ew] at w60
        cases w60
      | cons x r =>
        rw [ew] at e
        cases e
  · exact bL N.obj N.ws (by intro z; cases z)
theorem bC.water {CR CN n dn l wl sl:Addr} {H H':Hp} {h g:Vbiraa.House} (N:bC CR CN H n h dn l wl sl) (hne:h.net≠[]) (kp:∀ b o,H b=some o→b≠wl→H' b=some o) (hw:H' wl=some (.lst (ao (waters g)))) (e1:g.net=h.net) (e2:g.settings=h.settings):bC CR CN H' n g dn l wl sl:=by
  obtain ⟨a1,a2,a3⟩:=N.apart hne
  refine ⟨kp _ _ N.obj a3,?_,hw,?_⟩
  · rw [e1]
    obtain ⟨as,h1,h2,h3⟩:=N.rs.ex
    refine ⟨as,kp _ _ h1 a1,h2,fun i a e=>?_⟩
    obtain ⟨dx,hx⟩:=h3 i a e
    exact ⟨dx,kp _ _ hx (bL hx N.ws (by intro z; cases z))⟩
  · rw [e2]
    obtain ⟨as,h1,h2,h3⟩:=N.ss.ex
    exact ⟨as,kp _ _ h1 a2,h2,fun i a x q q'=>kp _ _ (h3 i a x q q') (bL (h3 i a x q q') N.ws (by intro z; cases z))⟩
section
variable {P:Program} {w:World} {K:PySem.W.Frag} {mg:Str→Option Value} {base:Heap}
theorem oN (T:Txt K mg):FnOk P w K mg base CX0 2 T.answer_let.f T.answer_let.fd ["net", "numbers", "row"] (spFn T.a_Reach T.a_Net cLet):=by
  refine T.answer_let.F.ok cj (fun vs H Q E h=>?_) (fun cdv A outer s H vs Q E hr h=>?_)
  · obtain ⟨n,nl,rl,dn,l,wl,sl,h,nums,rs,c,rfl,_⟩:=h
    rfl
  · obtain ⟨n,nl,rl,dn,l,wl,sl,h,nums,rs,c,rfl,N,hI,hne0,hnl,hrl,hrw,hrs,hC,k⟩:=h
    refine ⟨_,(ae (aw (i:=3) cj.nd rfl (by first | exact Or.inl rfl | exact Or.inr rfl) (ay (ak (K:=K)) (pv 1) af (fun _ _=>rfl)))
      (ae (aV (ei (a8 (aL (K:=K) (aC T.is_tick (cD T) (hr.mono (by decide)) dk (aa (pv 3) ad)) (fun _=>rfl))) (ei (aN ku (aE (ax (K:=K)) (by rfl) T.n_len PySem.boot_len (aa (pv 2) ad)) (aF dg (a9 T.c_TICKS) (pv 3)) (aQ _)) (dW (a8 (aL (K:=K) (aE (mB (K:=K) rfl) (by rfl) T.n_all ji (aa (gv (own:=[("water",4)]) rfl cj.nd (bW (pv 2)) (bh (N:=["net", "numbers", "row", "tick", "water", "k"]) (sc:=aj eI) (by decide +kernel)) (fun _ _ _ _ _=>(aI (i:=4) cj.nd rfl (by first | exact Or.inl rfl | exact Or.inr rfl))) (fun _ _ _ _ _=>bJ) (fun _ _ _ _ _=>(aC T.is_water (iF T) (hr.mono (by decide)) jZ (aa (pv 4) ad)))) ad)) (fun _=>rfl)))))).pt
      (ag (au (aD (aa (a9 T.c_OUT_OF_RANGE) ad))))
      aH)
      (ae (bT PassesOwn.never rfl (jd rfl T.n_enumerate (aa (pv 2) ad)) (d7 (K:=K) (n:=2) rfl (bd (aI (i:=5) cj.nd rfl (by first | exact Or.inl rfl | exact Or.inr rfl)) (bd (aI (i:=4) cj.nd rfl (by first | exact Or.inl rfl | exact Or.inr rfl)) d6)))
      (ag (xL (pv 4) (xP (am (K:=K) (pv 0) rfl) (aF bv (pv 3) (pv 5)) rh))))
      (ag (au (aD (aa af ad))))))),?_⟩
    obtain ⟨t,rfl,rfl⟩:=sP hC
    have hne:=hne0 rfl
    have hs:Vbiraa.step h (.let_ t rs)=if (Vbiraa.isTick t && (Vbiraa.within (t + (rs.length:Int)) 0 (Vbiraa.TICKS:Int) && rs.all fun x=>Vbiraa.within x 0 Vbiraa.LET))=false then (h,[-1]) else ({ h with lets:=Vbiraa.put h.lets t.toNat (rs.map Int.toNat) },[0]):=by
      rw [Vbiraa.step,bn hne]
      rfl
    rw [hs] at k
    refine ⟨_,rfl,nl,_,_,_,rfl,rfl,SqL.of hnl,aB (j:=0) rfl rfl,?_⟩
    have bad:∀ {H1:Hp} {v1 v2 v3:Option V},Same H H1→(Vbiraa.isTick t && (Vbiraa.within (t + (rs.length:Int)) 0 (Vbiraa.TICKS:Int) && rs.all fun x=>Vbiraa.within x 0 Vbiraa.LET))=false→tRet (tLst (kf (tC (V.int (-1))) tNil)) { nx:=fun x H'=>Q V.non H',rt:=Q } [some (V.ref n),some (V.ref nl),some (V.ref rl),v1,v2,v3] H1:=fun s1 z=>by
      rw [if_pos z] at k
      exact ⟨(by show 1≤sizeLine; decide),fun p hp=>k.new N (s1.trans (ah hp)) (s1.free hp) ac⟩
    refine ⟨_,rfl,t,rfl,_,rfl,?_⟩
    cases c1:Vbiraa.isTick t with
    | false=>exact iteT (iteT (bad (Same.refl _) (by rw [c1,Bool.false_and])))
    | true =>
    obtain ⟨u,rfl,hu⟩:=cE c1
    refine iteF ⟨_,rfl,rl,_,rfl,.inl (SqL.of hrl),_,rfl,_,_,rfl,rfl,_,_,rfl,rfl,_,rfl,?_⟩
    have e1:decide ((60:Int) - (u:Int) < ((aT rs).length:Int))=!Vbiraa.within ((u:Int) + (rs.length:Int)) 0 (Vbiraa.TICKS:Int):=by
      rw [bt]
      unfold Vbiraa.within
      rw [Bool.eq_iff_iff,Bool.not_eq_true',decide_eq_true_eq,Bool.and_eq_false_iff,decide_eq_false_iff_not,decide_eq_false_iff_not]
      show _↔_∨¬ ((u:Int) + (rs.length:Int))≤60
      omega
    refine (congrArg (fun b=>if b=true then _ else _) e1).mpr ?_
    cases c2:Vbiraa.within ((u:Int) + (rs.length:Int)) 0 (Vbiraa.TICKS:Int) with
    | false=>exact iteT (iteT (bad (Same.refl _) (by rw [c1,c2]; rfl)))
    | true =>
    have hlen:u + rs.length≤60:=by
      have:(u:Int) + (rs.length:Int)≤60:=(eT c2).2
      omega
    refine iteF ⟨_,rfl,rl,rfl,⟨_,SqL.of hrl⟩,fun D hD=>?_⟩
    refine bY (xs:=aT rs) (rs.map fun x=>V.bl (Vbiraa.within x 0 Vbiraa.LET)) (by rw [bt,List.length_map]) hD (SqL.of hrl) (aP (by rw [bt]; omega)) ?_ ?_
    · rintro i x y H2 hx hy s2 Q' kq
      unfold aT at hx
      rw [List.getElem?_map] at hx hy
      obtain ⟨z,hz,rfl⟩:=Option.map_eq_some_iff.mp hx
      rw [hz] at hy
      have hy:=Option.some.inj hy
      subst hy
      exact ⟨rfl,_,rfl,z,rfl,kq _ (Same.refl _)⟩
    · rintro H2 s2 hD2
      refine ⟨D,rs.map fun x=>Vbiraa.within x 0 Vbiraa.LET,rfl,?_,_,rfl,?_⟩
      · rw [List.map_map]
        exact SqL.of hD2
      rw [jw]
      cases c3:(rs.all fun x=>Vbiraa.within x 0 Vbiraa.LET) with
      | false=>exact iteT (bad s2 (by rw [c1,c2,c3]; rfl))
      | true =>
      refine iteF ?_
      rw [c1,c2,c3,if_neg (by decide),Int.toNat_natCast] at k
      have hpos:∀ x∈rs,0≤x∧x≤1000000:=fun x hx=>eT (List.all_eq_true.mp c3 x hx)
      have N2:=N.same s2
      have hws:ao (waters h)=ao (wJ h u (rs.map Int.toNat) 0):=by rw [cG hne,yO]
      obtain ⟨ap1,ap2,ap3⟩:=N.apart hne
      refine ⟨_,rfl,rl,_,rfl,SqL.of (s2 _ _ hrl),iT (K:=K) (a:=rl) (xs:=aT rs)
        (fun j σ H'=>(∀ b o,H b=some o→b≠wl→H' b=some o)∧H' wl=some (.lst (ao (wJ h u (rs.map Int.toNat) j)))∧∃ v1 v2:Option V,σ=[some (.ref n),some (.ref nl),some (.ref rl),some (.int u),v1,v2])
        ⟨fun b o e _=>s2 b o e,by rw [←hws]; exact s2 _ _ N.ws,_,_,rfl⟩ (fun j σ H' _ p=>SqL.of (p.1 _ _ hrl hrw)) ?_ ?_⟩
      · rintro j x σ H' tt hx ⟨kp,hw,v1,v2,rfl⟩ htt
        unfold aT at hx
        rw [List.getElem?_map] at hx
        obtain ⟨z,hz,rfl⟩:=Option.map_eq_some_iff.mp hx
        have hj:j < rs.length:=(List.getElem?_eq_some_iff.mp hz).1
        obtain ⟨z0,z1⟩:=hpos z (List.mem_of_getElem? hz)
        have st:=ah (o:=.tup [.int (j:Nat),V.int z]) htt
        have N3:=st _ _ (kp _ _ N.obj ap3)
        have hw3:=st _ _ hw
        refine ⟨tt,_,rfl,SqT.of ac,rfl,_,_,rfl,_,_,rfl,rfl,?_⟩
        refine ⟨_,rfl,_,rfl,n,T.a_Net,dn,_,_,rfl,N3,T.cl_Net,T.na_Net_waters,dY,_,rfl,_,rfl,_,_,rfl,rfl,wl,_,_,u + j,rfl,rfl,hw3,?_,?_⟩
        · unfold ixN
          rw [aA,w9,if_pos (by omega),if_pos (by omega)]
          congr 1
        · refine ⟨fun b o e nb=>?_,?_,_,_,rfl⟩
          · rw [ai nb]
            exact st _ _ (kp b o e nb)
          · rw [ac,←yP h (v:=z.toNat) (by rw [List.getElem?_map,hz]; rfl) (by omega)]
            unfold ao
            rw [List.map_set]
            congr 3
            show V.int z=V.int ((z.toNat:Nat):Int)
            rw [Int.toNat_of_nonneg z0]
      · rintro σ H' ⟨kp,hw,v1,v2,rfl⟩
        refine ⟨(by show 1≤sizeLine; decide),fun p hp=>?_⟩
        have st:=ah (o:=.lst [.int 0]) hp
        rw [bt,show rs.length=(rs.map Int.toNat).length by rw [List.length_map],wJ_put,←tq hne] at hw
        have hpn:H p=none:=by
          cases q:H p with
          | none=>rfl
          | some o =>
            by_cases z:p=wl
            · rw [z,hw] at hp
              cases hp
            · rw [kp p o q z] at hp
              cases hp
        refine k _ p dn l wl sl ?_ (.inl rfl) (.inl rfl) (.inl rfl) (fun b o e _ nb=>st _ _ (kp b o e nb)) hpn ac
        exact N.water hne (fun b o e nb=>st _ _ (kp b o e nb)) (st _ _ hw) rfl rfl
end
end CN
namespace CN
open PySem PySem.Spec PyProof.Rows L2
def cNet:List Int→List Int→Option Vbiraa.Call
  | [],t=>if (t.all fun x=>decide (0≤x))=true then some (.net (t.map Int.toNat)) else none
  | _,_=>none
theorem sO {a b:List Int} {c:Vbiraa.Call} (h:cNet a b=some c):a=[]∧c=.net (b.map Int.toNat)∧∀ x∈b,0≤x:=by
  unfold cNet at h
  split at h
  · split at h
    · rename_i e
      cases h
      exact ⟨rfl,rfl,fun x hx=>of_decide_eq_true (List.all_eq_true.mp e x hx)⟩
    · cases h
  · cases h
theorem gh.snoc {H:Hp} {sl ql tp:Addr} {ss:List Vbiraa.Setting} {s:Vbiraa.Setting} {xs:List V} (S:gh H sl ss) (h1:H sl=some (.lst xs)) (hq:H ql=some (.lst (xs++[.ref tp]))) (ht:H tp=some (.tup [.int s.reach,.int s.tick,.int s.part])):gh H ql (ss++[s]):=by
  obtain ⟨as,g1,g2,g3⟩:=S.ex
  have e:xs=as.map V.ref:=by
    rw [h1] at g1
    exact HO.lst.inj (Option.some.inj g1)
  subst e
  refine ⟨as++[tp],by rw [hq,List.map_append]; rfl,by rw [List.length_append,List.length_append,g2]; rfl,fun i a q e e'=>?_⟩
  by_cases hi:i < as.length
  · rw [List.getElem?_append_left hi] at e
    rw [List.getElem?_append_left (by omega)] at e'
    exact g3 i a q e e'
  · rw [List.getElem?_append_right (by omega)] at e
    rw [List.getElem?_append_right (by omega),←g2] at e'
    cases z:i - as.length with
    | zero =>
      rw [z] at e e'
      have e1:tp=a:=Option.some.inj e
      have e2:s=q:=Option.some.inj e'
      subst e1 e2
      exact ht
    | succ m =>
      rw [z] at e
      cases e
theorem ww (l:List Int) (h:∀ x∈l,0≤x):aT l=ao (l.map Int.toNat):=by
  unfold aT ao
  rw [List.map_map]
  refine List.map_congr_left fun x hx=>?_
  show V.int x=V.int ((x.toNat:Nat):Int)
  rw [Int.toNat_of_nonneg (h x hx)]
section
variable {P:Program} {w:World} {K:PySem.W.Frag} {mg:Str→Option Value} {base:Heap}
theorem nE (T:Txt K mg):FnOk P w K mg base CX0 3 T.answer_gate.f T.answer_gate.fd ["net", "numbers", "row"] (spFn T.a_Reach T.a_Net vD):=by
  refine T.answer_gate.F.ok fe (fun vs H Q E h=>?_) (fun cdv A outer s H vs Q E hr h=>?_)
  · obtain ⟨n,nl,rl,dn,l,wl,sl,h,nums,rs,c,rfl,_⟩:=h
    rfl
  · obtain ⟨n,nl,rl,dn,l,wl,sl,h,nums,rs,c,rfl,N,hI,hne0,hnl,hrl,hrw,hrs,hC,k⟩:=h
    refine ⟨_,(ae (aw (i:=3) fe.nd rfl (by first | exact Or.inl rfl | exact Or.inr rfl) (ay (ak (K:=K)) (pv 1) af (fun _ _=>rfl)))
      (ae (aV (ei (a8 (aL (K:=K) (aC T.is_reach (bQ T) (hr.mono (by decide)) cF (aa (pv 0) (aa (pv 3) ad))) (fun _=>rfl))) (ei (a8 (aL (K:=K) (aC T.is_tick (cD T) (hr.mono (by decide)) dk (aa (ay (ak (K:=K)) (pv 1) af (fun _ _=>rfl)) ad)) (fun _=>rfl))) (dW (a8 (fk cP cP af (ay (ak (K:=K)) (pv 1) af (fun _ _=>rfl)) af))))).pt
      (ag (au (aD (aa (a9 T.c_OUT_OF_RANGE) ad))))
      aH)
      (ae (aw (i:=4) fe.nd rfl (by first | exact Or.inl rfl | exact Or.inr rfl) (aF dH (am (K:=K) (pv 0) rfl) (aD (aa (gU (aa (pv 3) (aa (ay (ak (K:=K)) (pv 1) af (fun _ _=>rfl)) (aa (ay (ak (K:=K)) (pv 1) af (fun _ _=>rfl)) ad)))) ad))))
      (ae (aV (a8 (aL (K:=K) (aC T.parts_fit (qj T) (hr.mono (by decide)) sR (aa (am (K:=K) (pv 0) rfl) (aa (pv 4) (aa (am (K:=K) (ay (ak (K:=K)) (am (K:=K) (pv 0) rfl) (pv 3) (fun _ _=>rfl)) rfl) ad)))) (fun _=>rfl)))
      (ag (au (aD (aa (a9 T.c_TOO_MUCH_PARTED) ad))))
      aH)
      (ae (aV (aN ku (aE (ax (K:=K)) (by rfl) T.n_len PySem.boot_len (aa (pv 4) ad)) (a9 T.c_MOST_SETTINGS) (aQ _))
      (ag (au (aD (aa (a9 T.c_TOO_MANY_SETTINGS) ad))))
      aH)
      (ae (bU (pv 0) (pv 4) rfl)
      (ag (au (aD (aa af ad)))))))))),?_⟩
    obtain ⟨i,t,pt,rfl,rfl⟩:=pL hC
    have hne:=hne0 rfl
    have hs:Vbiraa.step h (.gate i t pt)=if (Vbiraa.isReach h i && (Vbiraa.isTick t && Vbiraa.within pt 0 100))=false then (h,[-1]) else
        if Vbiraa.gatesOk { h with settings:=h.settings++[{ reach:=i.toNat,tick:=t.toNat,part:=pt.toNat }] } (Vbiraa.reachAt h.net i.toNat).parent=false then (h,[-7]) else if Vbiraa.SETTINGS≤h.settings.length then (h,[-6]) else ({ h with settings:=h.settings++[{ reach:=i.toNat,tick:=t.toNat,part:=pt.toNat }] },[0]):=by
      rw [Vbiraa.step,bn hne]
      rfl
    rw [hs] at k
    refine ⟨_,rfl,nl,_,_,_,rfl,rfl,SqL.of hnl,aB (j:=0) rfl rfl,?_⟩
    have bad:(Vbiraa.isReach h i && (Vbiraa.isTick t && Vbiraa.within pt 0 100))=false→∀ v4:Option V,tRet (tLst (kf (tC (V.int (-1))) tNil)) { nx:=fun x H'=>Q V.non H',rt:=Q } [some (V.ref n),some (V.ref nl),some (V.ref rl),some (V.int i),v4] H:=fun z v4=>by
      rw [if_pos z] at k
      exact ⟨(by show 1≤sizeLine; decide),fun p hp=>k.new N (ah hp) hp ac⟩
    refine ⟨_,rfl,_,rfl,n,dn,l,wl,sl,h,i,rfl,N,_,rfl,?_⟩
    cases c1:Vbiraa.isReach h i with
    | false=>exact iteT (iteT (bad (by rw [c1,Bool.false_and]) none))
    | true =>
    refine iteF ⟨_,rfl,nl,_,_,_,rfl,rfl,SqL.of hnl,aB (j:=1) rfl rfl,t,rfl,_,rfl,?_⟩
    cases c2:Vbiraa.isTick t with
    | false=>exact iteT (iteT (bad (by rw [c1,c2,Bool.false_and,Bool.true_and]) none))
    | true =>
    refine iteF ⟨_,rfl,nl,_,_,_,rfl,rfl,SqL.of hnl,aB (j:=2) rfl rfl,_,_,rfl,rfl,_,rfl,?_⟩
    have hwi:Vbiraa.within pt 0 100=(decide ((0:Int)≤pt) && decide (pt≤100)):=rfl
    cases c3:decide ((0:Int)≤pt) with
    | false =>
      refine iteF ⟨_,rfl,iteT (bad ?_ none)⟩
      rw [c1,c2,hwi,c3]
      rfl
    | true =>
    refine iteT ⟨_,_,rfl,rfl,_,rfl,?_⟩
    cases c4:decide (pt≤(100:Int)) with
    | false =>
      refine iteT (bad ?_ none)
      rw [c1,c2,hwi,c3,c4]
      rfl
    | true =>
    refine iteF ?_
    rw [c1,c2,hwi,c3,c4,if_neg (by decide)] at k
    obtain ⟨j,rfl,hj⟩:=bR c1
    obtain ⟨u,rfl,hu⟩:=cE c2
    obtain ⟨y,rfl⟩:∃ y:Nat,pt=(y:Int):=⟨pt.toNat,by have:=of_decide_eq_true c3; omega⟩
    have hy:y≤100:=by
      have:=of_decide_eq_true c4
      omega
    simp only [Int.toNat_natCast] at k
    have hticks:∀ q∈h.settings++[({ reach:=j,tick:=u,part:=y }:Vbiraa.Setting)],q.tick < 60:=fun q hq=>by
      rcases List.mem_append.mp hq with hq | hq
      · exact (hI.sets q hq).2.1
      · rw [List.mem_singleton.mp hq]
        exact hu
    rw [nY (h:={ h with settings:=h.settings++[{ reach:=j,tick:=u,part:=y }] }) hticks] at k
    obtain ⟨as,g1,g2,g3⟩:=N.ss.ex
    refine ⟨_,rfl,n,T.a_Net,dn,_,_,rfl,N.obj,T.cl_Net,T.na_Net_settings,dj,_,rfl,_,rfl,nl,_,_,_,rfl,rfl,SqL.of hnl,aB (j:=1) rfl rfl,_,rfl,nl,_,_,_,rfl,rfl,SqL.of hnl,aB (j:=2) rfl rfl,(by show 3≤sizeLine; decide),fun tp htp=>?_⟩
    have s1:=ah (o:=.tup [.int (j:Int),.int (u:Int),.int (y:Int)]) htp
    refine ⟨(by show 1≤sizeLine; decide),fun e1 he1=>?_⟩
    have s2:=ah (o:=.lst [.ref tp]) he1
    refine ⟨sl,e1,_,_,rfl,rfl,s2 _ _ (s1 _ _ g1),ac,?_,fun ql hql=>?_⟩
    · rw [List.length_map,g2]
      have:=hI.setN
      exact Nat.le_of_lt (aP (by show h.settings.length + 1 < 1000000; omega))
    have s3:=ah (o:=.lst (as.map V.ref++[.ref tp])) hql
    have sA:=(s1.trans s2).trans s3
    have S3:gh _ ql (h.settings++[{ reach:=j,tick:=u,part:=y }]):=(N.ss.same sA).snoc (sA _ _ g1) ac (s3 _ _ (s2 _ _ ac))
    obtain ⟨xs,a,dx,h1,h2,h3,h4⟩:=(N.rs.same sA).at_ hj
    have NA:=N.same sA
    have hqn:H ql=none:=(s1.trans s2).free hql
    refine ⟨_,rfl,n,T.a_Net,dn,_,_,rfl,NA.obj,T.cl_Net,T.na_Net_reaches,aG,_,rfl,_,rfl,n,T.a_Net,dn,_,_,rfl,NA.obj,T.cl_Net,T.na_Net_reaches,aG,_,rfl,l,_,_,_,rfl,rfl,SqL.of h1,aY h3,a,T.a_Reach,dx,_,_,rfl,h4,T.cl_Reach,T.na_Reach_begins,cW,
      l,ql,h.net,h.settings++[{ reach:=j,tick:=u,part:=y }],(Vbiraa.reachAt h.net j).parent,rfl,NA.rs,S3,by have:=hI.wf.len; omega,fun H4 s4=>⟨_,rfl,?_⟩⟩
    have sB:=sA.trans s4
    rw [show fitN h.net (h.settings++[{ reach:=j,tick:=u,part:=y }]) (Vbiraa.reachAt h.net j).parent 60=fitH { h with settings:=h.settings++[{ reach:=j,tick:=u,part:=y }] } (Vbiraa.reachAt h.net j).parent from rfl]
    cases c5:fitH { h with settings:=h.settings++[{ reach:=j,tick:=u,part:=y }] } (Vbiraa.reachAt h.net j).parent with
    | false =>
      rw [c5,if_pos rfl] at k
      exact iteT ⟨(by show 1≤sizeLine; decide),fun p hp=>k.new N (sB.trans (ah hp)) (sB.free hp) ac⟩
    | true =>
    rw [c5,if_neg (by decide)] at k
    have hql4:=s4 ql _ ac
    refine iteF ⟨_,rfl,ql,_,rfl,.inl (SqL.of hql4),_,_,rfl,rfl,_,rfl,?_⟩
    have e6:decide ((60:Int) < ((as.map V.ref++[V.ref tp]).length:Int))=decide (Vbiraa.SETTINGS≤h.settings.length):=by
      rw [List.length_append,List.length_map,g2]
      refine decide_eq_decide.mpr ?_
      show (60:Int) < ((h.settings.length + 1:Nat):Int)↔60≤h.settings.length
      omega
    refine (congrArg (fun b=>if b=true then _ else _) e6).mpr ?_
    refine ite2 (fun c6=>?_) (fun c6=>?_)
    · have c6:=of_decide_eq_true c6
      rw [if_pos c6] at k
      exact ⟨(by show 1≤sizeLine; decide),fun p hp=>k.new N (sB.trans (ah hp)) (sB.free hp) ac⟩
    · have c6:¬ Vbiraa.SETTINGS≤h.settings.length:=fun z=>c6 (decide_eq_true z)
      rw [if_neg c6] at k
      have NB:=N.same sB
      refine ⟨_,rfl,_,rfl,n,T.a_Net,dn,_,rfl,NB.obj,T.cl_Net,T.na_Net_settings,by show 3 < 1000; decide,?_⟩
      refine ⟨(by show 1≤sizeLine; decide),fun p hp=>?_⟩
      have st:=ah (o:=.lst [.int 0]) hp
      have kp:∀ b o,H4 b=some o→b≠n→(upd (upd H4 n (.ins T.a_Net dn (putF "settings" (.ref ql) (nf l wl sl)))) p (.lst [.int 0])) b=some o:=fun b o e nb=>st _ _ (by rw [ai nb]; exact e)
      have hpn:H p=none:=by
        cases q:H p with
        | none=>rfl
        | some o =>
          by_cases z:p=n
          · rw [z,ac] at hp
            cases hp
          · rw [ai z,sB p o q] at hp
            cases hp
      refine k _ p dn l wl ql ⟨st _ _ ?_,?_,kp _ _ NB.ws (bL NB.ws NB.obj (by intro z; cases z)),?_⟩ (.inl rfl) (.inl rfl) (.inr hqn) (fun b o e nb _=>kp b o (sB b o e) nb) hpn ac
      · rw [ac]
        rfl
      · obtain ⟨bs,k1,k2,k3⟩:=NB.rs.ex
        have hnn:∀ {b:Addr} {xs:List V},H4 b=some (.lst xs)→b≠n:=fun e=>bL e NB.obj (by intro z; cases z)
        refine ⟨bs,kp _ _ k1 (hnn k1),k2,fun i b e=>?_⟩
        obtain ⟨d2,hd2⟩:=k3 i b e
        refine ⟨d2,kp _ _ hd2 (bL hd2 NB.obj ?_)⟩
        intro z
        have z1:=HO.ins.inj z
        have z2:=congrArg List.length z1.2.2
        exact absurd z2 (by show ¬ 9=3; decide)
      · obtain ⟨bs,k1,k2,k3⟩:=(S3.same s4).ex
        refine ⟨bs,kp _ _ k1 (bL k1 NB.obj (by intro z; cases z)),k2,fun i b q e e'=>?_⟩
        exact kp _ _ (k3 i b q e e') (bL (k3 i b q e e') NB.obj (by intro z; cases z))
def yZ (C:Addr):Sp:=fun vs H Q _=>∃ (x dx:Addr),vs=[.ref x]∧H x=some (.ins C dx [])∧∀ (H':Hp) (l wl sl:Addr),H' x=some (.ins C dx (nf l wl sl))→H' l=some (.lst [])→H' wl=some (.lst [])→H' sl=some (.lst [])→(∀ b o,H b=some o→b≠x→H' b=some o)→Q .non H'
theorem lW (T:Txt K mg):FnOk P w K mg base CX0 1 T.Net_init.f T.Net_init.fd ["self"] (yZ T.a_Net):=by
  refine T.Net_init.F.ok rn (fun vs H Q E h=>?_) (fun cdv A outer s H vs Q E hr h=>?_)
  · obtain ⟨x,dx,rfl,_⟩:=h
    rfl
  · obtain ⟨x,dx,rfl,hx,k⟩:=h
    refine ⟨_,(ae (bU (pv 0) (aD ad) rfl)
      (ae (bU (pv 0) (aD ad) rfl)
      (ag (bU (pv 0) (aD ad) rfl)))),?_⟩
    refine ⟨Nat.zero_le _,fun l hl=>?_⟩
    have nlx:l≠x:=(aq hx hl).symm
    refine ⟨_,rfl,x,T.a_Net,dx,_,rfl,by rw [ai nlx.symm]; exact hx,T.cl_Net,T.na_Net_reaches,by decide,?_⟩
    refine ⟨Nat.zero_le _,fun wl hwl=>?_⟩
    have nwx:wl≠x:=(aq ac hwl).symm
    refine ⟨_,rfl,x,T.a_Net,dx,_,rfl,by rw [ai nwx.symm]; exact ac,T.cl_Net,T.na_Net_waters,by show 1 < 1000; decide,?_⟩
    refine ⟨Nat.zero_le _,fun sl hsl=>?_⟩
    have nsx:sl≠x:=(aq ac hsl).symm
    refine ⟨_,rfl,x,T.a_Net,dx,_,rfl,by rw [ai nsx.symm]; exact ac,T.cl_Net,T.na_Net_settings,by show 2 < 1000; decide,?_⟩
    have nwl:wl≠l:=fun z=>by
      rw [z,ai nlx,ac] at hwl
      cases hwl
    have nsl:sl≠l:=fun z=>by
      rw [z,ai nlx,ai nwl.symm,ai nlx,ac] at hsl
      cases hsl
    have nsw:sl≠wl:=fun z=>by
      rw [z,ai nwx,ac] at hsl
      cases hsl
    refine k _ l wl sl ac ?_ ?_ ?_ ?_
    · rw [ai nlx,ai nsl.symm,ai nlx,ai nwl.symm,ai nlx,ac]
    · rw [ai nwx,ai nsw.symm,ai nwx,ac]
    · rw [ai nsx,ac]
    · intro b o e nb
      have nbl:b≠l:=aq e hl
      have nbw:b≠wl:=fun z=>by
        rw [←z,ai nb,ai nbl,e] at hwl
        cases hwl
      have nbs:b≠sl:=fun z=>by
        rw [←z,ai nb,ai nbw,ai nb,ai nbl,e] at hsl
        cases hsl
      rw [ai nb,ai nbs,ai nb,ai nbw,ai nb,ai nbl]
      exact e
def yV (C:Addr):Sp:=fun vs H Q _=>∃ (n dn l wl sl l2:Addr),vs=[.ref n,.ref l2]∧H n=some (.ins C dn (nf l wl sl))∧∀ (H':Hp) (wl' sl':Addr),H' n=some (.ins C dn (nf l2 wl' sl'))→H' wl'=some (.lst (ao (List.replicate 60 0)))→H' sl'=some (.lst [])→H wl'=none→H sl'=none→(∀ b o,H b=some o→b≠n→H' b=some o)→Q .non H'
theorem qm (T:Txt K mg):FnOk P w K mg base CX0 1 T.Net_renew.f T.Net_renew.fd ["self", "reaches"] (yV T.a_Net):=by
  refine T.Net_renew.F.ok p9 (fun vs H Q E h=>?_) (fun cdv A outer s H vs Q E hr h=>?_)
  · obtain ⟨n,dn,l,wl,sl,l2,rfl,_⟩:=h
    rfl
  · obtain ⟨n,dn,l,wl,sl,l2,rfl,hn,k⟩:=h
    refine ⟨_,(ae (bU (pv 0) (pv 1) rfl)
      (ae (bU (pv 0) (aF xT (aD (aa af ad)) (a9 T.c_TICKS)) rfl)
      (ag (bU (pv 0) (aD ad) rfl)))),?_⟩
    refine ⟨_,rfl,_,rfl,n,T.a_Net,dn,_,rfl,hn,T.cl_Net,T.na_Net_reaches,by show 3 < 1000; decide,?_⟩
    refine ⟨(by show 1≤sizeLine; decide),fun z hz=>?_⟩
    have nzn:n≠z:=aq ac hz
    refine ⟨z,60,_,rfl,rfl,ac,by decide,by decide,(by show 60≤sizeLine; decide),fun w2 hw2=>?_⟩
    have nwz:w2≠z:=fun q=>by
      rw [q,ac] at hw2
      cases hw2
    have nwn:w2≠n:=fun q=>by
      rw [q,ai nzn,ac] at hw2
      cases hw2
    refine ⟨_,rfl,n,T.a_Net,dn,_,rfl,by rw [ai nwn.symm,ai nzn]; exact ac,T.cl_Net,T.na_Net_waters,by show 3 < 1000; decide,?_⟩
    refine ⟨Nat.zero_le _,fun s2 hs2=>?_⟩
    have nsn:s2≠n:=fun q=>by
      rw [q,ac] at hs2
      cases hs2
    have nsw:s2≠w2:=fun q=>by
      rw [q,ai nwn,ac] at hs2
      cases hs2
    have nsz:s2≠z:=fun q=>by
      rw [q,ai nzn.symm,ai nwz.symm,ac] at hs2
      cases hs2
    refine ⟨_,rfl,n,T.a_Net,dn,_,rfl,by rw [ai nsn.symm]; exact ac,T.cl_Net,T.na_Net_settings,by show 3 < 1000; decide,?_⟩
    refine k _ w2 s2 ac ?_ ?_ ?_ ?_ ?_
    · rw [ai nwn,ai nsw.symm,ai nwn,ac]
      rfl
    · rw [ai nsn,ac]
    · rw [ai nwz,ai nwn] at hw2
      exact hw2
    · rw [ai nsn,ai nsw,ai nsz,ai nsn] at hs2
      exact hs2
    · intro b o e nb
      have nbz:b≠z:=fun q=>by
        rw [←q,ai nb,e] at hz
        cases hz
      have nbw:b≠w2:=fun q=>by
        rw [←q,ai nbz,ai nb,e] at hw2
        cases hw2
      have nbs:b≠s2:=fun q=>by
        rw [←q,ai nb,ai nbw,ai nbz,ai nb,e] at hs2
        cases hs2
      rw [ai nb,ai nbs,ai nb,ai nbw,ai nbz,ai nb]
      exact e
theorem tw {ns:Vbiraa.Net} (hne:ns≠[]):waters { net:=ns }=List.replicate 60 0:=by
  rw [cG (h:={ net:=ns }) hne]
  rfl
theorem oM (T:Txt K mg):FnOk P w K mg base CX0 6 T.answer_net.f T.answer_net.fd ["net", "numbers", "row"] (spFn T.a_Reach T.a_Net cNet):=by
  refine T.answer_net.F.ok fU (fun vs H Q E h=>?_) (fun cdv A outer s H vs Q E hr h=>?_)
  · obtain ⟨n,nl,rl,dn,l,wl,sl,h,nums,rs,c,rfl,_⟩:=h
    rfl
  · obtain ⟨n,nl,rl,dn,l,wl,sl,h,nums,rs,c,rfl,N,hI,hne0,hnl,hrl,hrw,hrs,hC,k⟩:=h
    refine ⟨_,(ae (aw (i:=3) fU.nd rfl (by first | exact Or.inl rfl | exact Or.inr rfl) (aC T.read_net (rN T) (hr.mono (by decide)) uH (aa (pv 2) ad)))
      (ae (aw (i:=4) fU.nd rfl (by first | exact Or.inl rfl | exact Or.inr rfl) (ay (aS (K:=K)) (pv 3) af (fun _ _=>rfl)))
      (ae (aV (aN dG (aE (ax (K:=K)) (by rfl) T.n_len PySem.boot_len (aa (pv 4) ad)) af (aQ _))
      (ag (au (aD (aa af (aa (ay (aS (K:=K)) (pv 3) af (fun _ _=>rfl)) ad)))))
      aH)
      (ae (bV (ze (pv 0) T.cl_Net T.me_Net_renew (qm T) (hr.mono (by decide)) sU .nil lQ (aa (pv 4) ad)))
      (ag (au (aD (aa af (aa (aE (ax (K:=K)) (by rfl) T.n_len PySem.boot_len (aa (pv 4) ad)) (aa (aE (ax (K:=K)) (by rfl) T.n_len PySem.boot_len (aa (aC T.ends_of (dX T) (hr.mono (by decide)) eR (aa (pv 4) ad)) ad)) ad)))))))))),?_⟩
    obtain ⟨rfl,rfl,hpos⟩:=sO hC
    have hs:Vbiraa.step h (.net (rs.map Int.toNat))=match Vbiraa.readNet (rs.map Int.toNat) with | .error i=>(h,[1,(i:Int)]) | .ok ns=>({ net:=ns },0 :: Vbiraa.nums [ns.length,(Vbiraa.ends ns).length]):=by
      rw [Vbiraa.step]
      cases Vbiraa.readNet (rs.map Int.toNat) <;> rfl
    rw [hs] at k
    refine ⟨_,rfl,rl,rs.map Int.toNat,rfl,by rw [←ww rs hpos]; exact hrl,by rw [List.length_map]; exact hrs,fun i hi H1 p e s1 hp1 he1=>?_,fun ns hns H1 p l2 s1 hp1 R hwf hnn hl2=>?_⟩
    · rw [hi] at k
      refine ⟨_,rfl,p,_,0,_,rfl,rfl,SqT.of hp1,rfl,?_⟩
      refine ⟨_,rfl,e,_,rfl,.inl (SqL.of he1),rfl,_,rfl,iteT ?_⟩
      refine ⟨_,rfl,p,_,1,_,rfl,rfl,SqT.of hp1,rfl,(by show 2≤sizeLine; decide),fun q hq=>?_⟩
      exact k.new N (s1.trans (ah hq)) (s1.free hq) ac
    · rw [hns] at k
      obtain ⟨xs,h1,h2,_⟩:=R.list
      refine ⟨_,rfl,p,_,0,_,rfl,rfl,SqT.of hp1,rfl,?_⟩
      refine ⟨_,rfl,l2,_,rfl,.inl (SqL.of h1),rfl,_,rfl,?_⟩
      have e0:decide (V.int ((xs.length:Nat):Int)=V.int 0)=false:=by
        refine decide_eq_false fun z=>?_
        have z:((xs.length:Nat):Int)=0:=V.int.inj z
        rw [h2] at z
        exact hnn (List.length_eq_zero_iff.mp (by omega))
      rw [e0]
      have N1:=N.same s1
      refine iteF ⟨_,rfl,n,dn,_,rfl,N1.obj,rfl,_,rfl,n,dn,l,wl,sl,l2,rfl,N1.obj,fun H2 w2 s2 a1 a2 a3 a4 a5 kp=>?_⟩
      have hl2n:l2≠n:=bL h1 N1.obj (by intro z; cases z)
      have R2:RsAt T.a_Reach H2 l2 ns:=by
        obtain ⟨as,b1,b2,b3⟩:=R.ex
        refine ⟨as,kp _ _ b1 hl2n,b2,fun i a e=>?_⟩
        obtain ⟨dx,hx⟩:=b3 i a e
        refine ⟨dx,kp _ _ hx (bL hx N1.obj ?_)⟩
        intro z
        have z2:=congrArg List.length (HO.ins.inj z).2.2
        exact absurd z2 (by show ¬ 9=3; decide)
      have h1':=kp _ _ h1 hl2n
      have hlen:=hwf.len
      refine ⟨_,rfl,l2,_,rfl,.inl (SqL.of h1'),_,rfl,l2,ns,rfl,R2,by omega,fun H3 ep s3 hep hep3=>?_⟩
      refine ⟨ep,_,rfl,.inl (SqL.of hep3),(by show 3≤sizeLine; decide),fun q hq=>?_⟩
      have st:=ah (o:=.lst [.int 0,.int (xs.length:Int),.int ((ao (Vbiraa.ends ns)).length:Int)]) hq
      have sE:=s3.trans st
      have kpn:∀ b o,H b=some o→b≠n→_=some o:=fun b o e nb=>sE b o (kp b o (s1 b o e) nb)
      have hqn:H q=none:=by
        cases z:H q with
        | none=>rfl
        | some o =>
          by_cases c:q=n
          · rw [c] at hq
            rw [s3 _ _ a1] at hq
            cases hq
          · rw [s3 _ _ (kp q o (s1 _ _ z) c)] at hq
            cases hq
      refine k _ q dn l2 w2 s2 ⟨sE _ _ a1,R2.same sE,?_,⟨[],sE _ _ a3,rfl,fun i a s e=>by cases e⟩⟩ (.inr hl2) (.inr (s1.free a4)) (.inr (s1.free a5)) (fun b o e nb _=>kpn b o e nb) hqn ?_
      · rw [tw hnn]
        exact sE _ _ a2
      · rw [ac,aA,h2]
        rfl
end
end CN
namespace CN
open PySem PySem.Spec PyProof.Rows L2
def rowV (r:Nat × Nat × Nat):List V:=[.int (r.1:Nat),.int (r.2.1:Nat),.int (r.2.2:Nat)]
structure fz (H:Hp) (l:Addr) (rs:List (Nat × Nat × Nat)):Prop where
  ex:∃ as:List Addr,H l=some (.lst (as.map V.ref))∧as.length=rs.length∧∀ (i:Nat) (a:Addr) (r:Nat × Nat × Nat),as[i]?=some a→rs[i]?=some r→H a=some (.tup (rowV r))
theorem fz.same {l:Addr} {H H':Hp} {rs:List (Nat × Nat × Nat)} (R:fz H l rs) (s:Same H H'):fz H' l rs:=by
  obtain ⟨as,h1,h2,h3⟩:=R.ex
  exact ⟨as,s _ _ h1,h2,fun i a x e e'=>s _ _ (h3 i a x e e')⟩
theorem fz.at_ {l:Addr} {H:Hp} {rs:List (Nat × Nat × Nat)} (R:fz H l rs) {i:Nat} {r:Nat × Nat × Nat} (hr:rs[i]?=some r):∃ (xs:List V) (a:Addr),H l=some (.lst xs)∧xs.length=rs.length∧xs[i]?=some (.ref a)∧H a=some (.tup (rowV r)):=by
  obtain ⟨as,h1,h2,h3⟩:=R.ex
  have hi:i < rs.length:=(List.getElem?_eq_some_iff.mp hr).1
  obtain ⟨a,ha⟩:∃ a,as[i]?=some a:=⟨_,List.getElem?_eq_getElem (by omega)⟩
  exact ⟨_,a,h1,by rw [List.length_map]; exact h2,by rw [List.getElem?_map,ha]; rfl,h3 i a r ha hr⟩
theorem fz.snoc {H H':Hp} {l tp:Addr} {rs:List (Nat × Nat × Nat)} {r:Nat × Nat × Nat} {xs:List V} (S:fz H l rs) (h1:H l=some (.lst xs)) (kp:∀ b o,H b=some o→b≠l→H' b=some o) (hq:H' l=some (.lst (xs++[.ref tp]))) (ht:H' tp=some (.tup (rowV r))):fz H' l (rs++[r]):=by
  obtain ⟨as,g1,g2,g3⟩:=S.ex
  have e:xs=as.map V.ref:=by
    rw [h1] at g1
    exact HO.lst.inj (Option.some.inj g1)
  subst e
  refine ⟨as++[tp],by rw [hq,List.map_append]; rfl,by rw [List.length_append,List.length_append,g2]; rfl,fun i a q e e'=>?_⟩
  by_cases hi:i < as.length
  · rw [List.getElem?_append_left hi] at e
    rw [List.getElem?_append_left (by omega)] at e'
    exact kp _ _ (g3 i a q e e') (bL (g3 i a q e e') h1 (by intro z; cases z))
  · rw [List.getElem?_append_right (by omega)] at e
    rw [List.getElem?_append_right (by omega),←g2] at e'
    cases z:i - as.length with
    | zero =>
      rw [z] at e e'
      have e1:tp=a:=Option.some.inj e
      have e2:r=q:=Option.some.inj e'
      subst e1 e2
      exact ht
    | succ m =>
      rw [z] at e
      cases e
theorem mJ {h:Vbiraa.House} (hne:h.net≠[]) {t:Nat} (ht:t < 60):(ao (waters h))[t]?=some (.int (Vbiraa.letAt h t:Nat)):=by
  unfold ao
  rw [cG hne,List.getElem?_map,List.getElem?_map,List.getElem?_range ht]
  rfl
theorem se {h:Vbiraa.House} (I:HInv h) (t:Nat):Vbiraa.letAt h t≤1000000:=by
  unfold Vbiraa.letAt
  rw [List.getD_eq_getElem?_getD]
  cases e:h.lets[t]? with
  | none=>exact Nat.zero_le _
  | some y=>exact I.letB y (List.mem_of_getElem? e)
theorem DDi:((DD:Nat):Int)=100000000000000000000000000000000:=by decide
theorem yb (a b:Nat):(if (b:Int) < (a:Int) then (b:Int) else (a:Int))=((min a b:Nat):Int):=by
  by_cases h:b < a
  · rw [if_pos (by omega),Nat.min_eq_right (by omega)]
  · rw [if_neg (by omega),Nat.min_eq_left (by omega)]
theorem kT {i:Nat} {v:V} {t u:TS} {D:Ends} {σ:L2.St} {H:Hp} (h:tSeq t u D (σ.set i (some v)) H):su i v σ H (tSeq t u D):=h
theorem gK {t u:TS} {D:Ends} {σ:L2.St} {H:Hp} (Pv:L2.St→Hp→Prop) (h1:∀ N:L2.St→Hp→Prop,(∀ σ' H',Pv σ' H'→N σ' H')→t { D with nx:=N } σ H) (h2:∀ σ' H',Pv σ' H'→u D σ' H'):tSeq t u D σ H:=h1 _ h2
section
variable {P:Program} {w:World} {K:PySem.W.Frag} {mg:Str→Option Value} {base:Heap}
def yY (CR CN:Addr):Sp:=fun vs H Q _=>∃ (n dn l wl sl:Addr) (h:Vbiraa.House) (i t W:Nat),vs=[.ref n,.int i,.int t,.int W]∧bC CR CN H n h dn l wl sl∧HInv h∧i < h.net.length ∧
  ∀ (H':Hp) (p:Addr),Same H H'→H p=none→H' p=some (.tup (rowV (cA (Vbiraa.reachAt h.net i) W (ptAt h t i))))→Q (.ref p) H'
theorem ic (T:Txt K mg):FnOk P w K mg base CX0 2 T.pass_through.f T.pass_through.fd ["net", "i", "tick", "water"] (yY T.a_Reach T.a_Net):=by
  refine T.pass_through.F.ok b7 (fun vs H Q E h=>?_) (fun cdv A outer s H vs Q E hr h=>?_)
  · obtain ⟨n,dn,l,wl,sl,h,i,t,W,rfl,_⟩:=h
    rfl
  · obtain ⟨n,dn,l,wl,sl,h,j,t,W,rfl,N,hI,hj,k⟩:=h
    refine ⟨_,(ae (aw (i:=4) b7.nd rfl (by first | exact Or.inl rfl | exact Or.inr rfl) (ay (ak (K:=K)) (am (K:=K) (pv 0) rfl) (pv 1) (fun _ _=>rfl)))
      (ae (aw (i:=5) b7.nd rfl (by first | exact Or.inl rfl | exact Or.inr rfl) (aF kx (aF ga (pv 3) (aC T.gate_part (eJ T) (hr.mono (by decide)) fO (aa (am (K:=K) (pv 0) rfl) (aa (am (K:=K) (pv 0) rfl) (aa (pv 1) (aa (aF bv (pv 2) (am (K:=K) (pv 4) rfl)) ad)))))) af))
      (ae (aw (i:=6) b7.nd rfl (by first | exact Or.inl rfl | exact Or.inr rfl) (aE (pH rfl) (by rfl) T.n_min pO (aa (pv 5) (aa (aF ga (am (K:=K) (pv 4) rfl) (a9 T.c_DROPS)) ad))))
      (ae (aw (i:=7) b7.nd rfl (by first | exact Or.inl rfl | exact Or.inr rfl) (aF dg (pv 6) (aE (pH rfl) (by rfl) T.n_min pO (aa (pv 6) (aa (aF ga (am (K:=K) (pv 4) rfl) (a9 T.c_DROPS)) ad)))))
      (ag (au (gU (aa (pv 5) (aa (pv 6) (aa (aF kx (aF ga (pv 7) (aF dg af (am (K:=K) (pv 4) rfl))) af) ad)))))))))),?_⟩
    have hwf:=hI.wf
    obtain ⟨xs,a,dx,h1,h2,h3,ha⟩:=N.rs.at_ hj
    obtain ⟨_,nl,nsk,nc1,nc2,_⟩:=hwf.num j hj
    have hpt:ptAt h t j≤100:=hI.partB hj _
    have ck:(100:Int) - ((Vbiraa.reachAt h.net j).loss:Nat)=((100 - (Vbiraa.reachAt h.net j).loss:Nat):Int):=by omega
    have eo:((W:Int) * ((ptAt h t j:Nat):Int)) / 100=((W * ptAt h t j / 100:Nat):Int):=by
      rw [←Int.natCast_mul]
      rfl
    have hrow:cA (Vbiraa.reachAt h.net j) W (ptAt h t j)=cA (Vbiraa.reachAt h.net j) W (ptAt h t j):=rfl
    generalize hR:cA (Vbiraa.reachAt h.net j) W (ptAt h t j)=r at hrow k
    have er1:r.1=W * ptAt h t j / 100:=by rw [←hR]; rfl
    have er2:r.2.1=min (W * ptAt h t j / 100) ((Vbiraa.reachAt h.net j).cap * DD):=by rw [←hR]; rfl
    have e22:r.2.2=(r.2.1 - min r.2.1 ((Vbiraa.reachAt h.net j).soak * DD)) * (100 - (Vbiraa.reachAt h.net j).loss) / 100:=by rw [←hR]; rfl
    refine ⟨_,rfl,n,T.a_Net,dn,_,_,rfl,N.obj,T.cl_Net,T.na_Net_reaches,aG,_,rfl,l,_,_,_,rfl,rfl,SqL.of h1,aY h3,?_⟩
    refine ⟨_,rfl,_,rfl,n,T.a_Net,dn,_,_,rfl,N.obj,T.cl_Net,T.na_Net_reaches,aG,_,rfl,n,T.a_Net,dn,_,_,rfl,N.obj,T.cl_Net,T.na_Net_settings,dj,_,rfl,_,rfl,_,rfl,a,T.a_Reach,dx,_,_,rfl,ha,T.cl_Reach,T.na_Reach_above,g8,_,_,rfl,rfl,
      l,sl,h.net,h.settings,j,t + above h.net j,rfl,N.rs,N.ss,hj,_,_,rfl,rfl,.inr ⟨?_,?_⟩,_,_,rfl,rfl,yz _,?_⟩
    · show -(2 ^ 64:Int) < ((ptAt h t j:Nat):Int)
      omega
    · show ((ptAt h t j:Nat):Int) < 2 ^ 64
      omega
    with_reducible refine kT ?_
    refine gK (fun σ' H2=>H2=H∧σ'=[some (.ref n),some (.int (j:Nat)),some (.int t),some (.int (W:Nat)),some (.ref a),some (.int (r.1:Nat)),some (.int (r.2.1:Nat)),none]) (fun Nx hN=>?_) ?_
    · refine ⟨_,rfl,_,rfl,a,T.a_Reach,dx,_,_,rfl,ha,T.cl_Reach,T.na_Reach_cap,vd,_,_,rfl,rfl,.inl ⟨by omega,by omega⟩,_,_,rfl,hN _ _ ⟨rfl,?_⟩⟩
      have e2:(if ((Vbiraa.reachAt h.net j).cap:Int) * 100000000000000000000000000000000 < ((W:Int) * ((ptAt h t j:Nat):Int)) / 100 then ((Vbiraa.reachAt h.net j).cap:Int) * 100000000000000000000000000000000 else ((W:Int) * ((ptAt h t j:Nat):Int)) / 100)=(r.2.1:Nat):=by
        rw [eo,er2,←yb,Int.natCast_mul,DDi]
      rw [←e2]
      have e3:((r.1:Nat):Int)=((W:Int) * ((ptAt h t j:Nat):Int)) / 100:=by
        rw [eo,er1]
      rw [e3]
      rfl
    rintro σ' H2 ⟨rfl,rfl⟩
    refine ⟨_,rfl,_,rfl,_,rfl,a,T.a_Reach,dx,_,_,rfl,ha,T.cl_Reach,T.na_Reach_soak,qp,_,_,rfl,rfl,.inl ⟨by omega,by omega⟩,_,_,rfl,_,_,rfl,rfl,?_⟩
    have el:(r.2.1:Int) - (if ((Vbiraa.reachAt h.net j).soak:Int) * 100000000000000000000000000000000 < (r.2.1:Int) then ((Vbiraa.reachAt h.net j).soak:Int) * 100000000000000000000000000000000 else (r.2.1:Int))=((r.2.1 - min r.2.1 ((Vbiraa.reachAt h.net j).soak * DD):Nat):Int):=by
      have e5:=yb r.2.1 ((Vbiraa.reachAt h.net j).soak * DD)
      rw [Int.natCast_mul,DDi] at e5
      have e6:(if ((Vbiraa.reachAt h.net j).soak:Int) * 100000000000000000000000000000000 < (r.2.1:Int) then ((Vbiraa.reachAt h.net j).soak:Int) * 100000000000000000000000000000000 else (r.2.1:Int))=((min r.2.1 ((Vbiraa.reachAt h.net j).soak * DD):Nat):Int):=e5
      rw [e6]
      have:=Nat.min_le_left r.2.1 ((Vbiraa.reachAt h.net j).soak * DD)
      omega
    have e7:((r.2.1:Int) - (if ((Vbiraa.reachAt h.net j).soak:Int) * 100000000000000000000000000000000 < (r.2.1:Int) then ((Vbiraa.reachAt h.net j).soak:Int) * 100000000000000000000000000000000 else (r.2.1:Int))) * ((100:Int) - ((Vbiraa.reachAt h.net j).loss:Nat)) / 100=((r.2.2:Nat):Int):=by
      rw [el,ck,e22,←Int.natCast_mul]
      rfl
    refine ⟨_,rfl,_,rfl,_,rfl,_,rfl,a,T.a_Reach,dx,_,_,rfl,ha,T.cl_Reach,T.na_Reach_loss,qr,_,_,rfl,rfl,_,_,rfl,rfl,.inr ⟨by omega,by omega⟩,_,_,rfl,rfl,yz _,(by show 3≤sizeLine; decide),fun tp htp=>k _ tp (ah htp) htp ?_⟩
    rw [ac]
    show some (HO.tup [V.int (r.1:Int),V.int (r.2.1:Int),V.int (((r.2.1:Int) - (if ((Vbiraa.reachAt h.net j).soak:Int) * 100000000000000000000000000000000 < (r.2.1:Int) then ((Vbiraa.reachAt h.net j).soak:Int) * 100000000000000000000000000000000 else (r.2.1:Int))) * ((100:Int) - ((Vbiraa.reachAt h.net j).loss:Nat)) / 100)])=some (HO.tup (rowV r))
    rw [e7]
    rfl
def xq (CR CN:Addr):Sp:=fun vs H Q _=>∃ (n dn l wl sl:Addr) (h:Vbiraa.House) (t:Nat),vs=[.ref n,.int t]∧bC CR CN H n h dn l wl sl∧HInv h∧h.net≠[]∧t < 60 ∧
  ∀ (H':Hp) (p:Addr),Same H H'→H p=none→fz H' p (rows h.net (ptAt h t) (letD h t) h.net.length)→Q (.ref p) H'
theorem lw (T:Txt K mg):FnOk P w K mg base CX0 3 T.passes.f T.passes.fd ["net", "tick"] (xq T.a_Reach T.a_Net):=by
  refine T.passes.F.ok eM (fun vs H Q E h=>?_) (fun cdv A outer s H vs Q E hr h=>?_)
  · obtain ⟨n,dn,l,wl,sl,h,t,rfl,_⟩:=h
    rfl
  · obtain ⟨n,dn,l,wl,sl,h,t,rfl,N,hI,hne,ht,k⟩:=h
    refine ⟨_,(ae (aw (i:=2) eM.nd rfl (by first | exact Or.inl rfl | exact Or.inr rfl) (aD ad))
      (ae (bT PassesOwn.never rfl (jd rfl T.n_enumerate (aa (am (K:=K) (pv 0) rfl) ad)) (d7 (K:=K) (n:=2) rfl (bd (aI (i:=3) eM.nd rfl (by first | exact Or.inl rfl | exact Or.inr rfl)) (bd (aI (i:=4) eM.nd rfl (by first | exact Or.inl rfl | exact Or.inr rfl)) d6)))
      (ae (aw (i:=5) eM.nd rfl (by first | exact Or.inl rfl | exact Or.inr rfl) (aF ga (ay (ak (K:=K)) (am (K:=K) (pv 0) rfl) (pv 1) (fun _ _=>rfl)) (a9 T.c_DROPS)))
      (ae (aV (aN kt (am (K:=K) (pv 4) rfl) (a9 T.c_SOURCE) (aQ _))
      (ag (aw (i:=5) eM.nd rfl (by first | exact Or.inl rfl | exact Or.inr rfl) (ay (aS (K:=K)) (ay (ak (K:=K)) (pv 2) (am (K:=K) (pv 4) rfl) (fun _ _=>rfl)) af (fun _ _=>rfl))))
      aH)
      (ag (bV (fF PySem.F.plainAttrs_list PySem.F.slot_list_append PySem.F.type_list_append cO (pv 2) (aa (aC T.pass_through (ic T) (hr.mono (by decide)) i4 (aa (pv 0) (aa (pv 3) (aa (pv 1) (aa (pv 5) ad))))) ad)))))))
      (ag (au (pv 2))))),?_⟩
    have hwf:=hI.wf
    have hlen:=hwf.len
    refine ⟨Nat.zero_le _,fun rl hrl=>?_⟩
    have s0:=ah (o:=.lst []) hrl
    have N0:=N.same s0
    obtain ⟨xs,h1,h2,h3⟩:=N.rs.list
    refine ⟨_,rfl,n,T.a_Net,dn,_,_,rfl,N0.obj,T.cl_Net,T.na_Net_reaches,aG,l,_,rfl,SqL.of (s0 _ _ h1),iT (K:=K) (a:=l) (xs:=xs)
      (fun j σ H'=>Same H H'∧fz H' rl (rows h.net (ptAt h t) (letD h t) j)∧∃ v3 v4 v5:Option V,σ=[some (.ref n),some (.int t),some (.ref rl),v3,v4,v5])
      ⟨s0,⟨[],ac,rfl,fun i a r e=>by cases e⟩,none,none,none,rfl⟩ (fun j σ H' _ p=>SqL.of (p.1 _ _ h1)) ?_ ?_⟩
    · rintro j x σ H' tt hx ⟨sm,RA,v3,v4,v5,rfl⟩ htt
      obtain ⟨a,dx,rfl,ha⟩:=h3 j x hx
      have hj:j < h.net.length:=by
        rw [←h2]
        exact (List.getElem?_eq_some_iff.mp hx).1
      have hlet:=se hI t
      have st:=ah (o:=.tup [.int (j:Nat),V.ref a]) htt
      have sm2:Same H _:=sm.trans st
      have N2:=N.same sm2
      have ha2:=sm2 _ _ ha
      have RA2:=RA.same st
      obtain ⟨rs,g1,g2,g3⟩:=RA2.ex
      refine ⟨tt,_,rfl,SqT.of ac,rfl,_,_,rfl,_,_,rfl,rfl,?_⟩
      refine ⟨_,rfl,n,T.a_Net,dn,_,_,rfl,N2.obj,T.cl_Net,T.na_Net_waters,dY,_,rfl,wl,_,_,_,rfl,rfl,SqL.of N2.ws,aY (mJ hne ht),_,_,rfl,rfl,.inl ⟨by omega,by omega⟩,?_⟩
      with_reducible refine kT ?_
      refine gK (fun σ' H2=>H2=upd H' tt (.tup [.int (j:Nat),V.ref a])∧σ'=[some (.ref n),some (.int t),some (.ref rl),some (.int (j:Nat)),some (.ref a),some (.int (winQ h.net (ptAt h t) (letD h t) (Vbiraa.reachAt h.net j).parent:Nat))]) (fun Nx hN=>?_) ?_
      · refine ⟨_,rfl,a,T.a_Reach,dx,_,_,rfl,ha2,T.cl_Reach,T.na_Reach_begins,cW,rfl,_,rfl,?_⟩
        cases ep:(Vbiraa.reachAt h.net j).parent with
        | none =>
          refine iteF (hN _ _ ⟨rfl,?_⟩)
          rw [ep]
          show [_,_,_,_,_,some (V.int ((Vbiraa.letAt h t:Int) * 100000000000000000000000000000000))]=[_,_,_,_,_,some (V.int ((Vbiraa.letAt h t * DD:Nat):Int))]
          rw [Int.natCast_mul,DDi]
        | some p =>
          have hp:=hwf.par j p hj ep
          have e:(!decide (V.int (pInt (some p))=V.int (-1)))=true:=by
            rw [Bool.not_eq_true',decide_eq_false_iff_not]
            intro z
            have z:((p:Nat):Int)=-1:=V.int.inj z
            omega
          rw [e]
          obtain ⟨rxs,ra,q1,q2,q3,q4⟩:=RA2.at_ (gu (ns:=h.net) (pt:=ptAt h t) (W:=letD h t) hp)
          have lb:(rf h.net j).lookup ("begins" : Str)=some (.int (p:Nat)):=by
            unfold rf
            rw [ep]
            exact cW
          refine iteT ⟨_,rfl,_,rfl,a,T.a_Reach,dx,_,_,rfl,ha2,T.cl_Reach,T.na_Reach_begins,lb,rl,_,_,_,rfl,rfl,SqL.of q1,aY q3,ra,_,2,_,rfl,rfl,SqT.of q4,rfl,hN _ _ ⟨rfl,?_⟩⟩
          rw [ep]
          rfl
      · rintro σ' H2 ⟨rfl,rfl⟩
        have hrow:=na (ns:=h.net) (pt:=ptAt h t) (W:=letD h t) hwf.par hj
        have hrows:rows h.net (ptAt h t) (letD h t) (j + 1)=rows h.net (ptAt h t) (letD h t) j++[row h.net (ptAt h t) (letD h t) j]:=by
          show rows h.net (ptAt h t) (letD h t) j++[_]=_
          rw [qS fun p e=>hwf.par j p hj e,hrow]
        refine ⟨_,rfl,.inl ⟨rfl,_,SqL.of g1⟩,_,rfl,_,rfl,_,rfl,_,rfl,n,dn,l,wl,sl,h,j,t,_,rfl,N2,hI,hj,fun H3 tp s3 htp htp3=>?_⟩
        rw [←hrow] at htp3
        have hlen2:(rs.map V.ref).length < sizeLine:=by
          rw [List.length_map,g2,fj]
          exact aP (by omega)
        have g13:=s3 _ _ g1
        have hne2:rl≠tp:=aq g1 htp
        refine ⟨rl,_,_,rfl,rfl,g13,hlen2,?_⟩
        refine ⟨aR (sm2.trans s3) hrl,?_,_,_,_,rfl⟩
        rw [hrows]
        refine fz.snoc (xs:=rs.map V.ref) (tp:=tp) (RA2.same s3) g13 (fun b o e nb=>by rw [ai nb]; exact e) ac ?_
        rw [ai hne2.symm]
        exact htp3
    · rintro σ H' ⟨sm,RA,v3,v4,v5,rfl⟩
      rw [h2] at RA
      exact ⟨_,rfl,k H' rl sm hrl RA⟩
end
end CN
namespace CN
open PySem PySem.Spec PyProof.Rows L2
def rowZ (h:Vbiraa.House) (i:Nat) (t:Int):Nat × Nat × Nat:=if t < 0 then (0,0,0) else rowT h t.toNat i
def lvD (h:Vbiraa.House) (i t:Nat):Nat:=(rowZ h i ((t:Int) - (above h.net i:Int) - ((Vbiraa.reachAt h.net i).delay:Int))).2.2
theorem yd {h:Vbiraa.House} (hw:WF h.net) {i:Nat} (hi:i < h.net.length) (t:Nat):Vbiraa.leavesAt h i t=Vbiraa.mk (lvD h i t) DD:=by
  rw [sf hw hi]
  unfold lvD rowZ
  by_cases c:t < above h.net i + (Vbiraa.reachAt h.net i).delay
  · rw [if_pos c,if_pos (by omega),fI bw]
  · rw [if_neg c,if_neg (by omega),show ((t:Int) - (above h.net i:Int) - ((Vbiraa.reachAt h.net i).delay:Int)).toNat=t - above h.net i - (Vbiraa.reachAt h.net i).delay by omega]
def ofD (h:Vbiraa.House) (i t:Nat):Nat × Nat × Nat:=rowZ h i ((t:Int) - (above h.net i:Int))
theorem xY {h:Vbiraa.House} (hw:WF h.net) {i:Nat} (hi:i < h.net.length) (t:Nat):Vbiraa.offerAt h i t=Vbiraa.mk (ofD h i t).1 DD:=by
  rw [jR hw hi]
  unfold ofD rowZ
  by_cases c:t < above h.net i
  · rw [if_pos c,if_pos (by omega),fI bw]
  · rw [if_neg c,if_neg (by omega),show ((t:Int) - (above h.net i:Int)).toNat=t - above h.net i by omega]
theorem rU {h:Vbiraa.House} (hw:WF h.net) {i:Nat} (hi:i < h.net.length) (t:Nat):Vbiraa.taken (Vbiraa.reachAt h.net i) (Vbiraa.offerAt h i t)=Vbiraa.mk (ofD h i t).2.1 DD∧Vbiraa.spilled (Vbiraa.reachAt h.net i) (Vbiraa.offerAt h i t)=Vbiraa.mk ((ofD h i t).1 - (ofD h i t).2.1) DD∧(ofD h i t).2.1≤(ofD h i t).1:=by
  rw [xY hw hi]
  unfold ofD rowZ
  by_cases c:(t:Int) - (above h.net i:Int) < 0
  · rw [if_pos c,mN,jB]
    simp
  · rw [if_neg c]
    obtain ⟨_,a2,a3,_⟩:=eh (pt:=ptAt h ((t:Int) - (above h.net i:Int)).toNat) hw (gB h ((t:Int) - (above h.net i:Int)).toNat) hi
    exact ⟨a2,a3,(xE hw hi).1⟩
section
variable {P:Program} {w:World} {K:PySem.W.Frag} {mg:Str→Option Value} {base:Heap}
def spPass (CR CN:Addr):Sp:=fun vs H Q _=>∃ (n dn l wl sl:Addr) (h:Vbiraa.House) (i:Nat) (t:Int),vs=[.ref n,.int i,.int t]∧bC CR CN H n h dn l wl sl∧HInv h∧i < h.net.length∧t < 60 ∧
  ∀ (H':Hp) (p:Addr),Same H H'→H' p=some (.tup (rowV (rowZ h i t)))→Q (.ref p) H'
theorem nz (T:Txt K mg):FnOk P w K mg base CX0 4 T.pass_of.f T.pass_of.fd ["net", "i", "tick"] (spPass T.a_Reach T.a_Net):=by
  refine T.pass_of.F.ok tP (fun vs H Q E h=>?_) (fun cdv A outer s H vs Q E hr h=>?_)
  · obtain ⟨n,dn,l,wl,sl,h,i,t,rfl,_⟩:=h
    rfl
  · obtain ⟨n,dn,l,wl,sl,h,i,t,rfl,N,hI,hi,ht,k⟩:=h
    refine ⟨_,(ae (aV (aN rK (pv 2) af (aQ _))
      (ag (au (gU (aa af (aa af (aa af ad))))))
      aH)
      (ag (au (ay (ak (K:=K)) (aC T.passes (lw T) (hr.mono (by decide)) oo (aa (pv 0) (aa (pv 2) ad))) (pv 1) (fun _ _=>rfl))))),?_⟩
    refine ⟨_,rfl,_,_,rfl,rfl,_,rfl,ite2 (fun c=>?_) (fun c=>?_)⟩
    · have c:t < 0:=of_decide_eq_true c
      refine ⟨(by show 3≤sizeLine; decide),fun p hp=>k _ p (ah hp) ?_⟩
      rw [ac]
      unfold rowZ
      rw [if_pos c]
      rfl
    · have c:¬ t < 0:=fun z=>c (decide_eq_true z)
      obtain ⟨u,rfl⟩:∃ u:Nat,t=(u:Int):=⟨t.toNat,by omega⟩
      have hne:h.net≠[]:=fun z=>by
        rw [z] at hi
        cases hi
      refine ⟨_,rfl,_,rfl,n,dn,l,wl,sl,h,u,rfl,N,hI,hne,by omega,fun H1 p s1 hp R=>?_⟩
      obtain ⟨xs,a,g1,g2,g3,g4⟩:=R.at_ (gu hi)
      refine ⟨_,rfl,p,_,_,_,rfl,rfl,SqL.of g1,aY g3,k H1 a s1 ?_⟩
      rw [g4]
      unfold rowZ
      rw [if_neg c]
      rfl
def y4 (CR CN:Addr):Sp:=fun vs H Q _=>∃ (n dn l wl sl:Addr) (h:Vbiraa.House) (i t:Nat),vs=[.ref n,.int i,.int t]∧bC CR CN H n h dn l wl sl∧HInv h∧i < h.net.length∧t < 60∧∀ H',Same H H'→Q (.int (lvD h i t:Nat)) H'
theorem jr (T:Txt K mg):FnOk P w K mg base CX0 5 T.leaving_at.f T.leaving_at.fd ["net", "i", "tick"] (y4 T.a_Reach T.a_Net):=by
  refine T.leaving_at.F.ok jm (fun vs H Q E h=>?_) (fun cdv A outer s H vs Q E hr h=>?_)
  · obtain ⟨n,dn,l,wl,sl,h,i,t,rfl,_⟩:=h
    rfl
  · obtain ⟨n,dn,l,wl,sl,h,i,t,rfl,N,hI,hi,ht,k⟩:=h
    refine ⟨_,(ae (aw (i:=3) jm.nd rfl (by first | exact Or.inl rfl | exact Or.inr rfl) (ay (ak (K:=K)) (am (K:=K) (pv 0) rfl) (pv 1) (fun _ _=>rfl)))
      (ag (au (ay (aS (K:=K)) (aC T.pass_of (nz T) (hr.mono (by decide)) pV (aa (pv 0) (aa (pv 1) (aa (aF dg (aF dg (pv 2) (am (K:=K) (pv 3) rfl)) (am (K:=K) (pv 3) rfl)) ad)))) af (fun _ _=>rfl))))),?_⟩
    obtain ⟨xs,a,dx,h1,h2,h3,h4⟩:=N.rs.at_ hi
    refine ⟨_,rfl,n,T.a_Net,dn,_,_,rfl,N.obj,T.cl_Net,T.na_Net_reaches,aG,_,rfl,l,_,_,_,rfl,rfl,SqL.of h1,aY h3,?_⟩
    refine ⟨_,rfl,_,rfl,_,rfl,_,rfl,a,T.a_Reach,dx,_,_,rfl,h4,T.cl_Reach,T.na_Reach_above,g8,_,_,rfl,rfl,_,rfl,a,T.a_Reach,dx,_,_,rfl,h4,T.cl_Reach,T.na_Reach_delay,kG,_,_,rfl,rfl,n,dn,l,wl,sl,h,i,_,rfl,N,hI,hi,by omega,fun H1 p s1 hp=>?_⟩
    exact ⟨p,_,2,_,rfl,rfl,SqT.of hp,rfl,k H1 s1⟩
def spFlow (CR CN:Addr):Sp:=fun vs H Q _=>∃ (n dn l wl sl:Addr) (h:Vbiraa.House) (i t:Nat),vs=[.ref n,.int i,.int t]∧bC CR CN H n h dn l wl sl∧HInv h∧i < h.net.length∧t < 60∧NewL H Q (ao [(ofD h i t).1,(ofD h i t).2.1,(ofD h i t).1 - (ofD h i t).2.1,lvD h i t])
theorem ub (T:Txt K mg):FnOk P w K mg base CX0 6 T.flow_at.f T.flow_at.fd ["net", "i", "tick"] (spFlow T.a_Reach T.a_Net):=by
  refine T.flow_at.F.ok mT (fun vs H Q E h=>?_) (fun cdv A outer s H vs Q E hr h=>?_)
  · obtain ⟨n,dn,l,wl,sl,h,i,t,rfl,_⟩:=h
    rfl
  · obtain ⟨n,dn,l,wl,sl,h,i,t,rfl,N,hI,hi,ht,k⟩:=h
    refine ⟨_,(ae (aw (i:=3) mT.nd rfl (by first | exact Or.inl rfl | exact Or.inr rfl) (aC T.pass_of (nz T) (hr.mono (by decide)) pV (aa (pv 0) (aa (pv 1) (aa (aF dg (pv 2) (am (K:=K) (ay (ak (K:=K)) (am (K:=K) (pv 0) rfl) (pv 1) (fun _ _=>rfl)) rfl)) ad)))))
      (ag (au (aD (aa (ay (aS (K:=K)) (pv 3) af (fun _ _=>rfl)) (aa (ay (aS (K:=K)) (pv 3) af (fun _ _=>rfl)) (aa (aF dg (ay (aS (K:=K)) (pv 3) af (fun _ _=>rfl)) (ay (aS (K:=K)) (pv 3) af (fun _ _=>rfl))) (aa (aC T.leaving_at (jr T) (hr.mono (by decide)) kQ (aa (pv 0) (aa (pv 1) (aa (pv 2) ad)))) ad)))))))),?_⟩
    obtain ⟨xs,a,dx,h1,h2,h3,h4⟩:=N.rs.at_ hi
    refine ⟨_,rfl,_,rfl,_,rfl,_,rfl,n,T.a_Net,dn,_,_,rfl,N.obj,T.cl_Net,T.na_Net_reaches,aG,_,rfl,l,_,_,_,rfl,rfl,SqL.of h1,aY h3,a,T.a_Reach,dx,_,_,rfl,h4,T.cl_Reach,T.na_Reach_above,g8,_,_,rfl,rfl,n,dn,l,wl,sl,h,i,_,rfl,N,hI,hi,by omega,fun H1 p s1 hp=>?_⟩
    have hp:H1 p=some (.tup (rowV (ofD h i t))):=hp
    have hle:=(rU hI.wf hi t).2.2
    refine ⟨_,rfl,p,_,0,_,rfl,rfl,SqT.of hp,rfl,_,rfl,p,_,1,_,rfl,rfl,SqT.of hp,rfl,_,rfl,p,_,0,_,rfl,rfl,SqT.of hp,rfl,_,rfl,p,_,1,_,rfl,rfl,SqT.of hp,rfl,_,_,rfl,rfl,_,rfl,_,rfl,_,rfl,n,dn,l,wl,sl,h,i,t,rfl,N.same s1,hI,hi,ht,fun H2 s2=>?_⟩
    refine ⟨(by show 4≤sizeLine; decide),fun q hq=>k _ q ((s1.trans s2).trans (ah hq)) ((s1.trans s2).free hq) ?_⟩
    rw [ac]
    show some (HO.lst [V.int ((ofD h i t).1:Int),V.int ((ofD h i t).2.1:Int),V.int (((ofD h i t).1:Int) - ((ofD h i t).2.1:Int)),V.int (lvD h i t:Int)])=some (HO.lst [V.int ((ofD h i t).1:Int),V.int ((ofD h i t).2.1:Int),V.int (((ofD h i t).1 - (ofD h i t).2.1:Nat):Int),V.int (lvD h i t:Int)])
    rw [Int.natCast_sub hle]
def qsV (l:List Nat):List V:=l.flatMap fun x=>qV (Vbiraa.mk x DD)
theorem fE (l:List Nat):(qsV l).length=2 * l.length:=by
  unfold qsV
  induction l with
  | nil=>rfl
  | cons x l ih =>
    rw [List.flatMap_cons,List.length_append,ih,List.length_cons]
    show 2 + 2 * l.length=2 * (l.length + 1)
    omega
theorem xI (l:List Nat) (x:Nat):qsV (l++[x])=qsV l++qV (Vbiraa.mk x DD):=by
  unfold qsV
  rw [List.flatMap_append]
  simp
def spTold:Sp:=fun vs H Q _=>∃ (l:Addr) (ws:List Nat),vs=[.ref l]∧H l=some (.lst (ao ws))∧ws.length≤1000∧NewL H Q (qsV ws)
theorem gW (T:Txt K mg):FnOk P w K mg base CX0 3 T.told.f T.told.fd ["waters"] spTold:=by
  refine T.told.F.ok p6 (fun vs H Q E h=>?_) (fun cdv A outer s H vs Q E hr h=>?_)
  · obtain ⟨l,ws,rfl,_⟩:=h
    rfl
  · obtain ⟨l,ws,rfl,hl,hn,k⟩:=h
    refine ⟨_,(ae (aw (i:=1) p6.nd rfl (by first | exact Or.inl rfl | exact Or.inr rfl) (aD ad))
      (ae (bT PassesOwn.never rfl (bW (pv 0)) (aI (i:=2) p6.nd rfl (by first | exact Or.inl rfl | exact Or.inr rfl))
      (ag (bV (fF PySem.F.plainAttrs_list PySem.F.slot_list_extend PySem.F.type_list_extend gA (pv 1) (aa (aC T.lowest (gx T) (hr.mono (by decide)) i6 (aa (pv 2) (aa (a9 T.c_DROPS) ad))) ad)))))
      (ag (au (pv 1))))),?_⟩
    refine ⟨Nat.zero_le _,fun nl hnl=>?_⟩
    have s0:=ah (o:=.lst []) hnl
    refine ⟨_,rfl,l,rfl,⟨_,SqL.of (s0 _ _ hl)⟩,fv (K:=K) (a:=l) (xs:=ao ws) (fun j σ H'=>Same H H'∧H' nl=some (.lst (qsV (ws.take j)))∧∃ v:Option V,σ=[some (.ref l),some (.ref nl),v]) ⟨s0,ac,none,rfl⟩ (fun j σ H' _ p=>SqL.of (p.1 _ _ hl)) ?_ ?_⟩
    · rintro j x σ H' hx ⟨sm,hw,v,rfl⟩
      obtain ⟨y,hy,rfl⟩:=aX hx
      have hj:j < ws.length:=(List.getElem?_eq_some_iff.mp hy).1
      refine ⟨_,rfl,.inl ⟨rfl,_,SqL.of hw⟩,_,rfl,y,DD,rfl,bw,by decide,fun H1 q s1 hq hq1=>?_⟩
      have hw1:=s1 _ _ hw
      refine ⟨nl,q,_,_,rfl,rfl,hw1,hq1,?_,?_⟩
      · rw [fE,List.length_take]
        show 2 * min j ws.length + 2≤sizeLine
        exact Nat.le_of_lt (aP (by omega))
      · refine ⟨aR (sm.trans s1) hnl,?_,some (.int y),rfl⟩
        rw [ac,bK hy,xI]
    · rintro σ H' ⟨sm,hw,v,rfl⟩
      rw [aA,List.take_length] at hw
      exact ⟨_,rfl,k H' nl sm hnl hw⟩
end
end CN
namespace CN
open PySem PySem.Spec PyProof.Rows L2
def offD (h:Vbiraa.House) (t:Nat):Nat:=letD h t * (100 - bP h none t) / 100 + sumN h.net.length (vOff h t (letD h t))
def accN (h:Vbiraa.House) (t:Nat):List Nat:=[sumN h.net.length (vEnd h t (letD h t)),sumN h.net.length (cV h t (letD h t)),sumN h.net.length (bb h t (letD h t)),offD h t]
theorem vR_le {h:Vbiraa.House} (hw:WF h.net) {t W i:Nat} (hi:i < h.net.length):(vR h t W i).2.1≤(vR h t W i).1∧(vR h t W i).2.2≤(vR h t W i).2.1:=xE hw hi
theorem sy {ns:Vbiraa.Net} {i:Nat} (hi:i < ns.length):i∈Vbiraa.ends ns↔(Vbiraa.children ns (some i)).isEmpty=true:=by
  unfold Vbiraa.ends
  rw [List.mem_filter,List.mem_range]
  exact ⟨fun h=>h.2,fun h=>⟨hi,h⟩⟩
theorem yl (i:Nat) (l:List Nat):inV (.int (i:Nat)) (ao l)=decide (i∈l):=by
  unfold inV ao
  rw [List.any_map,Bool.eq_iff_iff,List.any_eq_true,decide_eq_true_eq]
  constructor
  · rintro ⟨x,hx,e⟩
    have e:((x:Int) == (i:Int))=true:=e
    rw [beq_iff_eq] at e
    have:x=i:=by omega
    rw [←this]
    exact hx
  · intro h
    exact ⟨i,h,by show ((i:Int) == (i:Int))=true; exact beq_self_eq_true _⟩
section
variable {P:Program} {w:World} {K:PySem.W.Frag} {mg:Str→Option Value} {base:Heap}
def spAcc (CR CN:Addr):Sp:=fun vs H Q _=>∃ (n dn l wl sl:Addr) (h:Vbiraa.House) (t:Nat),vs=[.ref n,.int t]∧bC CR CN H n h dn l wl sl∧HInv h∧h.net≠[]∧t < 60∧NewL H Q (ao (accN h t))
theorem js (T:Txt K mg):FnOk P w K mg base CX0 4 T.account_of.f T.account_of.fd ["net", "tick"] (spAcc T.a_Reach T.a_Net):=by
  refine T.account_of.F.ok aW (fun vs H Q E h=>?_) (fun cdv A outer s H vs Q E hr h=>?_)
  · obtain ⟨n,dn,l,wl,sl,h,t,rfl,_⟩:=h
    rfl
  · obtain ⟨n,dn,l,wl,sl,h,t,rfl,N,hI,hne,ht,k⟩:=h
    refine ⟨_,(ae (aw (i:=2) aW.nd rfl (by first | exact Or.inl rfl | exact Or.inr rfl) (aC T.ends_of (dX T) (hr.mono (by decide)) eR (aa (am (K:=K) (pv 0) rfl) ad)))
      (ae (aw (i:=3) aW.nd rfl (by first | exact Or.inl rfl | exact Or.inr rfl) af)
      (ae (aw (i:=4) aW.nd rfl (by first | exact Or.inl rfl | exact Or.inr rfl) af)
      (ae (aw (i:=5) aW.nd rfl (by first | exact Or.inl rfl | exact Or.inr rfl) af)
      (ae (aw (i:=6) aW.nd rfl (by first | exact Or.inl rfl | exact Or.inr rfl) (aF ga (ay (ak (K:=K)) (am (K:=K) (pv 0) rfl) (pv 1) (fun _ _=>rfl)) (a9 T.c_DROPS)))
      (ae (bT PassesOwn.never rfl (jd rfl T.n_enumerate (aa (aC T.passes (lw T) (hr.mono (by decide)) oo (aa (pv 0) (aa (pv 1) ad))) ad)) (d7 (K:=K) (n:=2) rfl (bd (aI (i:=7) aW.nd rfl (by first | exact Or.inl rfl | exact Or.inr rfl)) (bd (aI (i:=8) aW.nd rfl (by first | exact Or.inl rfl | exact Or.inr rfl)) d6)))
      (ae (aw (i:=5) aW.nd rfl (by first | exact Or.inl rfl | exact Or.inr rfl) (aF dg (aF bv (pv 5) (ay (aS (K:=K)) (pv 8) af (fun _ _=>rfl))) (ay (aS (K:=K)) (pv 8) af (fun _ _=>rfl))))
      (ae (aw (i:=4) aW.nd rfl (by first | exact Or.inl rfl | exact Or.inr rfl) (aF dg (aF bv (pv 4) (ay (aS (K:=K)) (pv 8) af (fun _ _=>rfl))) (ay (aS (K:=K)) (pv 8) af (fun _ _=>rfl))))
      (ae (aw (i:=6) aW.nd rfl (by first | exact Or.inl rfl | exact Or.inr rfl) (aF dg (pv 6) (ay (aS (K:=K)) (pv 8) af (fun _ _=>rfl))))
      (ag (aV (aN (jP (K:=K)) (pv 7) (pv 2) (by with_unfolding_all rfl))
      (ag (aw (i:=3) aW.nd rfl (by first | exact Or.inl rfl | exact Or.inr rfl) (aF bv (pv 3) (ay (aS (K:=K)) (pv 8) af (fun _ _=>rfl)))))
      (ag (aw (i:=6) aW.nd rfl (by first | exact Or.inl rfl | exact Or.inr rfl) (aF bv (pv 6) (ay (aS (K:=K)) (pv 8) af (fun _ _=>rfl)))))))))))
      (ag (au (aD (aa (pv 3) (aa (pv 4) (aa (pv 5) (aa (pv 6) ad))))))))))))),?_⟩
    have hwf:=hI.wf
    have hlen:=hwf.len
    have hlet:=se hI t
    refine ⟨_,rfl,n,T.a_Net,dn,_,_,rfl,N.obj,T.cl_Net,T.na_Net_reaches,aG,l,h.net,rfl,N.rs,by omega,fun H1 ep s1 hep hep1=>?_⟩
    have N1:=N.same s1
    refine ⟨_,rfl,n,T.a_Net,dn,_,_,rfl,N1.obj,T.cl_Net,T.na_Net_waters,dY,_,rfl,wl,_,_,_,rfl,rfl,SqL.of N1.ws,aY (mJ hne ht),_,_,rfl,rfl,.inl ⟨by omega,by omega⟩,?_⟩
    refine ⟨_,rfl,_,rfl,n,dn,l,wl,sl,h,t,rfl,N1,hI,hne,ht,fun H2 rp s2 hrp R=>?_⟩
    obtain ⟨as,g1,g2,g3⟩:=R.ex
    rw [fj] at g2
    have s12:=s1.trans s2
    refine ⟨rp,_,rfl,SqL.of g1,iT (K:=K) (a:=rp) (xs:=as.map V.ref)
      (fun j σ H'=>Same H2 H'∧∃ v7 v8:Option V,σ=[some (.ref n),some (.int t),some (.ref ep),some (.int (sumN j (vEnd h t (letD h t)):Nat)),some (.int (sumN j (cV h t (letD h t)):Nat)),some (.int (sumN j (bb h t (letD h t)):Nat)),
        some (.int ((letD h t:Int) - (sumN j (fun i=>(vR h t (letD h t) i).1):Nat) + (sumN j (fun i=>if (Vbiraa.children h.net (some i)).isEmpty=true then 0 else (vR h t (letD h t) i).2.2):Nat))),v7,v8])
      ⟨Same.refl _,none,none,?_⟩ (fun j σ H' _ p=>SqL.of (p.1 _ _ g1)) ?_ ?_⟩
    · show [_,_,_,_,_,_,some (V.int ((Vbiraa.letAt h t:Int) * 100000000000000000000000000000000)),_,_]=[_,_,_,_,_,_,some (V.int ((letD h t:Int) - ((0:Nat):Int) + ((0:Nat):Int))),_,_]
      rw [show (letD h t:Int)=(Vbiraa.letAt h t:Int) * 100000000000000000000000000000000 by unfold letD; rw [Int.natCast_mul,DDi]]
      rw [show ((Vbiraa.letAt h t:Int) * 100000000000000000000000000000000 - ((0:Nat):Int) + ((0:Nat):Int))=(Vbiraa.letAt h t:Int) * 100000000000000000000000000000000 by omega]
      rfl
    · rintro j x σ H' tt hx ⟨sm,v7,v8,rfl⟩ htt
      obtain ⟨a,ha,rfl⟩:∃ a,as[j]?=some a∧V.ref a=x:=by
        rw [List.getElem?_map] at hx
        exact Option.map_eq_some_iff.mp hx
      have hj:j < h.net.length:=by
        rw [←g2]
        exact (List.getElem?_eq_some_iff.mp ha).1
      have hrow:=g3 j a _ ha (gu hj)
      have hrow:H2 a=some (.tup (rowV (vR h t (letD h t) j))):=hrow
      obtain ⟨q1,q2⟩:=vR_le hwf (t:=t) (W:=letD h t) hj
      have st:=ah (o:=.tup [.int (j:Nat),V.ref a]) htt
      have sm2:=sm.trans st
      have hr2:=sm2 _ _ hrow
      refine ⟨tt,_,rfl,SqT.of ac,rfl,_,_,rfl,_,_,rfl,rfl,?_⟩
      refine ⟨_,rfl,_,rfl,a,_,0,_,rfl,rfl,SqT.of hr2,rfl,_,_,rfl,rfl,_,rfl,a,_,1,_,rfl,rfl,SqT.of hr2,rfl,_,_,rfl,rfl,?_⟩
      refine ⟨_,rfl,_,rfl,a,_,1,_,rfl,rfl,SqT.of hr2,rfl,_,_,rfl,rfl,_,rfl,a,_,2,_,rfl,rfl,SqT.of hr2,rfl,_,_,rfl,rfl,?_⟩
      refine ⟨_,rfl,_,rfl,a,_,0,_,rfl,rfl,SqT.of hr2,rfl,_,_,rfl,rfl,?_⟩
      refine ⟨_,rfl,_,rfl,ep,_,rfl,.inl (SqL.of (sm2 _ _ (s2 _ _ hep1))),rfl,?_,_,rfl,?_⟩
      · unfold ao
        rw [List.all_map]
        exact List.all_eq_true.mpr fun _ _=>rfl
      have e1:(if false=true then !inV (V.int (j:Nat)) (ao (Vbiraa.ends h.net)) else inV (V.int (j:Nat)) (ao (Vbiraa.ends h.net)))=(Vbiraa.children h.net (some j)).isEmpty:=by
        rw [if_neg Bool.false_ne_true,yl,Bool.eq_iff_iff,decide_eq_true_eq]
        exact sy hj
      refine (congrArg (fun b=>if b=true then _ else _) e1).mpr ?_
      have eS:sumN (j + 1) (bb h t (letD h t))=sumN j (bb h t (letD h t)) + ((vR h t (letD h t) j).1 - (vR h t (letD h t) j).2.1):=ba _ _
      have eL:sumN (j + 1) (cV h t (letD h t))=sumN j (cV h t (letD h t)) + ((vR h t (letD h t) j).2.1 - (vR h t (letD h t) j).2.2):=ba _ _
      have eO:sumN (j + 1) (fun i=>(vR h t (letD h t) i).1)=sumN j (fun i=>(vR h t (letD h t) i).1) + (vR h t (letD h t) j).1:=ba _ _
      have eE:=ba j (vEnd h t (letD h t))
      have eN:=ba j (fun i=>if (Vbiraa.children h.net (some i)).isEmpty=true then 0 else (vR h t (letD h t) i).2.2)
      unfold vEnd at eE
      have iS:((sumN (j + 1) (bb h t (letD h t)):Nat):Int)=(sumN j (bb h t (letD h t)):Nat) + ((vR h t (letD h t) j).1:Nat) - ((vR h t (letD h t) j).2.1:Nat):=by omega
      have iL:((sumN (j + 1) (cV h t (letD h t)):Nat):Int)=(sumN j (cV h t (letD h t)):Nat) + ((vR h t (letD h t) j).2.1:Nat) - ((vR h t (letD h t) j).2.2:Nat):=by omega
      cases c:(Vbiraa.children h.net (some j)).isEmpty with
      | true =>
        rw [c,if_pos rfl] at eE eN
        have iE:((sumN (j + 1) (vEnd h t (letD h t)):Nat):Int)=(sumN j (vEnd h t (letD h t)):Nat) + ((vR h t (letD h t) j).2.2:Nat):=by
          have:=eE
          unfold vEnd
          omega
        have iP:(letD h t:Int) - (sumN (j + 1) (fun i=>(vR h t (letD h t) i).1):Nat) + (sumN (j + 1) (fun i=>if (Vbiraa.children h.net (some i)).isEmpty=true then 0 else (vR h t (letD h t) i).2.2):Nat)=(letD h t:Int) - (sumN j (fun i=>(vR h t (letD h t) i).1):Nat) + (sumN j (fun i=>if (Vbiraa.children h.net (some i)).isEmpty=true then 0 else (vR h t (letD h t) i).2.2):Nat) - ((vR h t (letD h t) j).1:Nat):=by omega
        refine iteT ⟨_,rfl,_,rfl,a,_,2,_,rfl,rfl,SqT.of hr2,rfl,_,_,rfl,rfl,sm2,some (.int (j:Nat)),some (.ref a),?_⟩
        rw [iS,iL,iE,iP]
        rfl
      | false =>
        rw [c,if_neg Bool.false_ne_true] at eE eN
        have iE:((sumN (j + 1) (vEnd h t (letD h t)):Nat):Int)=(sumN j (vEnd h t (letD h t)):Nat):=by
          have:=eE
          unfold vEnd
          omega
        have iP:(letD h t:Int) - (sumN (j + 1) (fun i=>(vR h t (letD h t) i).1):Nat) + (sumN (j + 1) (fun i=>if (Vbiraa.children h.net (some i)).isEmpty=true then 0 else (vR h t (letD h t) i).2.2):Nat)=(letD h t:Int) - (sumN j (fun i=>(vR h t (letD h t) i).1):Nat) + (sumN j (fun i=>if (Vbiraa.children h.net (some i)).isEmpty=true then 0 else (vR h t (letD h t) i).2.2):Nat) - ((vR h t (letD h t) j).1:Nat) + ((vR h t (letD h t) j).2.2:Nat):=by omega
        refine iteF ⟨_,rfl,_,rfl,a,_,2,_,rfl,rfl,SqT.of hr2,rfl,_,_,rfl,rfl,sm2,some (.int (j:Nat)),some (.ref a),?_⟩
        rw [iS,iL,iE,iP]
        rfl
    · rintro σ H' ⟨sm,v7,v8,rfl⟩
      rw [List.length_map,g2]
      have hb:=rT (h:=h) (t0:=t) hwf (gB h t) hI.parts
      have hb2:offD h t + sumN h.net.length (fun i=>(vR h t (letD h t) i).1)=letD h t + sumN h.net.length (fun i=>if (Vbiraa.children h.net (some i)).isEmpty=true then 0 else (vR h t (letD h t) i).2.2):=hb
      have iO:(letD h t:Int) - (sumN h.net.length (fun i=>(vR h t (letD h t) i).1):Nat) + (sumN h.net.length (fun i=>if (Vbiraa.children h.net (some i)).isEmpty=true then 0 else (vR h t (letD h t) i).2.2):Nat)=((offD h t:Nat):Int):=by omega
      rw [iO]
      refine ⟨_,rfl,_,rfl,_,rfl,_,rfl,(by show 4≤sizeLine; decide),fun p hp=>k _ p ((s12.trans sm).trans (ah hp)) ((s12.trans sm).free hp) ?_⟩
      rw [ac]
      rfl
end
end CN
namespace CN
open PySem PySem.Spec PyProof.Rows L2
section
variable {K:PySem.W.Frag} {a b:Addr} {xs zs:List V} {g:TG} {te:TE} {vs:List Nat} {σ:L2.St} {H1:Hp} {D:Addr} {Qd:Hp→Prop}
theorem l6 (ys:List V) (hl:ys.length=xs.length) (hl2:zs.length=xs.length) (hD:H1 D=none) (hq:SqL K H1 a xs) (hq2:SqL K H1 b zs) (hz:xs.length < sizeLine)
    (hs:∀ (i:Nat) (x z y:V) (H:Hp) (T:Addr),xs[i]?=some x→zs[i]?=some z→ys[i]?=some y→Same H1 H→H T=none→∀ Q:VK,(∀ H',Same (upd H T (.tup [x,z])) H'→Q y H')→g (.ref T) (wipe σ vs) (upd H T (.tup [x,z])) fun σ2 H2=>wipe σ2 vs=wipe σ vs∧te σ2 H2 Q)
    (hd:∀ H,Same H1 H→H D=some (.lst ys)→Qd H) :
    ∃ W:Nat→Nat→Hp→Prop,(∃ m,W 0 m (upd H1 D (.lst [])))∧∀ i m H,W i m H →
      ((Itz K a b).stop i H∧Qd H)∨((Itz K a b).go i H∧∃ Nx:Hp→Prop,(∀ H',Nx H'→∃ m',m' < m∧W (i + 1) m' H')∧∀ x H',(Itz K a b).yld i H x H'→g x (wipe σ vs) H' fun σ2 H2=>wipe σ2 vs=wipe σ vs∧tYes σ2 H2 fun b H3 =>
        if b=true then te σ2 H3 fun y H4=>∃ acc,H4 D=some (.lst acc)∧acc.length < sizeLine∧Nx (upd H4 D (.lst (acc++[y]))) else Nx H3):=by
  refine ⟨fun i m H=>m=xs.length - i∧i≤xs.length∧Same H1 H∧H D=some (.lst (ys.take i)),⟨xs.length,by simp,Nat.zero_le _,ah hD,ac⟩,?_⟩
  rintro i m H ⟨rfl,hi,sm,hH⟩
  have q1:=sm.seq hq
  have q2:=sm.seq hq2
  by_cases hlt:i < xs.length
  · refine .inr ⟨⟨xs,zs,xs[i],zs[i],q1,q2,by simp [hlt],List.getElem?_eq_getElem (by omega)⟩,fun H=>Same H1 H∧H D=some (.lst (ys.take (i + 1))),fun H' p'=>⟨xs.length - (i + 1),by omega,rfl,hlt,p'⟩,fun v H' y=>?_⟩
    obtain ⟨T,x,z,e1,e2,e3,y1,y2⟩:=y
    subst e1 e3
    obtain ⟨r,hr⟩:∃ r,ys[i]?=some r:=⟨_,List.getElem?_eq_getElem (by omega)⟩
    simp only [tYes,if_true]
    have st:Same H (upd H T (.tup [x,z])):=ah e2
    refine hs i x z r H T (y1 xs q1) (y2 zs q2) hr sm e2 _ fun H' s2=>kF hD (by omega) sm hH hr (st.trans s2)
  · have e:i=xs.length:=by omega
    subst e
    rw [←hl,List.take_length] at hH
    exact .inl ⟨⟨xs,zs,q1,q2,.inl (Nat.le_refl _)⟩,hd H sm hH⟩
end
def jx (h:Vbiraa.House) (j:Nat):List Nat:=[sumN j fun t=>sumN h.net.length (vEnd h t (letD h t)),sumN j fun t=>sumN h.net.length (cV h t (letD h t)),sumN j fun t=>sumN h.net.length (bb h t (letD h t)),sumN j (offD h)]
theorem uN (h:Vbiraa.House) (j:Nat) {i x z y:Nat} (hx:(jx h j)[i]?=some x) (hz:(accN h j)[i]?=some z) (hy:(jx h (j + 1))[i]?=some y):y=x + z:=by
  unfold jx at hx hy
  unfold accN at hz
  simp only [ba] at hy
  match i,hx,hz,hy with
  | 0,hx,hz,hy=>cases hx; cases hz; cases hy; rfl
  | 1,hx,hz,hy=>cases hx; cases hz; cases hy; rfl
  | 2,hx,hz,hy=>cases hx; cases hz; cases hy; rfl
  | 3,hx,hz,hy=>cases hx; cases hz; cases hy; rfl
  | n + 4,hx,hz,hy=>cases hx
theorem sX {h:Vbiraa.House} (I:HInv h) (t:Nat):aT (Vbiraa.accountRow (Vbiraa.account h t))=qsV (accN h t):=by
  rw [oB I.wf I.parts]
  rfl
theorem kW {h:Vbiraa.House} (I:HInv h):aT (Vbiraa.accountRow (Vbiraa.accounts h))=qsV (jx h 60):=by
  rw [oX h _ _ _ _ fun t _=>oB I.wf I.parts t]
  rfl
section
variable {P:Program} {w:World} {K:PySem.W.Frag} {mg:Str→Option Value} {base:Heap}
def spAccs (CR CN:Addr):Sp:=fun vs H Q _=>∃ (n dn l wl sl:Addr) (h:Vbiraa.House),vs=[.ref n]∧bC CR CN H n h dn l wl sl∧HInv h∧h.net≠[]∧∀ (H':Hp) (p:Addr),Same H H'→H' p=some (.lst (ao (jx h 60)))→Q (.ref p) H'
theorem fG (T:Txt K mg):FnOk P w K mg base CX0 5 T.account_of_all.f T.account_of_all.fd ["net"] (spAccs T.a_Reach T.a_Net):=by
  refine T.account_of_all.F.ok br (fun vs H Q E h=>?_) (fun cdv A outer s H vs Q E hr h=>?_)
  · obtain ⟨n,dn,l,wl,sl,h,rfl,_⟩:=h
    rfl
  · obtain ⟨n,dn,l,wl,sl,h,rfl,N,hI,hne,k⟩:=h
    refine ⟨_,(ae (aw (i:=1) br.nd rfl (by first | exact Or.inl rfl | exact Or.inr rfl) (aD (aa af (aa af (aa af (aa af ad))))))
      (ae (bT PassesOwn.never rfl (cK rfl T.n_range (aa (aE (ax (K:=K)) (by rfl) T.n_len PySem.boot_len (aa (am (K:=K) (pv 0) rfl) ad)) ad)) (aI (i:=2) br.nd rfl (by first | exact Or.inl rfl | exact Or.inr rfl))
      (ag (iB (i:=1) (own:=[("total",3),("more",4)]) rfl br.nd rfl rfl (kg rfl rfl rfl rfl) (tV rfl T.n_zip (aa (pv 1) (aa (aC T.account_of (js T) (hr.mono (by decide)) kS (aa (pv 0) (aa (pv 2) ad))) ad))) (bh (N:=["net", "totals", "tick", "total", "more"]) (sc:=aj cI) (by decide +kernel)) (fun _ _ _ _ _=>(d7 (K:=K) (n:=2) rfl (bd (aI (i:=3) br.nd rfl (by first | exact Or.inl rfl | exact Or.inr rfl)) (bd (aI (i:=4) br.nd rfl (by first | exact Or.inl rfl | exact Or.inr rfl)) d6)))) (fun _ _ _ _ _=>bJ) (fun _ _ _ _ _=>(aF bv (pv 3) (pv 4))))))
      (ag (au (pv 1))))),?_⟩
    have w60:(ao (waters h)).length=60:=by rw [aA,cG hne,List.length_map,List.length_range]
    refine ⟨(by show 4≤sizeLine; decide),fun t0 ht0=>?_⟩
    have s0:=ah (o:=.lst [.int 0,.int 0,.int 0,.int 0]) ht0
    have N0:=N.same s0
    refine ⟨_,rfl,n,T.a_Net,dn,_,_,rfl,N0.obj,T.cl_Net,T.na_Net_waters,dY,wl,_,rfl,.inl (SqL.of N0.ws),_,rfl,by rw [w60]; decide,by rw [w60]; decide,?_⟩
    rw [w60]
    refine jf (n:=60) (fun j σ H'=>Same H H'∧∃ (tp:Addr) (v2 v3 v4:Option V),H' tp=some (.lst (ao (jx h j)))∧σ=[some (.ref n),some (.ref tp),v2,v3,v4]) ⟨s0,t0,none,none,none,ac,rfl⟩ ?_ ?_
    · rintro j σ H' hj ⟨sm,tp,v2,v3,v4,htp,rfl⟩
      refine ⟨_,rfl,_,rfl,_,rfl,n,dn,l,wl,sl,h,j,by rw [Int.zero_add]; rfl,N.same sm,hI,hne,hj,fun H1 ap s1 hap hap1=>?_⟩
      refine ⟨tp,ap,_,_,rfl,SqL.of (s1 _ _ htp),SqL.of hap1,fun D hD=>?_⟩
      refine l6 (xs:=ao (jx h j)) (zs:=ao (accN h j)) (ao (jx h (j + 1))) rfl rfl hD (SqL.of (s1 _ _ htp)) (SqL.of hap1) (by show 4 < sizeLine; decide) ?_ ?_
      · rintro i x z y H2 tt hx hz hy s2 htt Q' kq
        obtain ⟨x,hx1,rfl⟩:=aX hx
        obtain ⟨z,hz1,rfl⟩:=aX hz
        obtain ⟨y,hy1,rfl⟩:=aX hy
        have e:=uN h j hx1 hz1 hy1
        refine ⟨tt,_,rfl,SqT.of ac,rfl,_,_,rfl,_,_,rfl,rfl,rfl,_,rfl,_,rfl,_,_,rfl,rfl,?_⟩
        have:=kq _ (Same.refl _)
        rw [e,Int.natCast_add] at this
        exact this
      · rintro H2 s2 hD2
        exact ⟨(sm.trans s1).trans s2,D,_,_,_,hD2,rfl⟩
    · rintro σ H' ⟨sm,tp,v2,v3,v4,htp,rfl⟩
      exact ⟨_,rfl,k H' tp sm htp⟩
def vE:List Int→List Int→Option Vbiraa.Call
  | [i,t],_=>some (.flow i t)
  | _,_=>none
def qI:List Int→List Int→Option Vbiraa.Call
  | [i,t,n],_=>some (.comes i t n)
  | _,_=>none
def kO:List Int→List Int→Option Vbiraa.Call
  | [t],_=>some (.account t)
  | _,_=>none
def jh:List Int→List Int→Option Vbiraa.Call
  | [],_=>some .accounts
  | _,_=>none
theorem pM {a b:List Int} {c:Vbiraa.Call} (h:vE a b=some c):∃ i t,a=[i,t]∧c=.flow i t:=by
  unfold vE at h
  split at h
  · cases h
    exact ⟨_,_,rfl,rfl⟩
  · cases h
theorem oj {a b:List Int} {c:Vbiraa.Call} (h:qI a b=some c):∃ i t n,a=[i,t,n]∧c=.comes i t n:=by
  unfold qI at h
  split at h
  · cases h
    exact ⟨_,_,_,rfl,rfl⟩
  · cases h
theorem kN {a b:List Int} {c:Vbiraa.Call} (h:kO a b=some c):∃ t,a=[t]∧c=.account t:=by
  unfold kO at h
  split at h
  · cases h
    exact ⟨_,rfl,rfl⟩
  · cases h
theorem jv {a b:List Int} {c:Vbiraa.Call} (h:jh a b=some c):a=[]∧c=.accounts:=by
  unfold jh at h
  split at h
  · cases h
    exact ⟨rfl,rfl⟩
  · cases h
theorem nF (T:Txt K mg):FnOk P w K mg base CX0 7 T.answer_flow.f T.answer_flow.fd ["net", "numbers", "row"] (spFn T.a_Reach T.a_Net vE):=by
  refine T.answer_flow.F.ok mW (fun vs H Q E h=>?_) (fun cdv A outer s H vs Q E hr h=>?_)
  · obtain ⟨n,nl,rl,dn,l,wl,sl,h,nums,rs,c,rfl,_⟩:=h
    rfl
  · obtain ⟨n,nl,rl,dn,l,wl,sl,h,nums,rs,c,rfl,N,hI,hne0,hnl,hrl,hrw,hrs,hC,k⟩:=h
    refine ⟨_,(ae (aV (ei (a8 (aL (K:=K) (aC T.is_reach (bQ T) (hr.mono (by decide)) cF (aa (pv 0) (aa (ay (ak (K:=K)) (pv 1) af (fun _ _=>rfl)) ad))) (fun _=>rfl))) (dW (a8 (aL (K:=K) (aC T.is_tick (cD T) (hr.mono (by decide)) dk (aa (ay (ak (K:=K)) (pv 1) af (fun _ _=>rfl)) ad)) (fun _=>rfl))))).pt
      (ag (au (aD (aa (a9 T.c_OUT_OF_RANGE) ad))))
      aH)
      (ag (au (aF dH (aD (aa af ad)) (aC T.told (gW T) (hr.mono (by decide)) jY (aa (aC T.flow_at (ub T) (hr.mono (by decide)) wT (aa (pv 0) (aa (ay (ak (K:=K)) (pv 1) af (fun _ _=>rfl)) (aa (ay (ak (K:=K)) (pv 1) af (fun _ _=>rfl)) ad)))) ad)))))),?_⟩
    obtain ⟨i,t,rfl,rfl⟩:=pM hC
    have hne:=hne0 rfl
    have hs:Vbiraa.step h (.flow i t)=if (Vbiraa.isReach h i && Vbiraa.isTick t)=false then (h,[-1]) else (h,0 :: Vbiraa.qRow (Vbiraa.offerAt h i.toNat t.toNat)++(Vbiraa.qRow (Vbiraa.taken (Vbiraa.reachAt h.net i.toNat) (Vbiraa.offerAt h i.toNat t.toNat))++(Vbiraa.qRow (Vbiraa.spilled (Vbiraa.reachAt h.net i.toNat) (Vbiraa.offerAt h i.toNat t.toNat))++Vbiraa.qRow (Vbiraa.leavesAt h i.toNat t.toNat)))):=by
      rw [Vbiraa.step,bn hne]
      rfl
    rw [hs] at k
    have bad:(Vbiraa.isReach h i && Vbiraa.isTick t)=false→tRet (tLst (kf (tC (V.int (-1))) tNil)) { nx:=fun x H'=>Q V.non H',rt:=Q } (L2.start ["net", "numbers", "row"] [V.ref n,V.ref nl,V.ref rl]) H:=fun z=>by
      rw [if_pos z] at k
      exact ⟨(by show 1≤sizeLine; decide),fun p hp=>k.new N (ah hp) hp ac⟩
    refine ⟨_,rfl,_,rfl,nl,_,_,_,rfl,rfl,SqL.of hnl,aB (j:=0) rfl rfl,n,dn,l,wl,sl,h,i,rfl,N,_,rfl,?_⟩
    cases c1:Vbiraa.isReach h i with
    | false=>exact iteT (iteT (bad (by rw [c1,Bool.false_and])))
    | true =>
    refine iteF ⟨_,rfl,nl,_,_,_,rfl,rfl,SqL.of hnl,aB (j:=1) rfl rfl,t,rfl,_,rfl,?_⟩
    cases c2:Vbiraa.isTick t with
    | false=>exact iteT (bad (by rw [c1,c2,Bool.true_and]))
    | true =>
    refine iteF ?_
    rw [c1,c2,if_neg (by decide)] at k
    obtain ⟨j,rfl,hj⟩:=bR c1
    obtain ⟨u,rfl,hu⟩:=cE c2
    simp only [Int.toNat_natCast] at k
    refine ⟨(by show 1≤sizeLine; decide),fun z hz=>?_⟩
    have s0:=ah (o:=.lst [.int 0]) hz
    refine ⟨_,rfl,_,rfl,nl,_,_,_,rfl,rfl,SqL.of (s0 _ _ hnl),aB (j:=0) rfl rfl,_,rfl,nl,_,_,_,rfl,rfl,SqL.of (s0 _ _ hnl),aB (j:=1) rfl rfl,n,dn,l,wl,sl,h,j,u,rfl,N.same s0,hI,hj,hu,fun H1 fp s1 hfp hfp1=>?_⟩
    refine ⟨fp,_,rfl,hfp1,by show 4≤1000; decide,fun H2 tp s2 htp htp2=>?_⟩
    refine ⟨z,tp,_,_,rfl,rfl,s2 _ _ (s1 _ _ ac),htp2,(by rw [fE]; show 1 + 8≤sizeLine; decide),fun p hp=>?_⟩
    have sA:=(s0.trans s1).trans s2
    have s3:=ah (o:=.lst ([.int 0]++qsV [(ofD h j u).1,(ofD h j u).2.1,(ofD h j u).1 - (ofD h j u).2.1,lvD h j u])) hp
    refine k.new N (sA.trans s3) (sA.free hp) (ac.trans ?_)
    obtain ⟨a2,a3,_⟩:=rU hI.wf hj u
    rw [a2,a3,yd hI.wf hj,xY hI.wf hj]
    rfl
theorem kC (T:Txt K mg):FnOk P w K mg base CX0 5 T.answer_account.f T.answer_account.fd ["net", "numbers", "row"] (spFn T.a_Reach T.a_Net kO):=by
  refine T.answer_account.F.ok ki (fun vs H Q E h=>?_) (fun cdv A outer s H vs Q E hr h=>?_)
  · obtain ⟨n,nl,rl,dn,l,wl,sl,h,nums,rs,c,rfl,_⟩:=h
    rfl
  · obtain ⟨n,nl,rl,dn,l,wl,sl,h,nums,rs,c,rfl,N,hI,hne0,hnl,hrl,hrw,hrs,hC,k⟩:=h
    refine ⟨_,(ae (aV (a8 (aL (K:=K) (aC T.is_tick (cD T) (hr.mono (by decide)) dk (aa (ay (ak (K:=K)) (pv 1) af (fun _ _=>rfl)) ad)) (fun _=>rfl)))
      (ag (au (aD (aa (a9 T.c_OUT_OF_RANGE) ad))))
      aH)
      (ag (au (aF dH (aD (aa af ad)) (aC T.told (gW T) (hr.mono (by decide)) jY (aa (aC T.account_of (js T) (hr.mono (by decide)) kS (aa (pv 0) (aa (ay (ak (K:=K)) (pv 1) af (fun _ _=>rfl)) ad))) ad)))))),?_⟩
    obtain ⟨t,rfl,rfl⟩:=kN hC
    have hne:=hne0 rfl
    have hs:Vbiraa.step h (.account t)=if Vbiraa.isTick t=false then (h,[-1]) else (h,0 :: Vbiraa.accountRow (Vbiraa.account h t.toNat)):=by
      rw [Vbiraa.step,bn hne]
      rfl
    rw [hs] at k
    refine ⟨_,rfl,nl,_,_,_,rfl,rfl,SqL.of hnl,aB (j:=0) rfl rfl,t,rfl,_,rfl,?_⟩
    cases c2:Vbiraa.isTick t with
    | false =>
      rw [c2,if_pos rfl] at k
      exact iteT ⟨(by show 1≤sizeLine; decide),fun p hp=>k.new N (ah hp) hp ac⟩
    | true =>
    refine iteF ?_
    rw [c2,if_neg (by decide)] at k
    obtain ⟨u,rfl,hu⟩:=cE c2
    rw [Int.toNat_natCast] at k
    refine ⟨(by show 1≤sizeLine; decide),fun z hz=>?_⟩
    have s0:=ah (o:=.lst [.int 0]) hz
    refine ⟨_,rfl,_,rfl,nl,_,_,_,rfl,rfl,SqL.of (s0 _ _ hnl),aB (j:=0) rfl rfl,n,dn,l,wl,sl,h,u,rfl,N.same s0,hI,hne,hu,fun H1 fp s1 hfp hfp1=>?_⟩
    refine ⟨fp,_,rfl,hfp1,by show 4≤1000; decide,fun H2 tp s2 htp htp2=>?_⟩
    refine ⟨z,tp,_,_,rfl,rfl,s2 _ _ (s1 _ _ ac),htp2,(by rw [fE]; show 1 + 8≤sizeLine; decide),fun p hp=>?_⟩
    have sA:=(s0.trans s1).trans s2
    have s3:=ah (o:=.lst ([.int 0]++qsV (accN h u))) hp
    refine k.new N (sA.trans s3) (sA.free hp) (ac.trans ?_)
    rw [←sX hI]
    rfl
theorem jQ (T:Txt K mg):FnOk P w K mg base CX0 6 T.answer_accounts.f T.answer_accounts.fd ["net", "numbers", "row"] (spFn T.a_Reach T.a_Net jh):=by
  refine T.answer_accounts.F.ok jD (fun vs H Q E h=>?_) (fun cdv A outer s H vs Q E hr h=>?_)
  · obtain ⟨n,nl,rl,dn,l,wl,sl,h,nums,rs,c,rfl,_⟩:=h
    rfl
  · obtain ⟨n,nl,rl,dn,l,wl,sl,h,nums,rs,c,rfl,N,hI,hne0,hnl,hrl,hrw,hrs,hC,k⟩:=h
    refine ⟨_,(ag (au (aF dH (aD (aa af ad)) (aC T.told (gW T) (hr.mono (by decide)) jY (aa (aC T.account_of_all (fG T) (hr.mono (by decide)) gF (aa (pv 0) ad)) ad))))),?_⟩
    obtain ⟨rfl,rfl⟩:=jv hC
    have hne:=hne0 rfl
    have hs:Vbiraa.step h .accounts=(h,0 :: Vbiraa.accountRow (Vbiraa.accounts h)):=by
      rw [Vbiraa.step,bn hne]
    rw [hs] at k
    refine ⟨(by show 1≤sizeLine; decide),fun z hz=>?_⟩
    have s0:=ah (o:=.lst [.int 0]) hz
    refine ⟨_,rfl,n,dn,l,wl,sl,h,rfl,N.same s0,hI,hne,fun H1 fp s1 hfp1=>?_⟩
    refine ⟨fp,_,rfl,hfp1,by show 4≤1000; decide,fun H2 tp s2 htp htp2=>?_⟩
    refine ⟨z,tp,_,_,rfl,rfl,s2 _ _ (s1 _ _ ac),htp2,(by rw [fE]; show 1 + 8≤sizeLine; decide),fun p hp=>?_⟩
    have sA:=(s0.trans s1).trans s2
    have s3:=ah (o:=.lst ([.int 0]++qsV (jx h 60))) hp
    refine k.new N (sA.trans s3) (sA.free hp) (ac.trans ?_)
    rw [←kW hI]
    rfl
theorem ml (T:Txt K mg):FnOk P w K mg base CX0 6 T.answer_comes.f T.answer_comes.fd ["net", "numbers", "row"] (spFn T.a_Reach T.a_Net qI):=by
  refine T.answer_comes.F.ok b9 (fun vs H Q E h=>?_) (fun cdv A outer s H vs Q E hr h=>?_)
  · obtain ⟨n,nl,rl,dn,l,wl,sl,h,nums,rs,c,rfl,_⟩:=h
    rfl
  · obtain ⟨n,nl,rl,dn,l,wl,sl,h,nums,rs,c,rfl,N,hI,hne0,hnl,hrl,hrw,hrs,hC,k⟩:=h
    refine ⟨_,(ae (aw (i:=3) b9.nd rfl (by first | exact Or.inl rfl | exact Or.inr rfl) (ay (ak (K:=K)) (pv 1) af (fun _ _=>rfl)))
      (ae (aw (i:=4) b9.nd rfl (by first | exact Or.inl rfl | exact Or.inr rfl) (ay (ak (K:=K)) (pv 1) af (fun _ _=>rfl)))
      (ae (aV (ei (a8 (aL (K:=K) (aC T.is_reach (bQ T) (hr.mono (by decide)) cF (aa (pv 0) (aa (pv 3) ad))) (fun _=>rfl))) (ei (a8 (aL (K:=K) (aC T.is_tick (cD T) (hr.mono (by decide)) dk (aa (pv 4) ad)) (fun _=>rfl))) (dW (a8 (fk cP cP af (ay (ak (K:=K)) (pv 1) af (fun _ _=>rfl)) (aF dg (a9 T.c_TICKS) (pv 4))))))).pt
      (ag (au (aD (aa (a9 T.c_OUT_OF_RANGE) ad))))
      aH)
      (ag (au (aF dH (aD (aa af ad)) (aC T.told (gW T) (hr.mono (by decide)) jY (aa (gv (own:=[("k",5)]) rfl b9.nd (cK rfl T.n_range (aa (ay (ak (K:=K)) (pv 1) af (fun _ _=>rfl)) ad)) (bh (N:=["net", "numbers", "row", "i", "tick", "k"]) (sc:=aj dE) (by decide +kernel)) (fun _ _ _ _ _=>(aI (i:=5) b9.nd rfl (by first | exact Or.inl rfl | exact Or.inr rfl))) (fun _ _ _ _ _=>bJ) (fun _ _ _ _ _=>(aC T.leaving_at (jr T) (hr.mono (by decide)) kQ (aa (pv 0) (aa (pv 3) (aa (aF bv (pv 4) (pv 5)) ad)))))) ad)))))))),?_⟩
    obtain ⟨i,t,m,rfl,rfl⟩:=oj hC
    have hne:=hne0 rfl
    have hs:Vbiraa.step h (.comes i t m)=if (Vbiraa.isReach h i && (Vbiraa.isTick t && Vbiraa.within m 1 ((Vbiraa.TICKS:Int) - t)))=false then (h,[-1]) else (h,0 :: (List.range m.toNat).flatMap fun k=>Vbiraa.qRow (Vbiraa.leavesAt h i.toNat (t.toNat + k))):=by
      rw [Vbiraa.step,bn hne]
      rfl
    rw [hs] at k
    refine ⟨_,rfl,nl,_,_,_,rfl,rfl,SqL.of hnl,aB (j:=0) rfl rfl,_,rfl,nl,_,_,_,rfl,rfl,SqL.of hnl,aB (j:=1) rfl rfl,?_⟩
    have bad:(Vbiraa.isReach h i && (Vbiraa.isTick t && Vbiraa.within m 1 ((Vbiraa.TICKS:Int) - t)))=false→tRet (tLst (kf (tC (V.int (-1))) tNil)) { nx:=fun x H'=>Q V.non H',rt:=Q } [some (V.ref n),some (V.ref nl),some (V.ref rl),some (V.int i),some (V.int t),none] H:=fun z=>by
      rw [if_pos z] at k
      exact ⟨(by show 1≤sizeLine; decide),fun p hp=>k.new N (ah hp) hp ac⟩
    refine ⟨_,rfl,_,rfl,n,dn,l,wl,sl,h,i,rfl,N,_,rfl,?_⟩
    cases c1:Vbiraa.isReach h i with
    | false=>exact iteT (iteT (bad (by rw [c1,Bool.false_and])))
    | true =>
    refine iteF ⟨_,rfl,t,rfl,_,rfl,?_⟩
    cases c2:Vbiraa.isTick t with
    | false=>exact iteT (iteT (bad (by rw [c1,c2,Bool.false_and,Bool.true_and])))
    | true =>
    have hwi:Vbiraa.within m 1 ((Vbiraa.TICKS:Int) - t)=(decide ((1:Int)≤m) && decide (m≤(60:Int) - t)):=rfl
    refine iteF ⟨_,rfl,nl,_,_,_,rfl,rfl,SqL.of hnl,aB (j:=2) rfl rfl,_,_,rfl,rfl,_,rfl,?_⟩
    cases c3:decide ((1:Int)≤m) with
    | false =>
      refine iteF ⟨_,rfl,iteT (bad ?_)⟩
      rw [c1,c2,hwi,c3]
      rfl
    | true =>
    refine iteT ⟨_,rfl,_,_,rfl,rfl,_,_,rfl,rfl,_,rfl,?_⟩
    cases c4:decide (m≤(60:Int) - t) with
    | false =>
      refine iteT (bad ?_)
      rw [c1,c2,hwi,c3,c4]
      rfl
    | true =>
    refine iteF ?_
    rw [c1,c2,hwi,c3,c4,if_neg (by decide)] at k
    obtain ⟨j,rfl,hj⟩:=bR c1
    obtain ⟨u,rfl,hu⟩:=cE c2
    have m1:=of_decide_eq_true c3
    have m2:=of_decide_eq_true c4
    obtain ⟨y,rfl⟩:∃ y:Nat,m=(y:Int):=⟨m.toNat,by omega⟩
    simp only [Int.toNat_natCast] at k
    refine ⟨(by show 1≤sizeLine; decide),fun z hz=>?_⟩
    have s0:=ah (o:=.lst [.int 0]) hz
    refine ⟨_,rfl,nl,_,_,_,rfl,rfl,SqL.of (s0 _ _ hnl),aB (j:=2) rfl rfl,_,rfl,by omega,by omega,fun D hD=>?_⟩
    refine gg (n:=y) (ao ((List.range y).map fun k=>lvD h j (u + k))) (by rw [aA,List.length_map,List.length_range]) hD (aP (by omega)) ?_ ?_
    · rintro i v H2 hi hv s2 Q' kq
      obtain ⟨x,hx,rfl⟩:=aX hv
      rw [List.getElem?_map,List.getElem?_range hi] at hx
      have hx:lvD h j (u + i)=x:=Option.some.inj hx
      subst hx
      refine ⟨rfl,_,rfl,_,rfl,_,rfl,_,rfl,_,_,rfl,rfl,n,dn,l,wl,sl,h,j,u + i,?_,(N.same s0).same s2,hI,hj,by omega,fun H3 s3=>kq H3 s3⟩
      rw [Int.zero_add]
      rfl
    · rintro H2 s2 hD2
      refine ⟨D,_,rfl,hD2,by rw [List.length_map,List.length_range]; omega,fun H3 tp s3 htp htp3=>?_⟩
      refine ⟨z,tp,_,_,rfl,rfl,s3 _ _ (s2 _ _ ac),htp3,?_,fun p hp=>?_⟩
      · rw [fE,List.length_map,List.length_range]
        exact Nat.le_of_lt (aP (by show 1 + 2 * y < 1000000; omega))
      have sA:=(s0.trans s2).trans s3
      have s4:=ah (o:=.lst ([.int 0]++qsV ((List.range y).map fun k=>lvD h j (u + k)))) hp
      refine k.new N (sA.trans s4) (sA.free hp) (ac.trans ?_)
      congr 2
      show V.int 0 :: qsV ((List.range y).map fun k=>lvD h j (u + k))=V.int 0 :: aT ((List.range y).flatMap fun k=>Vbiraa.qRow (Vbiraa.leavesAt h j (u + k)))
      congr 1
      unfold qsV aT
      rw [List.flatMap_map,List.map_flatMap]
      congr 1
      funext q
      rw [yd hI.wf hj]
      rfl
end
end CN
namespace CN
open PySem PySem.Spec PyProof.Rows L2
def vC:List Int→List Int→Option Vbiraa.Call
  | [i,t],_=>some (.most i t)
  | _,_=>none
def vA:List Int→List Int→Option Vbiraa.Call
  | [i,t],_=>some (.part i t)
  | _,_=>none
def mC:List Int→List Int→Option Vbiraa.Call
  | [],_=>some .spills
  | _,_=>none
def vF:List Int→List Int→Option Vbiraa.Call
  | [],_=>some .ends
  | _,_=>none
def mD:List Int→List Int→Option Vbiraa.Call
  | [],_=>some .counts
  | _,_=>none
theorem pK {a b:List Int} {c:Vbiraa.Call} (h:vC a b=some c):∃ i t,a=[i,t]∧c=.most i t:=by
  unfold vC at h
  split at h
  · cases h
    exact ⟨_,_,rfl,rfl⟩
  · cases h
theorem pI {a b:List Int} {c:Vbiraa.Call} (h:vA a b=some c):∃ i t,a=[i,t]∧c=.part i t:=by
  unfold vA at h
  split at h
  · cases h
    exact ⟨_,_,rfl,rfl⟩
  · cases h
theorem l8 {a b:List Int} {c:Vbiraa.Call} (h:mC a b=some c):a=[]∧c=.spills:=by
  unfold mC at h
  split at h
  · cases h
    exact ⟨rfl,rfl⟩
  · cases h
theorem pN {a b:List Int} {c:Vbiraa.Call} (h:vF a b=some c):a=[]∧c=.ends:=by
  unfold vF at h
  split at h
  · cases h
    exact ⟨rfl,rfl⟩
  · cases h
theorem l9 {a b:List Int} {c:Vbiraa.Call} (h:mD a b=some c):a=[]∧c=.counts:=by
  unfold mD at h
  split at h
  · cases h
    exact ⟨rfl,rfl⟩
  · cases h
def spN (h:Vbiraa.House) (j:Nat):List Nat:=(List.range h.net.length).map fun i=>sumN j fun t=>bb h t (letD h t) i
theorem gJ (h:Vbiraa.House) (j:Nat):(spN h j).length=h.net.length:=by
  unfold spN
  rw [List.length_map,List.length_range]
theorem uQ {h:Vbiraa.House} {j i x:Nat} (e:(spN h j)[i]?=some x):i < h.net.length∧x=sumN j fun t=>bb h t (letD h t) i:=by
  have hi:i < h.net.length:=by
    have:=(List.getElem?_eq_some_iff.mp e).1
    rw [gJ] at this
    exact this
  unfold spN at e
  rw [List.getElem?_map,List.getElem?_range hi] at e
  exact ⟨hi,(Option.some.inj e).symm⟩
theorem zeros (n:Nat):(List.replicate n [V.int 0]).flatten=ao ((List.range n).map fun _=>0):=by
  induction n with
  | zero=>rfl
  | succ n ih =>
    rw [List.replicate_succ',List.flatten_append,ih,List.range_succ]
    unfold ao
    rw [List.map_append,List.map_append]
    rfl
theorem tM {h:Vbiraa.House} (I:HInv h):aT ((List.range h.net.length).flatMap fun i=>Vbiraa.qRow (Vbiraa.sumQ ((List.range (Vbiraa.TICKS + Vbiraa.DEEP * Vbiraa.DELAY)).map fun t=>Vbiraa.spilled (Vbiraa.reachAt h.net i) (Vbiraa.offerAt h i t))))=qsV (spN h 60):=by
  have e:((List.range h.net.length).flatMap fun i=>Vbiraa.qRow (Vbiraa.sumQ ((List.range (Vbiraa.TICKS + Vbiraa.DEEP * Vbiraa.DELAY)).map fun t=>Vbiraa.spilled (Vbiraa.reachAt h.net i) (Vbiraa.offerAt h i t))))=(List.range h.net.length).flatMap fun i=>Vbiraa.qRow (Vbiraa.mk (sumN 60 fun t=>bb h t (letD h t) i) DD):=by
    rw [List.flatMap_def,List.flatMap_def,List.map_congr_left fun i hi=>by rw [vV I.wf I.lets (List.mem_range.mp hi)]]
  rw [e]
  unfold aT qsV spN
  rw [List.map_flatMap,List.flatMap_map]
  rfl
section
variable {P:Program} {w:World} {K:PySem.W.Frag} {mg:Str→Option Value} {base:Heap}
def xp (CR CN:Addr):Sp:=fun vs H Q _=>∃ (n dn l wl sl:Addr) (h:Vbiraa.House),vs=[.ref n]∧bC CR CN H n h dn l wl sl∧HInv h∧h.net≠[]∧∀ (H':Hp) (p:Addr),Same H H'→H' p=some (.lst (ao (spN h 60)))→Q (.ref p) H'
theorem lv (T:Txt K mg):FnOk P w K mg base CX0 4 T.spills_of_all.f T.spills_of_all.fd ["net"] (xp T.a_Reach T.a_Net):=by
  refine T.spills_of_all.F.ok bA (fun vs H Q E h=>?_) (fun cdv A outer s H vs Q E hr h=>?_)
  · obtain ⟨n,dn,l,wl,sl,h,rfl,_⟩:=h
    rfl
  · obtain ⟨n,dn,l,wl,sl,h,rfl,N,hI,hne,k⟩:=h
    refine ⟨_,(ae (aw (i:=1) bA.nd rfl (by first | exact Or.inl rfl | exact Or.inr rfl) (aF xT (aD (aa af ad)) (aE (ax (K:=K)) (by rfl) T.n_len PySem.boot_len (aa (am (K:=K) (pv 0) rfl) ad))))
      (ae (bT PassesOwn.never rfl (cK rfl T.n_range (aa (aE (ax (K:=K)) (by rfl) T.n_len PySem.boot_len (aa (am (K:=K) (pv 0) rfl) ad)) ad)) (aI (i:=2) bA.nd rfl (by first | exact Or.inl rfl | exact Or.inr rfl))
      (ag (iB (i:=1) (own:=[("before",3),("row",4)]) rfl bA.nd rfl rfl (kg rfl rfl rfl rfl) (tV rfl T.n_zip (aa (pv 1) (aa (aC T.passes (lw T) (hr.mono (by decide)) oo (aa (pv 0) (aa (pv 2) ad))) ad))) (bh (N:=["net", "spilled", "tick", "before", "row"]) (sc:=aj cX) (by decide +kernel)) (fun _ _ _ _ _=>(d7 (K:=K) (n:=2) rfl (bd (aI (i:=3) bA.nd rfl (by first | exact Or.inl rfl | exact Or.inr rfl)) (bd (aI (i:=4) bA.nd rfl (by first | exact Or.inl rfl | exact Or.inr rfl)) d6)))) (fun _ _ _ _ _=>bJ) (fun _ _ _ _ _=>(aF dg (aF bv (pv 3) (ay (aS (K:=K)) (pv 4) af (fun _ _=>rfl))) (ay (aS (K:=K)) (pv 4) af (fun _ _=>rfl)))))))
      (ag (au (pv 1))))),?_⟩
    have hlen:=hI.wf.len
    have w60:(ao (waters h)).length=60:=by rw [aA,cG hne,List.length_map,List.length_range]
    obtain ⟨xs,h1,h2,h3⟩:=N.rs.list
    refine ⟨(by show 1≤sizeLine; decide),fun z hz=>?_⟩
    have s0:=ah (o:=.lst [.int 0]) hz
    have N0:=N.same s0
    refine ⟨_,rfl,n,T.a_Net,dn,_,_,rfl,N0.obj,T.cl_Net,T.na_Net_reaches,aG,l,_,rfl,.inl (SqL.of (s0 _ _ h1)),z,_,_,rfl,rfl,ac,by omega,by omega,?_,fun t0 ht0=>?_⟩
    · rw [Int.toNat_natCast,h2]
      show 1 * h.net.length≤sizeLine
      exact Nat.le_of_lt (aP (by omega))
    rw [Int.toNat_natCast,h2,zeros]
    have s1:=s0.trans (ah (o:=.lst (ao ((List.range h.net.length).map fun _=>0))) ht0)
    have N1:=N.same s1
    refine ⟨_,rfl,n,T.a_Net,dn,_,_,rfl,N1.obj,T.cl_Net,T.na_Net_waters,dY,wl,_,rfl,.inl (SqL.of N1.ws),_,rfl,by rw [w60]; decide,by rw [w60]; decide,?_⟩
    rw [w60]
    refine jf (n:=60) (fun j σ H'=>Same H H'∧∃ (tp:Addr) (v2 v3 v4:Option V),H' tp=some (.lst (ao (spN h j)))∧σ=[some (.ref n),some (.ref tp),v2,v3,v4]) ⟨s1,t0,none,none,none,ac,rfl⟩ ?_ ?_
    · rintro j σ H' hj ⟨sm,tp,v2,v3,v4,htp,rfl⟩
      refine ⟨_,rfl,_,rfl,_,rfl,n,dn,l,wl,sl,h,j,by rw [Int.zero_add]; rfl,N.same sm,hI,hne,hj,fun H1 ap s2 hap R=>?_⟩
      obtain ⟨as,g1,g2,g3⟩:=R.ex
      rw [fj] at g2
      refine ⟨tp,ap,_,_,rfl,SqL.of (s2 _ _ htp),SqL.of g1,fun D hD=>?_⟩
      refine l6 (xs:=ao (spN h j)) (zs:=as.map V.ref) (ao (spN h (j + 1))) ?_ ?_ hD (SqL.of (s2 _ _ htp)) (SqL.of g1) ?_ ?_ ?_
      · rw [aA,aA,gJ,gJ]
      · rw [aA,gJ,List.length_map,g2]
      · rw [aA,gJ]
        exact aP (by omega)
      · rintro i x y z' H2 tt hx hy hz' s3 htt Q' kq
        obtain ⟨x,hx1,rfl⟩:=aX hx
        obtain ⟨z',hz1,rfl⟩:=aX hz'
        obtain ⟨a,ha,rfl⟩:∃ a,as[i]?=some a∧V.ref a=y:=by
          rw [List.getElem?_map] at hy
          exact Option.map_eq_some_iff.mp hy
        obtain ⟨hi,ex⟩:=uQ hx1
        obtain ⟨_,ez⟩:=uQ hz1
        have hrow:H1 a=some (.tup (rowV (vR h j (letD h j) i))):=g3 i a _ ha (gu hi)
        obtain ⟨q1,q2⟩:=vR_le hI.wf (t:=j) (W:=letD h j) hi
        have hr2:=(s3.trans (ah (o:=.tup [V.int (x:Nat),V.ref a]) htt)) _ _ hrow
        refine ⟨tt,_,rfl,SqT.of ac,rfl,_,_,rfl,_,_,rfl,rfl,rfl,_,rfl,_,rfl,a,_,0,_,rfl,rfl,SqT.of hr2,rfl,_,_,rfl,rfl,_,rfl,a,_,1,_,rfl,rfl,SqT.of hr2,rfl,_,_,rfl,rfl,?_⟩
        have e:((z':Nat):Int)=(x:Int) + ((vR h j (letD h j) i).1:Nat) - ((vR h j (letD h j) i).2.1:Nat):=by
          have e1:z'=x + ((vR h j (letD h j) i).1 - (vR h j (letD h j) i).2.1):=by
            rw [ez,ba,ex]
            rfl
          omega
        have:=kq _ (Same.refl _)
        rw [e] at this
        exact this
      · rintro H2 s3 hD2
        exact ⟨(sm.trans s2).trans s3,D,_,_,_,hD2,rfl⟩
    · rintro σ H' ⟨sm,tp,v2,v3,v4,htp,rfl⟩
      exact ⟨_,rfl,k H' tp sm htp⟩
def spMost (CR CN:Addr):Sp:=fun vs H Q _=>∃ (n dn l wl sl:Addr) (h:Vbiraa.House) (i t:Nat),vs=[.ref n,.int i,.int t]∧bC CR CN H n h dn l wl sl∧HInv h∧i < h.net.length∧∀ (m:Nat),Vbiraa.mostOut h i t=Vbiraa.mk m DD→∀ H',Same H H'→Q (.int (m:Nat)) H'
theorem me (T:Txt K mg):FnOk P w K mg base CX0 3 T.most_leaving.f T.most_leaving.fd ["net", "i", "tick"] (spMost T.a_Reach T.a_Net):=by
  refine T.most_leaving.F.ok b8 (fun vs H Q E h=>?_) (fun cdv A outer s H vs Q E hr h=>?_)
  · obtain ⟨n,dn,l,wl,sl,h,i,t,rfl,_⟩:=h
    rfl
  · obtain ⟨n,dn,l,wl,sl,h,i,t,rfl,N,hI,hi,k⟩:=h
    refine ⟨_,(ae (aw (i:=3) b8.nd rfl (by first | exact Or.inl rfl | exact Or.inr rfl) (aC T.way_to (lu T) (hr.mono (by decide)) om (aa (am (K:=K) (pv 0) rfl) (aa (pv 1) ad))))
      (ae (aw (i:=4) b8.nd rfl (by first | exact Or.inl rfl | exact Or.inr rfl) (aF ga (aF ga (am (K:=K) (ay (ak (K:=K)) (am (K:=K) (pv 0) rfl) (ay (ak (K:=K)) (pv 3) af (fun _ _=>rfl)) (fun _ _=>rfl)) rfl) af) (a9 T.c_DROPS)))
      (ae (bT PassesOwn.never rfl (bW (pv 3)) (aI (i:=5) b8.nd rfl (by first | exact Or.inl rfl | exact Or.inr rfl))
      (ag (aw (i:=4) b8.nd rfl (by first | exact Or.inl rfl | exact Or.inr rfl) (ay (aS (K:=K)) (aC T.pass_through (ic T) (hr.mono (by decide)) i4 (aa (pv 0) (aa (pv 5) (aa (pv 2) (aa (pv 4) ad))))) af (fun _ _=>rfl)))))
      (ag (au (pv 4)))))),?_⟩
    have hwf:=hI.wf
    refine ⟨_,rfl,n,T.a_Net,dn,_,_,rfl,N.obj,T.cl_Net,T.na_Net_reaches,aG,_,rfl,l,h.net,i,rfl,N.rs,hwf,hi,fun H1 wp s1 hwp hwp1=>?_⟩
    have N1:=N.same s1
    have hpos:0 < (Vbiraa.way h.net i).length:=by
      rw [eV hwf.par hi,List.length_append,List.length_singleton]
      omega
    obtain ⟨a0,ha0⟩:∃ a,(Vbiraa.way h.net i)[0]?=some a:=⟨_,List.getElem?_eq_getElem hpos⟩
    have hal:a0 < h.net.length:=mI hwf.par i hi a0 (List.mem_of_getElem? ha0)
    have hm:=zq hwf (fun i t hi=>hI.partB hi t) t hi ha0
    obtain ⟨xs,a,dx,h1,h2,h3,h4⟩:=N1.rs.at_ hal
    obtain ⟨_,nl,nsk,nc1,nc2,_⟩:=hwf.num a0 hal
    have hw0:(ao (Vbiraa.way h.net i))[0]?=some (.int (a0:Nat)):=by
      unfold ao
      rw [List.getElem?_map,ha0]
      rfl
    have kk:=k _ hm
    have eW:((((Vbiraa.reachAt h.net a0).cap * 100 * DD:Nat):Nat):Int)=((Vbiraa.reachAt h.net a0).cap:Int) * 100 * 100000000000000000000000000000000:=by
      rw [Int.natCast_mul,Int.natCast_mul,DDi]
      rfl
    generalize (Vbiraa.reachAt h.net a0).cap * 100 * DD=W at kk eW hm
    refine ⟨_,rfl,n,T.a_Net,dn,_,_,rfl,N1.obj,T.cl_Net,T.na_Net_reaches,aG,_,rfl,wp,_,_,_,rfl,rfl,SqL.of hwp1,aB (j:=0) rfl hw0,l,_,_,_,rfl,rfl,SqL.of h1,aY h3,a,T.a_Reach,dx,_,_,rfl,h4,T.cl_Reach,T.na_Reach_cap,vd,_,_,rfl,rfl,.inl ⟨by omega,by omega⟩,_,_,rfl,rfl,.inl ⟨by omega,by omega⟩,?_⟩
    refine ⟨_,rfl,wp,rfl,⟨_,SqL.of hwp1⟩,fv (K:=K) (a:=wp) (xs:=ao (Vbiraa.way h.net i))
      (fun j σ H'=>Same H1 H'∧∃ v:Option V,σ=[some (.ref n),some (.int i),some (.int t),some (.ref wp),some (.int (iK h t ((Vbiraa.way h.net i).take j) W:Nat)),v]) ⟨Same.refl _,none,(by show [_,_,_,_,some (V.int (((Vbiraa.reachAt h.net a0).cap:Int) * 100 * 100000000000000000000000000000000)),_]=[_,_,_,_,some (V.int ((W:Nat):Int)),_]; rw [eW])⟩ (fun j σ H' _ p=>SqL.of (p.1 _ _ hwp1)) ?_ ?_⟩
    · rintro j x σ H' hx ⟨sm,v,rfl⟩
      obtain ⟨c,hc,rfl⟩:=aX hx
      have hcl:c < h.net.length:=mI hwf.par i hi c (List.mem_of_getElem? hc)
      refine ⟨_,rfl,_,rfl,_,rfl,_,rfl,n,dn,l,wl,sl,h,c,t,_,rfl,N1.same sm,hI,hcl,fun H2 p s2 hp hp2=>?_⟩
      refine ⟨p,_,2,_,rfl,rfl,SqT.of hp2,rfl,?_⟩
      refine ⟨sm.trans s2,some (.int c),?_⟩
      rw [bK hc,nM]
      rfl
    · rintro σ H' ⟨sm,v,rfl⟩
      rw [aA,List.take_length]
      exact ⟨_,rfl,kk H' (s1.trans sm)⟩
theorem nD (T:Txt K mg):FnOk P w K mg base CX0 4 T.answer_most.f T.answer_most.fd ["net", "numbers", "row"] (spFn T.a_Reach T.a_Net vC):=by
  refine T.answer_most.F.ok mV (fun vs H Q E h=>?_) (fun cdv A outer s H vs Q E hr h=>?_)
  · obtain ⟨n,nl,rl,dn,l,wl,sl,h,nums,rs,c,rfl,_⟩:=h
    rfl
  · obtain ⟨n,nl,rl,dn,l,wl,sl,h,nums,rs,c,rfl,N,hI,hne0,hnl,hrl,hrw,hrs,hC,k⟩:=h
    refine ⟨_,(ae (aV (ei (a8 (aL (K:=K) (aC T.is_reach (bQ T) (hr.mono (by decide)) cF (aa (pv 0) (aa (ay (ak (K:=K)) (pv 1) af (fun _ _=>rfl)) ad))) (fun _=>rfl))) (dW (a8 (aL (K:=K) (aC T.is_tick (cD T) (hr.mono (by decide)) dk (aa (ay (ak (K:=K)) (pv 1) af (fun _ _=>rfl)) ad)) (fun _=>rfl))))).pt
      (ag (au (aD (aa (a9 T.c_OUT_OF_RANGE) ad))))
      aH)
      (ag (au (aF dH (aD (aa af ad)) (aC T.told (gW T) (hr.mono (by decide)) jY (aa (aD (aa (aC T.most_leaving (me T) (hr.mono (by decide)) oq (aa (pv 0) (aa (ay (ak (K:=K)) (pv 1) af (fun _ _=>rfl)) (aa (ay (ak (K:=K)) (pv 1) af (fun _ _=>rfl)) ad)))) ad)) ad)))))),?_⟩
    obtain ⟨i,t,rfl,rfl⟩:=pK hC
    have hne:=hne0 rfl
    have hs:Vbiraa.step h (.most i t)=if (Vbiraa.isReach h i && Vbiraa.isTick t)=false then (h,[-1]) else (h,0 :: Vbiraa.qRow (Vbiraa.mostOut h i.toNat t.toNat)):=by
      rw [Vbiraa.step,bn hne]
      rfl
    rw [hs] at k
    have bad:(Vbiraa.isReach h i && Vbiraa.isTick t)=false→tRet (tLst (kf (tC (V.int (-1))) tNil)) { nx:=fun x H'=>Q V.non H',rt:=Q } (L2.start ["net", "numbers", "row"] [V.ref n,V.ref nl,V.ref rl]) H:=fun z=>by
      rw [if_pos z] at k
      exact ⟨(by show 1≤sizeLine; decide),fun p hp=>k.new N (ah hp) hp ac⟩
    refine ⟨_,rfl,_,rfl,nl,_,_,_,rfl,rfl,SqL.of hnl,aB (j:=0) rfl rfl,n,dn,l,wl,sl,h,i,rfl,N,_,rfl,?_⟩
    cases c1:Vbiraa.isReach h i with
    | false=>exact iteT (iteT (bad (by rw [c1,Bool.false_and])))
    | true =>
    refine iteF ⟨_,rfl,nl,_,_,_,rfl,rfl,SqL.of hnl,aB (j:=1) rfl rfl,t,rfl,_,rfl,?_⟩
    cases c2:Vbiraa.isTick t with
    | false=>exact iteT (bad (by rw [c1,c2,Bool.true_and]))
    | true =>
    refine iteF ?_
    rw [c1,c2,if_neg (by decide)] at k
    obtain ⟨j,rfl,hj⟩:=bR c1
    obtain ⟨u,rfl,hu⟩:=cE c2
    simp only [Int.toNat_natCast] at k
    refine ⟨(by show 1≤sizeLine; decide),fun z hz=>?_⟩
    have s0:=ah (o:=.lst [.int 0]) hz
    refine ⟨_,rfl,_,rfl,nl,_,_,_,rfl,rfl,SqL.of (s0 _ _ hnl),aB (j:=0) rfl rfl,_,rfl,nl,_,_,_,rfl,rfl,SqL.of (s0 _ _ hnl),aB (j:=1) rfl rfl,n,dn,l,wl,sl,h,j,u,rfl,N.same s0,hI,hj,fun m hm H1 s1=>?_⟩
    refine ⟨(by show 1≤sizeLine; decide),fun fp hfp=>?_⟩
    have s1':=s1.trans (ah (o:=.lst [.int (m:Nat)]) hfp)
    refine ⟨fp,[m],rfl,ac,by show 1≤1000; decide,fun H2 tp s2 htp htp2=>?_⟩
    refine ⟨z,tp,_,_,rfl,rfl,s2 _ _ (s1' _ _ ac),htp2,(by rw [fE]; show 1 + 2≤sizeLine; decide),fun p hp=>?_⟩
    have sA:=(s0.trans s1').trans s2
    have s3:=ah (o:=.lst ([.int 0]++qsV [m])) hp
    refine k.new N (sA.trans s3) (sA.free hp) (ac.trans ?_)
    rw [hm]
    rfl
theorem nA (T:Txt K mg):FnOk P w K mg base CX0 2 T.answer_part.f T.answer_part.fd ["net", "numbers", "row"] (spFn T.a_Reach T.a_Net vA):=by
  refine T.answer_part.F.ok mU (fun vs H Q E h=>?_) (fun cdv A outer s H vs Q E hr h=>?_)
  · obtain ⟨n,nl,rl,dn,l,wl,sl,h,nums,rs,c,rfl,_⟩:=h
    rfl
  · obtain ⟨n,nl,rl,dn,l,wl,sl,h,nums,rs,c,rfl,N,hI,hne0,hnl,hrl,hrw,hrs,hC,k⟩:=h
    refine ⟨_,(ae (aV (ei (a8 (aL (K:=K) (aC T.is_reach (bQ T) (hr.mono (by decide)) cF (aa (pv 0) (aa (ay (ak (K:=K)) (pv 1) af (fun _ _=>rfl)) ad))) (fun _=>rfl))) (dW (a8 (aL (K:=K) (aC T.is_tick (cD T) (hr.mono (by decide)) dk (aa (ay (ak (K:=K)) (pv 1) af (fun _ _=>rfl)) ad)) (fun _=>rfl))))).pt
      (ag (au (aD (aa (a9 T.c_OUT_OF_RANGE) ad))))
      aH)
      (ag (au (aD (aa af (aa (aC T.gate_part (eJ T) (hr.mono (by decide)) fO (aa (am (K:=K) (pv 0) rfl) (aa (am (K:=K) (pv 0) rfl) (aa (ay (ak (K:=K)) (pv 1) af (fun _ _=>rfl)) (aa (ay (ak (K:=K)) (pv 1) af (fun _ _=>rfl)) ad))))) ad)))))),?_⟩
    obtain ⟨i,t,rfl,rfl⟩:=pI hC
    have hne:=hne0 rfl
    have hs:Vbiraa.step h (.part i t)=if (Vbiraa.isReach h i && Vbiraa.isTick t)=false then (h,[-1]) else (h,[0,(Vbiraa.partAt h i.toNat t.toNat:Int)]):=by
      rw [Vbiraa.step,bn hne]
      rfl
    rw [hs] at k
    have bad:(Vbiraa.isReach h i && Vbiraa.isTick t)=false→tRet (tLst (kf (tC (V.int (-1))) tNil)) { nx:=fun x H'=>Q V.non H',rt:=Q } (L2.start ["net", "numbers", "row"] [V.ref n,V.ref nl,V.ref rl]) H:=fun z=>by
      rw [if_pos z] at k
      exact ⟨(by show 1≤sizeLine; decide),fun p hp=>k.new N (ah hp) hp ac⟩
    refine ⟨_,rfl,_,rfl,nl,_,_,_,rfl,rfl,SqL.of hnl,aB (j:=0) rfl rfl,n,dn,l,wl,sl,h,i,rfl,N,_,rfl,?_⟩
    cases c1:Vbiraa.isReach h i with
    | false=>exact iteT (iteT (bad (by rw [c1,Bool.false_and])))
    | true =>
    refine iteF ⟨_,rfl,nl,_,_,_,rfl,rfl,SqL.of hnl,aB (j:=1) rfl rfl,t,rfl,_,rfl,?_⟩
    cases c2:Vbiraa.isTick t with
    | false=>exact iteT (bad (by rw [c1,c2,Bool.true_and]))
    | true =>
    refine iteF ?_
    rw [c1,c2,if_neg (by decide)] at k
    obtain ⟨j,rfl,hj⟩:=bR c1
    obtain ⟨u,rfl,hu⟩:=cE c2
    simp only [Int.toNat_natCast] at k
    refine ⟨_,rfl,n,T.a_Net,dn,_,_,rfl,N.obj,T.cl_Net,T.na_Net_reaches,aG,_,rfl,n,T.a_Net,dn,_,_,rfl,N.obj,T.cl_Net,T.na_Net_settings,dj,_,rfl,nl,_,_,_,rfl,rfl,SqL.of hnl,aB (j:=0) rfl rfl,_,rfl,nl,_,_,_,rfl,rfl,SqL.of hnl,aB (j:=1) rfl rfl,
      l,sl,h.net,h.settings,j,u,rfl,N.rs,N.ss,hj,(by show 2≤sizeLine; decide),fun p hp=>?_⟩
    exact k.new N (ah hp) hp ac
theorem lx (T:Txt K mg):FnOk P w K mg base CX0 5 T.answer_spills.f T.answer_spills.fd ["net", "numbers", "row"] (spFn T.a_Reach T.a_Net mC):=by
  refine T.answer_spills.F.ok k6 (fun vs H Q E h=>?_) (fun cdv A outer s H vs Q E hr h=>?_)
  · obtain ⟨n,nl,rl,dn,l,wl,sl,h,nums,rs,c,rfl,_⟩:=h
    rfl
  · obtain ⟨n,nl,rl,dn,l,wl,sl,h,nums,rs,c,rfl,N,hI,hne0,hnl,hrl,hrw,hrs,hC,k⟩:=h
    refine ⟨_,(ag (au (aF dH (aD (aa af ad)) (aC T.told (gW T) (hr.mono (by decide)) jY (aa (aC T.spills_of_all (lv T) (hr.mono (by decide)) mm (aa (pv 0) ad)) ad))))),?_⟩
    obtain ⟨rfl,rfl⟩:=l8 hC
    have hne:=hne0 rfl
    have hlen:=hI.wf.len
    have hs:Vbiraa.step h .spills=(h,0 :: (List.range h.net.length).flatMap fun i=>Vbiraa.qRow (Vbiraa.sumQ ((List.range (Vbiraa.TICKS + Vbiraa.DEEP * Vbiraa.DELAY)).map fun t=>Vbiraa.spilled (Vbiraa.reachAt h.net i) (Vbiraa.offerAt h i t)))):=by
      rw [Vbiraa.step,bn hne]
    rw [hs] at k
    refine ⟨(by show 1≤sizeLine; decide),fun z hz=>?_⟩
    have s0:=ah (o:=.lst [.int 0]) hz
    refine ⟨_,rfl,n,dn,l,wl,sl,h,rfl,N.same s0,hI,hne,fun H1 fp s1 hfp1=>?_⟩
    refine ⟨fp,_,rfl,hfp1,by rw [gJ]; omega,fun H2 tp s2 htp htp2=>?_⟩
    refine ⟨z,tp,_,_,rfl,rfl,s2 _ _ (s1 _ _ ac),htp2,?_,fun p hp=>?_⟩
    · rw [fE,gJ]
      show 1 + 2 * h.net.length≤sizeLine
      exact Nat.le_of_lt (aP (by omega))
    have sA:=(s0.trans s1).trans s2
    have s3:=ah (o:=.lst ([.int 0]++qsV (spN h 60))) hp
    refine k.new N (sA.trans s3) (sA.free hp) (ac.trans ?_)
    rw [←tM hI]
    rfl
theorem nG (T:Txt K mg):FnOk P w K mg base CX0 3 T.answer_ends.f T.answer_ends.fd ["net", "numbers", "row"] (spFn T.a_Reach T.a_Net vF):=by
  refine T.answer_ends.F.ok ir (fun vs H Q E h=>?_) (fun cdv A outer s H vs Q E hr h=>?_)
  · obtain ⟨n,nl,rl,dn,l,wl,sl,h,nums,rs,c,rfl,_⟩:=h
    rfl
  · obtain ⟨n,nl,rl,dn,l,wl,sl,h,nums,rs,c,rfl,N,hI,hne0,hnl,hrl,hrw,hrs,hC,k⟩:=h
    refine ⟨_,(ae (aw (i:=3) ir.nd rfl (by first | exact Or.inl rfl | exact Or.inr rfl) (aC T.ends_of (dX T) (hr.mono (by decide)) eR (aa (am (K:=K) (pv 0) rfl) ad)))
      (ag (au (aF dH (aD (aa af (aa (aE (ax (K:=K)) (by rfl) T.n_len PySem.boot_len (aa (pv 3) ad)) ad))) (pv 3))))),?_⟩
    obtain ⟨rfl,rfl⟩:=pN hC
    have hne:=hne0 rfl
    have hlen:=hI.wf.len
    have hs:Vbiraa.step h .ends=(h,0 :: ((Vbiraa.ends h.net).length:Int) :: Vbiraa.nums (Vbiraa.ends h.net)):=by
      rw [Vbiraa.step,bn hne]
    rw [hs] at k
    have hel:(Vbiraa.ends h.net).length≤h.net.length:=by
      unfold Vbiraa.ends
      have:=List.length_filter_le (fun i=>(Vbiraa.children h.net (some i)).isEmpty) (List.range h.net.length)
      rw [List.length_range] at this
      exact this
    refine ⟨_,rfl,n,T.a_Net,dn,_,_,rfl,N.obj,T.cl_Net,T.na_Net_reaches,aG,l,h.net,rfl,N.rs,by omega,fun H1 ep s1 hep hep1=>?_⟩
    refine ⟨_,rfl,ep,_,rfl,.inl (SqL.of hep1),(by show 2≤sizeLine; decide),fun z hz=>?_⟩
    have s2:=ah (o:=.lst [.int 0,.int ((ao (Vbiraa.ends h.net)).length:Int)]) hz
    refine ⟨_,rfl,z,ep,_,_,rfl,rfl,ac,s2 _ _ hep1,?_,fun p hp=>?_⟩
    · rw [aA]
      show 2 + (Vbiraa.ends h.net).length≤sizeLine
      exact Nat.le_of_lt (aP (by omega))
    have s3:=ah (o:=.lst ([.int 0,.int ((ao (Vbiraa.ends h.net)).length:Int)]++ao (Vbiraa.ends h.net))) hp
    refine k.new N ((s1.trans s2).trans s3) (s1.free (s2.free hp)) (ac.trans ?_)
    rw [aA,show ao (Vbiraa.ends h.net)=aT (Vbiraa.nums (Vbiraa.ends h.net)) by unfold aT Vbiraa.nums; rw [eP]]
    rfl
theorem yh {h:Vbiraa.House} (hI:HInv h) (hne:h.net≠[]):(waters h).sum=h.lets.foldl (fun a b=>a + b) 0:=by
  rw [cG hne]
  exact xm h.lets 60 hI.lets
theorem ly (T:Txt K mg):FnOk P w K mg base CX0 3 T.answer_counts.f T.answer_counts.fd ["net", "numbers", "row"] (spFn T.a_Reach T.a_Net mD):=by
  refine T.answer_counts.F.ok k7 (fun vs H Q E h=>?_) (fun cdv A outer s H vs Q E hr h=>?_)
  · obtain ⟨n,nl,rl,dn,l,wl,sl,h,nums,rs,c,rfl,_⟩:=h
    rfl
  · obtain ⟨n,nl,rl,dn,l,wl,sl,h,nums,rs,c,rfl,N,hI,hne0,hnl,hrl,hrw,hrs,hC,k⟩:=h
    refine ⟨_,(ag (au (aD (aa af (aa (aE (ax (K:=K)) (by rfl) T.n_len PySem.boot_len (aa (am (K:=K) (pv 0) rfl) ad)) (aa (aE (ax (K:=K)) (by rfl) T.n_len PySem.boot_len (aa (aC T.ends_of (dX T) (hr.mono (by decide)) eR (aa (am (K:=K) (pv 0) rfl) ad)) ad)) (aa (aE (ax (K:=K)) (by rfl) T.n_len PySem.boot_len (aa (am (K:=K) (pv 0) rfl) ad)) (aa (aE (qA (K:=K) rfl) (by rfl) T.n_sum lI (aa (am (K:=K) (pv 0) rfl) ad)) ad)))))))),?_⟩
    obtain ⟨rfl,rfl⟩:=l9 hC
    have hne:=hne0 rfl
    have hlen:=hI.wf.len
    have hs:Vbiraa.step h .counts=(h,0 :: Vbiraa.nums [h.net.length,(Vbiraa.ends h.net).length,h.settings.length,h.lets.foldl (fun a b=>a + b) 0]):=by
      rw [Vbiraa.step,bn hne]
    rw [hs,←yh hI hne] at k
    obtain ⟨xs,h1,h2,h3⟩:=N.rs.list
    refine ⟨_,rfl,n,T.a_Net,dn,_,_,rfl,N.obj,T.cl_Net,T.na_Net_reaches,aG,l,_,rfl,.inl (SqL.of h1),?_⟩
    refine ⟨_,rfl,n,T.a_Net,dn,_,_,rfl,N.obj,T.cl_Net,T.na_Net_reaches,aG,l,h.net,rfl,N.rs,by omega,fun H1 ep s1 hep hep1=>?_⟩
    have N1:=N.same s1
    obtain ⟨as,g1,g2,g3⟩:=N1.ss.ex
    have hw:=N1.ws
    rw [eP] at hw
    refine ⟨ep,_,rfl,.inl (SqL.of hep1),_,rfl,n,T.a_Net,dn,_,_,rfl,N1.obj,T.cl_Net,T.na_Net_settings,dj,sl,_,rfl,.inl (SqL.of g1),_,rfl,n,T.a_Net,dn,_,_,rfl,N1.obj,T.cl_Net,T.na_Net_waters,dY,wl,_,rfl,SqL.of hw,(by show 5≤sizeLine; decide),fun p hp=>?_⟩
    refine k.new N (s1.trans (ah hp)) (s1.free hp) (ac.trans ?_)
    rw [h2,aA,List.length_map,g2,kh]
    rfl
end
end CN
namespace CN
open PySem PySem.Spec PyProof.Rows L2
section
variable {K:PySem.W.Frag} {a:Addr} {xs:List V} {g:TG} {te:TE} {vs:List Nat} {σ:L2.St} {H1:Hp} {D:Addr} {Qd:Hp→Prop}
theorem zx (Pv:Nat→Hp→Prop) (h0:Pv 0 (upd H1 D (.lst []))) (hl:∀ i H,Pv i H→SqL K H a xs)
    (hs:∀ (i:Nat) (x:V) (H:Hp) (T:Addr),xs[i]?=some x→Pv i H→H T=none→g (.ref T) (wipe σ vs) (upd H T (.tup [.int (i:Nat),x])) fun σ2 H2=>wipe σ2 vs=wipe σ vs∧te σ2 H2 fun y H4=>∃ acc,H4 D=some (.lst acc)∧acc.length < sizeLine∧Pv (i + 1) (upd H4 D (.lst (acc++[y]))))
    (hd:∀ H,Pv xs.length H→Qd H) :
    ∃ W:Nat→Nat→Hp→Prop,(∃ m,W 0 m (upd H1 D (.lst [])))∧∀ i m H,W i m H →
      ((Ite K a).stop i H∧Qd H)∨((Ite K a).go i H∧∃ Nx:Hp→Prop,(∀ H',Nx H'→∃ m',m' < m∧W (i + 1) m' H')∧∀ x H',(Ite K a).yld i H x H'→g x (wipe σ vs) H' fun σ2 H2=>wipe σ2 vs=wipe σ vs∧tYes σ2 H2 fun b H3 =>
        if b=true then te σ2 H3 fun y H4=>∃ acc,H4 D=some (.lst acc)∧acc.length < sizeLine∧Nx (upd H4 D (.lst (acc++[y]))) else Nx H3):=by
  refine ⟨fun i m H=>m=xs.length - i∧i≤xs.length∧Pv i H,⟨xs.length,by simp,Nat.zero_le _,h0⟩,?_⟩
  rintro i m H ⟨rfl,hi,p⟩
  have q:=hl i H p
  by_cases hlt:i < xs.length
  · refine .inr ⟨⟨xs,xs[i],q,by simp [hlt]⟩,Pv (i + 1),fun H' p'=>⟨xs.length - (i + 1),by omega,rfl,hlt,p'⟩,fun v H' y=>?_⟩
    obtain ⟨T,x,e1,e2,e3,y⟩:=y
    subst e1 e3
    simp only [tYes,if_true]
    exact hs i x H T (y xs q) p e2
  · have e:i=xs.length:=by omega
    subst e
    exact .inl ⟨⟨xs,q,Nat.le_refl _⟩,hd H p⟩
end
theorem sK {ns:Vbiraa.Net} {i c:Nat} (hi:i < ns.length) (l:List Nat):Vbiraa.delayOf (be ns i c) l=Vbiraa.delayOf ns l:=by
  unfold Vbiraa.delayOf
  rw [List.map_congr_left fun j _=>wI hi j]
theorem pG {ns:Vbiraa.Net} {i c:Nat} (hi:i < ns.length) (j:Nat):above (be ns i c) j=above ns j:=by
  unfold above
  rw [qC hi,sK hi]
theorem pF {ns:Vbiraa.Net} {i c:Nat} (hi:i < ns.length) (j:Nat):depth (be ns i c) j=depth ns j:=by
  unfold depth
  rw [qC hi]
theorem cap_rf {ns:Vbiraa.Net} {i c:Nat} (hi:i < ns.length) {j:Nat} (hj:j≠i):rf (be ns i c) j=rf ns j:=by
  unfold rf
  rw [pG hi,pF hi,iZ hi,if_neg hj]
theorem wH {ns:Vbiraa.Net} {i c:Nat} (hi:i < ns.length):rf (be ns i c) i=rfs (sOf (Vbiraa.reachAt ns i).name) (pInt (Vbiraa.reachAt ns i).parent) (above ns i) (depth ns i) (Vbiraa.reachAt ns i).delay (Vbiraa.reachAt ns i).loss (Vbiraa.reachAt ns i).soak c (Vbiraa.reachAt ns i).gate:=by
  unfold rf
  rw [pG hi,pF hi,iZ hi,if_pos rfl]
def qH:List Int→List Int→Option Vbiraa.Call
  | [i,c],_=>some (.ifCap i c)
  | _,_=>none
theorem oh {a b:List Int} {c:Vbiraa.Call} (h:qH a b=some c):∃ i t,a=[i,t]∧c=.ifCap i t:=by
  unfold qH at h
  split at h
  · cases h
    exact ⟨_,_,rfl,rfl⟩
  · cases h
section
variable {P:Program} {w:World} {K:PySem.W.Frag} {mg:Str→Option Value} {base:Heap}
def vX (C:Addr):Sp:=fun vs H Q _=>∃ (a dx:Addr) (ns:Vbiraa.Net) (i c:Nat),vs=[.ref a,.int (c:Nat)]∧H a=some (.ins C dx (rf ns i)) ∧
  ∀ (H':Hp) (x:Addr),Same H H'→H x=none→RObj C H' x (rfs (sOf (Vbiraa.reachAt ns i).name) (pInt (Vbiraa.reachAt ns i).parent) (above ns i) (depth ns i) (Vbiraa.reachAt ns i).delay (Vbiraa.reachAt ns i).loss (Vbiraa.reachAt ns i).soak c (Vbiraa.reachAt ns i).gate)→Q (.ref x) H'
theorem rM (T:Txt K mg):FnOk P w K mg base CX0 3 T.with_cap.f T.with_cap.fd ["reach", "cap"] (vX T.a_Reach):=by
  refine T.with_cap.F.ok lN (fun vs H Q E h=>?_) (fun cdv A outer s H vs Q E hr h=>?_)
  · obtain ⟨a,dx,ns,i,c,rfl,_⟩:=h
    rfl
  · obtain ⟨a,dx,ns,i,c,rfl,ha,k⟩:=h
    refine ⟨_,(ae (aw (i:=2) lN.nd rfl (by first | exact Or.inl rfl | exact Or.inr rfl) (aD (aa (am (K:=K) (pv 0) rfl) (aa (am (K:=K) (pv 0) rfl) (aa (am (K:=K) (pv 0) rfl) (aa (pv 1) (aa (am (K:=K) (pv 0) rfl) ad)))))))
      (ag (au (qg T.mk_Reach (gc T) (hr.mono (by decide)) rfl T.m_Reach ia .nil lQ (aa (am (K:=K) (pv 0) rfl) (aa (am (K:=K) (pv 0) rfl) (aa (am (K:=K) (pv 0) rfl) (aa (am (K:=K) (pv 0) rfl) (aa (pv 2) ad))))))))),?_⟩
    refine ⟨_,rfl,a,T.a_Reach,dx,_,_,rfl,ha,T.cl_Reach,T.na_Reach_delay,kG,_,rfl,a,T.a_Reach,dx,_,_,rfl,ha,T.cl_Reach,T.na_Reach_loss,qr,_,rfl,a,T.a_Reach,dx,_,_,rfl,ha,T.cl_Reach,T.na_Reach_soak,qp,_,rfl,_,rfl,a,T.a_Reach,dx,_,_,rfl,ha,T.cl_Reach,T.na_Reach_gate,nW,(by show 5≤sizeLine; decide),fun nl hnl=>?_⟩
    have s1:=ah (o:=.lst [.int ((Vbiraa.reachAt ns i).delay:Nat),.int ((Vbiraa.reachAt ns i).loss:Nat),.int ((Vbiraa.reachAt ns i).soak:Nat),.int (c:Nat),.int ((Vbiraa.reachAt ns i).gate:Nat)]) hnl
    have ha1:=s1 _ _ ha
    refine ⟨_,rfl,a,T.a_Reach,dx,_,_,rfl,ha1,T.cl_Reach,T.na_Reach_name,nV,_,rfl,a,T.a_Reach,dx,_,_,rfl,ha1,T.cl_Reach,T.na_Reach_begins,cW,_,rfl,a,T.a_Reach,dx,_,_,rfl,ha1,T.cl_Reach,T.na_Reach_above,g8,_,rfl,a,T.a_Reach,dx,_,_,rfl,ha1,T.cl_Reach,T.na_Reach_depth,qt,_,rfl,?_⟩
    intro x dy nx nd ne
    have hn1:(upd H nl (.lst [.int ((Vbiraa.reachAt ns i).delay:Nat),.int ((Vbiraa.reachAt ns i).loss:Nat),.int ((Vbiraa.reachAt ns i).soak:Nat),.int (c:Nat),.int ((Vbiraa.reachAt ns i).gate:Nat)])) nl=some (.lst [.int ((Vbiraa.reachAt ns i).delay:Nat),.int ((Vbiraa.reachAt ns i).loss:Nat),.int ((Vbiraa.reachAt ns i).soak:Nat),.int (c:Nat),.int ((Vbiraa.reachAt ns i).gate:Nat)]):=ac
    refine ⟨x,dy,nl,_,_,_,_,_,_,_,_,_,rfl,ac,(by rw [ai (aq hn1 nx),ai (aq hn1 nd)]; exact hn1),fun H2 h2 kp=>⟨rfl,?_⟩⟩
    exact k H2 x (s1.trans (Same.made nx nd kp)) (s1.free nx) ⟨dy,h2⟩
def xw (CR CN:Addr):Sp:=fun vs H Q _=>∃ (n dn l wl sl:Addr) (h:Vbiraa.House) (i c:Nat),vs=[.ref n,.int i,.int (c:Nat)]∧bC CR CN H n h dn l wl sl∧HInv h∧i < h.net.length ∧
  ∀ (H':Hp) (n2 dn2 l2 wl2 sl2:Addr),Same H H'→bC CR CN H' n2 (bG h i c) dn2 l2 wl2 sl2→Q (.ref n2) H'
theorem ua (T:Txt K mg):FnOk P w K mg base CX0 4 T.if_held.f T.if_held.fd ["net", "i", "cap"] (xw T.a_Reach T.a_Net):=by
  refine T.if_held.F.ok fb (fun vs H Q E h=>?_) (fun cdv A outer s H vs Q E hr h=>?_)
  · obtain ⟨n,dn,l,wl,sl,h,i,c,rfl,_⟩:=h
    rfl
  · obtain ⟨n,dn,l,wl,sl,h,i,c,rfl,N,hI,hi,k⟩:=h
    refine ⟨_,(ae (aw (i:=3) fb.nd rfl (by first | exact Or.inl rfl | exact Or.inr rfl) (rE T.mk_Net (lW T) (hr.mono (by decide)) rfl T.m_Net oA .nil lQ))
      (ae (bU (pv 3) (gv (own:=[("k",4),("reach",5)]) rfl fb.nd (jd rfl T.n_enumerate (aa (am (K:=K) (pv 0) rfl) ad)) (bh (N:=["net", "i", "cap", "other", "k", "reach"]) (sc:=aj i9) (by decide +kernel)) (fun _ _ _ _ _=>(d7 (K:=K) (n:=2) rfl (bd (aI (i:=4) fb.nd rfl (by first | exact Or.inl rfl | exact Or.inr rfl)) (bd (aI (i:=5) fb.nd rfl (by first | exact Or.inl rfl | exact Or.inr rfl)) d6)))) (fun _ _ _ _ _=>bJ) (fun _ _ _ _ _=>(rF (aN dG (pv 4) (pv 1) (aQ _)) (aC T.with_cap (rM T) (hr.mono (by decide)) uG (aa (pv 5) (aa (pv 2) ad))) (pv 5)))) rfl)
      (ae (bU (pv 3) (cM kK (by rfl) T.n_list hX (aa (am (K:=K) (pv 0) rfl) ad)) rfl)
      (ae (bU (pv 3) (cM kK (by rfl) T.n_list hX (aa (am (K:=K) (pv 0) rfl) ad)) rfl)
      (ag (au (pv 3))))))),?_⟩
    have hlen:=hI.wf.len
    intro n2 dn2 hn2 hdn2 ndn
    refine ⟨n2,dn2,rfl,ac,fun H1 l0 wl0 sl0 a1 a2 a3 a4 kp=>⟨rfl,?_⟩⟩
    have s1:Same H H1:=fun b o e=>kp b o (by rw [ai (aq e hn2),ai (aq e hdn2)]; exact e) (aq e hn2)
    have N1:=N.same s1
    obtain ⟨xs,h1,h2,h3⟩:=N1.rs.list
    refine ⟨_,rfl,n,T.a_Net,dn,_,_,rfl,N1.obj,T.cl_Net,T.na_Net_reaches,aG,l,_,rfl,SqL.of h1,fun D hD=>?_⟩
    refine zx (K:=K) (a:=l) (xs:=xs) (fun j H'=>Same H1 H'∧∃ as:List Addr,H' D=some (.lst (as.map V.ref))∧as.length=j∧∀ (q:Nat) (a:Addr),as[q]?=some a→RObj T.a_Reach H' a (rf (be h.net i c) q)) ⟨ah hD,[],ac,rfl,fun q a e=>by cases e⟩ (fun j H' p=>SqL.of (p.1 _ _ h1)) ?_ ?_
    · rintro j x H2 tt hx ⟨s2,as,g1,g2,g3⟩ htt
      obtain ⟨a,dx,rfl,ha⟩:=h3 j x hx
      have hj:j < h.net.length:=by
        rw [←h2]
        exact (List.getElem?_eq_some_iff.mp hx).1
      have st:=ah (o:=.tup [.int (j:Nat),V.ref a]) htt
      have s3:=s2.trans st
      have ha3:=s3 _ _ ha
      have hlenA:(as.map V.ref).length < sizeLine:=by
        rw [List.length_map,g2]
        exact aP (by omega)
      have fin:∀ (H4:Hp) (b:Addr),Same (upd H2 tt (.tup [.int (j:Nat),V.ref a])) H4→RObj T.a_Reach H4 b (rf (be h.net i c) j)→∃ acc,H4 D=some (.lst acc)∧acc.length < sizeLine∧(Same H1 (upd H4 D (.lst (acc++[.ref b])))∧∃ as:List Addr,(upd H4 D (.lst (acc++[.ref b]))) D=some (.lst (as.map V.ref))∧as.length=j + 1∧∀ (q:Nat) (a:Addr),as[q]?=some a→RObj T.a_Reach (upd H4 D (.lst (acc++[.ref b]))) a (rf (be h.net i c) q)):=by
        intro H4 b s4 ⟨db,hb⟩
        have gD:=s4 _ _ (st _ _ g1)
        refine ⟨_,gD,hlenA,aR (s3.trans s4) hD,as++[b],?_,by rw [List.length_append,g2]; rfl,fun q z e=>?_⟩
        · rw [ac,List.map_append]
          rfl
        · by_cases hq:q < as.length
          · rw [List.getElem?_append_left hq] at e
            obtain ⟨dz,hz⟩:=g3 q z e
            have hz4:=s4 _ _ (st _ _ hz)
            exact ⟨dz,by rw [ai (bL hz4 gD (by intro z; cases z))]; exact hz4⟩
          · rw [List.getElem?_append_right (by omega)] at e
            cases eq:q - as.length with
            | zero =>
              rw [eq] at e
              have e:b=z:=Option.some.inj e
              subst e
              have:q=j:=by omega
              subst this
              exact ⟨db,by rw [ai (bL hb gD (by intro z; cases z))]; exact hb⟩
            | succ m =>
              rw [eq] at e
              cases e
      refine ⟨tt,_,rfl,SqT.of ac,rfl,_,_,rfl,_,_,rfl,rfl,rfl,_,rfl,_,rfl,rfl,_,rfl,?_⟩
      refine (congrArg (fun b=>if b=true then _ else _) (cZ (a:=j) (b:=i))).mpr ?_
      refine ite2 (fun c1=>?_) (fun c1=>?_)
      · have c1:j=i:=of_decide_eq_true c1
        subst c1
        refine ⟨_,rfl,_,rfl,a,dx,h.net,j,c,rfl,ha3,fun H4 x s4 hx4 hR=>?_⟩
        exact fin H4 x s4 (by rw [wH hi]; exact hR)
      · have c1:¬ j=i:=fun z=>c1 (decide_eq_true z)
        exact ⟨_,rfl,fin _ a (Same.refl _) ⟨dx,by rw [cap_rf hi c1]; exact ha3⟩⟩
    · rintro H2 ⟨s2,as,g1,g2,g3⟩
      have hn2':=s2 _ _ a1
      have s12:=s1.trans s2
      have nDn:D≠n2:=bL g1 hn2' (by intro z; cases z)
      refine ⟨_,rfl,n2,T.a_Net,dn2,_,rfl,hn2',T.cl_Net,T.na_Net_reaches,by show 3 < 1000; decide,?_⟩
      have s3:Same H (upd H2 n2 (.ins T.a_Net dn2 (nf D wl0 sl0))):=aR s12 hn2
      have N3:=N.same s3
      refine ⟨_,rfl,n,T.a_Net,dn,_,_,rfl,N3.obj,T.cl_Net,T.na_Net_waters,dY,wl,_,rfl,.inl (SqL.of N3.ws),fun w2 hw2=>?_⟩
      have nwn:n2≠w2:=aq ac hw2
      refine ⟨_,rfl,n2,T.a_Net,dn2,_,rfl,by rw [ai nwn]; exact ac,T.cl_Net,T.na_Net_waters,by show 3 < 1000; decide,?_⟩
      have s4:Same H (upd (upd (upd H2 n2 (.ins T.a_Net dn2 (nf D wl0 sl0))) w2 (.lst (ao (waters h)))) n2 (.ins T.a_Net dn2 (nf D w2 sl0))):=aR (s3.trans (ah hw2)) hn2
      have N4:=N.same s4
      obtain ⟨bs,b1,b2,b3⟩:=N4.ss.ex
      refine ⟨_,rfl,n,T.a_Net,dn,_,_,rfl,N4.obj,T.cl_Net,T.na_Net_settings,dj,sl,_,rfl,.inl (SqL.of b1),fun z2 hz2=>?_⟩
      have nzn:n2≠z2:=aq ac hz2
      refine ⟨_,rfl,n2,T.a_Net,dn2,_,rfl,by rw [ai nzn]; exact ac,T.cl_Net,T.na_Net_settings,by show 3 < 1000; decide,?_⟩
      have s5:=aR (o:=.ins T.a_Net dn2 (nf D w2 z2)) (s4.trans (ah (o:=.lst (bs.map V.ref)) hz2)) hn2
      have hne:h.net≠[]:=fun z=>by
        rw [z] at hi
        exact absurd hi (by show ¬ i < 0; omega)
      have hne2:(bG h i c).net≠[]:=fun z=>by
        have e:(bG h i c).net.length=h.net.length:=fN h.net i c
        rw [z] at e
        have e:0=h.net.length:=e
        omega
      have ew:waters (bG h i c)=waters h:=by
        rw [cG hne,cG hne2]
        rfl
      have up:∀ b o,H2 b=some o→b≠n2→(upd (upd (upd (upd (upd H2 n2 (.ins T.a_Net dn2 (nf D wl0 sl0))) w2 (.lst (ao (waters h)))) n2 (.ins T.a_Net dn2 (nf D w2 sl0))) z2 (.lst (bs.map V.ref))) n2 (.ins T.a_Net dn2 (nf D w2 z2))) b=some o:=fun b o e nb=>by
        have e1:(upd H2 n2 (.ins T.a_Net dn2 (nf D wl0 sl0))) b=some o:=by rw [ai nb]; exact e
        have nw:b≠w2:=aq e1 hw2
        have e2:(upd (upd (upd H2 n2 (.ins T.a_Net dn2 (nf D wl0 sl0))) w2 (.lst (ao (waters h)))) n2 (.ins T.a_Net dn2 (nf D w2 sl0))) b=some o:=by rw [ai nb,ai nw]; exact e1
        rw [ai nb,ai (aq e2 hz2)]
        exact e2
      refine ⟨_,rfl,k _ n2 dn2 D w2 z2 s5 ⟨ac,⟨as,up _ _ g1 nDn,?_,fun q a e=>?_⟩,?_,⟨bs,?_,b2,fun q a st e e'=>?_⟩⟩⟩
      · rw [g2,h2]
        exact (fN h.net i c).symm
      · obtain ⟨da,hda⟩:=g3 q a e
        refine ⟨da,up _ _ hda fun z=>?_⟩
        subst z
        rw [hn2'] at hda
        have e9:=(HO.ins.inj (Option.some.inj hda)).2.2
        exact absurd (congrArg List.length e9) (by show ¬ (3=9); decide)
      · rw [ew,ai nwn.symm,ai (fun z=>by rw [←z,ai nwn.symm,ac] at hz2; cases hz2),ai nwn.symm,ac]
      · rw [ai nzn.symm,ac]
      · have:=b3 q a st e e'
        rw [ai (bL this (a:=a) ac (by intro z; cases z)),ai (aq this hz2)]
        exact this
theorem mj (T:Txt K mg):FnOk P w K mg base CX0 6 T.answer_ifcap.f T.answer_ifcap.fd ["net", "numbers", "row"] (spFn T.a_Reach T.a_Net qH):=by
  refine T.answer_ifcap.F.ok md (fun vs H Q E h=>?_) (fun cdv A outer s H vs Q E hr h=>?_)
  · obtain ⟨n,nl,rl,dn,l,wl,sl,h,nums,rs,c,rfl,_⟩:=h
    rfl
  · obtain ⟨n,nl,rl,dn,l,wl,sl,h,nums,rs,c,rfl,N,hI,hne0,hnl,hrl,hrw,hrs,hC,k⟩:=h
    refine ⟨_,(ae (aV (ei (a8 (aL (K:=K) (aC T.is_reach (bQ T) (hr.mono (by decide)) cF (aa (pv 0) (aa (ay (ak (K:=K)) (pv 1) af (fun _ _=>rfl)) ad))) (fun _=>rfl))) (dW (a8 (fk cP cP af (ay (ak (K:=K)) (pv 1) af (fun _ _=>rfl)) (a9 T.c_MOST_CAP))))).pt
      (ag (au (aD (aa (a9 T.c_OUT_OF_RANGE) ad))))
      aH)
      (ag (au (aF dH (aD (aa af ad)) (aC T.told (gW T) (hr.mono (by decide)) jY (aa (aC T.account_of_all (fG T) (hr.mono (by decide)) gF (aa (aC T.if_held (ua T) (hr.mono (by decide)) wS (aa (pv 0) (aa (ay (ak (K:=K)) (pv 1) af (fun _ _=>rfl)) (aa (ay (ak (K:=K)) (pv 1) af (fun _ _=>rfl)) ad)))) ad)) ad)))))),?_⟩
    obtain ⟨i,m,rfl,rfl⟩:=oh hC
    have hne:=hne0 rfl
    have hs:Vbiraa.step h (.ifCap i m)=if (Vbiraa.isReach h i && Vbiraa.within m 1 (Vbiraa.CAP:Int))=false then (h,[-1]) else (h,0 :: Vbiraa.accountRow (Vbiraa.accounts (bG h i.toNat m.toNat))):=by
      rw [Vbiraa.step,bn hne]
      rfl
    rw [hs] at k
    have bad:(Vbiraa.isReach h i && Vbiraa.within m 1 (Vbiraa.CAP:Int))=false→tRet (tLst (kf (tC (V.int (-1))) tNil)) { nx:=fun x H'=>Q V.non H',rt:=Q } (L2.start ["net", "numbers", "row"] [V.ref n,V.ref nl,V.ref rl]) H:=fun z=>by
      rw [if_pos z] at k
      exact ⟨(by show 1≤sizeLine; decide),fun p hp=>k.new N (ah hp) hp ac⟩
    refine ⟨_,rfl,_,rfl,nl,_,_,_,rfl,rfl,SqL.of hnl,aB (j:=0) rfl rfl,n,dn,l,wl,sl,h,i,rfl,N,_,rfl,?_⟩
    cases c1:Vbiraa.isReach h i with
    | false=>exact iteT (iteT (bad (by rw [c1,Bool.false_and])))
    | true =>
    have hwi:Vbiraa.within m 1 (Vbiraa.CAP:Int)=(decide ((1:Int)≤m) && decide (m≤(100000:Int))):=rfl
    refine iteF ⟨_,rfl,nl,_,_,_,rfl,rfl,SqL.of hnl,aB (j:=1) rfl rfl,_,_,rfl,rfl,_,rfl,?_⟩
    cases c3:decide ((1:Int)≤m) with
    | false =>
      refine iteF ⟨_,rfl,iteT (bad ?_)⟩
      rw [c1,hwi,c3]
      rfl
    | true =>
    refine iteT ⟨_,_,rfl,rfl,_,rfl,?_⟩
    cases c4:decide (m≤(100000:Int)) with
    | false =>
      refine iteT (bad ?_)
      rw [c1,hwi,c3,c4]
      rfl
    | true =>
    refine iteF ?_
    rw [c1,hwi,c3,c4,if_neg (by decide)] at k
    obtain ⟨j,rfl,hj⟩:=bR c1
    have m1:=of_decide_eq_true c3
    have m2:=of_decide_eq_true c4
    obtain ⟨y,rfl⟩:∃ y:Nat,m=(y:Int):=⟨m.toNat,by omega⟩
    simp only [Int.toNat_natCast] at k
    have hIc:=yp hI hj (c:=y) (by omega) (by omega)
    have hne2:(bG h j y).net≠[]:=fun z=>by
      have e:(bG h j y).net.length=h.net.length:=fN h.net j y
      rw [z] at e
      have e:0=h.net.length:=e
      omega
    refine ⟨(by show 1≤sizeLine; decide),fun z hz=>?_⟩
    have s0:=ah (o:=.lst [.int 0]) hz
    refine ⟨_,rfl,_,rfl,nl,_,_,_,rfl,rfl,SqL.of (s0 _ _ hnl),aB (j:=0) rfl rfl,_,rfl,nl,_,_,_,rfl,rfl,SqL.of (s0 _ _ hnl),aB (j:=1) rfl rfl,n,dn,l,wl,sl,h,j,y,rfl,N.same s0,hI,hj,fun H1 n2 dn2 l2 wl2 sl2 s1 N1=>?_⟩
    refine ⟨n2,dn2,l2,wl2,sl2,bG h j y,rfl,N1,hIc,hne2,fun H2 fp s2 hfp2=>?_⟩
    refine ⟨fp,_,rfl,hfp2,by show 4≤1000; decide,fun H3 tp s3 htp htp3=>?_⟩
    refine ⟨z,tp,_,_,rfl,rfl,s3 _ _ (s2 _ _ (s1 _ _ ac)),htp3,(by rw [fE]; show 1 + 8≤sizeLine; decide),fun p hp=>?_⟩
    have sA:=((s0.trans s1).trans s2).trans s3
    have s4:=ah (o:=.lst ([.int 0]++qsV (jx (bG h j y) 60))) hp
    refine k.new N (sA.trans s4) (sA.free hp) (ac.trans ?_)
    rw [←kW hIc]
    rfl
end
end CN
namespace CN
open PySem PySem.Spec PyProof.Rows L2
theorem nL (l:List Nat) (i:Nat):(ao (l++[i])).dropLast=ao l:=by
  unfold ao
  rw [List.map_append]
  exact List.dropLast_concat
theorem sw {ns:Vbiraa.Net} (hw:WF ns):∀ ws:List Nat,(∀ x∈ws,x < ns.length)→ws.length≤(ws.flatMap (pst ns)).length
  | [],_=>Nat.le_refl _
  | x :: ws,h=>by
    rw [List.flatMap_cons,List.length_append,List.length_cons]
    have:=sw hw ws fun y hy=>h y (List.mem_cons_of_mem _ hy)
    have:=pst_ne hw (h x (List.mem_cons_self ..))
    omega
section
variable {P:Program} {w:World} {K:PySem.W.Frag} {mg:Str→Option Value} {base:Heap}
def y6 (C:Addr):Sp:=fun vs H Q _=>∃ (l:Addr) (ns:Vbiraa.Net),vs=[.ref l]∧RsAt C H l ns∧WF ns∧NewL H Q (ao (bB ns))
theorem oJ (T:Txt K mg):FnOk P w K mg base CX0 2 T.from_below.f T.from_below.fd ["reaches"] (y6 T.a_Reach):=by
  refine T.from_below.F.ok d5 (fun vs H Q E h=>?_) (fun cdv A outer s H vs Q E hr h=>?_)
  · obtain ⟨l,ns,rfl,_⟩:=h
    rfl
  · obtain ⟨l,ns,rfl,R,hwf,k⟩:=h
    refine ⟨_,(ae (aw (i:=1) d5.nd rfl (by first | exact Or.inl rfl | exact Or.inr rfl) (aD ad))
      (ae (aw (i:=2) d5.nd rfl (by first | exact Or.inl rfl | exact Or.inr rfl) (aC T.beginning_at (bD T) (hr.mono (by decide)) bM (aa (pv 0) (aa (a9 T.c_SOURCE) ad))))
      (ae (kl PassesOwn.never (aN ku (aE (ax (K:=K)) (by rfl) T.n_len PySem.boot_len (aa (pv 2) ad)) af (aQ _))
      (ae (aw (i:=3) d5.nd rfl (by first | exact Or.inl rfl | exact Or.inr rfl) (pe_bm0 PySem.F.plainAttrs_list PySem.F.slot_list_pop PySem.F.type_list_pop mt_pop (pv 2)))
      (ae (bV (fF PySem.F.plainAttrs_list PySem.F.slot_list_append PySem.F.type_list_append cO (pv 1) (aa (pv 3) ad)))
      (ag (bV (fF PySem.F.plainAttrs_list PySem.F.slot_list_extend PySem.F.type_list_extend gA (pv 2) (aa (aC T.beginning_at (bD T) (hr.mono (by decide)) bM (aa (pv 0) (aa (pv 3) ad))) ad)))))))
      (ag (au (lP rfl (by rfl) T.n_list hX (by rfl) T.n_reversed (pv 1))))))),?_⟩
    have hlen:=hwf.len
    have hord:=zj hwf
    refine ⟨Nat.zero_le _,fun dl hdl=>?_⟩
    have s0:=ah (o:=.lst []) hdl
    refine ⟨_,rfl,l,ns,none,rfl,R.same s0,by omega,fun H1 wl s1 hwl hwl1=>?_⟩
    have hdl1:=s1 _ _ (ac (H:=H) (a:=dl) (o:=.lst []))
    have ndw:dl≠wl:=aq ac hwl
    have hwl0:H wl=none:=s0.free hwl
    refine j6 (fun σ H'=>Same H H'∧∃ (ws ds:List Nat) (v:Option V),H' dl=some (.lst (ao ds))∧H' wl=some (.lst (ao ws))∧(∀ x∈ws,x < ns.length)∧ws.flatMap (pst ns)++ds.reverse=bB ns∧σ=[some (.ref l),some (.ref dl),some (.ref wl),v])
      (fun _ H'=>match H' dl with | some (.lst xs)=>ns.length - xs.length | _=>0) ⟨s0.trans s1,Vbiraa.children ns none,[],none,hdl1,hwl1,fun x hx=>bz hx,by rw [List.reverse_nil,List.append_nil]; rfl,rfl⟩ ?_ ?_
    · rintro σ H' ⟨sm,ws,ds,v,hd,hw,hws,hO,rfl⟩
      refine ⟨_,rfl,wl,_,rfl,.inl (SqL.of hw),_,_,rfl,rfl,_,rfl,ite2 (fun c=>?_) (fun c=>?_)⟩
      · have c:(0:Int) < ((ao ws).length:Int):=of_decide_eq_true c
        rw [aA] at c
        have hne:ws≠[]:=fun z=>by
          rw [z] at c
          exact absurd c (by decide)
        obtain ⟨u,i,rfl⟩:∃ u i,ws=u++[i]:=⟨_,_,(List.dropLast_concat_getLast hne).symm⟩
        have hi:i < ns.length:=hws i (by simp)
        have hO2:(u++Vbiraa.children ns (some i)).flatMap (pst ns)++(ds++[i]).reverse=bB ns:=by
          rw [←hO,List.flatMap_append,List.flatMap_append,List.reverse_append]
          show _=(u.flatMap (pst ns)++(pst ns i++[]))++ds.reverse
          rw [List.append_nil,kj hwf hi]
          simp only [List.append_assoc]
          rfl
        have hws2:∀ x∈u++Vbiraa.children ns (some i),x < ns.length:=fun x hx=>by
          rcases List.mem_append.mp hx with h | h
          · exact hws x (List.mem_append.mpr (.inl h))
          · exact bz h
        have hle:(u++Vbiraa.children ns (some i)).length + (ds.length + 1)≤30:=by
          have h1:=congrArg List.length hO2
          rw [List.length_append,List.length_reverse,List.length_append,List.length_singleton,hord] at h1
          have h2:=sw hwf _ hws2
          omega
        have hle2:u.length + (Vbiraa.children ns (some i)).length≤30:=by
          rw [List.length_append] at hle
          omega
        have hget:(ao (u++[i]))[(ao (u++[i])).length - 1]?=some (.int (i:Nat)):=by
          rw [aA]
          unfold ao
          rw [List.getElem?_map,List.length_append,List.length_singleton,Nat.add_sub_cancel,List.getElem?_append_right (Nat.le_refl _),Nat.sub_self]
          rfl
        refine ⟨_,rfl,.inl ⟨rfl,_,SqL.of hw⟩,wl,_,_,rfl,rfl,hw,hget,?_⟩
        rw [nL]
        have hd2:(upd H' wl (.lst (ao u))) dl=some (.lst (ao ds)):=by rw [ai ndw]; exact hd
        refine ⟨_,rfl,.inl ⟨rfl,_,SqL.of hd2⟩,_,rfl,dl,_,_,rfl,rfl,hd2,aP (by rw [aA]; omega),?_⟩
        have sm2:Same H (upd (upd H' wl (.lst (ao u))) dl (.lst (ao ds++[.int (i:Nat)]))):=aR (aR sm hwl0) hdl
        have hw2:(upd (upd H' wl (.lst (ao u))) dl (.lst (ao ds++[.int (i:Nat)]))) wl=some (.lst (ao u)):=by rw [ai ndw.symm]; exact ac
        refine ⟨_,rfl,.inl ⟨rfl,_,SqL.of hw2⟩,_,rfl,_,rfl,l,ns,some i,rfl,R.same sm2,by omega,fun H3 b s3 hb hb3=>?_⟩
        have hw3:=s3 _ _ hw2
        have hd3:=s3 _ _ (ac (H:=upd H' wl (.lst (ao u))) (a:=dl) (o:=.lst (ao ds++[.int (i:Nat)])))
        refine ⟨wl,b,_,_,rfl,rfl,hw3,hb3,?_,?_⟩
        · rw [aA,aA]
          exact Nat.le_of_lt (aP (by omega))
        have hd4:(upd H3 wl (.lst (ao u++ao (Vbiraa.children ns (some i))))) dl=some (.lst (ao (ds++[i]))):=by
          rw [ai ndw,hd3,←gz]
          rfl
        refine ⟨⟨aR (sm2.trans s3) hwl0,u++Vbiraa.children ns (some i),ds++[i],_,hd4,?_,hws2,hO2,rfl⟩,?_⟩
        · rw [ac,gz]
        · show (match (upd H3 wl (.lst (ao u++ao (Vbiraa.children ns (some i))))) dl with | some (.lst xs)=>ns.length - xs.length | _=>0) < (match H' dl with | some (.lst xs)=>ns.length - xs.length | _=>0)
          rw [hd4,hd]
          show ns.length - (ao (ds++[i])).length < ns.length - (ao ds).length
          rw [aA,aA,List.length_append,List.length_singleton]
          have h1:=congrArg List.length hO2
          rw [List.length_append,List.length_reverse,List.length_append,List.length_singleton,hord] at h1
          omega
      · have c:¬ (0:Int) < ((ao ws).length:Int):=fun z=>c (decide_eq_true z)
        rw [aA] at c
        have e0:ws=[]:=List.length_eq_zero_iff.mp (by omega)
        subst e0
        have hO:ds.reverse=bB ns:=hO
        refine ⟨_,rfl,dl,_,rfl,SqL.of hd,fun p hp=>?_⟩
        refine k _ p (aR sm (sm.free hp)) (sm.free hp) ?_
        rw [ac,←hO]
        unfold ao
        rw [List.map_reverse]
    · intro σ H Q Q' m h
      obtain ⟨v,e1,p,ys,e3,e4,i,j,e5,e6,b,e7,h⟩:=h
      exact ⟨v,e1,p,ys,e3,e4,i,j,e5,e6,b,e7,m _ _ h⟩
def vZ (C:Addr):Sp:=fun vs H Q _=>∃ (l ol:Addr) (ns:Vbiraa.Net) (os:List Vbiraa.Q) (p:Option Nat) (qs:List Vbiraa.Q),vs=[.ref l,.ref ol,.int (pInt p)]∧RsAt C H l ns∧ns.length≤30∧FrAt H ol os∧(∀ c∈Vbiraa.children ns p,c < os.length)∧qs=(Vbiraa.children ns p).map (fun k=>os.getD k (Vbiraa.whole 0))∧(∀ q∈qs,Low q∧q.n≤100000 * q.d)∧cb qs≤100 ^ 31∧NewL H Q (qV (Vbiraa.sumQ qs))
theorem gb (T:Txt K mg):FnOk P w K mg base CX0 4 T.offered_at.f T.offered_at.fd ["reaches", "offers", "place"] (vZ T.a_Reach):=by
  refine T.offered_at.F.ok fS (fun vs H Q E h=>?_) (fun cdv A outer s H vs Q E hr h=>?_)
  · obtain ⟨l,ol,ns,os,p,qs,rfl,_⟩:=h
    rfl
  · obtain ⟨l,ol,ns,os,p,qs,rfl,R,hn,F,hc,hqs,hq,hB,k⟩:=h
    refine ⟨_,(ag (au (aC T.total (xV T) (hr.mono (by decide)) zJ (aa (gv (own:=[("k",3)]) rfl fS.nd (bW (aC T.beginning_at (bD T) (hr.mono (by decide)) bM (aa (pv 0) (aa (pv 2) ad)))) (bh (N:=["reaches", "offers", "place", "k"]) (sc:=aj eG) (by decide +kernel)) (fun _ _ _ _ _=>(aI (i:=3) fS.nd rfl (by first | exact Or.inl rfl | exact Or.inr rfl))) (fun _ _ _ _ _=>bJ) (fun _ _ _ _ _=>(ay (ak (K:=K)) (pv 1) (pv 3) (fun _ _=>rfl)))) ad)))),?_⟩
    have hcl:=eK ns p
    obtain ⟨as,f1,f2,f3⟩:=F.ex
    refine ⟨_,rfl,_,rfl,l,ns,p,rfl,R,by omega,fun H1 b s1 hb hb1=>?_⟩
    refine ⟨b,rfl,⟨_,SqL.of hb1⟩,fun D hD=>?_⟩
    refine bY (((Vbiraa.children ns p).map fun k=>as.getD k 0).map V.ref) (by rw [aA,List.length_map,List.length_map]) hD (SqL.of hb1) (aP (by rw [aA]; omega)) ?_ ?_
    · rintro i v y H2 hv hy s2 Q' kq
      obtain ⟨c,hci,rfl⟩:=aX hv
      rw [List.getElem?_map,List.getElem?_map,hci] at hy
      have hy:V.ref (as.getD c 0)=y:=Option.some.inj hy
      subst hy
      have hco:=hc c (List.mem_of_getElem? hci)
      have hget:(as.map V.ref)[c]?=some (.ref (as.getD c 0)):=by
        rw [List.getElem?_map,List.getD_eq_getElem?_getD,List.getElem?_eq_getElem (by omega)]
        rfl
      exact ⟨rfl,_,rfl,_,rfl,ol,_,_,_,rfl,rfl,SqL.of ((s1.trans s2) _ _ f1),aY hget,kq _ (Same.refl _)⟩
    · rintro H2 s2 hD2
      have s12:=s1.trans s2
      refine ⟨D,qs,rfl,⟨(Vbiraa.children ns p).map fun k=>as.getD k 0,hD2,by rw [hqs,List.length_map,List.length_map],fun i a q e e'=>?_⟩,hq,by rw [hqs,List.length_map]; omega,hB,fun H3 r s3 hr3 hr4=>k H3 r (s12.trans s3) (s12.free hr3) hr4⟩
      rw [hqs] at e'
      rw [List.getElem?_map] at e e'
      obtain ⟨c,hci,rfl⟩:=Option.map_eq_some_iff.mp e
      rw [hci] at e'
      have e':os.getD c (Vbiraa.whole 0)=q:=Option.some.inj e'
      subst e'
      have hco:=hc c (List.mem_of_getElem? hci)
      refine s12 _ _ (f3 c _ _ ?_ ?_)
      · rw [List.getD_eq_getElem?_getD,List.getElem?_eq_getElem (by omega)]
        rfl
      · rw [List.getD_eq_getElem?_getD,List.getElem?_eq_getElem hco]
        rfl
end
end CN
namespace CN
open PySem PySem.Spec PyProof.Rows L2
theorem zD {K:PySem.W.Frag} {a b:Addr} {xs zs:List V} {g:TG} {tb:TS} {D:Ends} {σ:L2.St} {H:Hp} (Pv:Nat→L2.St→Hp→Prop) (hlen:zs.length=xs.length) (h0:Pv 0 σ H) (hl:∀ i σ H,Pv i σ H→SqL K H a xs∧SqL K H b zs)
    (hs:∀ (i:Nat) (x z:V) (σ:L2.St) (H:Hp) (T:Addr),xs[i]?=some x→zs[i]?=some z→Pv i σ H→H T=none→g (.ref T) σ (upd H T (.tup [x,z])) fun σ2 H2=>tb { D with nx:=Pv (i + 1),ct:=Pv (i + 1),bk:=D.nx } σ2 H2) (hd:∀ σ H,Pv xs.length σ H→D.nx σ H) :
    ∃ W:Nat→Nat→L2.St→Hp→Prop,(∃ m,W 0 m σ H)∧∀ i m σ H,W i m σ H →
      ((Itz K a b).stop i H∧D.nx σ H)∨((Itz K a b).go i H∧∃ N:L2.St→Hp→Prop,(∀ σ' H',N σ' H'→∃ m',m' < m∧W (i + 1) m' σ' H')∧∀ x H',(Itz K a b).yld i H x H'→g x σ H' fun σ2 H2=>tb { D with nx:=N,ct:=N,bk:=D.nx } σ2 H2):=by
  refine ⟨fun i m σ H=>m=xs.length - i∧i≤xs.length∧Pv i σ H,⟨xs.length,by simp,Nat.zero_le _,h0⟩,?_⟩
  rintro i m σ H ⟨rfl,hi,p⟩
  obtain ⟨q1,q2⟩:=hl i σ H p
  by_cases hlt:i < xs.length
  · refine .inr ⟨⟨xs,zs,xs[i],zs[i],q1,q2,by simp [hlt],List.getElem?_eq_getElem (by omega)⟩,Pv (i + 1),fun σ' H' p'=>⟨xs.length - (i + 1),by omega,rfl,hlt,p'⟩,fun v H' y=>?_⟩
    obtain ⟨T,x,z,e1,e2,e3,y1,y2⟩:=y
    subst e1 e3
    exact hs i x z σ H T (y1 xs q1) (y2 zs q2) p e2
  · have e:i=xs.length:=by omega
    subst e
    exact .inl ⟨⟨xs,zs,q1,q2,.inl (Nat.le_refl _)⟩,hd σ H p⟩
theorem FrAt.ne {H:Hp} {l a:Addr} {qs:List Vbiraa.Q} {q:Vbiraa.Q} (F:FrAt H l qs) (ha:H a=some (.lst (qV q))):a≠l:=fun z=>by
  obtain ⟨as,h1,_⟩:=F.ex
  rw [z,h1] at ha
  have e:=HO.lst.inj (Option.some.inj ha)
  cases as with
  | nil=>cases e
  | cons x xs=>cases e
theorem FrAt.set {H H':Hp} {l ta:Addr} {qs:List Vbiraa.Q} {q:Vbiraa.Q} {i:Nat} {xs:List V} (F:FrAt H l qs) (hl:H l=some (.lst xs)) (kp:∀ b o,H b=some o→b≠l→H' b=some o) (h':H' l=some (.lst (xs.set i (.ref ta)))) (ht:H' ta=some (.lst (qV q))):FrAt H' l (qs.set i q):=by
  obtain ⟨as,h1,h2,h3⟩:=F.ex
  rw [hl] at h1
  have e:=HO.lst.inj (Option.some.inj h1)
  subst e
  refine ⟨as.set i ta,by rw [h',List.map_set],by rw [List.length_set,List.length_set,h2],fun j a r e e'=>?_⟩
  rw [List.getElem?_set] at e e'
  by_cases c:i=j
  · rw [if_pos c] at e e'
    split at e
    · rename_i c2
      rw [if_pos (by omega)] at e'
      have e:=Option.some.inj e
      have e':=Option.some.inj e'
      subst e e'
      exact ht
    · cases e
  · rw [if_neg c] at e e'
    have:=h3 j a r e e'
    exact kp _ _ this (F.ne this)
section
variable {ns:Vbiraa.Net} {ask:Nat→Vbiraa.Q}
theorem ux {l:List Nat} {p:Nat→Bool} {j x:Nat} (hj:l[j]?=some x) (hx:p x=true) (hg:∀ y∈l.take j,p y=false):l.find? p=some x:=by
  have hlt:=(List.getElem?_eq_some_iff.mp hj).1
  have e:l.drop j=x :: l.drop (j + 1):=by
    rw [List.drop_eq_getElem_cons hlt,(List.getElem?_eq_some_iff.mp hj).2]
  conv=>lhs; rw [←List.take_append_drop j l]
  rw [List.find?_append,List.find?_eq_none.mpr fun y hy=>by rw [hg y hy]; exact Bool.false_ne_true,e,List.find?_cons,hx]
  rfl
def ofsL (ns:Vbiraa.Net) (ask:Nat→Vbiraa.Q) (j:Nat):List Vbiraa.Q:=(List.range ns.length).map fun k=>if k∈(bB ns).take j then wV ns ask k else Vbiraa.whole 0
theorem fq (j:Nat):(ofsL ns ask j).length=ns.length:=by
  unfold ofsL
  rw [List.length_map,List.length_range]
theorem gy {j k:Nat} (hk:k < ns.length):(ofsL ns ask j)[k]?=some (if k∈(bB ns).take j then wV ns ask k else Vbiraa.whole 0):=by
  unfold ofsL
  rw [List.getElem?_map,List.getElem?_range hk]
  rfl
theorem xW {j i:Nat} (hi:(bB ns)[j]?=some i) (hl:i < ns.length):(ofsL ns ask j).set i (wV ns ask i)=ofsL ns ask (j + 1):=by
  refine List.ext_getElem? fun k=>?_
  by_cases hk:k < ns.length
  · rw [List.getElem?_set,gy hk,gy hk,bK hi]
    by_cases c:i=k
    · subst c
      rw [if_pos rfl,if_pos (by rw [fq]; exact hl),if_pos (by simp)]
    · rw [if_neg c]
      congr 1
      by_cases c2:k∈(bB ns).take j
      · rw [if_pos c2,if_pos (List.mem_append.mpr (.inl c2))]
      · rw [if_neg c2,if_neg (fun z=>by rcases List.mem_append.mp z with z | z; exact c2 z; exact c (List.mem_singleton.mp z).symm)]
  · rw [List.getElem?_eq_none (by rw [List.length_set,fq]; omega),List.getElem?_eq_none (by rw [fq]; omega)]
theorem xA {α:Type} {l:List α} {i:Nat} {q:α} (h:l[i]?=some q):l.set i q=l:=by
  refine List.ext_getElem? fun k=>?_
  rw [List.getElem?_set]
  by_cases c:i=k
  · subst c
    rw [if_pos rfl,if_pos (List.getElem?_eq_some_iff.mp h).1,h]
  · rw [if_neg c]
theorem xX (hw:WF ns):ofsL ns ask (bB ns).length=(List.range ns.length).map (wV ns ask):=by
  unfold ofsL
  refine List.map_congr_left fun k hk=>?_
  rw [List.take_length,if_pos (uW hw k (List.mem_range.mp hk) k (rz hw (List.mem_range.mp hk)))]
def valR (ns:Vbiraa.Net) (ask:Nat→Vbiraa.Q) (i:Nat):Vbiraa.Q:=if (lV ns ask i).n=0 then Vbiraa.whole 0 else bf (Vbiraa.reachAt ns i) (lV ns ask i)
theorem xb (hw:WF ns) (ha:i7 ns ask) {i:Nat} (hi:i < ns.length) (h:(valR ns ask i).n≤(Vbiraa.reachAt ns i).cap * (valR ns ask i).d):wV ns ask i=valR ns ask i∧badR ns ask i=false:=by
  obtain ⟨_,nl,_⟩:=hw.num i hi
  unfold valR at h ⊢
  rw [yN hw hi]
  unfold badR
  by_cases c:(lV ns ask i).n=0
  · rw [if_pos c,Vbiraa.offerFor,if_pos c]
    exact ⟨rfl,rfl⟩
  · rw [if_neg c] at h ⊢
    rw [fH nl (kH hw ha hi).1 c,if_pos h]
    exact ⟨rfl,rfl⟩
theorem yQ (hw:WF ns) (ha:i7 ns ask) {i:Nat} (hi:i < ns.length) (h:¬ (valR ns ask i).n≤(Vbiraa.reachAt ns i).cap * (valR ns ask i).d):badR ns ask i=true:=by
  obtain ⟨_,nl,_⟩:=hw.num i hi
  unfold valR at h
  unfold badR
  by_cases c:(lV ns ask i).n=0
  · rw [if_pos c] at h
    exact absurd (Nat.zero_le _) h
  · rw [if_neg c] at h
    rw [fH nl (kH hw ha hi).1 c,if_neg h]
    rfl
theorem val_d (hw:WF ns) (ha:i7 ns ask) {i:Nat} (hi:i < ns.length):(valR ns ask i).d≤10 ^ 80:=by
  obtain ⟨_,nl,_⟩:=hw.num i hi
  obtain ⟨l1,l2,l3⟩:=kH hw ha hi
  unfold valR
  split
  · show 1≤10 ^ 80
    decide
  · refine Nat.le_trans (kE (eY nl l1)) (Nat.le_trans (Nat.mul_le_mul l3 (Nat.sub_le _ _)) (by decide))
end
theorem sC {ns:Vbiraa.Net} {i:Nat} (hi:i < ns.length):i∈Vbiraa.ends ns↔(Vbiraa.children ns (some i)).isEmpty=true:=sy hi
theorem yx (ns:Vbiraa.Net):(Vbiraa.ends ns).length≤ns.length:=by
  unfold Vbiraa.ends
  have:=List.length_filter_le (fun i=>(Vbiraa.children ns (some i)).isEmpty) (List.range ns.length)
  rw [List.length_range] at this
  exact this
section
variable {P:Program} {w:World} {K:PySem.W.Frag} {mg:Str→Option Value} {base:Heap}
def DEnds (H:Hp) (ask:Nat→Vbiraa.Q) (es:List Nat) (kvs:List (Key × V)):Prop:=∀ i:Nat,match valV kvs (Sum.inl (i:Int)) with
  | none=>i∉es
  | some v=>i∈es∧∃ a,v=.ref a∧H a=some (.lst (qV (ask i)))
def xt (C:Addr):Sp:=fun vs H Q _=>∃ (l al:Addr) (ns:Vbiraa.Net) (asks:List Nat),vs=[.ref l,.ref al]∧RsAt C H l ns∧WF ns∧H al=some (.lst (ao asks))∧asks.length=(Vbiraa.ends ns).length∧(∀ x∈asks,x≤1000000) ∧
  (∀ i,(bB ns).find? (badR ns (Vbiraa.askOf ns asks))=some i→∀ (H':Hp) (p el:Addr),Same H H'→H' p=some (.tup [.ref el,.int (i:Nat)])→Q (.ref p) H') ∧
  ((bB ns).find? (badR ns (Vbiraa.askOf ns asks))=none→∀ (H':Hp) (p ol:Addr),Same H H'→H' p=some (.tup [.ref ol,.non])→FrAt H' ol ((List.range ns.length).map (wV ns (Vbiraa.askOf ns asks)))→Q (.ref p) H')
theorem jq (T:Txt K mg):FnOk P w K mg base CX0 5 T.offers_for.f T.offers_for.fd ["reaches", "asks"] (xt T.a_Reach):=by
  refine T.offers_for.F.ok bx (fun vs H Q E h=>?_) (fun cdv A outer s H vs Q E hr h=>?_)
  · obtain ⟨l,al,ns,asks,rfl,_⟩:=h
    rfl
  · obtain ⟨l,al,ns,asks,rfl,R,hwf,hal,hlen,h6,k0,k1⟩:=h
    refine ⟨_,(ae (aw (i:=2) bx.nd rfl (by first | exact Or.inl rfl | exact Or.inr rfl) xQ)
      (ae (bT PassesOwn.never rfl (tV rfl T.n_zip (aa (aC T.ends_of (dX T) (hr.mono (by decide)) eR (aa (pv 0) ad)) (aa (pv 1) ad))) (d7 (K:=K) (n:=2) rfl (bd (aI (i:=3) bx.nd rfl (by first | exact Or.inl rfl | exact Or.inr rfl)) (bd (aI (i:=4) bx.nd rfl (by first | exact Or.inl rfl | exact Or.inr rfl)) d6)))
      (ag (zc (ym hr) (pv 2) (pv 3) (aD (aa (pv 4) (aa af ad))) rfl)))
      (ae (iB (i:=5) (own:=[("reach",6)]) rfl bx.nd rfl rfl (kg rfl rfl rfl rfl) (bW (pv 0)) (bh (N:=["reaches", "asks", "by_end", "i", "water", "offers", "reach", "leaving"]) (sc:=aj eF) (by decide +kernel)) (fun _ _ _ _ _=>(aI (i:=6) bx.nd rfl (by first | exact Or.inl rfl | exact Or.inr rfl))) (fun _ _ _ _ _=>bJ) (fun _ _ _ _ _=>(aD (aa af (aa af ad)))))
      (ae (bT PassesOwn.never rfl (bW (aC T.from_below (oJ T) (hr.mono (by decide)) qK (aa (pv 0) ad))) (aI (i:=3) bx.nd rfl (by first | exact Or.inl rfl | exact Or.inr rfl))
      (ae (aw (i:=7) bx.nd rfl (by first | exact Or.inl rfl | exact Or.inr rfl) (rF (pt_cmp (pc_din (ym hr) (pv 3) (pv 2))) (zf (ym hr) (pv 2) (pv 3) (fun _ _=>rfl)) (aC T.offered_at (gb T) (hr.mono (by decide)) hZ (aa (pv 0) (aa (pv 5) (aa (pv 3) ad))))))
      (ae (aV (aN ku (ay (ak (K:=K)) (pv 7) af (fun _ _=>rfl)) af (aQ _))
      (ag (xL (aC T.to_take (ny T) (hr.mono (by decide)) pU (aa (ay (ak (K:=K)) (pv 0) (pv 3) (fun _ _=>rfl)) (aa (pv 7) ad))) (xP (pv 5) (pv 3) rh)))
      aH)
      (ag (aV (a8 (aL (K:=K) (aC T.can_take (lT T) (hr.mono (by decide)) ou (aa (ay (ak (K:=K)) (pv 0) (pv 3) (fun _ _=>rfl)) (aa (ay (ak (K:=K)) (pv 5) (pv 3) (fun _ _=>rfl)) ad))) (fun _=>rfl)))
      (ag (au (gU (aa (aD ad) (aa (pv 3) ad)))))
      aH)))))
      (ag (au (gU (aa (pv 5) (aa f9 ad))))))))),?_⟩
    have hn:=hwf.len
    have hel:=yx ns
    have ha:i7 ns (Vbiraa.askOf ns asks):=qP asks h6
    generalize hask:Vbiraa.askOf ns asks=ask at k0 k1 ha
    intro de hde
    have s0:=ah (o:=.dK []) hde
    refine ⟨_,rfl,l,ns,rfl,R.same s0,by omega,fun H1 ep s1 hep hep1=>?_⟩
    have hde1:=s1 _ _ (ac (H:=H) (a:=de) (o:=.dK []))
    have s01:=s0.trans s1
    refine ⟨_,rfl,ep,al,_,_,rfl,SqL.of hep1,SqL.of (s01 _ _ hal),zD (K:=K) (a:=ep) (b:=al) (xs:=ao (Vbiraa.ends ns)) (zs:=ao asks)
      (fun j σ H'=>Same H H'∧H' ep=some (.lst (ao (Vbiraa.ends ns)))∧∃ (kvs:List (Key × V)) (v3 v4:Option V),H' de=some (.dK kvs)∧kvs.length≤j∧j≤(Vbiraa.ends ns).length∧DEnds H' ask ((Vbiraa.ends ns).take j) kvs∧σ=[some (.ref l),some (.ref al),some (.ref de),v3,v4,none,none,none])
      (by rw [aA,aA,hlen]) ⟨s01,hep1,[],none,none,hde1,Nat.le_refl _,Nat.zero_le _,fun i=>by show i∉[]; simp,rfl⟩ (fun j σ H' p=>⟨SqL.of p.2.1,SqL.of (p.1 _ _ hal)⟩) ?_ ?_⟩
    · rintro j x z σ H' tt hx hz ⟨sm,hep',kvs,v3,v4,hd,hkl,hj,hD,rfl⟩ htt
      obtain ⟨i,hi,rfl⟩:=aX hx
      obtain ⟨y,hy,rfl⟩:=aX hz
      have hjl:=(List.getElem?_eq_some_iff.mp hi).1
      have st:=ah (o:=.tup [.int (i:Nat),V.int (y:Nat)]) htt
      refine ⟨tt,_,rfl,SqT.of ac,rfl,_,_,rfl,_,_,rfl,rfl,?_⟩
      refine ⟨_,rfl,(by show 2≤sizeLine; decide),fun la hla=>?_⟩
      have s2:=st.trans (ah (o:=.lst [.int (y:Nat),.int 1]) hla)
      have hd2:=s2 _ _ hd
      refine ⟨_,rfl,_,rfl,de,_,rfl,DPut.k (k:=Sum.inl (i:Int)) hd2 (aP (by omega)),?_⟩
      have hla2:(upd (upd H' tt (.tup [.int (i:Nat),V.int (y:Nat)])) la (.lst [.int (y:Nat),.int 1])) la=some (.lst [.int (y:Nat),.int 1]):=ac
      have nld:la≠de:=bL hla2 hd2 (by intro z; cases z)
      have hask2:ask i=Vbiraa.whole y:=by
        rw [←hask]
        exact ask_at hi hy
      refine ⟨aR (sm.trans s2) hde,?_,putK kvs (Sum.inl (i:Int)) (.ref la),_,_,ac,Nat.le_trans (iN _ _ _) (by omega),by omega,fun q=>?_,rfl⟩
      · have:=s2 _ _ hep'
        rw [ai (bL this hd2 (by intro z; cases z))]
        exact this
      · rw [xc,bK hi]
        by_cases c:(Sum.inl (q:Int):Key)=Sum.inl (i:Int)
        · rw [if_pos c]
          have c:q=i:=by
            have:=Sum.inl.inj c
            omega
          subst c
          refine ⟨by simp,la,rfl,?_⟩
          rw [ai nld,hla2,hask2]
          rfl
        · rw [if_neg c]
          have c2:q≠i:=fun z=>c (by rw [z])
          have hq:=hD q
          cases ev:valV kvs (Sum.inl (q:Int)) with
          | none =>
            rw [ev] at hq
            exact fun z=>by
              rcases List.mem_append.mp z with z | z
              · exact hq z
              · exact c2 (List.mem_singleton.mp z)
          | some v =>
            rw [ev] at hq
            obtain ⟨q1,a,q2,q3⟩:=hq
            refine ⟨List.mem_append.mpr (.inl q1),a,q2,?_⟩
            have:=s2 _ _ q3
            rw [ai (bL this hd2 (by intro z; cases z))]
            exact this
    · rintro σ Hd ⟨sm,hep',kvs,v3,v4,hd,hkl,hj,hD,rfl⟩
      rw [aA,List.take_length] at hD
      have Rd:=R.same sm
      obtain ⟨xs,r1,r2,r3⟩:=Rd.list
      refine ⟨_,rfl,l,rfl,⟨_,SqL.of r1⟩,fun ol hol=>?_⟩
      refine vb (xs:=xs) (tt:=tYes) (fun j H'=>Same Hd H'∧FrAt H' ol (List.replicate j (Vbiraa.whole 0))) ⟨ah hol,⟨[],ac,rfl,fun i a q e=>by cases e⟩⟩ (fun j H' _ p=>SqL.of (p.1 _ _ r1)) ?_ ?_
      · rintro j x H' hx ⟨s1,F⟩
        have hjl:j < ns.length:=by
          rw [←r2]
          exact (List.getElem?_eq_some_iff.mp hx).1
        obtain ⟨as,f1,f2,f3⟩:=F.ex
        rw [List.length_replicate] at f2
        refine ⟨rfl,?_⟩
        simp only [tYes,if_true]
        refine ⟨(by show 2≤sizeLine; decide),fun la hla=>?_⟩
        have s2:=ah (o:=.lst [.int 0,.int 1]) hla
        have f1':=s2 _ _ f1
        have nlo:la≠ol:=fun z=>by
          rw [z,f1] at hla
          cases hla
        refine ⟨_,f1',?_,aR (s1.trans s2) hol,?_⟩
        · rw [List.length_map,f2]
          exact aP (by omega)
        refine ⟨as++[la],by rw [ac,List.map_append]; rfl,by rw [List.length_append,f2,List.length_replicate]; rfl,fun q a r e e'=>?_⟩
        have hr:r=Vbiraa.whole 0:=List.eq_of_mem_replicate (List.mem_of_getElem? e')
        subst hr
        by_cases hq:q < as.length
        · rw [List.getElem?_append_left hq] at e
          have h9:=f3 q a (Vbiraa.whole 0) e (by rw [List.getElem?_replicate,if_pos (by omega)])
          rw [ai (F.ne h9)]
          exact s2 _ _ h9
        · rw [List.getElem?_append_right (by omega)] at e
          cases ez:q - as.length with
          | zero =>
            rw [ez] at e
            have e:la=a:=Option.some.inj e
            subst e
            rw [ai nlo]
            exact ac
          | succ m =>
            rw [ez] at e
            cases e
      · rintro H0 ⟨s1,F0⟩
        rw [r2] at F0
        have hrep:List.replicate ns.length (Vbiraa.whole 0)=ofsL ns ask 0:=by
          refine List.ext_getElem? fun k=>?_
          rw [List.getElem?_replicate]
          by_cases hk:k < ns.length
          · rw [if_pos hk,gy hk,if_neg (by simp)]
          · rw [if_neg hk,List.getElem?_eq_none (by rw [fq]; omega)]
        rw [hrep] at F0
        refine ⟨_,rfl,l,ns,rfl,Rd.same s1,hwf,fun H1 bp s2 hbp hbp1=>?_⟩
        obtain ⟨as0,g1,_⟩:=F0.ex
        have nbo:ol≠bp:=aq g1 hbp
        refine ⟨bp,rfl,⟨_,SqL.of hbp1⟩,fv (K:=K) (a:=bp) (xs:=ao (bB ns))
          (fun j σ H'=>Same Hd H'∧H' bp=some (.lst (ao (bB ns)))∧FrAt H' ol (ofsL ns ask j)∧(∀ x∈(bB ns).take j,badR ns ask x=false)∧∃ v3 v4 v6 v7:Option V,σ=[some (.ref l),some (.ref al),some (.ref de),v3,v4,some (.ref ol),v6,v7])
          ⟨s1.trans s2,hbp1,F0.same s2,fun x hx=>by simp at hx,_,_,_,_,rfl⟩ (fun j σ H' _ p=>SqL.of p.2.1) ?_ ?_⟩
        · rintro j x σ H' hx ⟨sH,hb',F,hg,v3,v4,v6,v7,rfl⟩
          obtain ⟨i,hi,rfl⟩:=aX hx
          have hil:i < ns.length:=ord_lt hwf (List.mem_of_getElem? hi)
          obtain ⟨_,nl,nsk,nc1,nc2,_⟩:=hwf.num i hil
          obtain ⟨l1,l2,l3⟩:=kH hwf ha hil
          with_reducible refine kT ?_
          refine gK (fun σ' H2=>∃ la,Same H' H2∧H2 la=some (.lst (qV (lV ns ask i)))∧σ'=[some (.ref l),some (.ref al),some (.ref de),some (.int (i:Nat)),v4,some (.ref ol),v6,some (.ref la)]) (fun Nx hN=>?_) ?_
          · refine ⟨_,rfl,_,rfl,de,_,rfl,DGet.k (k:=Sum.inl (i:Int)) (sH _ _ hd),_,rfl,?_⟩
            have hq:=hD i
            cases ev:valV kvs (Sum.inl (i:Int)) with
            | none =>
              rw [ev] at hq
              have hnl:¬ (Vbiraa.children ns (some i)).isEmpty=true:=fun z=>hq ((sC hil).mpr z)
              have hLv:lV ns ask i=Vbiraa.sumQ ((Vbiraa.children ns (some i)).map (wV ns ask)):=by
                unfold lV dI
                rw [if_neg hnl]
              refine iteF ⟨_,rfl,_,rfl,_,rfl,l,ol,ns,ofsL ns ask j,some i,(Vbiraa.children ns (some i)).map (wV ns ask),rfl,Rd.same sH,hn,F,fun c hc=>by rw [fq]; exact bz hc,?_,iQ hwf ha (some i),Nat.le_trans (fu hwf ha (some i) fun c e=>by cases e; exact hil) (by decide),fun H3 la s3 hla hla3=>hN _ _ ⟨la,s3,?_,rfl⟩⟩
              · refine List.map_congr_left fun c hc=>?_
                rw [List.getD_eq_getElem?_getD,gy (bz hc),if_pos (po_all hwf j i hi c hc)]
                rfl
              · rw [hLv]
                exact hla3
            | some v =>
              rw [ev] at hq
              obtain ⟨q1,a,rfl,q3⟩:=hq
              have hlf:=(sC hil).mp q1
              have hLv:lV ns ask i=ask i:=by
                unfold lV dI
                rw [if_pos hlf]
              refine iteT ⟨_,rfl,_,rfl,de,.ref a,rfl,(by rw [←ev]; exact DGet.k (k:=Sum.inl (i:Int)) (sH _ _ hd)),hN _ _ ⟨a,Same.refl _,?_,rfl⟩⟩
              rw [hLv]
              exact sH _ _ q3
          · rintro σ' H2 ⟨la,s3,hla,rfl⟩
            have sH2:=sH.trans s3
            have F2:=F.same s3
            have hb2:=s3 _ _ hb'
            obtain ⟨rxs,ra,rdx,t1,t2,t3,t4⟩:=(Rd.same sH2).at_ hil
            refine gK (fun σ' H3=>Same Hd H3∧H3 bp=some (.lst (ao (bB ns)))∧FrAt H3 ol ((ofsL ns ask j).set i (valR ns ask i))∧σ'=[some (.ref l),some (.ref al),some (.ref de),some (.int (i:Nat)),v4,some (.ref ol),v6,some (.ref la)]) (fun Nx hN=>?_) ?_
            · refine ⟨_,rfl,la,_,_,_,rfl,rfl,SqL.of hla,aB (j:=0) rfl rfl,_,_,rfl,rfl,_,rfl,ite2 (fun c=>?_) (fun c=>?_)⟩
              · have c:(0:Int) < (((lV ns ask i).n:Nat):Int):=of_decide_eq_true c
                have hnz:¬ (lV ns ask i).n=0:=by omega
                have l1':(lV ns ask i).d≤10 ^ 75:=Nat.le_trans l3 (by decide)
                have l2':(lV ns ask i).n≤10 ^ 75:=Nat.le_trans l2 (Nat.le_trans (Nat.mul_le_mul_left _ l3) (by decide))
                refine ⟨_,rfl,_,rfl,l,_,_,_,rfl,rfl,SqL.of t1,aY t3,_,rfl,ra,la,rdx,ns,i,lV ns ask i,rfl,t4,nl,nsk,hla,l1,l2',l1',fun H4 ta s4 hta hta4=>?_⟩
                obtain ⟨oxs,oa,o1,o2,o3,o4⟩:=(F2.same s4).at_ (gy (ask:=ask) (j:=j) hil)
                have nto:ta≠ol:=fun z=>by
                  obtain ⟨as9,g9,_⟩:=F2.ex
                  rw [z,g9] at hta
                  cases hta
                refine ⟨_,rfl,_,rfl,ol,_,_,i,rfl,rfl,o1,?_,hN _ _ ⟨aR (sH2.trans s4) hol,?_,?_,rfl⟩⟩
                · unfold ixN
                  rw [o2,fq,if_pos (by omega),if_pos (by omega),Int.toNat_natCast]
                · rw [ai nbo.symm]
                  exact s4 _ _ hb2
                · have ev:valR ns ask i=bf (Vbiraa.reachAt ns i) (lV ns ask i):=if_neg hnz
                  rw [ev]
                  refine FrAt.set (F2.same s4) o1 (fun b o e nb=>by rw [ai nb]; exact e) ac ?_
                  rw [ai nto]
                  exact hta4
              · have c:¬ (0:Int) < (((lV ns ask i).n:Nat):Int):=fun z=>c (decide_eq_true z)
                have hz:(lV ns ask i).n=0:=by omega
                have ev:valR ns ask i=Vbiraa.whole 0:=if_pos hz
                refine hN _ _ ⟨sH2,hb2,?_,rfl⟩
                rw [ev,xA]
                · exact F2
                · rw [gy hil]
                  congr 1
                  split
                  · rw [(xb hwf ha hil (by rw [ev]; exact Nat.zero_le _)).1,ev]
                  · rfl
            · rintro σ' H3 ⟨sH3,hb3,F3,rfl⟩
              obtain ⟨rxs,ra,rdx,t1,t2,t3,t4⟩:=(Rd.same sH3).at_ hil
              have hset:((ofsL ns ask j).set i (valR ns ask i))[i]?=some (valR ns ask i):=by
                rw [List.getElem?_set,if_pos rfl,if_pos (by rw [fq]; exact hil)]
              obtain ⟨oxs,oa,o1,o2,o3,o4⟩:=F3.at_ hset
              refine ⟨_,rfl,_,rfl,l,_,_,_,rfl,rfl,SqL.of t1,aY t3,_,rfl,_,rfl,ol,_,_,_,rfl,rfl,SqL.of o1,aY o3,ra,oa,rdx,ns,i,valR ns ask i,rfl,t4,nc2,o4,val_d hwf ha hil,_,rfl,?_⟩
              by_cases c:(valR ns ask i).n≤(Vbiraa.reachAt ns i).cap * (valR ns ask i).d
              · rw [decide_eq_true c]
                refine iteF ?_
                obtain ⟨w1,w2⟩:=xb hwf ha hil c
                rw [←w1,xW hi hil] at F3
                refine ⟨sH3,hb3,F3,fun x hx=>?_,_,_,_,_,rfl⟩
                rw [bK hi] at hx
                rcases List.mem_append.mp hx with hx | hx
                · exact hg x hx
                · rw [List.mem_singleton.mp hx]
                  exact w2
              · rw [decide_eq_false c]
                refine iteT ⟨Nat.zero_le _,fun el hel=>⟨_,rfl,(by show 2≤sizeLine; decide),fun tp htp=>?_⟩⟩
                exact k0 i (ux hi (yQ hwf ha hil c) hg) _ tp el (((sm.trans sH3).trans (ah hel)).trans (ah htp)) ac
        · rintro σ H' ⟨sH,hb',F,hg,v3,v4,v6,v7,rfl⟩
          rw [aA,xX hwf] at F
          rw [aA,List.take_length] at hg
          refine ⟨_,rfl,(by show 2≤sizeLine; decide),fun tp htp=>?_⟩
          refine k1 (List.find?_eq_none.mpr fun x hx=>by rw [hg x hx]; exact Bool.false_ne_true) _ tp ol ((sm.trans sH).trans (ah htp)) ac (F.same (ah htp))
def xr (C:Addr):Sp:=fun vs H Q _=>∃ (l ol:Addr) (ns:Vbiraa.Net) (ask:Nat→Vbiraa.Q) (i:Nat),vs=[.ref l,.ref ol,.int (i:Nat)]∧RsAt C H l ns∧WF ns∧i7 ns ask∧i < ns.length∧FrAt H ol ((List.range ns.length).map (wV ns ask))∧NewL H Q (qV (Vbiraa.over (wV ns ask i) (Vbiraa.sumQ ((Vbiraa.children ns (Vbiraa.reachAt ns i).parent).map (wV ns ask)))))
theorem tZ (T:Txt K mg):FnOk P w K mg base CX0 5 T.part_of.f T.part_of.fd ["reaches", "offers", "i"] (xr T.a_Reach):=by
  refine T.part_of.F.ok mS (fun vs H Q E h=>?_) (fun cdv A outer s H vs Q E hr h=>?_)
  · obtain ⟨l,ol,ns,ask,i,rfl,_⟩:=h
    rfl
  · obtain ⟨l,ol,ns,ask,i,rfl,R,hwf,ha,hi,F,k⟩:=h
    refine ⟨_,(ae (aw (i:=3) mS.nd rfl (by first | exact Or.inl rfl | exact Or.inr rfl) (aC T.offered_at (gb T) (hr.mono (by decide)) hZ (aa (pv 0) (aa (pv 1) (aa (am (K:=K) (ay (ak (K:=K)) (pv 0) (pv 2) (fun _ _=>rfl)) rfl) ad)))))
      (ae (aV (aN dG (ay (ak (K:=K)) (pv 3) af (fun _ _=>rfl)) af (aQ _))
      (ag (au (aD (aa af (aa af ad)))))
      aH)
      (ag (au (aC T.lowest (gx T) (hr.mono (by decide)) i6 (aa (aF cY (ay (ak (K:=K)) (ay (ak (K:=K)) (pv 1) (pv 2) (fun _ _=>rfl)) af (fun _ _=>rfl)) (ay (ak (K:=K)) (pv 3) af (fun _ _=>rfl))) (aa (aF cY (ay (ak (K:=K)) (ay (ak (K:=K)) (pv 1) (pv 2) (fun _ _=>rfl)) af (fun _ _=>rfl)) (ay (ak (K:=K)) (pv 3) af (fun _ _=>rfl))) ad))))))),?_⟩
    have hn:=hwf.len
    obtain ⟨xs,a,dx,h1,h2,h3,h4⟩:=R.at_ hi
    have hget:∀ c,c < ns.length→((List.range ns.length).map (wV ns ask))[c]?=some (wV ns ask c):=fun c hc=>by
      rw [List.getElem?_map,List.getElem?_range hc]
      rfl
    have hpl:∀ c,(Vbiraa.reachAt ns i).parent=some c→c < ns.length:=fun c e=>by
      have:=hwf.par i c hi e
      omega
    refine ⟨_,rfl,_,rfl,_,rfl,_,rfl,l,_,_,_,rfl,rfl,SqL.of h1,aY h3,a,T.a_Reach,dx,_,_,rfl,h4,T.cl_Reach,T.na_Reach_begins,cW,l,ol,ns,_,(Vbiraa.reachAt ns i).parent,(Vbiraa.children ns (Vbiraa.reachAt ns i).parent).map (wV ns ask),rfl,R,hn,F,fun c hc=>by rw [List.length_map,List.length_range]; exact bz hc,?_,iQ hwf ha _,Nat.le_trans (fu hwf ha _ hpl) (by decide),fun H1 wp s1 hwp hwp1=>?_⟩
    · refine List.map_congr_left fun c hc=>?_
      rw [List.getD_eq_getElem?_getD,hget c (bz hc)]
      rfl
    obtain ⟨q1,q2,q3⟩:=p3 (iQ hwf ha (Vbiraa.reachAt ns i).parent)
    have q4:=Nat.le_trans q2 (fu hwf ha _ hpl)
    have hcl:((Vbiraa.children ns (Vbiraa.reachAt ns i).parent).map (wV ns ask)).length≤30:=by
      rw [List.length_map]
      have:=eK ns (Vbiraa.reachAt ns i).parent
      omega
    generalize Vbiraa.sumQ ((Vbiraa.children ns (Vbiraa.reachAt ns i).parent).map (wV ns ask))=sm at k hwp1 q1 q2 q3 q4
    have q5:sm.n≤10 ^ 70:=Nat.le_trans q3 (Nat.le_trans (Nat.mul_le_mul (Nat.mul_le_mul_left _ hcl) q4) (by decide))
    obtain ⟨w1,w2,w3⟩:=qW hwf ha hi
    have w4:(wV ns ask i).n≤10 ^ 70:=Nat.le_trans w2 (Nat.le_trans (Nat.mul_le_mul_left _ w3) (by decide))
    refine ⟨_,rfl,wp,_,_,_,rfl,rfl,SqL.of hwp1,aB (j:=0) rfl rfl,rfl,_,rfl,?_⟩
    refine (congrArg (fun b=>if b=true then _ else _) (cZ (a:=sm.n) (b:=0))).mpr ?_
    refine ite2 (fun c=>?_) (fun c=>?_)
    · have c:sm.n=0:=of_decide_eq_true c
      refine ⟨(by show 2≤sizeLine; decide),fun p hp=>k _ p (s1.trans (ah hp)) (s1.free hp) (ac.trans ?_)⟩
      unfold Vbiraa.over
      rw [if_pos c]
      rfl
    · have c:¬ sm.n=0:=fun z=>c (decide_eq_true z)
      obtain ⟨oxs,oa,o1,o2,o3,o4⟩:=(F.same s1).at_ (hget i hi)
      have pp:0 < (wV ns ask i).d * sm.n:=Nat.mul_pos w1.pos (by omega)
      refine ⟨_,rfl,_,rfl,ol,_,_,_,rfl,rfl,SqL.of o1,aY o3,oa,_,_,_,rfl,rfl,SqL.of o4,aB (j:=0) rfl rfl,_,rfl,wp,_,_,_,rfl,rfl,SqL.of hwp1,aB (j:=1) rfl rfl,_,_,rfl,rfl,big2 (Nat.le_trans w4 (by decide)) (Nat.le_trans q4 (by decide)),
        _,rfl,_,rfl,ol,_,_,_,rfl,rfl,SqL.of o1,aY o3,oa,_,_,_,rfl,rfl,SqL.of o4,aB (j:=1) rfl rfl,_,rfl,wp,_,_,_,rfl,rfl,SqL.of hwp1,aB (j:=0) rfl rfl,_,_,rfl,rfl,big2 (Nat.le_trans w3 (by decide)) (Nat.le_trans q5 (by decide)),
        (wV ns ask i).n * sm.d,(wV ns ask i).d * sm.n,?_,pp,?_,fun H2 r s2 hr2 hr3=>k H2 r (s1.trans s2) (s1.free hr2) ?_⟩
      · rw [Int.natCast_mul,Int.natCast_mul]
        rfl
      · exact Nat.lt_of_le_of_lt (Nat.mul_le_mul w3 q5) (by decide)
      · unfold Vbiraa.over
        rw [if_neg c]
        exact hr3
end
end CN
namespace CN
open PySem PySem.Spec PyProof.Rows L2
def qF:List Int→List Int→Option Vbiraa.Call
  | [],l=>some (.wants l)
  | _,_=>none
def cSet:List Int→List Int→Option Vbiraa.Call
  | [],l=>some (.set_ l)
  | _,_=>none
theorem oe {a b:List Int} {c:Vbiraa.Call} (h:qF a b=some c):a=[]∧c=.wants b:=by
  unfold qF at h
  split at h
  · cases h
    exact ⟨rfl,rfl⟩
  · cases h
theorem sN {a b:List Int} {c:Vbiraa.Call} (h:cSet a b=some c):a=[]∧c=.set_ b:=by
  unfold cSet at h
  split at h
  · cases h
    exact ⟨rfl,rfl⟩
  · cases h
theorem vG {h:Vbiraa.House} {rs:List Int} (e:Vbiraa.isAsk h rs=true):aT rs=ao (rs.map Int.toNat)∧(rs.map Int.toNat).length=(Vbiraa.ends h.net).length∧∀ x∈rs.map Int.toNat,x≤1000000:=by
  unfold Vbiraa.isAsk at e
  rw [Bool.and_eq_true,beq_iff_eq] at e
  have hb:∀ x∈rs,0≤x∧x≤1000000:=fun x hx=>eT (List.all_eq_true.mp e.2 x hx)
  refine ⟨?_,by rw [List.length_map]; exact e.1,fun x hx=>?_⟩
  · unfold aT ao
    rw [List.map_map]
    refine List.map_congr_left fun x hx=>?_
    show V.int x=V.int ((x.toNat:Nat):Int)
    rw [Int.toNat_of_nonneg (hb x hx).1]
  · obtain ⟨z,hz,rfl⟩:=List.mem_map.mp hx
    have:=hb z hz
    omega
def setV (ns:Vbiraa.Net) (ask:Nat→Vbiraa.Q) (j:Nat):List V:=.int 0 :: (List.range j).flatMap fun i=>qV (Vbiraa.setTo ns ask i)
theorem xB (ns:Vbiraa.Net) (ask:Nat→Vbiraa.Q) (j:Nat):(setV ns ask j).length=1 + 2 * j:=by
  unfold setV
  rw [List.length_cons,List.length_flatMap]
  have:((List.range j).map fun i=>(qV (Vbiraa.setTo ns ask i)).length).sum=2 * j:=by
    induction j with
    | zero=>rfl
    | succ j ih =>
      rw [List.range_succ,List.map_append,List.sum_append,ih]
      show 2 * j + 2=2 * (j + 1)
      omega
  rw [this,Nat.add_comm]
theorem wc (ns:Vbiraa.Net) (ask:Nat→Vbiraa.Q) (j:Nat):setV ns ask (j + 1)=setV ns ask j++qV (Vbiraa.setTo ns ask j):=by
  unfold setV
  rw [List.range_succ,List.flatMap_append]
  show _=V.int 0 :: (_++_)
  congr 2
section
variable {P:Program} {w:World} {K:PySem.W.Frag} {mg:Str→Option Value} {base:Heap}
def spAsks (CR CN:Addr):Sp:=fun vs H Q _=>∃ (n dn l wl sl rl:Addr) (h:Vbiraa.House) (rs:List Int),vs=[.ref n,.ref rl]∧bC CR CN H n h dn l wl sl∧h.net.length≤30∧H rl=some (.lst (aT rs))∧rs.length≤4000∧∀ H',Same H H'→Q (.bl (Vbiraa.isAsk h rs)) H'
theorem lU (T:Txt K mg):FnOk P w K mg base CX0 3 T.are_asks.f T.are_asks.fd ["net", "row"] (spAsks T.a_Reach T.a_Net):=by
  refine T.are_asks.F.ok ip (fun vs H Q E h=>?_) (fun cdv A outer s H vs Q E hr h=>?_)
  · obtain ⟨n,dn,l,wl,sl,rl,h,rs,rfl,_⟩:=h
    rfl
  · obtain ⟨n,dn,l,wl,sl,rl,h,rs,rfl,N,hn,hrl,hrs,k⟩:=h
    refine ⟨_,(ag (au (nr (d8 dG (aE (ax (K:=K)) (by rfl) T.n_len PySem.boot_len (aa (pv 1) ad)) (aE (ax (K:=K)) (by rfl) T.n_len PySem.boot_len (aa (aC T.ends_of (dX T) (hr.mono (by decide)) eR (aa (am (K:=K) (pv 0) rfl) ad)) ad)) (aQ _)) (qf (aE (mB (K:=K) rfl) (by rfl) T.n_all ji (aa (gv (own:=[("number",2)]) rfl ip.nd (bW (pv 1)) (bh (N:=["net", "row", "number"]) (sc:=aj gO) (by decide +kernel)) (fun _ _ _ _ _=>(aI (i:=2) ip.nd rfl (by first | exact Or.inl rfl | exact Or.inr rfl))) (fun _ _ _ _ _=>bJ) (fun _ _ _ _ _=>(aC T.is_water (iF T) (hr.mono (by decide)) jZ (aa (pv 2) ad)))) ad)))))),?_⟩
    unfold Vbiraa.isAsk at k
    refine ⟨_,rfl,rl,_,rfl,.inl (SqL.of hrl),_,rfl,n,T.a_Net,dn,_,_,rfl,N.obj,T.cl_Net,T.na_Net_reaches,aG,l,h.net,rfl,N.rs,by omega,fun H1 ep s1 hep hep1=>?_⟩
    refine ⟨ep,_,rfl,.inl (SqL.of hep1),rfl,_,rfl,?_⟩
    have e1:decide (V.int ((aT rs).length:Int)=V.int ((ao (Vbiraa.ends h.net)).length:Int))=(rs.length == (Vbiraa.ends h.net).length):=by
      rw [bt,aA,cZ]
      rfl
    refine (congrArg (fun b=>if b=true then _ else _) e1).mpr ?_
    cases c1:(rs.length == (Vbiraa.ends h.net).length) with
    | false =>
      rw [c1] at k
      exact iteF (k H1 s1)
    | true =>
      rw [c1,Bool.true_and] at k
      refine iteT ?_
      have hrl1:=s1 _ _ hrl
      refine ⟨_,rfl,rl,rfl,⟨_,SqL.of hrl1⟩,fun D hD=>?_⟩
      refine bY (xs:=aT rs) (rs.map fun x=>V.bl (Vbiraa.within x 0 Vbiraa.LET)) (by rw [bt,List.length_map]) hD (SqL.of hrl1) (aP (by rw [bt]; omega)) ?_ ?_
      · rintro i x y H2 hx hy s2 Q' kq
        unfold aT at hx
        rw [List.getElem?_map] at hx hy
        obtain ⟨z,hz,rfl⟩:=Option.map_eq_some_iff.mp hx
        rw [hz] at hy
        have hy:=Option.some.inj hy
        subst hy
        exact ⟨rfl,_,rfl,z,rfl,kq _ (Same.refl _)⟩
      · rintro H2 s2 hD2
        refine ⟨D,rs.map fun x=>Vbiraa.within x 0 Vbiraa.LET,rfl,?_,?_⟩
        · rw [List.map_map]
          exact SqL.of hD2
        rw [jw]
        exact k H2 (s1.trans s2)
theorem mh (T:Txt K mg):FnOk P w K mg base CX0 6 T.answer_wants.f T.answer_wants.fd ["net", "numbers", "row"] (spFn T.a_Reach T.a_Net qF):=by
  refine T.answer_wants.F.ok ib (fun vs H Q E h=>?_) (fun cdv A outer s H vs Q E hr h=>?_)
  · obtain ⟨n,nl,rl,dn,l,wl,sl,h,nums,rs,c,rfl,_⟩:=h
    rfl
  · obtain ⟨n,nl,rl,dn,l,wl,sl,h,nums,rs,c,rfl,N,hI,hne0,hnl,hrl,hrw,hrs,hC,k⟩:=h
    refine ⟨_,(ae (aV (a8 (aL (K:=K) (aC T.are_asks (lU T) (hr.mono (by decide)) ow (aa (pv 0) (aa (pv 2) ad))) (fun _=>rfl)))
      (ag (au (aD (aa (a9 T.c_OUT_OF_RANGE) ad))))
      aH)
      (ae (aw (i:=3) ib.nd rfl (by first | exact Or.inl rfl | exact Or.inr rfl) (aC T.offers_for (jq T) (hr.mono (by decide)) kP (aa (am (K:=K) (pv 0) rfl) (aa (pv 2) ad))))
      (ae (aV (aN u1 (ay (aS (K:=K)) (pv 3) af (fun _ _=>rfl)) f9 (aQ _))
      (ag (au (aD (aa af (aa af (aa (ay (aS (K:=K)) (pv 3) af (fun _ _=>rfl)) ad))))))
      aH)
      (ag (au (aF dH (aD (aa af (aa af ad))) (aC T.offered_at (gb T) (hr.mono (by decide)) hZ (aa (am (K:=K) (pv 0) rfl) (aa (ay (aS (K:=K)) (pv 3) af (fun _ _=>rfl)) (aa (a9 T.c_SOURCE) ad)))))))))),?_⟩
    obtain ⟨rfl,rfl⟩:=oe hC
    have hne:=hne0 rfl
    have hwf:=hI.wf
    have hlen:=hwf.len
    have hs:Vbiraa.step h (.wants rs)=if Vbiraa.isAsk h rs=false then (h,[-1]) else (match Vbiraa.wants h.net (Vbiraa.askOf h.net (rs.map Int.toNat)) with | .ok q=>(h,0 :: 1 :: Vbiraa.qRow q) | .error i=>(h,[0,0,(i:Int)])):=by
      rw [Vbiraa.step,bn hne]
      rfl
    rw [hs] at k
    refine ⟨_,rfl,_,rfl,n,dn,l,wl,sl,rl,h,rs,rfl,N,hlen,hrl,hrs,fun H1 s1=>⟨_,rfl,?_⟩⟩
    cases c1:Vbiraa.isAsk h rs with
    | false =>
      rw [c1,if_pos rfl] at k
      exact iteT ⟨(by show 1≤sizeLine; decide),fun p hp=>k.new N (s1.trans (ah hp)) (s1.free hp) ac⟩
    | true =>
    refine iteF ?_
    rw [c1,if_neg (by decide),mK hwf] at k
    obtain ⟨a1,a2,a3⟩:=vG c1
    have ha:=qP (ns:=h.net) _ a3
    have N1:=N.same s1
    have hrl1:=s1 _ _ hrl
    rw [a1] at hrl1
    refine ⟨_,rfl,n,T.a_Net,dn,_,_,rfl,N1.obj,T.cl_Net,T.na_Net_reaches,aG,_,rfl,l,rl,h.net,_,rfl,N1.rs,hwf,hrl1,a2,a3,fun i hi H2 fp el s2 hfp=>?_,fun hno H2 fp ol s2 hfp F=>?_⟩
    · rw [hi] at k
      refine ⟨_,rfl,fp,_,1,_,rfl,rfl,SqT.of hfp,rfl,rfl,_,rfl,iteT ?_⟩
      refine ⟨_,rfl,fp,_,1,_,rfl,rfl,SqT.of hfp,rfl,(by show 3≤sizeLine; decide),fun p hp=>?_⟩
      have s12:=s1.trans s2
      exact k.new N (s12.trans (ah hp)) (s12.free hp) ac
    · rw [hno] at k
      refine ⟨_,rfl,fp,_,1,_,rfl,rfl,SqT.of hfp,rfl,rfl,_,rfl,iteF ?_⟩
      refine ⟨(by show 2≤sizeLine; decide),fun z hz=>?_⟩
      have s3:=ah (o:=.lst [.int 0,.int 1]) hz
      have s123:=(s1.trans s2).trans s3
      have N3:=N.same s123
      have hfp3:=s3 _ _ hfp
      refine ⟨_,rfl,n,T.a_Net,dn,_,_,rfl,N3.obj,T.cl_Net,T.na_Net_reaches,aG,_,rfl,fp,_,0,_,rfl,rfl,SqT.of hfp3,rfl,l,ol,h.net,_,none,(Vbiraa.children h.net none).map (wV h.net (Vbiraa.askOf h.net (rs.map Int.toNat))),rfl,N3.rs,hlen,F.same s3,fun c hc=>by rw [List.length_map,List.length_range]; exact bz hc,?_,iQ hwf ha none,Nat.le_trans (fu hwf ha none fun c e=>by cases e) (by decide),fun H4 tp s4 htp htp4=>?_⟩
      · refine List.map_congr_left fun c hc=>?_
        rw [List.getD_eq_getElem?_getD,List.getElem?_map,List.getElem?_range (bz hc)]
        rfl
      refine ⟨z,tp,_,_,rfl,rfl,s4 _ _ ac,htp4,(by show 4≤sizeLine; decide),fun p hp=>?_⟩
      have sA:=s123.trans s4
      exact k.new N (sA.trans (ah hp)) (sA.free hp) ac
theorem jj (T:Txt K mg):FnOk P w K mg base CX0 6 T.answer_set_gates.f T.answer_set_gates.fd ["net", "numbers", "row"] (spFn T.a_Reach T.a_Net cSet):=by
  refine T.answer_set_gates.F.ok bI (fun vs H Q E h=>?_) (fun cdv A outer s H vs Q E hr h=>?_)
  · obtain ⟨n,nl,rl,dn,l,wl,sl,h,nums,rs,c,rfl,_⟩:=h
    rfl
  · obtain ⟨n,nl,rl,dn,l,wl,sl,h,nums,rs,c,rfl,N,hI,hne0,hnl,hrl,hrw,hrs,hC,k⟩:=h
    refine ⟨_,(ae (aV (a8 (aL (K:=K) (aC T.are_asks (lU T) (hr.mono (by decide)) ow (aa (pv 0) (aa (pv 2) ad))) (fun _=>rfl)))
      (ag (au (aD (aa (a9 T.c_OUT_OF_RANGE) ad))))
      aH)
      (ae (aw (i:=3) bI.nd rfl (by first | exact Or.inl rfl | exact Or.inr rfl) (aC T.offers_for (jq T) (hr.mono (by decide)) kP (aa (am (K:=K) (pv 0) rfl) (aa (pv 2) ad))))
      (ae (aV (aN u1 (ay (aS (K:=K)) (pv 3) af (fun _ _=>rfl)) f9 (aQ _))
      (ag (au (aD (aa (a9 T.c_CANNOT) ad))))
      aH)
      (ae (aw (i:=4) bI.nd rfl (by first | exact Or.inl rfl | exact Or.inr rfl) (aD (aa af ad)))
      (ae (bT PassesOwn.never rfl (cK rfl T.n_range (aa (aE (ax (K:=K)) (by rfl) T.n_len PySem.boot_len (aa (am (K:=K) (pv 0) rfl) ad)) ad)) (aI (i:=5) bI.nd rfl (by first | exact Or.inl rfl | exact Or.inr rfl))
      (ag (bV (fF PySem.F.plainAttrs_list PySem.F.slot_list_extend PySem.F.type_list_extend gA (pv 4) (aa (aC T.part_of (tZ T) (hr.mono (by decide)) wQ (aa (am (K:=K) (pv 0) rfl) (aa (ay (aS (K:=K)) (pv 3) af (fun _ _=>rfl)) (aa (pv 5) ad)))) ad)))))
      (ag (au (pv 4)))))))),?_⟩
    obtain ⟨rfl,rfl⟩:=sN hC
    have hne:=hne0 rfl
    have hwf:=hI.wf
    have hlen:=hwf.len
    have hs:Vbiraa.step h (.set_ rs)=if Vbiraa.isAsk h rs=false then (h,[-1]) else (match Vbiraa.wants h.net (Vbiraa.askOf h.net (rs.map Int.toNat)) with | .ok _=>(h,0 :: (List.range h.net.length).flatMap fun i=>Vbiraa.qRow (Vbiraa.setTo h.net (Vbiraa.askOf h.net (rs.map Int.toNat)) i)) | .error _=>(h,[-8])):=by
      rw [Vbiraa.step,bn hne]
      rfl
    rw [hs] at k
    refine ⟨_,rfl,_,rfl,n,dn,l,wl,sl,rl,h,rs,rfl,N,hlen,hrl,hrs,fun H1 s1=>⟨_,rfl,?_⟩⟩
    cases c1:Vbiraa.isAsk h rs with
    | false =>
      rw [c1,if_pos rfl] at k
      exact iteT ⟨(by show 1≤sizeLine; decide),fun p hp=>k.new N (s1.trans (ah hp)) (s1.free hp) ac⟩
    | true =>
    refine iteF ?_
    rw [c1,if_neg (by decide),mK hwf] at k
    obtain ⟨a1,a2,a3⟩:=vG c1
    have ha:=qP (ns:=h.net) _ a3
    have N1:=N.same s1
    have hrl1:=s1 _ _ hrl
    rw [a1] at hrl1
    refine ⟨_,rfl,n,T.a_Net,dn,_,_,rfl,N1.obj,T.cl_Net,T.na_Net_reaches,aG,_,rfl,l,rl,h.net,_,rfl,N1.rs,hwf,hrl1,a2,a3,fun i hi H2 fp el s2 hfp=>?_,fun hno H2 fp ol s2 hfp F=>?_⟩
    · rw [hi] at k
      have s12:=s1.trans s2
      refine ⟨_,rfl,fp,_,1,_,rfl,rfl,SqT.of hfp,rfl,rfl,_,rfl,iteT ⟨(by show 1≤sizeLine; decide),fun p hp=>?_⟩⟩
      exact k.new N (s12.trans (ah hp)) (s12.free hp) ac
    · rw [hno] at k
      have s12:=s1.trans s2
      refine ⟨_,rfl,fp,_,1,_,rfl,rfl,SqT.of hfp,rfl,rfl,_,rfl,iteF ?_⟩
      refine ⟨(by show 1≤sizeLine; decide),fun z hz=>?_⟩
      have s3:=ah (o:=.lst [.int 0]) hz
      have hz0:H z=none:=s12.free hz
      have N3:=N.same (s12.trans s3)
      obtain ⟨xs,h1,h2,h3⟩:=N3.rs.list
      refine ⟨_,rfl,n,T.a_Net,dn,_,_,rfl,N3.obj,T.cl_Net,T.na_Net_reaches,aG,l,_,rfl,.inl (SqL.of h1),_,rfl,by omega,by omega,?_⟩
      rw [h2]
      refine jf (n:=h.net.length) (fun j σ H'=>Same H2 H'∧H' z=some (.lst (setV h.net (Vbiraa.askOf h.net (rs.map Int.toNat)) j))∧∃ v:Option V,σ=[some (.ref n),some (.ref nl),some (.ref rl),some (.ref fp),some (.ref z),v]) ⟨s3,ac,none,rfl⟩ ?_ ?_
      · rintro j σ H' hj ⟨sm,hzz,v,rfl⟩
        have sA:=s12.trans sm
        have NA:=N.same sA
        have hfpA:=sm _ _ hfp
        refine ⟨_,rfl,.inl ⟨rfl,_,SqL.of hzz⟩,_,rfl,n,T.a_Net,dn,_,_,rfl,NA.obj,T.cl_Net,T.na_Net_reaches,aG,_,rfl,fp,_,0,_,rfl,rfl,SqT.of hfpA,rfl,_,rfl,l,ol,h.net,Vbiraa.askOf h.net (rs.map Int.toNat),j,by rw [Int.zero_add]; rfl,NA.rs,hwf,ha,hj,F.same sm,fun H4 tp s4 htp htp4=>?_⟩
        rw [←xC hwf hno hj] at htp4
        have hz4:=s4 _ _ hzz
        refine ⟨z,tp,_,_,rfl,rfl,hz4,htp4,?_,aR (sm.trans s4) hz,?_,_,rfl⟩
        · rw [xB]
          show 1 + 2 * j + 2≤sizeLine
          exact Nat.le_of_lt (aP (by omega))
        · rw [ac,wc]
      · rintro σ H' ⟨sm,hzz,v,rfl⟩
        refine ⟨_,rfl,k.new N (s12.trans sm) hz0 (hzz.trans ?_)⟩
        congr 2
        unfold setV
        show _=V.int 0 :: aT _
        congr 1
        unfold aT
        rw [List.map_flatMap]
        rfl
end
end CN
namespace CN
open PySem PySem.Spec PyProof.Rows L2
theorem ofS (s:String):Str.ofString s=sOf (Vbiraa.text s):=by
  rw [Str.ofString_eq_toList]
  rfl
theorem rV (n:Nat):Str.ofString (toString ((n:Nat):Int))=sOf (Vbiraa.digits n):=by
  rw [Str.ofString_eq_toList]
  rfl
theorem fw {n:Nat} (h:n≤100000):(Vbiraa.digits n).length≤6:=by
  have e:Vbiraa.digits n=TL.numL n:=by
    unfold Vbiraa.digits TL.numL
    show (Nat.repr n).toList.map _=_
    rw [Nat.toList_repr]
  rw [e]
  exact TL.xZ (by decide) (by omega)
theorem nO {n:Nat} (h:n≤100000):((n:Nat):Int).natAbs.log2 < 1920:=by
  rw [Int.natAbs_natCast]
  rcases Nat.eq_zero_or_pos n with e | e
  · subst e
    decide
  · exact (Nat.log2_lt (by omega)).mpr (Nat.lt_of_le_of_lt h (by decide))
theorem vf:∀ ws:List (List Nat),Str.join (sOf [32]) (ws.map sOf)=sOf (Vbiraa.spaced ws)
  | []=>rfl
  | [w]=>rfl
  | w :: v :: r=>by
    show sOf w++sOf [32]++Str.join (sOf [32]) ((v :: r).map sOf)=sOf (w++(32 :: Vbiraa.spaced (v :: r)))
    rw [vf (v :: r),jb,jb,List.append_assoc]
    rfl
theorem vg:∀ ws:List (List Nat),Str.join (sOf []) (ws.map sOf)=sOf ws.flatten
  | []=>rfl
  | [w]=>by
    show sOf w=sOf (w++[])
    rw [List.append_nil]
  | w :: v :: r=>by
    show sOf w++sOf []++Str.join (sOf []) ((v :: r).map sOf)=sOf (w++(v :: r).flatten)
    rw [vg (v :: r),jb,jb,List.append_nil]
def eU (ns:Vbiraa.Net) (i:Nat):List Nat:=match (Vbiraa.reachAt ns i).parent with
  | none=>Vbiraa.text "source"
  | some p=>(Vbiraa.reachAt ns p).name
def gG (ns:Vbiraa.Net) (i:Nat):List (List Nat):=[Vbiraa.text "reach",(Vbiraa.reachAt ns i).name,Vbiraa.text "from",eU ns i,Vbiraa.text "delay",Vbiraa.digits (Vbiraa.reachAt ns i).delay,Vbiraa.text "loss",Vbiraa.digits (Vbiraa.reachAt ns i).loss]++[Vbiraa.text "soak",Vbiraa.digits (Vbiraa.reachAt ns i).soak,Vbiraa.text "cap",Vbiraa.digits (Vbiraa.reachAt ns i).cap,Vbiraa.text "gate",Vbiraa.digits (Vbiraa.reachAt ns i).gate]
theorem j3 (ns:Vbiraa.Net) (i:Nat):Vbiraa.spaced (gG ns i)=Vbiraa.printReach ns (Vbiraa.reachAt ns i):=rfl
theorem u5 {ns:Vbiraa.Net} (hw:WF ns) {i:Nat} (hi:i < ns.length):(Vbiraa.reachAt ns i).name.length≤8:=by
  refine hw.nlen _ ?_
  exact List.mem_of_getElem? (gT hi)
theorem w6 {ns:Vbiraa.Net} (hw:WF ns) {i:Nat} (hi:i < ns.length):(eU ns i).length≤8:=by
  unfold eU
  cases e:(Vbiraa.reachAt ns i).parent with
  | none=>show 6≤8; decide
  | some p =>
    have:=hw.par i p hi e
    exact u5 hw (by omega)
theorem oY {ns:Vbiraa.Net} (hw:WF ns) {i:Nat} (hi:i < ns.length):((gG ns i).map List.length).sum≤100:=by
  obtain ⟨n1,n2,n3,n4,n5,n6⟩:=hw.num i hi
  have a1:=fw (n:=(Vbiraa.reachAt ns i).delay) (by omega)
  have a2:=fw (n:=(Vbiraa.reachAt ns i).loss) (by omega)
  have a3:=fw (n:=(Vbiraa.reachAt ns i).soak) (by omega)
  have a4:=fw (n:=(Vbiraa.reachAt ns i).cap) (by omega)
  have a5:=fw (n:=(Vbiraa.reachAt ns i).gate) (by omega)
  have a6:=u5 hw hi
  have a7:=w6 hw hi
  show 5 + ((Vbiraa.reachAt ns i).name.length + (4 + ((eU ns i).length + (5 + ((Vbiraa.digits (Vbiraa.reachAt ns i).delay).length + (4 + ((Vbiraa.digits (Vbiraa.reachAt ns i).loss).length + (4 + ((Vbiraa.digits (Vbiraa.reachAt ns i).soak).length + (3 + ((Vbiraa.digits (Vbiraa.reachAt ns i).cap).length + (4 + ((Vbiraa.digits (Vbiraa.reachAt ns i).gate).length + 0)))))))))))))≤100
  omega
theorem mP:∀ ws:List (List Nat),(Vbiraa.spaced ws).length≤(ws.map List.length).sum + ws.length
  | []=>Nat.le_refl _
  | [w]=>by
    show w.length≤(w.length + 0) + 1
    omega
  | w :: v :: r=>by
    have:=mP (v :: r)
    show (w++(32 :: Vbiraa.spaced (v :: r))).length≤_
    rw [List.length_append,List.length_cons,List.map_cons,List.sum_cons,List.length_cons]
    omega
theorem pd {ns:Vbiraa.Net} (hw:WF ns) {i:Nat} (hi:i < ns.length):(Vbiraa.printReach ns (Vbiraa.reachAt ns i)).length≤114:=by
  rw [←j3]
  have:=mP (gG ns i)
  have:=oY hw hi
  have:(gG ns i).length=14:=rfl
  omega
def fr (ns:Vbiraa.Net):List (List Nat):=(List.range ns.length).map fun i=>Vbiraa.printReach ns (Vbiraa.reachAt ns i)++[10]
theorem lZ (ns:Vbiraa.Net):(fr ns).flatten=Vbiraa.printNet ns:=by
  have e:ns=(List.range ns.length).map (Vbiraa.reachAt ns):=by
    refine List.ext_getElem? fun k=>?_
    by_cases hk:k < ns.length
    · rw [List.getElem?_map,List.getElem?_range hk,gT hk]
      rfl
    · rw [List.getElem?_eq_none (by omega),List.getElem?_eq_none (by rw [List.length_map,List.length_range]; omega)]
  unfold fr Vbiraa.printNet
  rw [←List.flatMap_def]
  conv=>rhs; arg 2; rw [e]
  rw [List.flatMap_map]
theorem nR {ns:Vbiraa.Net} (hw:WF ns):((fr ns).map List.length).sum≤115 * ns.length:=by
  unfold fr
  rw [List.map_map]
  have key:∀ n,n≤ns.length→((List.range n).map (List.length ∘ fun i=>Vbiraa.printReach ns (Vbiraa.reachAt ns i)++[10])).sum≤115 * n:=by
    intro n
    induction n with
    | zero=>intro _; exact Nat.le_refl _
    | succ n ih =>
      intro hn
      rw [List.range_succ,List.map_append,List.sum_append]
      have h1:=ih (by omega)
      have h2:=pd hw (show n < ns.length by omega)
      have h3:([n].map (List.length ∘ fun i=>Vbiraa.printReach ns (Vbiraa.reachAt ns i)++[10])).sum=(Vbiraa.printReach ns (Vbiraa.reachAt ns n)).length + 1:=by
        show (Vbiraa.printReach ns (Vbiraa.reachAt ns n)++[10]).length + 0=_
        rw [List.length_append]
        rfl
      omega
  exact key _ (Nat.le_refl _)
theorem u4 {ns:Vbiraa.Net} (hw:WF ns):(Vbiraa.printNet ns).length≤3450:=by
  rw [←lZ,List.length_flatten]
  have:=nR hw
  have:=hw.len
  omega
section
variable {g:TG} {te:TE} {vs:List Nat} {σ:L2.St} {H1:Hp} {D:Addr} {Qd:Hp→Prop}
theorem sj {x:Str} (ys:List V) (hl:ys.length=x.cps.size) (hD:H1 D=none) (hz:x.cps.size < sizeLine)
    (hs:∀ (i:Nat) (c:Nat) (y:V) (H:Hp),x.cps[i]?=some c→ys[i]?=some y→Same H1 H→∀ Q:VK,(∀ H',Same H H'→Q y H')→g (.str ⟨#[c]⟩) (wipe σ vs) H fun σ2 H2=>wipe σ2 vs=wipe σ vs∧te σ2 H2 Q)
    (hd:∀ H,Same H1 H→H D=some (.lst ys)→Qd H) :
    ∃ W:Nat→Nat→Hp→Prop,(∃ m,W 0 m (upd H1 D (.lst [])))∧∀ i m H,W i m H →
      ((Its x).stop i H∧Qd H)∨((Its x).go i H∧∃ Nx:Hp→Prop,(∀ H',Nx H'→∃ m',m' < m∧W (i + 1) m' H')∧∀ v H',(Its x).yld i H v H'→g v (wipe σ vs) H' fun σ2 H2=>wipe σ2 vs=wipe σ vs∧tYes σ2 H2 fun b H3 =>
        if b=true then te σ2 H3 fun y H4=>∃ acc,H4 D=some (.lst acc)∧acc.length < sizeLine∧Nx (upd H4 D (.lst (acc++[y]))) else Nx H3):=by
  refine ⟨fun i m H=>m=x.cps.size - i∧i≤x.cps.size∧Same H1 H∧H D=some (.lst (ys.take i)),⟨x.cps.size,by simp,Nat.zero_le _,ah hD,ac⟩,?_⟩
  rintro i m H ⟨rfl,hi,sm,hH⟩
  by_cases hlt:i < x.cps.size
  · refine .inr ⟨hlt,fun H=>Same H1 H∧H D=some (.lst (ys.take (i + 1))),fun H' p'=>⟨x.cps.size - (i + 1),by omega,rfl,hlt,p'⟩,fun v H' y=>?_⟩
    obtain ⟨e1,c,e2,e3⟩:=y
    subst e1 e3
    obtain ⟨r,hr⟩:∃ r,ys[i]?=some r:=⟨_,List.getElem?_eq_getElem (by omega)⟩
    simp only [tYes,if_true]
    exact hs i c r _ e2 hr sm _ fun H' s2=>kF hD (by omega) sm hH hr s2
  · have e:i=x.cps.size:=by omega
    subst e
    rw [←hl,List.take_length] at hH
    exact .inl ⟨Nat.le_refl _,hd H sm hH⟩
end
def qG:List Int→List Int→Option Vbiraa.Call
  | [],_=>some .print
  | _,_=>none
theorem og {a b:List Int} {c:Vbiraa.Call} (h:qG a b=some c):a=[]∧c=.print:=by
  unfold qG at h
  split at h
  · cases h
    exact ⟨rfl,rfl⟩
  · cases h
section
variable {P:Program} {w:World} {K:PySem.W.Frag} {mg:Str→Option Value} {base:Heap}
def spLine (C:Addr):Sp:=fun vs H Q _=>∃ (l:Addr) (ns:Vbiraa.Net) (i:Nat),vs=[.ref l,.int (i:Nat)]∧RsAt C H l ns∧WF ns∧i < ns.length∧∀ H',Same H H'→Q (.str (sOf (Vbiraa.printReach ns (Vbiraa.reachAt ns i)++[10]))) H'
theorem t9 (T:Txt K mg):FnOk P w K mg base CX0 1 T.line_of.f T.line_of.fd ["reaches", "i"] (spLine T.a_Reach):=by
  refine T.line_of.F.ok eZ (fun vs H Q E h=>?_) (fun cdv A outer s H vs Q E hr h=>?_)
  · obtain ⟨l,ns,i,rfl,_⟩:=h
    rfl
  · obtain ⟨l,ns,i,rfl,R,hwf,hi,k⟩:=h
    refine ⟨_,(ae (aw (i:=2) eZ.nd rfl (by first | exact Or.inl rfl | exact Or.inr rfl) (ay (ak (K:=K)) (pv 0) (pv 1) (fun _ _=>rfl)))
      (ae (aw (i:=3) eZ.nd rfl (by first | exact Or.inl rfl | exact Or.inr rfl) bX)
      (ae (aV (aN kt (am (K:=K) (pv 2) rfl) (a9 T.c_SOURCE) (aQ _))
      (ag (aw (i:=3) eZ.nd rfl (by first | exact Or.inl rfl | exact Or.inr rfl) (am (K:=K) (ay (ak (K:=K)) (pv 0) (am (K:=K) (pv 2) rfl) (fun _ _=>rfl)) rfl)))
      aH)
      (ae (aw (i:=4) eZ.nd rfl (by first | exact Or.inl rfl | exact Or.inr rfl) (aD (aa bX (aa (am (K:=K) (pv 2) rfl) (aa bX (aa (pv 3) (aa bX (aa (cM dJ (by rfl) T.n_str gE (aa (am (K:=K) (pv 2) rfl) ad)) (aa bX (aa (cM dJ (by rfl) T.n_str gE (aa (am (K:=K) (pv 2) rfl) ad)) ad))))))))))
      (ae (bV (fF PySem.F.plainAttrs_list PySem.F.slot_list_extend PySem.F.type_list_extend gA (pv 4) (aa (aD (aa bX (aa (cM dJ (by rfl) T.n_str gE (aa (am (K:=K) (pv 2) rfl) ad)) (aa bX (aa (cM dJ (by rfl) T.n_str gE (aa (am (K:=K) (pv 2) rfl) ad)) (aa bX (aa (cM dJ (by rfl) T.n_str gE (aa (am (K:=K) (pv 2) rfl) ad)) ad))))))) ad)))
      (ag (au (aF nu (uZ bX (pv 4)) bX)))))))),?_⟩
    obtain ⟨xs,a,dx,h1,h2,h3,ha⟩:=R.at_ hi
    obtain ⟨n1,n2,n3,n4,n5,n6⟩:=hwf.num i hi
    refine ⟨_,rfl,_,rfl,l,_,_,_,rfl,rfl,SqL.of h1,aY h3,?_⟩
    with_reducible refine kT ?_
    refine gK (fun σ' H2=>H2=H∧σ'=[some (.ref l),some (.int (i:Nat)),some (.ref a),some (.str (sOf (Vbiraa.text "source"))),none]) (fun Nx hN=>hN _ _ ⟨rfl,?_⟩) ?_
    · show [_,_,_,some (V.str (Str.ofString "source")),_]=_
      rw [ofS]
    rintro σ' H2 ⟨rfl,rfl⟩
    refine gK (fun σ' H3=>H3=H2∧σ'=[some (.ref l),some (.int (i:Nat)),some (.ref a),some (.str (sOf (eU ns i))),none]) (fun Nx hN=>?_) ?_
    · refine ⟨_,rfl,a,T.a_Reach,dx,_,_,rfl,ha,T.cl_Reach,T.na_Reach_begins,cW,rfl,_,rfl,?_⟩
      cases ep:(Vbiraa.reachAt ns i).parent with
      | none =>
        refine iteF (hN _ _ ⟨rfl,?_⟩)
        unfold eU
        rw [ep]
      | some p =>
        have hp:=hwf.par i p hi ep
        have e:(!decide (V.int (pInt (some p))=V.int (-1)))=true:=by
          rw [Bool.not_eq_true',decide_eq_false_iff_not]
          intro z
          have z:((p:Nat):Int)=-1:=V.int.inj z
          omega
        rw [e]
        obtain ⟨xs',b,db,g1,g2,g3,hb⟩:=R.at_ (show p < ns.length by omega)
        have lb:(rf ns i).lookup ("begins" : Str)=some (.int (p:Nat)):=by
          unfold rf
          rw [ep]
          exact cW
        refine iteT ⟨_,rfl,_,rfl,a,T.a_Reach,dx,_,_,rfl,ha,T.cl_Reach,T.na_Reach_begins,lb,l,_,_,_,rfl,rfl,SqL.of g1,aY g3,b,T.a_Reach,db,_,_,rfl,hb,T.cl_Reach,T.na_Reach_name,nV,hN _ _ ⟨rfl,?_⟩⟩
        unfold eU
        rw [ep]
        rfl
    rintro σ' H3 ⟨rfl,rfl⟩
    refine ⟨_,rfl,a,T.a_Reach,dx,_,_,rfl,ha,T.cl_Reach,T.na_Reach_name,nV,_,rfl,_,rfl,a,T.a_Reach,dx,_,_,rfl,ha,T.cl_Reach,T.na_Reach_delay,kG,_,rfl,nO (by omega),_,rfl,a,T.a_Reach,dx,_,_,rfl,ha,T.cl_Reach,T.na_Reach_loss,qr,_,rfl,nO (by omega),(by show 8≤sizeLine; decide),fun wp hwp=>?_⟩
    have e1:([V.str (Str.ofString "reach"),V.str (sOf (Vbiraa.reachAt ns i).name),V.str (Str.ofString "from"),V.str (sOf (eU ns i)),V.str (Str.ofString "delay"),V.str (Str.ofString (toString ((Vbiraa.reachAt ns i).delay:Int))),V.str (Str.ofString "loss"),V.str (Str.ofString (toString ((Vbiraa.reachAt ns i).loss:Int)))]:List V)=b6 [Vbiraa.text "reach",(Vbiraa.reachAt ns i).name,Vbiraa.text "from",eU ns i,Vbiraa.text "delay",Vbiraa.digits (Vbiraa.reachAt ns i).delay,Vbiraa.text "loss",Vbiraa.digits (Vbiraa.reachAt ns i).loss]:=by
      rw [rV,rV,ofS,ofS,ofS,ofS]
      rfl
    have s1:=ah (o:=.lst [V.str (Str.ofString "reach"),V.str (sOf (Vbiraa.reachAt ns i).name),V.str (Str.ofString "from"),V.str (sOf (eU ns i)),V.str (Str.ofString "delay"),V.str (Str.ofString (toString ((Vbiraa.reachAt ns i).delay:Int))),V.str (Str.ofString "loss"),V.str (Str.ofString (toString ((Vbiraa.reachAt ns i).loss:Int)))]) hwp
    have ha1:=s1 _ _ ha
    refine ⟨_,rfl,.inl ⟨rfl,_,SqL.of ac⟩,_,rfl,a,T.a_Reach,dx,_,_,rfl,ha1,T.cl_Reach,T.na_Reach_soak,qp,_,rfl,nO (by omega),_,rfl,a,T.a_Reach,dx,_,_,rfl,ha1,T.cl_Reach,T.na_Reach_cap,vd,_,rfl,nO (by omega),_,rfl,a,T.a_Reach,dx,_,_,rfl,ha1,T.cl_Reach,T.na_Reach_gate,nW,_,rfl,nO (by omega),(by show 6≤sizeLine; decide),fun ep hep=>?_⟩
    have e2:([V.str (Str.ofString "soak"),V.str (Str.ofString (toString ((Vbiraa.reachAt ns i).soak:Int))),V.str (Str.ofString "cap"),V.str (Str.ofString (toString ((Vbiraa.reachAt ns i).cap:Int))),V.str (Str.ofString "gate"),V.str (Str.ofString (toString ((Vbiraa.reachAt ns i).gate:Int)))]:List V)=b6 [Vbiraa.text "soak",Vbiraa.digits (Vbiraa.reachAt ns i).soak,Vbiraa.text "cap",Vbiraa.digits (Vbiraa.reachAt ns i).cap,Vbiraa.text "gate",Vbiraa.digits (Vbiraa.reachAt ns i).gate]:=by
      rw [rV,rV,rV,ofS,ofS,ofS]
      rfl
    have s2:=ah (o:=.lst [V.str (Str.ofString "soak"),V.str (Str.ofString (toString ((Vbiraa.reachAt ns i).soak:Int))),V.str (Str.ofString "cap"),V.str (Str.ofString (toString ((Vbiraa.reachAt ns i).cap:Int))),V.str (Str.ofString "gate"),V.str (Str.ofString (toString ((Vbiraa.reachAt ns i).gate:Int)))]) hep
    refine ⟨wp,ep,_,_,rfl,rfl,s2 _ _ ac,ac,(by show 14≤sizeLine; decide),?_⟩
    have hw14:=oY hwf hi
    have hq:∀ {H9:Hp},(upd H9 wp (.lst ([V.str (Str.ofString "reach"),V.str (sOf (Vbiraa.reachAt ns i).name),V.str (Str.ofString "from"),V.str (sOf (eU ns i)),V.str (Str.ofString "delay"),V.str (Str.ofString (toString ((Vbiraa.reachAt ns i).delay:Int))),V.str (Str.ofString "loss"),V.str (Str.ofString (toString ((Vbiraa.reachAt ns i).loss:Int)))]++[V.str (Str.ofString "soak"),V.str (Str.ofString (toString ((Vbiraa.reachAt ns i).soak:Int))),V.str (Str.ofString "cap"),V.str (Str.ofString (toString ((Vbiraa.reachAt ns i).cap:Int))),V.str (Str.ofString "gate"),V.str (Str.ofString (toString ((Vbiraa.reachAt ns i).gate:Int)))]))) wp=some (.lst (((gG ns i).map sOf).map V.str)):=by
      intro H9
      rw [ac,e1,e2,←o8,List.map_map]
      rfl
    have lsum:(((gG ns i).map sOf).map (·.length)).sum=((gG ns i).map List.length).sum:=by
      rw [List.map_map]
      rfl
    have esp:Str.ofString " " = sOf [32]:=by
      rw [ofS]
      rfl
    have enl:Str.ofString "\n" = sOf [10]:=by
      rw [ofS]
      rfl
    have ej:Txt.join (Str.ofString " ") ((gG ns i).map sOf)=sOf (Vbiraa.printReach ns (Vbiraa.reachAt ns i)):=by
      rw [TL.vh,esp,vf,j3]
    refine ⟨⟨_,rfl⟩,_,rfl,_,wp,(gG ns i).map sOf,rfl,rfl,.inl (SqL.of hq),?_,_,_,rfl,rfl,?_,?_⟩
    · rw [lsum,List.length_map]
      show _ + 14 * 1≤16777216
      omega
    · rw [ej,enl,cJ,cJ]
      have:=pd hwf hi
      exact Nat.le_of_lt (aP (by show _ + 1 < 1000000; omega))
    · rw [ej,enl,jb]
      exact k _ (aR (s1.trans s2) hwp)
def spText (C:Addr):Sp:=fun vs H Q _=>∃ (l:Addr) (ns:Vbiraa.Net),vs=[.ref l]∧RsAt C H l ns∧WF ns∧NewL H Q (ao (Vbiraa.printNet ns))
theorem tX (T:Txt K mg):FnOk P w K mg base CX0 2 T.text_of.f T.text_of.fd ["reaches"] (spText T.a_Reach):=by
  refine T.text_of.F.ok dN (fun vs H Q E h=>?_) (fun cdv A outer s H vs Q E hr h=>?_)
  · obtain ⟨l,ns,rfl,_⟩:=h
    rfl
  · obtain ⟨l,ns,rfl,R,hwf,k⟩:=h
    refine ⟨_,(ae (aw (i:=1) dN.nd rfl (by first | exact Or.inl rfl | exact Or.inr rfl) (uZ bX (gv (own:=[("i",2)]) rfl dN.nd (cK rfl T.n_range (aa (aE (ax (K:=K)) (by rfl) T.n_len PySem.boot_len (aa (pv 0) ad)) ad)) (bh (N:=["reaches", "text", "i", "sign"]) (sc:=aj gt) (by decide +kernel)) (fun _ _ _ _ _=>(aI (i:=2) dN.nd rfl (by first | exact Or.inl rfl | exact Or.inr rfl))) (fun _ _ _ _ _=>bJ) (fun _ _ _ _ _=>(aC T.line_of (t9 T) (hr.mono (by decide)) wR (aa (pv 0) (aa (pv 2) ad)))))))
      (ag (au (gv (own:=[("sign",3)]) rfl dN.nd (pi_str (pv 1)) (bh (N:=["reaches", "text", "i", "sign"]) (sc:=aj gt) (by decide +kernel)) (fun _ _ _ _ _=>(aI (i:=3) dN.nd rfl (by first | exact Or.inl rfl | exact Or.inr rfl))) (fun _ _ _ _ _=>bJ) (fun _ _ _ _ _=>(aE yC (by rfl) T.n_ord wM (aa (pv 3) ad))))))),?_⟩
    have hn:=hwf.len
    obtain ⟨xs,h1,h2,h3⟩:=R.list
    refine ⟨⟨_,rfl⟩,_,rfl,l,_,rfl,.inl (SqL.of h1),_,rfl,by omega,by omega,fun D hD=>?_⟩
    rw [h2]
    refine gg (n:=ns.length) (((fr ns).map sOf).map V.str) (by unfold fr; rw [List.length_map,List.length_map,List.length_map,List.length_range]) hD (aP (by omega)) ?_ ?_
    · rintro i y H2 hi hy s2 Q' kq
      have hy:V.str (sOf (Vbiraa.printReach ns (Vbiraa.reachAt ns i)++[10]))=y:=by
        unfold fr at hy
        rw [List.getElem?_map,List.getElem?_map,List.getElem?_map,List.getElem?_range hi] at hy
        exact Option.some.inj hy
      subst hy
      refine ⟨rfl,_,rfl,_,rfl,l,ns,i,?_,R.same s2,hwf,hi,fun H3 s3=>kq H3 s3⟩
      rw [Int.zero_add]
      rfl
    · rintro H2 s2 hD2
      have en:Str.ofString "" = sOf []:=by
        rw [ofS]
        rfl
      have hsum:=nR hwf
      have lsum:(((fr ns).map sOf).map (·.length)).sum=((fr ns).map List.length).sum:=by
        rw [List.map_map]
        rfl
      have ej:Txt.join (Str.ofString "") ((fr ns).map sOf)=sOf (Vbiraa.printNet ns):=by
        rw [TL.vh,en,vg,lZ]
      refine ⟨_,D,(fr ns).map sOf,rfl,rfl,.inl (SqL.of hD2),?_,?_⟩
      · rw [lsum,en,cJ]
        show _ + _ * 0≤16777216
        omega
      rw [ej]
      have hl:=u4 hwf
      refine ⟨_,rfl,_,rfl,fun D2 hD3=>?_⟩
      refine sj (x:=sOf (Vbiraa.printNet ns)) (ao (Vbiraa.printNet ns)) (by rw [aA]; rfl) hD3 (aP (by show (Vbiraa.printNet ns).length < 1000000; omega)) ?_ ?_
      · rintro i c y H3 hc hy s3 Q' kq
        obtain ⟨d,hd,rfl⟩:=aX hy
        have hc:(Vbiraa.printNet ns)[i]?=some c:=by
          have:(sOf (Vbiraa.printNet ns)).cps[i]?=some c:=hc
          unfold sOf at this
          rw [List.getElem?_toArray] at this
          exact this
        rw [hd] at hc
        have hc:=Option.some.inj hc
        subst hc
        exact ⟨rfl,_,rfl,_,rfl,rfl,kq _ (Same.refl _)⟩
      · rintro H3 s3 hD4
        exact k H3 D2 (s2.trans s3) (s2.free hD3) hD4
theorem iH (T:Txt K mg):FnOk P w K mg base CX0 3 T.answer_print_text.f T.answer_print_text.fd ["net", "numbers", "row"] (spFn T.a_Reach T.a_Net qG):=by
  refine T.answer_print_text.F.ok eg (fun vs H Q E h=>?_) (fun cdv A outer s H vs Q E hr h=>?_)
  · obtain ⟨n,nl,rl,dn,l,wl,sl,h,nums,rs,c,rfl,_⟩:=h
    rfl
  · obtain ⟨n,nl,rl,dn,l,wl,sl,h,nums,rs,c,rfl,N,hI,hne0,hnl,hrl,hrw,hrs,hC,k⟩:=h
    refine ⟨_,(ae (aw (i:=3) eg.nd rfl (by first | exact Or.inl rfl | exact Or.inr rfl) (aC T.text_of (tX T) (hr.mono (by decide)) wO (aa (am (K:=K) (pv 0) rfl) ad)))
      (ag (au (aF dH (aD (aa af (aa (aE (ax (K:=K)) (by rfl) T.n_len PySem.boot_len (aa (pv 3) ad)) ad))) (pv 3))))),?_⟩
    obtain ⟨rfl,rfl⟩:=og hC
    have hne:=hne0 rfl
    have hs:Vbiraa.step h .print=(h,0 :: Vbiraa.bytesRow (Vbiraa.printNet h.net)):=by
      rw [Vbiraa.step,bn hne]
    rw [hs] at k
    have hl:=u4 hI.wf
    refine ⟨_,rfl,n,T.a_Net,dn,_,_,rfl,N.obj,T.cl_Net,T.na_Net_reaches,aG,l,h.net,rfl,N.rs,hI.wf,fun H1 ep s1 hep hep1=>?_⟩
    refine ⟨_,rfl,ep,_,rfl,.inl (SqL.of hep1),(by show 2≤sizeLine; decide),fun z hz=>?_⟩
    have s2:=ah (o:=.lst [.int 0,.int ((ao (Vbiraa.printNet h.net)).length:Int)]) hz
    refine ⟨_,rfl,z,ep,_,_,rfl,rfl,ac,s2 _ _ hep1,?_,fun p hp=>?_⟩
    · rw [aA]
      show 2 + (Vbiraa.printNet h.net).length≤sizeLine
      exact Nat.le_of_lt (aP (by omega))
    have s3:=ah (o:=.lst ([.int 0,.int ((ao (Vbiraa.printNet h.net)).length:Int)]++ao (Vbiraa.printNet h.net))) hp
    refine k.new N ((s1.trans s2).trans s3) (s1.free (s2.free hp)) (ac.trans ?_)
    rw [aA,show ao (Vbiraa.printNet h.net)=aT (Vbiraa.nums (Vbiraa.printNet h.net)) by unfold aT Vbiraa.nums; rw [eP]]
    rfl
end
end CN
namespace CN
open Vbiraa (Net Reach House Setting)
theorem iA:∀ (l:List (List Nat)) (i:Nat) (ns:Net) {x:Net},WF ns→Vbiraa.readFrom i ns l=.ok x→WF x
  | [],i,ns,x,hw,h=>by
    unfold Vbiraa.readFrom at h
    split at h
    · cases h
    · cases h
      exact hw
  | a :: l,i,ns,x,hw,h=>by
    unfold Vbiraa.readFrom at h
    split at h
    · exact iA l _ _ hw h
    · split at h
      · rename_i y hy
        exact iA l _ _ (pw hw hy).1 h
      · cases h
theorem bm (h:House) (f:Net→House × Vbiraa.Ans) (hf:HInv h→HInv (f h.net).1) (hI:HInv h):HInv (Vbiraa.onNet h f).1:=by
  unfold Vbiraa.onNet
  split
  · exact hI
  · exact hf hI
theorem wy {h:House} (hI:HInv h) (c:Vbiraa.Call):HInv (Vbiraa.step h c).1:=by
  cases c with
  | net t =>
    rw [Vbiraa.step]
    cases e:Vbiraa.readNet t with
    | error i=>exact hI
    | ok ns=>exact yn (iA _ _ _ tj e)
  | let_ t l =>
    rw [Vbiraa.step]
    refine bm h _ (fun hI=>?_) hI
    show HInv (if _ then _ else _:House × Vbiraa.Ans).1
    split
    · exact hI
    · rename_i c
      rw [Bool.not_eq_false,Bool.and_eq_true,Bool.and_eq_true] at c
      refine yo hI fun x hx=>?_
      obtain ⟨z,hz,rfl⟩:=List.mem_map.mp hx
      have:=List.all_eq_true.mp c.2.2 z hz
      unfold Vbiraa.within at this
      rw [Bool.and_eq_true,decide_eq_true_eq,decide_eq_true_eq] at this
      have h2:z≤(1000000:Int):=this.2
      omega
  | gate i t p =>
    rw [Vbiraa.step]
    refine bm h _ (fun hI=>?_) hI
    show HInv (if _ then _ else _:House × Vbiraa.Ans).1
    split
    · exact hI
    · rename_i c
      rw [Bool.not_eq_false,Bool.and_eq_true,Bool.and_eq_true] at c
      obtain ⟨c1,c2,c3⟩:=c
      unfold Vbiraa.isReach Vbiraa.within at c1
      unfold Vbiraa.isTick Vbiraa.within at c2
      unfold Vbiraa.within at c3
      rw [Bool.and_eq_true,decide_eq_true_eq,decide_eq_true_eq] at c1 c2 c3
      have c2b:t≤(60:Int) - 1:=c2.2
      show HInv (if _ then _ else _:House × Vbiraa.Ans).1
      split
      · exact hI
      · rename_i d
        show HInv (if _ then _ else _:House × Vbiraa.Ans).1
        split
        · exact hI
        · rename_i e
          have e:h.settings.length < 60:=Nat.lt_of_not_le e
          have s1:i.toNat < h.net.length:=by omega
          have s2:t.toNat < 60:=by omega
          have s3:p.toNat≤100:=by omega
          refine wz (s:={ reach:=i.toNat,tick:=t.toNat,part:=p.toNat }) hI s1 s2 s3 e ?_
          rw [Bool.not_eq_false] at d
          rw [nY] at d
          · exact d
          · intro q hq
            have hq:q∈h.settings++[{ reach:=i.toNat,tick:=t.toNat,part:=p.toNat }]:=hq
            rcases List.mem_append.mp hq with hq | hq
            · exact (hI.sets q hq).2.1
            · rw [List.mem_singleton.mp hq]
              exact s2
  | flow i t=>rw [Vbiraa.step]; refine bm h _ (fun hI=>?_) hI; show HInv (if _ then _ else _:House × Vbiraa.Ans).1; split <;> exact hI
  | comes i t n=>rw [Vbiraa.step]; refine bm h _ (fun hI=>?_) hI; show HInv (if _ then _ else _:House × Vbiraa.Ans).1; split <;> exact hI
  | account t=>rw [Vbiraa.step]; refine bm h _ (fun hI=>?_) hI; show HInv (if _ then _ else _:House × Vbiraa.Ans).1; split <;> exact hI
  | accounts=>rw [Vbiraa.step]; exact bm h _ (fun hI=>hI) hI
  | way i=>rw [Vbiraa.step]; refine bm h _ (fun hI=>?_) hI; show HInv (if _ then _ else _:House × Vbiraa.Ans).1; split <;> exact hI
  | need i t x=>rw [Vbiraa.step]; refine bm h _ (fun hI=>?_) hI; show HInv (if _ then _ else _:House × Vbiraa.Ans).1; split; exact hI; cases Vbiraa.need h i.toNat t.toNat (Vbiraa.whole x.toNat) <;> exact hI
  | most i t=>rw [Vbiraa.step]; refine bm h _ (fun hI=>?_) hI; show HInv (if _ then _ else _:House × Vbiraa.Ans).1; split <;> exact hI
  | wants l=>rw [Vbiraa.step]; refine bm h _ (fun hI=>?_) hI; show HInv (if _ then _ else _:House × Vbiraa.Ans).1; split; exact hI; cases Vbiraa.wants h.net (Vbiraa.askOf h.net (l.map Int.toNat)) <;> exact hI
  | set_ l=>rw [Vbiraa.step]; refine bm h _ (fun hI=>?_) hI; show HInv (if _ then _ else _:House × Vbiraa.Ans).1; split; exact hI; cases Vbiraa.wants h.net (Vbiraa.askOf h.net (l.map Int.toNat)) <;> exact hI
  | part i t=>rw [Vbiraa.step]; refine bm h _ (fun hI=>?_) hI; show HInv (if _ then _ else _:House × Vbiraa.Ans).1; split <;> exact hI
  | spills=>rw [Vbiraa.step]; exact bm h _ (fun hI=>hI) hI
  | ifCap i c=>rw [Vbiraa.step]; refine bm h _ (fun hI=>?_) hI; show HInv (if _ then _ else _:House × Vbiraa.Ans).1; split <;> exact hI
  | ends=>rw [Vbiraa.step]; exact bm h _ (fun hI=>hI) hI
  | print=>rw [Vbiraa.step]; exact bm h _ (fun hI=>hI) hI
  | counts=>rw [Vbiraa.step]; exact bm h _ (fun hI=>hI) hI
def HOWM:List Nat:=[0,1,3,2,3,1,0,1,3,2,0,0,2,0,2,0,0,0]
def HASR:List Nat:=[1,1,0,0,0,0,0,0,0,0,1,1,0,0,0,0,0,0]
theorem xx {p:Int} {n k:Nat} (h:PyVbiraa.shape p=some (n,k)):∃ j:Nat,p=(j:Int)∧j < 18∧HOWM[j]?=some n∧HASR[j]?=some k:=by
  unfold PyVbiraa.shape at h
  by_cases c:0≤p∧p < 18
  · obtain ⟨j,rfl⟩:∃ j:Nat,p=(j:Int):=⟨p.toNat,by omega⟩
    have hj:j < 18:=by omega
    refine ⟨j,rfl,hj,?_⟩
    clear c
    have all:∀ j:Nat,j < 18→PyVbiraa.shape (j:Int)=some (n,k)→HOWM[j]?=some n∧HASR[j]?=some k:=by
      intro j hj hs
      match j,hj,hs with
      | 0,_,hs=>cases hs; exact ⟨rfl,rfl⟩
      | 1,_,hs=>cases hs; exact ⟨rfl,rfl⟩
      | 2,_,hs=>cases hs; exact ⟨rfl,rfl⟩
      | 3,_,hs=>cases hs; exact ⟨rfl,rfl⟩
      | 4,_,hs=>cases hs; exact ⟨rfl,rfl⟩
      | 5,_,hs=>cases hs; exact ⟨rfl,rfl⟩
      | 6,_,hs=>cases hs; exact ⟨rfl,rfl⟩
      | 7,_,hs=>cases hs; exact ⟨rfl,rfl⟩
      | 8,_,hs=>cases hs; exact ⟨rfl,rfl⟩
      | 9,_,hs=>cases hs; exact ⟨rfl,rfl⟩
      | 10,_,hs=>cases hs; exact ⟨rfl,rfl⟩
      | 11,_,hs=>cases hs; exact ⟨rfl,rfl⟩
      | 12,_,hs=>cases hs; exact ⟨rfl,rfl⟩
      | 13,_,hs=>cases hs; exact ⟨rfl,rfl⟩
      | 14,_,hs=>cases hs; exact ⟨rfl,rfl⟩
      | 15,_,hs=>cases hs; exact ⟨rfl,rfl⟩
      | 16,_,hs=>cases hs; exact ⟨rfl,rfl⟩
      | 17,_,hs=>cases hs; exact ⟨rfl,rfl⟩
      | j + 18,hj,_=>omega
    exact all j hj h
  · exfalso
    have ne:∀ z:Int,0≤z→z < 18→¬ p=z:=fun z a b e=>c ⟨by omega,by omega⟩
    rw [if_neg (ne 0 (by decide) (by decide)),if_neg (ne 1 (by decide) (by decide)),if_neg (ne 2 (by decide) (by decide)),if_neg (ne 3 (by decide) (by decide)),if_neg (ne 4 (by decide) (by decide)),if_neg (ne 5 (by decide) (by decide)),if_neg (ne 6 (by decide) (by decide)),if_neg (ne 7 (by decide) (by decide)),if_neg (ne 8 (by decide) (by decide)),if_neg (ne 9 (by decide) (by decide)),if_neg (ne 10 (by decide) (by decide)),if_neg (ne 11 (by decide) (by decide)),if_neg (ne 12 (by decide) (by decide)),if_neg (ne 13 (by decide) (by decide)),if_neg (ne 14 (by decide) (by decide)),if_neg (ne 15 (by decide) (by decide)),if_neg (ne 16 (by decide) (by decide)),if_neg (ne 17 (by decide) (by decide))] at h
    cases h
theorem uD {f:Nat} {p:Int} {r:List Int} {cs:List (List (List Int))} (h:PyFlat.calls PyVbiraa.shape f (p :: r)=some cs) :
    ∃ (j n k f':Nat) (xs:List (List Int)) (t:List Int) (cs':List (List (List Int))),p=(j:Int)∧j < 18∧HOWM[j]?=some n∧HASR[j]?=some k∧n≤r.length∧cs=((p :: r.take n) :: xs) :: cs'∧PyFlat.calls PyVbiraa.shape f' t=some cs' ∧
      ((k=0∧xs=[]∧t=r.drop n)∨(k=1∧∃ (m:Nat) (s:List Int),r.drop n=(m:Int) :: s∧m≤s.length∧xs=[s.take m]∧t=s.drop m)):=by
  cases f with
  | zero=>cases h
  | succ f =>
    rw [PyFlat.calls] at h
    cases e:PyFlat.call PyVbiraa.shape (p :: r) with
    | none=>rw [e] at h; cases h
    | some ct =>
    obtain ⟨c,t⟩:=ct
    rw [e] at h
    cases e2:PyFlat.calls PyVbiraa.shape f t with
    | none=>simp only [e2] at h; cases h
    | some cs' =>
    simp only [e2] at h
    cases h
    rw [PyFlat.call] at e
    cases e3:PyVbiraa.shape p with
    | none=>rw [e3] at e; cases e
    | some nk =>
    obtain ⟨n,k⟩:=nk
    simp only [e3] at e
    obtain ⟨j,hj,hj18,h1,h2⟩:=xx e3
    by_cases hl:r.length < n
    · rw [if_pos hl] at e
      cases e
    rw [if_neg hl] at e
    have hk:k=0∨k=1:=by
      have:∀ j:Nat,j < 18→∀ k,HASR[j]?=some k→k=0∨k=1:=by decide +revert
      exact this j hj18 k h2
    rcases hk with rfl | rfl
    · rw [PyFlat.rows] at e
      cases e
      exact ⟨j,n,0,f,[],_,cs',hj,hj18,h1,h2,by omega,rfl,e2,.inl ⟨rfl,rfl,rfl⟩⟩
    · rw [PyFlat.rows] at e
      cases e4:r.drop n with
      | nil=>rw [e4] at e; cases e
      | cons m s =>
      rw [e4,PyFlat.row] at e
      by_cases hm:0≤m∧m.toNat≤s.length
      · rw [if_pos hm] at e
        simp only [PyFlat.rows] at e
        cases e
        exact ⟨j,n,1,f,_,_,cs',hj,hj18,h1,h2,by omega,rfl,e2,.inr ⟨rfl,m.toNat,s,by rw [Int.toNat_of_nonneg hm.1]; exact e4,hm.2,rfl,rfl⟩⟩
      · rw [if_neg hm] at e
        cases e
end CN
namespace CN
open PySem PySem.Spec PyProof.Rows L2
def sL:Nat→List Int→List Int→Option Vbiraa.Call
  | 0=>cNet
  | 1=>cLet
  | 2=>vD
  | 3=>vE
  | 4=>qI
  | 5=>kO
  | 6=>jh
  | 7=>cWay
  | 8=>vB
  | 9=>vC
  | 10=>qF
  | 11=>cSet
  | 12=>vA
  | 13=>mC
  | 14=>qH
  | 15=>vF
  | 16=>qG
  | 17=>mD
  | _=>fun _ _=>none
theorem wK {j:Nat} {nums rs:List Int} {c:Vbiraa.Call} (h:sL j nums rs=some c):vk c=decide (j=0):=by
  match j,h with
  | 0,h=>obtain ⟨_,rfl,_⟩:=sO h; rfl
  | 1,h=>obtain ⟨_,_,rfl⟩:=sP h; rfl
  | 2,h=>obtain ⟨_,_,_,_,rfl⟩:=pL h; rfl
  | 3,h=>obtain ⟨_,_,_,rfl⟩:=pM h; rfl
  | 4,h=>obtain ⟨_,_,_,_,rfl⟩:=oj h; rfl
  | 5,h=>obtain ⟨_,_,rfl⟩:=kN h; rfl
  | 6,h=>obtain ⟨_,rfl⟩:=jv h; rfl
  | 7,h=>obtain ⟨_,_,rfl⟩:=sM h; rfl
  | 8,h=>obtain ⟨_,_,_,_,rfl⟩:=pJ h; rfl
  | 9,h=>obtain ⟨_,_,_,rfl⟩:=pK h; rfl
  | 10,h=>obtain ⟨_,rfl⟩:=oe h; rfl
  | 11,h=>obtain ⟨_,rfl⟩:=sN h; rfl
  | 12,h=>obtain ⟨_,_,_,rfl⟩:=pI h; rfl
  | 13,h=>obtain ⟨_,rfl⟩:=l8 h; rfl
  | 14,h=>obtain ⟨_,_,_,rfl⟩:=oh h; rfl
  | 15,h=>obtain ⟨_,rfl⟩:=pN h; rfl
  | 16,h=>obtain ⟨_,rfl⟩:=og h; rfl
  | 17,h=>obtain ⟨_,rfl⟩:=l9 h; rfl
  | j + 18,h=>cases h
theorem tL {h:Vbiraa.House} {c:Vbiraa.Call} (hc:vk c=false) (he:h.net=[]):Vbiraa.step h c=(h,[-9]):=by
  have on:∀ f:Vbiraa.Net→Vbiraa.House × Vbiraa.Ans,Vbiraa.onNet h f=(h,[-9]):=fun f=>by
    unfold Vbiraa.onNet
    rw [he]
    rfl
  cases c with
  | net t=>cases hc
  | _=>rw [Vbiraa.step]; exact on _
section
variable {P:Program} {w:World} {K:PySem.W.Frag} {mg:Str→Option Value} {base:Heap}
theorem fn_at (T:Txt K mg) {j:Nat} {nums rs:List Int} {c:Vbiraa.Call} (h:sL j nums rs=some c):∃ (f:Addr) (fd:FuncData),[V.ref T.answer_net.f,V.ref T.answer_let.f,V.ref T.answer_gate.f,V.ref T.answer_flow.f,V.ref T.answer_comes.f,V.ref T.answer_account.f,V.ref T.answer_accounts.f,V.ref T.answer_way.f,V.ref T.answer_need.f,V.ref T.answer_most.f,V.ref T.answer_wants.f,V.ref T.answer_set_gates.f,V.ref T.answer_part.f,V.ref T.answer_spills.f,V.ref T.answer_ifcap.f,V.ref T.answer_ends.f,V.ref T.answer_print_text.f,V.ref T.answer_counts.f][j]?=some (V.ref f)∧FnOk P w K mg base CX0 (8 - 1) f fd ["net", "numbers", "row"] (spFn T.a_Reach T.a_Net (sL j))∧PySem.W.keepIn K (.ref f)=true∧aJ K fd ["net", "numbers", "row"] []:=by
  match j,h with
  | 0,h=>exact ⟨_,_,rfl,(oM T).mono (by decide),T.answer_net.F.kp,qM⟩
  | 1,h=>exact ⟨_,_,rfl,(oN T).mono (by decide),T.answer_let.F.kp,qN⟩
  | 2,h=>exact ⟨_,_,rfl,(nE T).mono (by decide),T.answer_gate.F.kp,oT⟩
  | 3,h=>exact ⟨_,_,rfl,(nF T).mono (by decide),T.answer_flow.F.kp,oU⟩
  | 4,h=>exact ⟨_,_,rfl,(ml T).mono (by decide),T.answer_comes.F.kp,oz⟩
  | 5,h=>exact ⟨_,_,rfl,(kC T).mono (by decide),T.answer_account.F.kp,lK⟩
  | 6,h=>exact ⟨_,_,rfl,(jQ T).mono (by decide),T.answer_accounts.F.kp,kR⟩
  | 7,h=>exact ⟨_,_,rfl,(oK T).mono (by decide),T.answer_way.F.kp,qL⟩
  | 8,h=>exact ⟨_,_,rfl,(nB T).mono (by decide),T.answer_need.F.kp,oR⟩
  | 9,h=>exact ⟨_,_,rfl,(nD T).mono (by decide),T.answer_most.F.kp,oS⟩
  | 10,h=>exact ⟨_,_,rfl,(mh T).mono (by decide),T.answer_wants.F.kp,ox⟩
  | 11,h=>exact ⟨_,_,rfl,(jj T).mono (by decide),T.answer_set_gates.F.kp,j0⟩
  | 12,h=>exact ⟨_,_,rfl,(nA T).mono (by decide),T.answer_part.F.kp,oQ⟩
  | 13,h=>exact ⟨_,_,rfl,(lx T).mono (by decide),T.answer_spills.F.kp,mo⟩
  | 14,h=>exact ⟨_,_,rfl,(mj T).mono (by decide),T.answer_ifcap.F.kp,oy⟩
  | 15,h=>exact ⟨_,_,rfl,(nG T).mono (by decide),T.answer_ends.F.kp,oV⟩
  | 16,h=>exact ⟨_,_,rfl,(iH T).mono (by decide),T.answer_print_text.F.kp,jl⟩
  | 17,h=>exact ⟨_,_,rfl,(ly T).mono (by decide),T.answer_counts.F.kp,mq⟩
  | j + 18,h=>cases h
def spCall (CR CN:Addr):Sp:=fun vs H Q _=>∃ (n nl rl dn l wl sl:Addr) (h:Vbiraa.House) (j:Nat) (nums rs:List Int) (c:Vbiraa.Call),vs=[.ref n,.int j,.ref nl,.ref rl]∧bC CR CN H n h dn l wl sl∧HInv h∧H nl=some (.lst (aT nums))∧H rl=some (.lst (aT rs))∧rl≠wl∧rs.length≤4000∧sL j nums rs=some c∧Post CR CN H Q n l wl sl (Vbiraa.step h c)
theorem nH (T:Txt K mg):FnOk P w K mg base CX0 8 T.answer_call.f T.answer_call.fd ["net", "call", "numbers", "row"] (spCall T.a_Reach T.a_Net):=by
  refine T.answer_call.F.ok iu (fun vs H Q E h=>?_) (fun cdv A outer s H vs Q E hr h=>?_)
  · obtain ⟨n,nl,rl,dn,l,wl,sl,h,j,nums,rs,c,rfl,_⟩:=h
    rfl
  · obtain ⟨n,nl,rl,dn,l,wl,sl,h,j,nums,rs,c,rfl,N,hI,hnl,hrl,hrw,hrs,hC,k⟩:=h
    refine ⟨_,(ae (aV (xJ (aN kt (pv 1) (a9 T.c_NET) (aQ _)) (uU (aN dG (aE (ax (K:=K)) (by rfl) T.n_len PySem.boot_len (aa (am (K:=K) (pv 0) rfl) ad)) af (aQ _)))).pt
      (ag (au (aD (aa (a9 T.c_NO_NET) ad))))
      aH)
      (ae (aw (i:=4) iu.nd rfl (by first | exact Or.inl rfl | exact Or.inr rfl) (ay (aS (K:=K)) (kn T.t_FUNCTIONS.m) (pv 1) (fun _ _=>rfl)))
      (ag (au (xR (k:=7) (hr.mono (by decide)) (pv 4) (aa (pv 0) (aa (pv 2) (aa (pv 3) ad)))))))),?_⟩
    have hn:=wK hC
    obtain ⟨xs,h1,h2,_⟩:=N.rs.list
    obtain ⟨f,fd,g1,g2,g3,g4⟩:=fn_at (P:=P) (w:=w) (base:=base) T hC
    have e0:decide (V.int ((xs.length:Nat):Int)=V.int 0)=h.net.isEmpty:=by
      rw [show (V.int 0)=V.int ((0:Nat):Int) from rfl,cZ,h2]
      cases h.net <;> simp
    by_cases c0:j=0
    · subst c0
      refine ⟨_,rfl,rfl,_,rfl,iteF (iteF ?_)⟩
      refine ⟨_,rfl,T.t_FUNCTIONS.a,_,_,_,rfl,rfl,T.t_FUNCTIONS.is H,aB rfl g1,?_⟩
      refine ⟨_,rfl,rfl,f,fd,_,_,rfl,g2,g3,g4,_,rfl,_,rfl,_,rfl,?_⟩
      exact ⟨n,nl,rl,dn,l,wl,sl,h,nums,rs,c,rfl,N,hI,(fun z=>by rw [hn] at z; cases z),hnl,hrl,hrw,hrs,hC,k⟩
    · have ec:(!decide (V.int ((j:Nat):Int)=V.int 0))=true:=by
        rw [decide_eq_false fun z=>c0 (by have:=V.int.inj z; omega)]
        rfl
      have hnf:vk c=false:=hn.trans (decide_eq_false c0)
      refine ⟨_,rfl,rfl,_,rfl,?_⟩
      refine (congrArg (fun b=>if b=true then _ else _) ec).mpr ?_
      refine iteT ⟨_,rfl,n,T.a_Net,dn,_,_,rfl,N.obj,T.cl_Net,T.na_Net_reaches,aG,l,_,rfl,.inl (SqL.of h1),rfl,_,rfl,?_⟩
      refine (congrArg (fun b=>if b=true then _ else _) e0).mpr ?_
      cases ce:h.net.isEmpty with
      | true =>
        rw [tL hnf (List.isEmpty_iff.mp ce)] at k
        exact iteT ⟨(by show 1≤sizeLine; decide),fun p hp=>k.new N (ah hp) hp ac⟩
      | false =>
        refine iteF ?_
        refine ⟨_,rfl,T.t_FUNCTIONS.a,_,_,_,rfl,rfl,T.t_FUNCTIONS.is H,aB rfl g1,?_⟩
        refine ⟨_,rfl,rfl,f,fd,_,_,rfl,g2,g3,g4,_,rfl,_,rfl,_,rfl,?_⟩
        exact ⟨n,nl,rl,dn,l,wl,sl,h,nums,rs,c,rfl,N,hI,(fun _ z=>by rw [z] at ce; cases ce),hnl,hrl,hrw,hrs,hC,k⟩
end
def pY:Nat:=18
theorem len0 {α:Type} {l:List α} (h:0=l.length):l=[]:=List.length_eq_zero_iff.mp h.symm
theorem len1 {α:Type} {l:List α} (h:1=l.length):∃ a,l=[a]:=List.length_eq_one_iff.mp h.symm
theorem len2 {α:Type} {l:List α} (h:2=l.length):∃ a b,l=[a,b]:=by
  match l,h with
  | [a,b],_=>exact ⟨a,b,rfl⟩
theorem len3 {α:Type} {l:List α} (h:3=l.length):∃ a b c,l=[a,b,c]:=by
  match l,h with
  | [a,b,c],_=>exact ⟨a,b,c,rfl⟩
theorem je {lo hi:Int} {a b:Nat} {r:List Int} (h:PyInside.lists [(lo,hi,a,b)] [r]=true):r.length≤b∧∀ x∈r,lo≤x:=by
  unfold PyInside.lists at h
  rw [Bool.and_eq_true,Bool.and_eq_true,Bool.and_eq_true,decide_eq_true_eq,decide_eq_true_eq] at h
  refine ⟨h.1.1.2,fun x hx=>?_⟩
  have:=List.all_eq_true.mp h.1.2 x hx
  unfold PyInside.within at this
  rw [Bool.and_eq_true,decide_eq_true_eq] at this
  exact this.1
theorem hJ {c:List Int} {p:Int} {xs:List (List Int)} (h:PyInside.call PyVbiraa.bound ((p :: c) :: xs)=true):PyInside.lists (PyVbiraa.bound p).2 xs=true:=by
  unfold PyInside.call at h
  rw [Bool.and_eq_true] at h
  exact h.2
theorem zI {j:Nat} {nums:List Int} {xs:List (List Int)} (hj:j < pY) (h1:HOWM[j]?=some nums.length) (h2:HASR[j]?=some xs.length) (hb:PyInside.call PyVbiraa.bound (((j:Int) :: nums) :: xs)=true) :
    ∃ c,sL j nums (xs.headD [])=some c∧VbiraaNeutral.callOf (PyVbiraa.whole (((j:Int) :: nums) :: xs))=c∧(xs.headD []).length≤4000:=by
  match j,hj,h1,h2,hb with
  | 0,_,h1,h2,hb =>
    obtain rfl:=len0 (Option.some.inj h1)
    obtain ⟨r,rfl⟩:=len1 (Option.some.inj h2)
    obtain ⟨q1,q2⟩:=je (hJ hb)
    refine ⟨.net (r.map Int.toNat),?_,rfl,Nat.le_trans q1 (by decide)⟩
    show (if (r.all fun x=>decide (0≤x))=true then some (Vbiraa.Call.net (r.map Int.toNat)) else none)=_
    rw [if_pos (List.all_eq_true.mpr fun x hx=>decide_eq_true (q2 x hx))]
  | 1,_,h1,h2,hb =>
    obtain ⟨a,rfl⟩:=len1 (Option.some.inj h1)
    obtain ⟨r,rfl⟩:=len1 (Option.some.inj h2)
    exact ⟨_,rfl,rfl,Nat.le_trans (je (hJ hb)).1 (by decide)⟩
  | 2,_,h1,h2,hb =>
    obtain ⟨a,b,c,rfl⟩:=len3 (Option.some.inj h1)
    obtain rfl:=len0 (Option.some.inj h2)
    exact ⟨_,rfl,rfl,Nat.zero_le _⟩
  | 3,_,h1,h2,hb =>
    obtain ⟨a,b,rfl⟩:=len2 (Option.some.inj h1)
    obtain rfl:=len0 (Option.some.inj h2)
    exact ⟨_,rfl,rfl,Nat.zero_le _⟩
  | 4,_,h1,h2,hb =>
    obtain ⟨a,b,c,rfl⟩:=len3 (Option.some.inj h1)
    obtain rfl:=len0 (Option.some.inj h2)
    exact ⟨_,rfl,rfl,Nat.zero_le _⟩
  | 5,_,h1,h2,hb =>
    obtain ⟨a,rfl⟩:=len1 (Option.some.inj h1)
    obtain rfl:=len0 (Option.some.inj h2)
    exact ⟨_,rfl,rfl,Nat.zero_le _⟩
  | 6,_,h1,h2,hb =>
    obtain rfl:=len0 (Option.some.inj h1)
    obtain rfl:=len0 (Option.some.inj h2)
    exact ⟨_,rfl,rfl,Nat.zero_le _⟩
  | 7,_,h1,h2,hb =>
    obtain ⟨a,rfl⟩:=len1 (Option.some.inj h1)
    obtain rfl:=len0 (Option.some.inj h2)
    exact ⟨_,rfl,rfl,Nat.zero_le _⟩
  | 8,_,h1,h2,hb =>
    obtain ⟨a,b,c,rfl⟩:=len3 (Option.some.inj h1)
    obtain rfl:=len0 (Option.some.inj h2)
    exact ⟨_,rfl,rfl,Nat.zero_le _⟩
  | 9,_,h1,h2,hb =>
    obtain ⟨a,b,rfl⟩:=len2 (Option.some.inj h1)
    obtain rfl:=len0 (Option.some.inj h2)
    exact ⟨_,rfl,rfl,Nat.zero_le _⟩
  | 10,_,h1,h2,hb =>
    obtain rfl:=len0 (Option.some.inj h1)
    obtain ⟨r,rfl⟩:=len1 (Option.some.inj h2)
    exact ⟨_,rfl,rfl,Nat.le_trans (je (hJ hb)).1 (by decide)⟩
  | 11,_,h1,h2,hb =>
    obtain rfl:=len0 (Option.some.inj h1)
    obtain ⟨r,rfl⟩:=len1 (Option.some.inj h2)
    exact ⟨_,rfl,rfl,Nat.le_trans (je (hJ hb)).1 (by decide)⟩
  | 12,_,h1,h2,hb =>
    obtain ⟨a,b,rfl⟩:=len2 (Option.some.inj h1)
    obtain rfl:=len0 (Option.some.inj h2)
    exact ⟨_,rfl,rfl,Nat.zero_le _⟩
  | 13,_,h1,h2,hb =>
    obtain rfl:=len0 (Option.some.inj h1)
    obtain rfl:=len0 (Option.some.inj h2)
    exact ⟨_,rfl,rfl,Nat.zero_le _⟩
  | 14,_,h1,h2,hb =>
    obtain ⟨a,b,rfl⟩:=len2 (Option.some.inj h1)
    obtain rfl:=len0 (Option.some.inj h2)
    exact ⟨_,rfl,rfl,Nat.zero_le _⟩
  | 15,_,h1,h2,hb =>
    obtain rfl:=len0 (Option.some.inj h1)
    obtain rfl:=len0 (Option.some.inj h2)
    exact ⟨_,rfl,rfl,Nat.zero_le _⟩
  | 16,_,h1,h2,hb =>
    obtain rfl:=len0 (Option.some.inj h1)
    obtain rfl:=len0 (Option.some.inj h2)
    exact ⟨_,rfl,rfl,Nat.zero_le _⟩
  | 17,_,h1,h2,hb =>
    obtain rfl:=len0 (Option.some.inj h1)
    obtain rfl:=len0 (Option.some.inj h2)
    exact ⟨_,rfl,rfl,Nat.zero_le _⟩
  | j + 18,hj,_,_,_=>exact absurd hj (by unfold pY; omega)
end CN
namespace CN
open PySem PySem.Spec PyProof.Rows L2
theorem sF {L:List Int} {a n:Nat} {x y:Int} (hx:x=(a:Int)) (hy:y=((a + n:Nat):Int)) (h:a + n≤L.length):cutV (aT L) (some x) (some y)=aT ((L.drop a).take n):=by
  subst hx hy
  unfold cutV HT.sIx
  simp only [bt]
  rw [if_neg (by omega),if_neg (by omega),Int.toNat_natCast,Int.toNat_natCast,Nat.min_eq_left h,Nat.min_eq_left (by omega),Nat.add_sub_cancel_left]
  unfold aT
  rw [List.map_take,List.map_drop]
theorem wx (a b:List Int):aT (a++b)=aT a++aT b:=by
  unfold aT
  rw [List.map_append]
theorem vT (a:List Int) (l:List (List Int)):PyFlat.told (a :: l)=((a.length:Int) :: a)++PyFlat.told l:=by
  unfold PyFlat.told
  rw [List.flatMap_cons]
def howV:List V:=(HOWM.take pY).map fun n=>V.int (n:Nat)
theorem zz {j n:Nat} (hj:j < pY) (h:HOWM[j]?=some n):howV[j]?=some (.int (n:Nat)):=by
  unfold howV
  rw [List.getElem?_map,List.getElem?_take_of_lt hj,h]
  rfl
theorem row_in {j q:Nat} (hj:j < pY) (h:HASR[j]?=some q):(if false=true then !inV (V.int (j:Nat)) [.int 0,.int 1,.int 10,.int 11] else inV (V.int (j:Nat)) [.int 0,.int 1,.int 10,.int 11])=decide (q=1):=by
  have all:∀ j:Fin 18,inV (V.int ((j.val:Nat):Int)) [.int 0,.int 1,.int 10,.int 11]=decide (HASR[j.val]?=some 1):=by decide +kernel
  have:=all ⟨j,hj⟩
  rw [if_neg Bool.false_ne_true]
  refine this.trans ?_
  rw [h]
  exact decide_eq_decide.mpr ⟨fun z=>Option.some.inj z,fun z=>congrArg some z⟩
theorem bC.but {CR CN n dn l wl sl ap:Addr} {H H':Hp} {h:Vbiraa.House} {ys:List V} (N:bC CR CN H n h dn l wl sl) (hap:H ap=some (.lst ys)) (e1:ap≠l) (e2:ap≠wl) (e3:ap≠sl) (s:∀ b o,H b=some o→b≠ap→H' b=some o):bC CR CN H' n h dn l wl sl:=by
  refine ⟨s _ _ N.obj (bL N.obj hap (by intro z; cases z)),?_,s _ _ N.ws e2.symm,?_⟩
  · obtain ⟨as,b1,b2,b3⟩:=N.rs.ex
    refine ⟨as,s _ _ b1 e1.symm,b2,fun i a e=>?_⟩
    obtain ⟨dx,hx⟩:=b3 i a e
    exact ⟨dx,s _ _ hx (bL hx hap (by intro z; cases z))⟩
  · obtain ⟨bs,k1,k2,k3⟩:=N.ss.ex
    exact ⟨bs,s _ _ k1 e3.symm,k2,fun i b q e e'=>s _ _ (k3 i b q e e') (bL (k3 i b q e e') hap (by intro z; cases z))⟩
theorem nv {H H':Hp} {a b:Addr} {o u:HO} (O:oF H) (s:Same H H') (ha:H a=some o) (hb:H' b=some u) (hu:∀ x y,u≠.frz x y):a≠b:=fun z=>by
  subst z
  have:=s _ _ ha
  rw [hb] at this
  cases this
  rcases O a with q | ⟨x,y,q⟩
  · rw [ha] at q
    cases q
  · rw [ha] at q
    cases q
    exact hu x y rfl
section
variable {P:Program} {w:World} {K:PySem.W.Frag} {mg:Str→Option Value} {base:Heap}
def spAll (K:PySem.W.Frag):Sp:=fun vs H Q _=>∃ (cl:Addr) (L:List Int) (cs:List (List (List Int))),vs=[.ref cl]∧oF H∧SqL K H cl (aT L)∧PyFlat.calls PyVbiraa.shape L.length L=some cs∧(∀ c∈cs,PyInside.call PyVbiraa.bound c=true)∧(PyVbiraa.answers L).length≤10000000∧∀ (H':Hp) (p:Addr),H' p=some (.lst (aT (PyVbiraa.answers L)))→Q (.ref p) H'
theorem uc (T:Txt K mg):FnOk P w K mg base CX0 9 T.answers.f T.answers.fd ["calls"] (spAll K):=by
  refine T.answers.F.ok bu (fun vs H Q E h=>?_) (fun cdv A outer s H vs Q E hr h=>?_)
  · obtain ⟨cl,L,cs,rfl,_⟩:=h
    rfl
  · obtain ⟨cl,L,cs,rfl,hO,hcl,hcs,hbd,hlen,k⟩:=h
    refine ⟨_,(ae (aw (i:=1) bu.nd rfl (by first | exact Or.inl rfl | exact Or.inr rfl) (rE T.mk_Net (lW T) (hr.mono (by decide)) rfl T.m_Net oA .nil lQ))
      (ae (aw (i:=2) bu.nd rfl (by first | exact Or.inl rfl | exact Or.inr rfl) (aD ad))
      (ae (aw (i:=3) bu.nd rfl (by first | exact Or.inl rfl | exact Or.inr rfl) af)
      (ae (kl PassesOwn.never (aN rK (pv 3) (aE (ax (K:=K)) (by rfl) T.n_len PySem.boot_len (aa (pv 0) ad)) (aQ _))
      (ae (aw (i:=4) bu.nd rfl (by first | exact Or.inl rfl | exact Or.inr rfl) (ay (ak (K:=K)) (pv 0) (pv 3) (fun _ _=>rfl)))
      (ae (aw (i:=5) bu.nd rfl (by first | exact Or.inl rfl | exact Or.inr rfl) (aF bv (aF bv (pv 3) af) (ay (aS (K:=K)) (kn T.t_HOW_MANY_NUMBERS.m) (pv 4) (fun _ _=>rfl))))
      (ae (aw (i:=6) bu.nd rfl (by first | exact Or.inl rfl | exact Or.inr rfl) (rD uR (pv 0) (mx (aF bv (pv 3) af)) (mx (pv 5))))
      (ae (aw (i:=7) bu.nd rfl (by first | exact Or.inl rfl | exact Or.inr rfl) (aD ad))
      (ae (aV (aN (jP (K:=K)) (pv 4) (kn T.t_WITH_ROW.m) (by with_unfolding_all rfl))
      (ae (aw (i:=7) bu.nd rfl (by first | exact Or.inl rfl | exact Or.inr rfl) (rD uR (pv 0) (mx (aF bv (pv 5) af)) (mx (aF bv (aF bv (pv 5) af) (ay (ak (K:=K)) (pv 0) (pv 5) (fun _ _=>rfl))))))
      (ag (aw (i:=5) bu.nd rfl (by first | exact Or.inl rfl | exact Or.inr rfl) (aF bv (aF bv (pv 5) af) (aE (ax (K:=K)) (by rfl) T.n_len PySem.boot_len (aa (pv 7) ad))))))
      aH)
      (ae (aw (i:=8) bu.nd rfl (by first | exact Or.inl rfl | exact Or.inr rfl) (aC T.answer_call (nH T) (hr.mono (by decide)) oW (aa (pv 1) (aa (pv 4) (aa (pv 6) (aa (pv 7) ad))))))
      (ae (bV (fF PySem.F.plainAttrs_list PySem.F.slot_list_append PySem.F.type_list_append cO (pv 2) (aa (aE (ax (K:=K)) (by rfl) T.n_len PySem.boot_len (aa (pv 8) ad)) ad)))
      (ae (bV (fF PySem.F.plainAttrs_list PySem.F.slot_list_extend PySem.F.type_list_extend gA (pv 2) (aa (pv 8) ad)))
      (ag (aw (i:=3) bu.nd rfl (by first | exact Or.inl rfl | exact Or.inr rfl) (pv 5))))))))))))
      (ag (au (pv 2))))))),?_⟩
    have hans:PyVbiraa.answers L=PyFlat.told (PyFlat.played VbiraaNeutral.step Vbiraa.start (cs.map PyVbiraa.whole)):=by
      unfold PyVbiraa.answers PyVbiraa.calls
      rw [hcs]
      rfl
    rw [hans] at hlen k
    generalize hT:PyFlat.told (PyFlat.played VbiraaNeutral.step Vbiraa.start (cs.map PyVbiraa.whole))=total at hlen k
    intro n dn hn hdn ndn
    refine ⟨n,dn,rfl,ac,fun H1 l wl sl a1 a2 a3 a4 kp=>⟨rfl,?_⟩⟩
    have s1:Same H H1:=fun b o e=>kp b o (by rw [ai (aq e hn),ai (aq e hdn)]; exact e) (aq e hn)
    have N0:bC T.a_Reach T.a_Net H1 n Vbiraa.start dn l wl sl:=⟨a1,⟨[],a2,rfl,fun i a e=>by cases e⟩,a3,⟨[],a4,rfl,fun i a s e=>by cases e⟩⟩
    refine ⟨Nat.zero_le _,fun ap hap=>?_⟩
    have s2:=ah (o:=.lst []) hap
    refine j6 (fun σ H'=>∃ (dn l wl sl:Addr) (h:Vbiraa.House) (at' f:Nat) (done:List Int) (cs:List (List (List Int))) (v4 v5 v6 v7 v8:Option V),σ=[some (.ref cl),some (.ref n),some (.ref ap),some (.int (at':Nat)),v4,v5,v6,v7,v8]∧Same H H'∧bC T.a_Reach T.a_Net H' n h dn l wl sl∧HInv h∧H' ap=some (.lst (aT done))∧ap≠l∧ap≠wl∧ap≠sl∧at'≤L.length∧PyFlat.calls PyVbiraa.shape f (L.drop at')=some cs∧(∀ c∈cs,PyInside.call PyVbiraa.bound c=true)∧done++PyFlat.told (PyFlat.played VbiraaNeutral.step h (cs.map PyVbiraa.whole))=total)
      (fun σ _=>match σ with | [_,_,_,some (.int a),_,_,_,_,_]=>L.length - a.toNat | _=>0) ⟨dn,l,wl,sl,Vbiraa.start,0,L.length,[],cs,none,none,none,none,none,rfl,s1.trans s2,N0.same s2,ur,ac,(aq a2 hap).symm,(aq a3 hap).symm,(aq a4 hap).symm,Nat.zero_le _,hcs,hbd,hT⟩ ?_ ?_
    · rintro σ H2 ⟨dn,l,wl,sl,h,a,f,done,cs,v4,v5,v6,v7,v8,rfl,sm,N,hI,hap2,d1,d2,d3,ha,hc,hb,hsum⟩
      have hclq:SqL K H2 cl (aT L):=sm.seq hcl
      refine ⟨_,rfl,_,rfl,cl,_,rfl,.inl hclq,_,_,rfl,rfl,_,rfl,?_⟩
      rw [bt]
      refine ite2 (fun z=>?_) (fun z=>?_)
      · have z:(a:Int) < (L.length:Int):=of_decide_eq_true z
        have hlt:a < L.length:=by omega
        have hdr:L.drop a=L[a] :: L.drop (a + 1):=List.drop_eq_getElem_cons hlt
        rw [hdr] at hc
        obtain ⟨j,m,q,f',xs,t,cs',hj,hj18,hm,hq,hml,rfl,hc',hor⟩:=uD hc
        rw [List.length_drop] at hml
        have hjk:j < pY:=hj18
        have hget:L[a]?=some (j:Int):=by rw [List.getElem?_eq_getElem hlt,hj]
        refine ⟨_,rfl,_,rfl,cl,_,_,_,rfl,rfl,hclq,aB rfl (pA hget),?_⟩
        refine ⟨_,rfl,_,_,rfl,rfl,_,rfl,T.t_HOW_MANY_NUMBERS.a,howV,_,_,rfl,rfl,T.t_HOW_MANY_NUMBERS.is H2,aB rfl (zz hjk hm),_,_,rfl,rfl,?_⟩
        have hbeh:(a:Int) + 1 + ((m:Nat):Int)=((a + 1 + m:Nat):Int):=by omega
        refine ⟨_,rfl,_,rfl,_,_,rfl,rfl,_,rfl,_,rfl,_,rfl,cl,_,rfl,hclq,fun nl hnl=>?_⟩
        rw [sF (a:=a + 1) (n:=m) (by omega) hbeh (by omega)]
        have s3:=ah (o:=.lst (aT ((L.drop (a + 1)).take m))) hnl
        refine ⟨Nat.zero_le _,fun rl hrl=>?_⟩
        have s4:=ah (o:=.lst []) hrl
        have s34:=s3.trans s4
        have hcl4:=s34.seq hclq
        with_reducible refine kT ?_
        refine gK (fun σ' H5=>∃ (rp:Addr) (b:Nat),σ'=[some (.ref cl),some (.ref n),some (.ref ap),some (.int (a:Nat)),some (.int (j:Nat)),some (.int (b:Nat)),some (.ref nl),some (.ref rp),v8]∧Same (upd (upd H2 nl (.lst (aT ((L.drop (a + 1)).take m)))) rl (.lst [])) H5∧H5 rp=some (.lst (aT (xs.headD [])))∧H2 rp=none∧t=L.drop b∧b≤L.length∧a < b∧q=xs.length) (fun Nx hN=>?_) ?_
        · refine ⟨_,rfl,T.t_WITH_ROW.a,_,rfl,.inr (T.t_WITH_ROW.is _),rfl,rfl,_,rfl,?_⟩
          refine (congrArg (fun b=>if b=true then _ else _) (row_in hjk hq)).mpr ?_
          rcases hor with ⟨rfl,rfl,rfl⟩ | ⟨rfl,u,sr,hu,hul,rfl,rfl⟩
          · refine iteF (hN _ _ ⟨rl,a + 1 + m,?_,Same.refl _,ac,s3.free hrl,by rw [List.drop_drop],by omega,by omega,rfl⟩)
            rw [←hbeh]
            rfl
          · rw [List.drop_drop] at hu
            have hu0:L[a + 1 + m]?=some (u:Int):=by
              have:=congrArg (fun l=>l[0]?) hu
              simp only [List.getElem?_drop,Nat.add_zero,List.getElem?_cons_zero] at this
              exact this
            have hsr:sr=L.drop (a + 1 + m + 1):=by
              have:=congrArg List.tail hu
              rw [List.tail_drop] at this
              exact this.symm
            subst hsr
            rw [List.length_drop] at hul
            have hlm:a + 1 + m < L.length:=(List.getElem?_eq_some_iff.mp hu0).1
            refine iteT ⟨_,rfl,_,rfl,_,_,rfl,rfl,_,rfl,_,rfl,_,_,rfl,rfl,_,rfl,_,rfl,cl,_,_,_,rfl,rfl,hcl4,aB hbeh (pA hu0),_,_,rfl,rfl,_,rfl,cl,_,rfl,hcl4,fun rp hrp=>?_⟩
            rw [sF (a:=a + 1 + m + 1) (n:=u) (by omega) (by omega) (by omega)]
            have s5:=ah (o:=.lst (aT ((L.drop (a + 1 + m + 1)).take u))) hrp
            refine ⟨_,rfl,_,_,rfl,rfl,_,rfl,rp,_,rfl,.inl (SqL.of ac),_,_,rfl,rfl,hN _ _ ⟨rp,a + 1 + m + 1 + u,?_,s5,ac,s34.free hrp,by rw [List.drop_drop],by omega,by omega,rfl⟩⟩
            rw [bt,List.length_take,List.length_drop,Nat.min_eq_left hul,show ((a + 1 + m + 1 + u:Nat):Int)=(a:Int) + 1 + ((m:Nat):Int) + 1 + ((u:Nat):Int) by omega]
            rfl
        · rintro σ' H5 ⟨rp,b,rfl,s5,hrp5,hrp2,rfl,hbL,hab,rfl⟩
          have hmt:((L.drop (a + 1)).take m).length=m:=by
            rw [List.length_take,List.length_drop,Nat.min_eq_left hml]
          have hbc:=hb _ (List.mem_cons_self ..)
          rw [hj] at hbc hsum
          obtain ⟨c,hC,hco,hrs4⟩:=zI (nums:=(L.drop (a + 1)).take m) hjk (by rw [hmt]; exact hm) hq hbc
          have sA:=s34.trans s5
          refine ⟨_,rfl,_,rfl,_,rfl,_,rfl,n,nl,rp,dn,l,wl,sl,h,j,(L.drop (a + 1)).take m,xs.headD [],c,rfl,N.same sA,hI,s5 _ _ (s4 _ _ ac),hrp5,(aq N.ws hrp2).symm,hrs4,hC,?_⟩
          intro H6 p dn' l' wl' sl' N6 e1 e2 e3 kp6 hp hp6
          rw [List.map_cons,PyFlat.played,vT] at hsum
          have hst:VbiraaNeutral.step h (PyVbiraa.whole (((j:Int) :: (L.drop (a + 1)).take m) :: xs))=Vbiraa.step h c:=by
            unfold VbiraaNeutral.step
            rw [hco]
          rw [hst] at hsum
          have hap5:=sA _ _ hap2
          have nan:ap≠n:=bL hap2 N.obj (by intro z; cases z)
          have hap6:=kp6 _ _ hap5 nan d2
          have f1:ap≠l':=by rcases e1 with rfl | e1; exact d1; exact aq hap5 e1
          have f2:ap≠wl':=by rcases e2 with rfl | e2; exact d2; exact aq hap5 e2
          have f3:ap≠sl':=by rcases e3 with rfl | e3; exact d3; exact aq hap5 e3
          have hpa:p≠ap:=(aq hap5 hp).symm
          have hsl:done.length + (1 + (Vbiraa.step h c).2.length)≤10000000:=by
            have:=congrArg List.length hsum
            rw [List.length_append,List.length_append,List.length_cons] at this
            omega
          refine ⟨_,rfl,.inl ⟨rfl,_,SqL.of hap6⟩,_,rfl,p,_,rfl,.inl (SqL.of hp6),ap,_,_,rfl,rfl,hap6,?_,?_⟩
          · rw [bt]
            exact Nat.lt_of_le_of_lt (Nat.le_trans (Nat.le_add_right ..) hsl) (by decide)
          refine ⟨_,rfl,.inl ⟨rfl,_,SqL.of ac⟩,_,rfl,ap,p,_,_,rfl,rfl,ac,by rw [ai hpa]; exact hp6,?_,?_⟩
          · rw [List.length_append,bt,bt]
            exact Nat.le_trans (show _≤10000000 by show done.length + 1 + _≤_; omega) (by decide)
          refine ⟨_,rfl,⟨dn',l',wl',sl',(Vbiraa.step h c).1,b,f',done++(((Vbiraa.step h c).2.length:Int) :: (Vbiraa.step h c).2),cs',_,_,_,_,_,rfl,?_,?_,wy hI c,?_,f1,f2,f3,hbL,hc',fun x hx=>hb x (List.mem_cons_of_mem _ hx),?_⟩,?_⟩
          · intro x o e
            have x1:x≠ap:=nv hO sm e hap2 (by intro _ _ z; cases z)
            have x2:x≠n:=nv hO sm e N.obj (by intro _ _ z; cases z)
            have x3:x≠wl:=nv hO sm e N.ws (by intro _ _ z; cases z)
            rw [ai x1,ai x1]
            exact kp6 x o (sA _ _ (sm _ _ e)) x2 x3
          · exact N6.but hap6 f1 f2 f3 fun x o e nx=>by rw [ai nx,ai nx]; exact e
          · rw [ac,wx,bt]
            show some (HO.lst ((_++[V.int _])++_))=some (HO.lst (_++(V.int _ :: _)))
            rw [List.append_assoc]
            rfl
          · rw [←hsum,List.append_assoc]
          · show L.length - ((b:Nat):Int).toNat < L.length - ((a:Nat):Int).toNat
            rw [Int.toNat_natCast,Int.toNat_natCast]
            omega
      · have z:¬ (a:Int) < (L.length:Int):=fun y=>z (decide_eq_true y)
        have e:a=L.length:=by omega
        subst e
        rw [List.drop_length] at hc
        have hcs0:cs=[]:=by
          cases f <;> cases hc <;> rfl
        subst hcs0
        refine ⟨_,rfl,k H2 ap ?_⟩
        rw [←hsum,show PyFlat.told (PyFlat.played VbiraaNeutral.step h (List.map PyVbiraa.whole []))=[] from rfl,List.append_nil]
        exact hap2
    · intro σ H Q Q' m h
      obtain ⟨v,e1,v2,e2,p,ys,e3,e4,i,j,e5,e6,b,e7,h⟩:=h
      exact ⟨v,e1,v2,e2,p,ys,e3,e4,i,j,e5,e6,b,e7,m _ _ h⟩
end
theorem yF {L:List Int} (h:PyVbiraa.answers_asked L=true):∃ cs,PyFlat.calls PyVbiraa.shape L.length L=some cs∧(∀ c∈cs,PyInside.call PyVbiraa.bound c=true)∧(PyVbiraa.answers L).length≤10000000:=by
  unfold PyVbiraa.answers_asked at h
  cases e:PyFlat.calls PyVbiraa.shape L.length L with
  | none=>rw [e] at h; cases h
  | some cs =>
    rw [e] at h
    simp only [Bool.and_eq_true] at h
    obtain ⟨⟨⟨⟨_,_⟩,h1⟩,_⟩,h2⟩:=h
    unfold PyInside.calls at h1
    unfold PyFlat.short at h2
    exact ⟨cs,rfl,fun c hc=>List.all_eq_true.mp h1 c hc,of_decide_eq_true h2⟩
end CN
open PySem PySem.W PyProof.Rows
set_option maxRecDepth 100000 in
set_option maxHeartbeats 0 in
theorem PySem.Challenge.cw_channelnet_s01_answers_holds : PySem.Challenge.rw_channelnet_s01_answers.Holds := by
  refine CH.wB ?_
  refine L2.tz (r:=PySem.Challenge.rw_channelnet_s01_answers) (k:=9) (CX:=L2.CX0) (ps:=["calls"]) (sp:=CN.spAll) CH.well (by kernel_rfl) rfl ⟨rfl,by decide,by decide⟩ (fun w h Y=>PySem.W.kIn_of Y) ?F ?S (fun _ _ _ _ z=>z)
  case F =>
    intro w mg fa h Y KX G hmg
    obtain ⟨T⟩:=CN.txt_of KX G
    have e:fa=T.answers.f:=by
      have z:=hmg.symm.trans T.answers.m
      injection z with z
      injection z
    subst e
    exact ⟨T.answers.fd,CN.wN T.answers (fun _ _ _ _ _ _ _=>rfl),fun base _ _=>CN.uc T⟩
  case S =>
    intro K H xs a hO hwi hask hx
    cases hx with
    | cons h1 h2 =>
      cases h2
      cases h1 with
      | lst hs ha =>
        have e:=L2.vm a.1 _ ha
        subst e
        have q:PyVbiraa.answers_asked a.1=true:=hask
        obtain ⟨cs,q1,q2,q3⟩:=CN.yF q
        exact ⟨_,a.1,cs,rfl,hO,hs,q1,q2,q3,fun H' p hp=>.lst (L2.SqL.of hp) (L2.vo _)⟩
